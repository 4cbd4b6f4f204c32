import PyProof.Rows.All
import Wide.All
import OpenK.AllK
import Wide.FinOn
import Lean
import PyProof.EqAt
import PyProof.EqKinds
import PyProof.TupleCall
import PyProof.Rows.SortShellK
import KE.KSortTup
import PyProof.AttrMissHeap
import KE.KDictOf
import KE.KDictSum
import KE.KRevSl
import KE.KItemsList
import PyProof.ReprBulk
import PyProof.Rows.ZipGen
import KE.IntBitsLaws
import PyProof.NeKinds
import PyProof.ListRange
import KE.KDictList
import PyProof.StrBlockH
import PyProof.StrLawsChain
import PyProof.Rows.StrItems
import PyProof.Rows.StrSplitCount
import PyProof.Rows.StrJoin2
import PyProof.SliceStr2
import PyProof.TupleOfSeq
import PyProof.DictFindH
import PyProof.DictTruth
import KE.KTryMore
import PyProof.ExcArgs
import KE.RegKTryMore
import KE.RegKIsAll
import PySem.Challenge.RW_oftenlots_k30_whole_keeper
set_option Elab.async false
set_option linter.all false
set_option maxRecDepth 100000

inductive Ex2 {a0 a1 : Type} (P : a0 → a1 → Prop) : Prop
  | mk (x0 : a0) (x1 : a1) (h : P x0 x1) : Ex2 P
inductive Ex3 {a0 a1 a2 : Type} (P : a0 → a1 → a2 → Prop) : Prop
  | mk (x0 : a0) (x1 : a1) (x2 : a2) (h : P x0 x1 x2) : Ex3 P
inductive Ex4 {a0 a1 a2 a3 : Type} (P : a0 → a1 → a2 → a3 → Prop) : Prop
  | mk (x0 : a0) (x1 : a1) (x2 : a2) (x3 : a3) (h : P x0 x1 x2 x3) : Ex4 P
inductive Ex5 {a0 a1 a2 a3 a4 : Type} (P : a0 → a1 → a2 → a3 → a4 → Prop) : Prop
  | mk (x0 : a0) (x1 : a1) (x2 : a2) (x3 : a3) (x4 : a4) (h : P x0 x1 x2 x3 x4) : Ex5 P
inductive Ex6 {a0 a1 a2 a3 a4 a5 : Type} (P : a0 → a1 → a2 → a3 → a4 → a5 → Prop) : Prop
  | mk (x0 : a0) (x1 : a1) (x2 : a2) (x3 : a3) (x4 : a4) (x5 : a5) (h : P x0 x1 x2 x3 x4 x5) : Ex6 P
inductive Ex7 {a0 a1 a2 a3 a4 a5 a6 : Type} (P : a0 → a1 → a2 → a3 → a4 → a5 → a6 → Prop) : Prop
  | mk (x0 : a0) (x1 : a1) (x2 : a2) (x3 : a3) (x4 : a4) (x5 : a5) (x6 : a6) (h : P x0 x1 x2 x3 x4 x5 x6) : Ex7 P
inductive Ex9 {a0 a1 a2 a3 a4 a5 a6 a7 a8 : Type} (P : a0 → a1 → a2 → a3 → a4 → a5 → a6 → a7 → a8 → Prop) : Prop
  | mk (x0 : a0) (x1 : a1) (x2 : a2) (x3 : a3) (x4 : a4) (x5 : a5) (x6 : a6) (x7 : a7) (x8 : a8) (h : P x0 x1 x2 x3 x4 x5 x6 x7 x8) : Ex9 P
inductive Ex10 {a0 a1 a2 a3 a4 a5 a6 a7 a8 a9 : Type} (P : a0 → a1 → a2 → a3 → a4 → a5 → a6 → a7 → a8 → a9 → Prop) : Prop
  | mk (x0 : a0) (x1 : a1) (x2 : a2) (x3 : a3) (x4 : a4) (x5 : a5) (x6 : a6) (x7 : a7) (x8 : a8) (x9 : a9) (h : P x0 x1 x2 x3 x4 x5 x6 x7 x8 x9) : Ex10 P
inductive Ex11 {a0 a1 a2 a3 a4 a5 a6 a7 a8 a9 a10 : Type} (P : a0 → a1 → a2 → a3 → a4 → a5 → a6 → a7 → a8 → a9 → a10 → Prop) : Prop
  | mk (x0 : a0) (x1 : a1) (x2 : a2) (x3 : a3) (x4 : a4) (x5 : a5) (x6 : a6) (x7 : a7) (x8 : a8) (x9 : a9) (x10 : a10) (h : P x0 x1 x2 x3 x4 x5 x6 x7 x8 x9 x10) : Ex11 P
@[elab_as_elim] theorem Ex2.st {a0 a1 S : Type} {F : a0 → a1 → S} {R : a0 → a1 → Prop} {P : S → Prop} (σ : S) (h : Ex2 fun x0 x1 => σ = F x0 x1 ∧ R x0 x1) (k : ∀ (x0 : a0) (x1 : a1), R x0 x1 → P (F x0 x1)) : P σ := by
  cases h with
  | mk x0 x1 h => obtain ⟨e, r⟩ := h; subst e; exact k x0 x1 r
@[elab_as_elim] theorem Ex3.st {a0 a1 a2 S : Type} {F : a0 → a1 → a2 → S} {R : a0 → a1 → a2 → Prop} {P : S → Prop} (σ : S) (h : Ex3 fun x0 x1 x2 => σ = F x0 x1 x2 ∧ R x0 x1 x2) (k : ∀ (x0 : a0) (x1 : a1) (x2 : a2), R x0 x1 x2 → P (F x0 x1 x2)) : P σ := by
  cases h with
  | mk x0 x1 x2 h => obtain ⟨e, r⟩ := h; subst e; exact k x0 x1 x2 r
@[elab_as_elim] theorem Ex4.st {a0 a1 a2 a3 S : Type} {F : a0 → a1 → a2 → a3 → S} {R : a0 → a1 → a2 → a3 → Prop} {P : S → Prop} (σ : S) (h : Ex4 fun x0 x1 x2 x3 => σ = F x0 x1 x2 x3 ∧ R x0 x1 x2 x3) (k : ∀ (x0 : a0) (x1 : a1) (x2 : a2) (x3 : a3), R x0 x1 x2 x3 → P (F x0 x1 x2 x3)) : P σ := by
  cases h with
  | mk x0 x1 x2 x3 h => obtain ⟨e, r⟩ := h; subst e; exact k x0 x1 x2 x3 r
@[elab_as_elim] theorem Ex5.st {a0 a1 a2 a3 a4 S : Type} {F : a0 → a1 → a2 → a3 → a4 → S} {R : a0 → a1 → a2 → a3 → a4 → Prop} {P : S → Prop} (σ : S) (h : Ex5 fun x0 x1 x2 x3 x4 => σ = F x0 x1 x2 x3 x4 ∧ R x0 x1 x2 x3 x4) (k : ∀ (x0 : a0) (x1 : a1) (x2 : a2) (x3 : a3) (x4 : a4), R x0 x1 x2 x3 x4 → P (F x0 x1 x2 x3 x4)) : P σ := by
  cases h with
  | mk x0 x1 x2 x3 x4 h => obtain ⟨e, r⟩ := h; subst e; exact k x0 x1 x2 x3 x4 r
@[elab_as_elim] theorem Ex6.st {a0 a1 a2 a3 a4 a5 S : Type} {F : a0 → a1 → a2 → a3 → a4 → a5 → S} {R : a0 → a1 → a2 → a3 → a4 → a5 → Prop} {P : S → Prop} (σ : S) (h : Ex6 fun x0 x1 x2 x3 x4 x5 => σ = F x0 x1 x2 x3 x4 x5 ∧ R x0 x1 x2 x3 x4 x5) (k : ∀ (x0 : a0) (x1 : a1) (x2 : a2) (x3 : a3) (x4 : a4) (x5 : a5), R x0 x1 x2 x3 x4 x5 → P (F x0 x1 x2 x3 x4 x5)) : P σ := by
  cases h with
  | mk x0 x1 x2 x3 x4 x5 h => obtain ⟨e, r⟩ := h; subst e; exact k x0 x1 x2 x3 x4 x5 r
@[elab_as_elim] theorem Ex7.st {a0 a1 a2 a3 a4 a5 a6 S : Type} {F : a0 → a1 → a2 → a3 → a4 → a5 → a6 → S} {R : a0 → a1 → a2 → a3 → a4 → a5 → a6 → Prop} {P : S → Prop} (σ : S) (h : Ex7 fun x0 x1 x2 x3 x4 x5 x6 => σ = F x0 x1 x2 x3 x4 x5 x6 ∧ R x0 x1 x2 x3 x4 x5 x6) (k : ∀ (x0 : a0) (x1 : a1) (x2 : a2) (x3 : a3) (x4 : a4) (x5 : a5) (x6 : a6), R x0 x1 x2 x3 x4 x5 x6 → P (F x0 x1 x2 x3 x4 x5 x6)) : P σ := by
  cases h with
  | mk x0 x1 x2 x3 x4 x5 x6 h => obtain ⟨e, r⟩ := h; subst e; exact k x0 x1 x2 x3 x4 x5 x6 r
@[elab_as_elim] theorem Ex9.st {a0 a1 a2 a3 a4 a5 a6 a7 a8 S : Type} {F : a0 → a1 → a2 → a3 → a4 → a5 → a6 → a7 → a8 → S} {R : a0 → a1 → a2 → a3 → a4 → a5 → a6 → a7 → a8 → Prop} {P : S → Prop} (σ : S) (h : Ex9 fun x0 x1 x2 x3 x4 x5 x6 x7 x8 => σ = F x0 x1 x2 x3 x4 x5 x6 x7 x8 ∧ R x0 x1 x2 x3 x4 x5 x6 x7 x8) (k : ∀ (x0 : a0) (x1 : a1) (x2 : a2) (x3 : a3) (x4 : a4) (x5 : a5) (x6 : a6) (x7 : a7) (x8 : a8), R x0 x1 x2 x3 x4 x5 x6 x7 x8 → P (F x0 x1 x2 x3 x4 x5 x6 x7 x8)) : P σ := by
  cases h with
  | mk x0 x1 x2 x3 x4 x5 x6 x7 x8 h => obtain ⟨e, r⟩ := h; subst e; exact k x0 x1 x2 x3 x4 x5 x6 x7 x8 r
@[elab_as_elim] theorem Ex10.st {a0 a1 a2 a3 a4 a5 a6 a7 a8 a9 S : Type} {F : a0 → a1 → a2 → a3 → a4 → a5 → a6 → a7 → a8 → a9 → S} {R : a0 → a1 → a2 → a3 → a4 → a5 → a6 → a7 → a8 → a9 → Prop} {P : S → Prop} (σ : S) (h : Ex10 fun x0 x1 x2 x3 x4 x5 x6 x7 x8 x9 => σ = F x0 x1 x2 x3 x4 x5 x6 x7 x8 x9 ∧ R x0 x1 x2 x3 x4 x5 x6 x7 x8 x9) (k : ∀ (x0 : a0) (x1 : a1) (x2 : a2) (x3 : a3) (x4 : a4) (x5 : a5) (x6 : a6) (x7 : a7) (x8 : a8) (x9 : a9), R x0 x1 x2 x3 x4 x5 x6 x7 x8 x9 → P (F x0 x1 x2 x3 x4 x5 x6 x7 x8 x9)) : P σ := by
  cases h with
  | mk x0 x1 x2 x3 x4 x5 x6 x7 x8 x9 h => obtain ⟨e, r⟩ := h; subst e; exact k x0 x1 x2 x3 x4 x5 x6 x7 x8 x9 r
@[elab_as_elim] theorem Ex11.st {a0 a1 a2 a3 a4 a5 a6 a7 a8 a9 a10 S : Type} {F : a0 → a1 → a2 → a3 → a4 → a5 → a6 → a7 → a8 → a9 → a10 → S} {R : a0 → a1 → a2 → a3 → a4 → a5 → a6 → a7 → a8 → a9 → a10 → Prop} {P : S → Prop} (σ : S) (h : Ex11 fun x0 x1 x2 x3 x4 x5 x6 x7 x8 x9 x10 => σ = F x0 x1 x2 x3 x4 x5 x6 x7 x8 x9 x10 ∧ R x0 x1 x2 x3 x4 x5 x6 x7 x8 x9 x10) (k : ∀ (x0 : a0) (x1 : a1) (x2 : a2) (x3 : a3) (x4 : a4) (x5 : a5) (x6 : a6) (x7 : a7) (x8 : a8) (x9 : a9) (x10 : a10), R x0 x1 x2 x3 x4 x5 x6 x7 x8 x9 x10 → P (F x0 x1 x2 x3 x4 x5 x6 x7 x8 x9 x10)) : P σ := by
  cases h with
  | mk x0 x1 x2 x3 x4 x5 x6 x7 x8 x9 x10 h => obtain ⟨e, r⟩ := h; subst e; exact k x0 x1 x2 x3 x4 x5 x6 x7 x8 x9 x10 r
theorem hid {G : Prop} (h : ¬G → False) : G := Classical.byContradiction h
set_option hygiene false in
local macro_rules
  | `(tactic| obtain $p:rcasesPatMed := $e:term) => `(tactic| (refine hid fun hk_ => ?_; rcases $e:term with $p; all_goals (refine hk_ ?_; clear hk_)))
theorem lst2 {α : Type} {l : List α} (h : l.length = 2) : ∃ a b, l = [a, b] := by
  obtain ⟨a, t, rfl⟩ := List.exists_cons_of_length_eq_add_one h
  obtain ⟨b, u, rfl⟩ := List.exists_cons_of_length_eq_add_one (Nat.succ.inj h)
  exact ⟨a, b, by rw [List.eq_nil_of_length_eq_zero (Nat.succ.inj (Nat.succ.inj h))]⟩
theorem lst3 {α : Type} {l : List α} (h : l.length = 3) : ∃ a b c, l = [a, b, c] := by
  obtain ⟨a, t, rfl⟩ := List.exists_cons_of_length_eq_add_one h
  obtain ⟨b, c, rfl⟩ := lst2 (Nat.succ.inj h)
  exact ⟨a, b, c, rfl⟩
theorem wpS_pos {M : PySem.Model} {A : PySem.Around} {E : PySem.Value → PySem.Shared → Prop} {s : PySem.Shared} {σ α : Type} {c : Prop} [Decidable c] {x y : StateT σ PySem.Sem α} {Q : α → σ → Prop} {st : σ} (h : c) (k : PyProof.Rows.wpS M A E s x Q st) : PyProof.Rows.wpS M A E s (if c then x else y) Q st := by rw [if_pos h]; exact k
theorem wpS_neg {M : PySem.Model} {A : PySem.Around} {E : PySem.Value → PySem.Shared → Prop} {s : PySem.Shared} {σ α : Type} {c : Prop} [Decidable c] {x y : StateT σ PySem.Sem α} {Q : α → σ → Prop} {st : σ} (h : ¬c) (k : PyProof.Rows.wpS M A E s y Q st) : PyProof.Rows.wpS M A E s (if c then x else y) Q st := by rw [if_neg h]; exact k
local macro_rules | `(tactic| omega) => `(tactic| lia)
namespace L2
open PySem PySem.Spec PyProof.Rows

noncomputable abbrev Key := Sum Int Str
noncomputable def keyIs : Key → Value → Bool
  | .inl k, v => Value.isInt k v
  | .inr x, v => Value.isStrOf x v
noncomputable def keyH (w : World) : Key → Int
  | .inl k => hashInt k
  | .inr x => hashStr w x
theorem keyIs_shape : ∀ {k : Key} {v : Value}, keyIs k v = true → (∃ i t, k = Sum.inl i ∧ v = Value.int i t) ∨ (∃ x t, k = Sum.inr x ∧ v = Value.str x t)
  | .inl i, v, h => by
    obtain ⟨t, e⟩ := Value.isInt_shape (k := i) (v := v) h
    exact .inl ⟨i, t, rfl, e⟩
  | .inr x, v, h => by
    obtain ⟨t, e⟩ := Value.isStrOf_shape (x := x) (v := v) h
    exact .inr ⟨x, t, rfl, e⟩
theorem keyIs_int (i : Int) (t : Tok) : keyIs (.inl i) (.int i t) = true := by simp [keyIs, Value.isInt]
theorem keyIs_str (x : Str) (t : Tok) : keyIs (.inr x) (.str x t) = true := by simp [keyIs, Value.isStrOf]
theorem key_ll (a b : Int) : decide ((Sum.inl a : Key) = Sum.inl b) = (a == b) := by
  by_cases e : a = b
  · subst e; simp
  · have h : ¬ (Sum.inl a : Key) = Sum.inl b := fun q => e (Sum.inl.inj q)
    rw [decide_eq_false h]
    exact (beq_eq_false_iff_ne.mpr e).symm
theorem key_rr (a b : Str) : decide ((Sum.inr a : Key) = Sum.inr b) = decide (a = b) := by
  by_cases e : a = b
  · subst e; simp
  · have h : ¬ (Sum.inr a : Key) = Sum.inr b := fun q => e (Sum.inr.inj q)
    rw [decide_eq_false h, decide_eq_false e]
theorem key_lr (a : Int) (b : Str) : decide ((Sum.inl a : Key) = Sum.inr b) = false := decide_eq_false (fun q => nomatch q)
theorem key_rl (a : Str) (b : Int) : decide ((Sum.inr a : Key) = Sum.inl b) = false := decide_eq_false (fun q => nomatch q)

noncomputable def mixKind (prog : Program) (w : World) : PySem.KeyKind prog w Key where
  is := keyIs
  hash := keyH w
  inj := fun v a b ha hb => by
    obtain ⟨i, t, rfl, rfl⟩ | ⟨x, t, rfl, rfl⟩ := keyIs_shape ha
    · obtain ⟨j, u, rfl, e⟩ | ⟨y, u, rfl, e⟩ := keyIs_shape hb
      · injection e with e1 _; rw [e1]
      · exact nomatch e
    · obtain ⟨j, u, rfl, e⟩ | ⟨y, u, rfl, e⟩ := keyIs_shape hb
      · exact nomatch e
      · injection e with e1 _; rw [e1]
  byValue := fun k v h => by
    rcases keyIs_shape h with ⟨i, t, rfl, rfl⟩ | ⟨x, t, rfl, rfl⟩ <;> rfl
  pyHash := fun hv h => by
    obtain ⟨i, t, rfl, rfl⟩ | ⟨x, t, rfl, rfl⟩ := keyIs_shape hv
    · exact wpAny_pyHash_int h
    · exact wpAny_pyHash_str h
  eqBool := fun hu hv h => by
    obtain ⟨i, t, rfl, rfl⟩ | ⟨x, t, rfl, rfl⟩ := keyIs_shape hu
    · obtain ⟨j, u, rfl, rfl⟩ | ⟨y, u, rfl, rfl⟩ := keyIs_shape hv
      · rw [key_ll] at h; exact wpAny_eqBool_int h
      · rw [key_lr] at h; exact SeqAt.EqAt.int_str i t y u _ _ _ _ h
    · obtain ⟨j, u, rfl, rfl⟩ | ⟨y, u, rfl, rfl⟩ := keyIs_shape hv
      · rw [key_rl] at h; exact SeqAt.EqAt.str_int x t j u _ _ _ _ h
      · rw [key_rr] at h; exact wpAny_eqBool_str h
  «strs» := fun k x t v h => by
    obtain ⟨i, u, rfl, e⟩ | ⟨y, u, rfl, e⟩ := keyIs_shape h
    · exact nomatch e
    · injection e with e1 _
      subst e1
      cases v <;> rfl

theorem mixKind_int (prog : Program) (w : World) (i : Int) (t : Tok) : (mixKind prog w).is (.inl i) (.int i t) = true := keyIs_int i t
theorem mixKind_str (prog : Program) (w : World) (x : Str) (t : Tok) : (mixKind prog w).is (.inr x) (.str x t) = true := keyIs_str x t
end L2

namespace L2
open PySem PySem.Spec PyProof.Rows

inductive V where
  | non | bl (b : Bool) | int (i : Int) | str (x : Str) | byt (b : Array UInt8) | flt (b : UInt64) | ref (a : Addr) | ty (n : String)
  deriving DecidableEq

noncomputable def RelV : V → Value → Prop
  | .non, u => u = Value.none
  | .bl b, u => u = Value.bool b
  | .int i, u => ∃ t, u = Value.int i t
  | .str x, u => ∃ t, u = Value.str x t
  | .byt b, u => ∃ t, u = Value.bytes b t
  | .flt b, u => ∃ t, u = Value.float b t
  | .ref a, u => u = Value.ref a
  | .ty n, u => u = Value.type n

noncomputable abbrev Vals : List V → List Value → Prop := Paired RelV
theorem Vals.length {xs : List V} {us : List Value} (r : Vals xs us) : xs.length = us.length := Paired.length r
theorem Vals.get {xs : List V} {us : List Value} {i : Nat} {x : V} (h : Vals xs us) (e : xs[i]? = some x) : ∃ u, us[i]? = some u ∧ RelV x u := by
  induction h generalizing i with
  | nil => cases e
  | cons r _ ih => cases i with
    | zero => cases e; exact ⟨_, rfl, r⟩
    | succ i => exact ih e
theorem Vals.set {x : V} {u : Value} (r : RelV x u) : ∀ {xs : List V} {us : List Value} (i : Nat), Vals xs us → Vals (xs.set i x) (us.set i u)
  | _, _, _, .nil => .nil
  | _, _, 0, .cons _ t => .cons r t
  | _, _, i + 1, .cons q t => .cons q (Vals.set r i t)
theorem Vals.append {xs ys : List V} {us ws : List Value} (h : Vals xs us) (s : Vals ys ws) : Vals (xs ++ ys) (us ++ ws) := by
  induction h with
  | nil => exact s
  | cons r _ ih => exact .cons r ih
theorem Vals.take : ∀ {xs : List V} {us : List Value} (n : Nat), Vals xs us → Vals (xs.take n) (us.take n)
  | _, _, 0, _ => .nil
  | _, _, _ + 1, .nil => .nil
  | _, _, n + 1, .cons r t => .cons r (Vals.take n t)
theorem Vals.drop : ∀ {xs : List V} {us : List Value} (n : Nat), Vals xs us → Vals (xs.drop n) (us.drop n)
  | _, _, 0, r => r
  | _, _, _ + 1, .nil => .nil
  | _, _, n + 1, .cons _ t => Vals.drop n t
noncomputable def RelO : Option V → Option Value → Prop
  | some v, some u => RelV v u
  | none, none => True
  | _, _ => False
noncomputable def KV {κ : Type} : List (κ × V) → List (κ × Value) → Prop := Paired fun (p : κ × V) (q : κ × Value) => p.1 = q.1 ∧ RelV p.2 q.2

noncomputable def kV : Key → V
  | .inl i => .int i
  | .inr x => .str x

inductive HO where
  /-- a list -/
  | lst (xs : List V)
  /-- a tuple (never changes) -/
  | tup (xs : List V)
  /-- a dict whose keys are ints and texts; one whose keys are tuples of ints and texts (the empty one is both) -/
  | dK (kvs : List (Key × V)) | dT (kvs : List (List Key × V))
  /-- a set of ints: its members, its size -/
  | set (S : Int → Bool) (n : Nat)
  /-- an instance of the class at C, its dict at dx, its attributes -/
  | ins (C dx : Addr) (fs : List (Str × V))
  /-- the dict of the instance at x -/
  | own (x : Addr)
  /-- the dict of an exception -/
  | xd (fs : List (Str × V))
  /-- a bound method, f of x -/
  | met (f x : Addr)
  /-- a range object lo, lo + 1, .. below hi -/
  | rng (lo hi : Int)
  /-- a thing that is known to the object (the script; a dict while a loop walks it): read, never written while it is so -/
  | frz (o : Obj) (u : HO)
  /-- a code object's table -/
  | tbl (ps : Array Value)
  /-- any other thing, by what is true of its one object (a def of one's own: SetO a S n := HO.ext fun h => ..) -/
  | ext (φ : Heap → Prop)

noncomputable abbrev Hp := Addr → Option HO
noncomputable def upd (H : Hp) (a : Addr) (o : HO) : Hp := fun b => if b = a then some o else H b
theorem upd_same {H : Hp} {a : Addr} {o : HO} : upd H a o a = some o := by unfold upd; rw [if_pos rfl]
theorem upd_ne {H : Hp} {a b : Addr} {o : HO} (h : b ≠ a) : upd H a o b = H b := by unfold upd; rw [if_neg h]
theorem ne_of {H : Hp} {a b : Addr} {o u : HO} (h : H a = some o) (h' : H b = some u) (d : o ≠ u) : a ≠ b := by
  intro e; subst e; rw [h] at h'; exact d (Option.some.inj h')
theorem ne_of_none {H : Hp} {a b : Addr} {o : HO} (h : H a = some o) (h' : H b = none) : a ≠ b := by
  intro e; subst e; rw [h] at h'; cases h'

section
variable (P : Program) (w : World)
noncomputable def ObjOk (H : Hp) (h : Heap) (a : Addr) : HO → Prop
  | .lst xs => xs.length ≤ sizeLine ∧ ∃ (its : List Value) (n : Nat), Vals xs its ∧ h.get? a = some { cls := .type "list", data := .seq its.toArray n }
  | .tup xs => xs.length ≤ sizeLine ∧ ∃ its : List Value, Vals xs its ∧ IsTup h a its.toArray
  | .dK kvs => kvs.length ≤ sizeLine ∧ (a == sysModules) = false ∧ ∃ vs, KV kvs vs ∧ h.DictOf (mixKind P w) a vs
  | .dT kvs => kvs.length ≤ sizeLine ∧ (a == sysModules) = false ∧ ∃ xs : List (List Key × Addr × Value),
      Paired (fun (p : List Key × V) (q : List Key × Addr × Value) => p.1 = q.1 ∧ H q.2.1 = some (.tup (p.1.map kV)) ∧ RelV p.2 q.2.2) kvs xs ∧
      ∃ o es ep, h.get? a = some o ∧ o.ExactDict ∧ o.data = .dict es ep ∧ es.toList = xs.map (entryOfKey (tupleKind (mixKind P w))) ∧ (xs.map (·.1)).Nodup
  | .set S n => h.SetOf (intKind P w) a S n
  | .ins C dx fs => H dx = some (.own a) ∧ fs.length ≤ 1000 ∧ dx ≠ a ∧ h.get? a = some (PySem.W.instObj C dx) ∧
      ∃ mA, h.Ns1 dx mA ∧ (∀ f, RelO (fs.lookup f) (mA f)) ∧ PySem.Within mA (fs.map (·.1))
  | .own _ => ∃ o, h.get? a = some o
  | .xd fs => ∃ mA, h.Ns1 a mA ∧ ∀ f, RelO (fs.lookup f) (mA f)
  | .rng lo hi => ∃ t u v, h.get? a = some { cls := .type "range", data := .fields #[.int lo t, .int hi u, .int 1 v] }
  | .frz o u => h.get? a = some o ∧ ObjOk H h a u
  | .tbl ps => h.get? a = some { cls := .none, data := .fields ps }
  | .met f x => h.get? a = some (PySem.W.methodObj (.ref f) (.ref x))
  | .ext φ => φ h ∧ (∃ o, h.get? a = some o) ∧ ∀ h1 h2 : Heap, φ h1 → (∀ o, h1.get? a = some o → h2.get? a = some o) → φ h2
noncomputable def HOk (H : Hp) (h : Heap) : Prop := ∀ a o, H a = some o → ObjOk P w H h a o
end

section
variable {P : Program} {w : World} {H H' : Hp} {h h' : Heap} {a : Addr} {o : HO}
theorem ObjOk.lt (x : ObjOk P w H h a o) : a < h.objs.size := by
  cases o with
  | lst xs => obtain ⟨_, _, _, _, e⟩ := x; exact Heap.lt_size e
  | tup xs => obtain ⟨_, _, _, p⟩ := x; exact p.lt
  | dK kvs => obtain ⟨_, _, _, _, o, _, _, e, _⟩ := x; exact Heap.lt_size e
  | dT kvs => obtain ⟨_, _, _, _, o, _, _, e, _⟩ := x; exact Heap.lt_size e
  | set S n => obtain ⟨o, _, _, _, e, _⟩ := x; exact Heap.lt_size e
  | ins C dx fs => obtain ⟨_, _, _, e, _⟩ := x; exact Heap.lt_size e
  | own y => obtain ⟨_, e⟩ := x; exact Heap.lt_size e
  | xd fs => obtain ⟨_, ⟨_, _, _, e, _⟩, _⟩ := x; exact Heap.lt_size e
  | rng lo hi => obtain ⟨_, _, _, e⟩ := x; exact Heap.lt_size e
  | frz ob u => obtain ⟨e, _⟩ := x; exact Heap.lt_size e
  | tbl ps => exact Heap.lt_size (show h.get? a = some _ from x)
  | met f y => exact Heap.lt_size (show h.get? a = some _ from x)
  | ext φ => obtain ⟨_, ⟨_, e⟩, _⟩ := x; exact Heap.lt_size e
theorem Paired.mapP {α β : Type} {F G : α → β → Prop} {l₁ : List α} {l₂ : List β} (h : Paired F l₁ l₂) (f : ∀ a b, F a b → G a b) : Paired G l₁ l₂ := by
  induction h with
  | nil => exact .nil
  | cons r _ ih => exact .cons (f _ _ r) ih
theorem Paired.imp' {α β : Type} {F G : α → β → Prop} (f : ∀ a b, F a b → G a b) {l₁ : List α} {l₂ : List β} (r : Paired F l₁ l₂) : Paired G l₁ l₂ := Paired.mapP r f
theorem ObjOk.stay (x : ObjOk P w H h a o) (k : ∀ b u, (b = a ∨ H b = some (.own a)) → h.get? b = some u → h'.get? b = some u)
    (ho : ∀ b, H b = some (.own a) → H' b = some (.own a)) (ht : ∀ b xs, H b = some (.tup xs) → H' b = some (.tup xs)) : ObjOk P w H' h' a o := by
  induction o with
  | lst xs => obtain ⟨z, its, n, r, e⟩ := x; exact ⟨z, its, n, r, k _ _ (.inl rfl) e⟩
  | tup xs => obtain ⟨z, its, r, ob, e, c⟩ := x; exact ⟨z, its, r, ob, k _ _ (.inl rfl) e, c⟩
  | dK kvs => obtain ⟨z, y, vs, r, ob, es, ep, e, c⟩ := x; exact ⟨z, y, vs, r, ob, es, ep, k _ _ (.inl rfl) e, c⟩
  | dT kvs =>
    obtain ⟨z, y, xs, r, ob, es, ep, e, c⟩ := x
    exact ⟨z, y, xs, Paired.mapP r fun p q z => ⟨z.1, ht _ _ z.2.1, z.2.2⟩, ob, es, ep, k _ _ (.inl rfl) e, c⟩
  | set S n => obtain ⟨ob, es, ep, t, e, c⟩ := x; exact ⟨ob, es, ep, t, k _ _ (.inl rfl) e, c⟩
  | ins C dx fs =>
    obtain ⟨d, z, ne, e, mA, ⟨od, es, ep, e2, c⟩, r⟩ := x
    exact ⟨ho _ d, z, ne, k _ _ (.inl rfl) e, mA, ⟨od, es, ep, k _ _ (.inr d) e2, c⟩, r⟩
  | own y => obtain ⟨ob, e⟩ := x; exact ⟨ob, k _ _ (.inl rfl) e⟩
  | xd fs => obtain ⟨mA, ⟨od, es, ep, e, c⟩, r⟩ := x; exact ⟨mA, ⟨od, es, ep, k _ _ (.inl rfl) e, c⟩, r⟩
  | rng lo hi => obtain ⟨t, u, v, e⟩ := x; exact ⟨t, u, v, k _ _ (.inl rfl) e⟩
  | frz ob u ih => obtain ⟨e, q⟩ := x; exact ⟨k _ _ (.inl rfl) e, ih q⟩
  | tbl ps =>
    have e : h.get? a = some { cls := .none, data := .fields ps } := x
    show h'.get? a = some { cls := .none, data := .fields ps }
    exact k a _ (.inl rfl) e
  | met f y =>
    have e : h.get? a = some (PySem.W.methodObj (.ref f) (.ref y)) := x
    show h'.get? a = some (PySem.W.methodObj (.ref f) (.ref y))
    exact k a _ (.inl rfl) e
  | ext φ => obtain ⟨p, ⟨o, e⟩, st⟩ := x; exact ⟨st _ _ p fun o q => k _ _ (.inl rfl) q, ⟨o, k _ _ (.inl rfl) e⟩, st⟩
theorem HOk.lt (x : HOk P w H h) (e : H a = some o) : a < h.objs.size := (x a o e).lt
theorem HOk.fresh (x : HOk P w H h) (e : h.objs.size ≤ a) : H a = none := by
  cases q : H a with
  | none => rfl
  | some u => exact absurd (Nat.lt_of_lt_of_le (x.lt q) e) (Nat.lt_irrefl _)
theorem HOk.kept (x : HOk P w H h) (k : ∀ b u, h.get? b = some u → h'.get? b = some u) : HOk P w H h' := fun a o e =>
  (x a o e).stay (fun b u _ q => k b u q) (fun _ q => q) fun _ _ q => q
theorem HOk.laid (x : HOk P w H h) (k : ∀ b u, h.get? b = some u → h'.get? b = some u) (hp : h.objs.size ≤ a) (new : ObjOk P w (upd H a o) h' a o) : HOk P w (upd H a o) h' := fun b u e => by
  have hn := x.fresh hp
  by_cases hb : b = a
  · subst hb; rw [upd_same] at e; cases e; exact new
  · rw [upd_ne hb] at e
    exact (x b u e).stay (fun c v _ q => k c v q) (fun c q => by rw [upd_ne (ne_of_none q hn)]; exact q) fun c xs q => by rw [upd_ne (ne_of_none q hn)]; exact q
end

noncomputable def Rd (H : Hp) (a : Addr) (u : HO) : Prop := H a = some u ∨ ∃ o, H a = some (.frz o u)
theorem Rd.ok {P : Program} {w : World} {H : Hp} {h : Heap} {a : Addr} {u : HO} (r : Rd H a u) (x : HOk P w H h) : ObjOk P w H h a u := by
  obtain r | ⟨o, r⟩ := r
  · exact x a u r
  · obtain ⟨_, q⟩ := x a _ r
    exact q
noncomputable def Mut : Option HO → Prop
  | some (.lst _) => True
  | some (.dK _) => True
  | some (.dT _) => True
  | some (.set _ _) => True
  | some (.ins _ _ _) => True
  | some (.ext _) => True
  | _ => False
section
variable {P : Program} {w : World} {H : Hp} {h h' : Heap} {x e : Addr} {o' : HO}
theorem HOk.write (ok : HOk P w H h) (mu : Mut (H x)) (he : e = x ∨ H e = some (.own x)) (k : ∀ b u, b ≠ e → h.get? b = some u → h'.get? b = some u) (heo : ∃ u, h'.get? e = some u)
    (new : ObjOk P w (upd H x o') h' x o') : HOk P w (upd H x o') h' := fun b u q => by
  have nown : ∀ c y, H c = some (.own y) → c ≠ x := fun c y r z => by subst z; rw [r] at mu; exact mu
  have ntup : ∀ c xs, H c = some (.tup xs) → c ≠ x := fun c xs r z => by subst z; rw [r] at mu; exact mu
  by_cases hb : b = x
  · subst hb; rw [upd_same] at q; cases q; exact new
  · rw [upd_ne hb] at q
    by_cases hbe : b = e
    · have q' : H b = some (.own x) := by
        obtain z | z := he
        · exact absurd (hbe.trans z) hb
        · rw [hbe]; exact z
      rw [q] at q'; cases q'
      obtain ⟨v, hv⟩ := heo
      exact ⟨v, by rw [hbe]; exact hv⟩
    · refine (ok b u q).stay (fun c v hc r => k c v ?_ r) (fun c r => by rw [upd_ne (nown c b r)]; exact r) fun c xs r => by rw [upd_ne (ntup c xs r)]; exact r
      obtain rfl | hc := hc
      · exact hbe
      · rintro rfl
        obtain z | z := he
        · exact nown c b hc z
        · rw [hc] at z; cases z; exact hb rfl
end

structure Un (fs ex : List Addr) (H H' : Hp) (h h' : Heap) : Prop where
  keep : ∀ b o, h.get? b = some o → H b = none → b ∉ fs → b ∉ ex → h'.get? b = some o
  slot : ∀ b o, h.get? b = some o → H b = none → b ∈ fs → b ∉ ex → ∃ sl, h'.get? b = some { o with slots := sl }
  free : ∀ b o, h.get? b = some o → H b = none → b ∉ ex → H' b = none
  there : ∀ b o, h.get? b = some o → b ∉ ex → ∃ o', h'.get? b = some o'
  tups : ∀ b xs, H b = some (.tup xs) → H' b = some (.tup xs)
  frzs : ∀ b o u, H b = some (.frz o u) → H' b = some (.frz o u)
  tbls : ∀ b ps, H b = some (.tbl ps) → ∃ more, H' b = some (.tbl (ps ++ more))
section
variable {fs fs' ex ex' : List Addr} {H H1 H2 : Hp} {h h1 h2 h' : Heap} {a x e : Addr} {o : HO}
theorem Un.any (u : Un fs ex H H1 h h1) {b : Addr} {ob : Obj} (q : h.get? b = some ob) (n : H b = none) (hx : b ∉ ex) : ∃ sl, h1.get? b = some { ob with slots := sl } := by
  by_cases hb : b ∈ fs
  · exact u.slot b ob q n hb hx
  · exact ⟨ob.slots, u.keep b ob q n hb hx⟩
theorem Un.kept (k : ∀ b u, h.get? b = some u → h'.get? b = some u) : Un fs ex H H h h' :=
  ⟨fun b ob q _ _ _ => k b ob q, fun b ob q _ _ _ => ⟨ob.slots, k b ob q⟩, fun _ _ _ n _ => n, fun b ob q _ => ⟨ob, k b ob q⟩, fun _ _ q => q, fun _ _ _ q => q, fun _ ps q => ⟨#[], by rw [q]; simp⟩⟩
theorem Un.refl : Un fs ex H H h h := Un.kept fun _ _ q => q
theorem Un.laid (k : ∀ b u, h.get? b = some u → h'.get? b = some u) (hp : h.objs.size ≤ a) (hn : H a = none) : Un fs ex H (upd H a o) h h' where
  keep := fun b u q _ _ _ => k b u q
  slot := fun b u q _ _ _ => ⟨u.slots, k b u q⟩
  free := fun b u q n _ => by rw [upd_ne (Nat.ne_of_lt (Nat.lt_of_lt_of_le (Heap.lt_size q) hp))]; exact n
  there := fun b u q _ => ⟨u, k b u q⟩
  tups := fun b xs q => by rw [upd_ne (ne_of_none q hn)]; exact q
  frzs := fun b u xs q => by rw [upd_ne (ne_of_none q hn)]; exact q
  tbls := fun b ps q => ⟨#[], by rw [upd_ne (ne_of_none q hn), q]; simp⟩
theorem Un.write (mu : Mut (H x)) (he : e = x ∨ H e = some (.own x)) (k : ∀ b u, b ≠ e → h.get? b = some u → h'.get? b = some u) (heo : ∃ u, h'.get? e = some u) : Un fs ex H (upd H x o) h h' := by
  have hx : ∀ b, H b = none → b ≠ x := fun b n z => by subst z; rw [n] at mu; exact mu
  have hb : ∀ b, H b = none → b ≠ e := fun b n z => by
    subst z
    obtain r | r := he
    · exact hx b n r
    · rw [n] at r; cases r
  have hm : ∀ b u, H b = some u → ¬ Mut (some u) → b ≠ x := fun b u q nm z => by subst z; rw [q] at mu; exact nm mu
  refine ⟨fun b u q n _ _ => k b u (hb b n) q, fun b u q n _ _ => ⟨u.slots, k b u (hb b n) q⟩, fun b u q n _ => by rw [upd_ne (hx b n)]; exact n, fun b u q _ => ?_,
    fun b xs q => by rw [upd_ne (hm b _ q fun z => z)]; exact q, fun b u xs q => by rw [upd_ne (hm b _ q fun z => z)]; exact q, fun b ps q => ⟨#[], by rw [upd_ne (hm b _ q fun z => z), q]; simp⟩⟩
  by_cases hbe : b = e
  · subst hbe; exact heo
  · exact ⟨u, k b u hbe q⟩
end

noncomputable def trk (h : Heap) (H : Hp) : List Addr := (List.range h.objs.size).filter fun a => (H a).isSome
noncomputable def hidT (h : Heap) (H : Hp) : Heap := PySem.W.hideAll h (trk h H)
theorem hidT_size (h : Heap) (H : Hp) : (hidT h H).objs.size = h.objs.size := PySem.W.hideAll_size _ _
theorem hidT_get {h : Heap} {H : Hp} {b : Addr} {o : Obj} (e : h.get? b = some o) (n : H b = none) : (hidT h H).get? b = some o :=
  PySem.W.hideAll_get _ e fun hm => by
    have q : (H b).isSome = true := (List.mem_filter.mp hm).2
    rw [n] at q; simp at q
theorem of_hidT {h : Heap} {H : Hp} {b : Addr} {o : Obj} (e : (hidT h H).get? b = some o) : h.get? b = some o ∧ H b = none := by
  have e' : h.get? b = some o := PySem.W.of_hideAll (trk h H) e
  refine ⟨e', ?_⟩
  cases q : H b with
  | none => rfl
  | some x =>
    have hm : b ∈ trk h H := List.mem_filter.mpr ⟨List.mem_range.mpr (Heap.lt_size e'), by simp [q]⟩
    have z : (hidT h H).get? b = none := PySem.W.hideAll_none (trk h H) hm
    rw [z] at e; cases e

noncomputable def allNews (g h : Heap) (L : Addr) : List (Addr × Obj) := (List.range h.objs.size).filterMap fun a => if a = L ∨ (g.get? a).isSome = true then none else (h.get? a).map fun o => (a, o)
noncomputable def rest (g h : Heap) (L d : Addr) : List (Addr × Obj) := (allNews g h L).filter fun p => decide (p.1 ≠ d)
end L2

namespace L2
open PySem PySem.Spec PyProof.Rows

structure Mod (K : PySem.W.Frag) (mg : Str → Option Value) (base : Heap) : Prop where
  kin : K.In base
  glob : base.Ns mainGlobals mg
  blt : ∃ mb, base.Ns builtinsNs mb ∧ ∀ x : Str, x ≠ "__name__" → mb x = bootBuiltins x
  nolimit : base.NoLimit

/-- the context: a def's body (or a comprehension's block) running. base: fixed through the whole law; s₀, H₀: the entry; outer: the frames whose slots others may change (a def's callers); stack: all frames that run;
   ex: iterators that were made ahead of the entry and are walked here (a comprehension's); fn: the names whose cells were made at the entry (a def: all; a comprehension's block: its own); calm: not within an except suite; pn: pins that every state bears; xe: what is wanted of an exception that leaves the code -/
structure Cx where
  prog : Program
  w : World
  K : PySem.W.Frag
  mg : Str → Option Value
  base : Heap
  A : Around
  N : List Str
  s₀ : Shared
  H₀ : Hp
  env : Env
  outer : List Env
  stack : List Env
  ex : List Addr
  fn : Str → Bool
  calm : Bool
  pn : List (Addr × Obj)
  xe : Value → Shared → Prop
noncomputable def frs (l : List Env) : List Addr := l.filterMap (·.frame)
noncomputable abbrev Cx.fs (X : Cx) : List Addr := frs X.outer

noncomputable def Vis (sc : Scope) (x : Str) : Prop := sc.names.lookup x = some .local ∨ sc.names.lookup x = some .cell ∨ sc.names.lookup x = some .free
noncomputable def Loc (sc : Scope) (x : Str) : Prop := sc.names.lookup x = some .local ∨ sc.names.lookup x = some .cell
noncomputable def Look (env : Env) (h : Heap) (m : Str → Option Value) (x : Str) (u : Value) : Prop :=
  (env.kindOf x = some .local ∧ m x = some u) ∨ ((env.kindOf x = some .cell ∨ env.kindOf x = some .free) ∧ ∃ c, env.cells.lookup x = some c ∧ h.IsCell c (some u))

structure Cx.Ok (X : Cx) : Prop where
  mod : Mod X.K X.mg X.base
  kind : X.env.scope.kind = .function
  glob : X.env.globals = mainGlobals
  blt : X.env.builtins = builtinsNs
  above : X.s₀.heap.objs.size ≤ X.env.locals
  inj : ∀ x y c, X.env.cells.lookup x = some c → X.env.cells.lookup y = some c → x = y
  has : ∀ x, (X.env.kindOf x = some .cell ∨ X.env.kindOf x = some .free) → ∃ c, X.env.cells.lookup x = some c
  cab : ∀ x c, X.fn x = true → X.env.cells.lookup x = some c → X.s₀.heap.objs.size ≤ c
  hd : X.calm = true → X.A.handled = none
  frames : X.A.frames = some X.stack
  stk : X.stack = X.outer ∨ (X.stack = X.env :: X.outer ∧ X.env.frame = some X.env.locals)
  exf : ∀ b ∈ X.ex, b ≠ X.env.locals ∧ ∀ x c, X.env.cells.lookup x = some c → c ≠ b
  bs : ∀ b o, X.base.get? b = some o → X.s₀.heap.get? b = some o ∧ X.H₀ b = none
  bsz : X.base.objs.size ≤ X.s₀.heap.objs.size
  noex : ∀ b o, X.base.get? b = some o → b ∉ X.ex
  exfs : ∀ b ∈ X.ex, b ∉ X.fs
  funs : X.s₀.heap.FunFrames X.base X.outer
  frf : ∀ b ∈ X.fs, X.H₀ b = none

structure Inv (X : Cx) (pins : List (Addr × Obj)) (σ : List (Option V)) (H : Hp) (s : Shared) : Prop where
  ok : X.Ok
  os : s.os = X.s₀.os
  bare : AllBare s.gens
  base : Un X.fs X.ex X.H₀ H X.s₀.heap s.heap
  loc : ∃ m, s.heap.Ns X.env.locals m ∧ ∀ (i : Nat) (x : Str) (v : V), X.N[i]? = some x → σ[i]? = some (some v) → Vis X.env.scope x → ∃ u, RelV v u ∧ Look X.env s.heap m x u
  cell : ∀ x c, X.env.cells.lookup x = some c → ∃ v, s.heap.IsCell c v
  free : H X.env.locals = none
  freeC : ∀ x c, X.env.cells.lookup x = some c → H c = none
  pin : ∀ p ∈ X.pn ++ pins, s.heap.get? p.1 = some p.2 ∧ H p.1 = none ∧ p.1 ≠ X.env.locals ∧ p.1 ∉ X.fs ∧ ∀ v, p.2.data ≠ .cell v
  hok : HOk X.prog X.w H s.heap
  len : σ.length = X.N.length

section
variable {X : Cx} {pins : List (Addr × Obj)} {σ : List (Option V)} {H H' : Hp} {s : Shared} {h' : Heap}

theorem Cx.Ok.nofr (ok : X.Ok) {b : Addr} {o : Obj} (e : X.base.get? b = some o) : b ∉ X.fs := fun hb => by
  have := (ok.funs.mem hb).1
  rw [e] at this; cases this
theorem Inv.bs (I : Inv X pins σ H s) : ∀ b o, X.base.get? b = some o → s.heap.get? b = some o ∧ H b = none := fun b o e =>
  ⟨I.base.keep b o (I.ok.bs b o e).1 (I.ok.bs b o e).2 (I.ok.nofr e) (I.ok.noex b o e), I.base.free b o (I.ok.bs b o e).1 (I.ok.bs b o e).2 (I.ok.noex b o e)⟩
theorem Inv.bk (I : Inv X pins σ H s) : ∀ b o, X.base.get? b = some o → s.heap.get? b = some o := fun b o e => (I.bs b o e).1
theorem Inv.mod (I : Inv X pins σ H s) : Mod X.K X.mg X.base := I.ok.mod
theorem Inv.kIn (I : Inv X pins σ H s) : X.K.In s.heap := I.ok.mod.kin.keeps I.bk
theorem Inv.fr (I : Inv X pins σ H s) : ∃ m, Fr X.base X.env.locals s.heap m :=
  let ⟨m, hn, _⟩ := I.loc
  ⟨m, hn, I.bk, Nat.le_trans I.ok.bsz I.ok.above⟩
theorem Inv.lt (I : Inv X pins σ H s) : X.env.locals < s.heap.objs.size := let ⟨_, hn, _⟩ := I.loc; hn.lt
theorem Inv.sz (I : Inv X pins σ H s) : X.s₀.heap.objs.size ≤ s.heap.objs.size := Nat.le_trans I.ok.above (Nat.le_of_lt I.lt)
theorem Inv.nofs (I : Inv X pins σ H s) {a : Addr} (h : s.heap.objs.size ≤ a) : a ∉ X.fs := fun hb => by
  obtain ⟨_, o, ho, _⟩ := I.ok.funs.mem hb
  exact absurd (Nat.lt_of_lt_of_le (Heap.lt_size ho) (Nat.le_trans I.sz h)) (Nat.lt_irrefl _)
theorem Inv.cne (I : Inv X pins σ H s) : ∀ x c, X.env.cells.lookup x = some c → c ≠ X.env.locals := fun x c e z => by
  obtain ⟨v, o, ho, hd⟩ := I.cell x c e
  obtain ⟨m, ⟨o', es, ep, ho', hd', _⟩, _⟩ := I.loc
  rw [z, ho'] at ho; cases ho; rw [hd'] at hd; cases hd
theorem Inv.funs (I : Inv X pins σ H s) : s.heap.FunFrames X.base X.outer := by
  have all : ∀ (l : List Env), (∀ b ∈ frs l, b ∈ X.fs) → X.s₀.heap.FunFrames X.base l → s.heap.FunFrames X.base l := by
    intro l
    induction l with
    | nil => intro _ _; trivial
    | cons env r ih =>
      intro hs hl
      obtain ⟨hk, ⟨L, o, hf, hn, ho, hd⟩, hr⟩ := hl
      have hL : L ∈ X.fs := hs L (by unfold frs; rw [List.filterMap_cons, hf]; exact List.mem_cons_self)
      obtain ⟨sl, e⟩ := I.base.slot L o ho (I.ok.frf L hL) hL fun z => I.ok.exfs L z hL
      exact ⟨hk, ⟨L, _, hf, hn, e, hd⟩, ih (fun b hb => hs b (by unfold frs; rw [List.filterMap_cons, hf]; exact List.mem_cons_of_mem _ hb)) hr⟩
  exact all X.outer (fun _ hb => hb) I.ok.funs

theorem Inv.stack (I : Inv X pins σ H s) : s.heap.FunFrames X.base X.stack := by
  obtain e | ⟨e, hf⟩ := I.ok.stk
  · rw [e]; exact I.funs
  · rw [e]
    obtain ⟨m, hn, _⟩ := I.loc
    refine .cons (by rw [I.ok.kind]; decide) hf hn ?_ I.funs
    exact Heap.get?_none_of_le (Nat.le_trans I.ok.bsz I.ok.above)
theorem Inv.stkSub (I : Inv X pins σ H s) : ∀ b ∈ frs X.stack, b ∈ X.env.locals :: X.fs := fun b hb => by
  obtain e | ⟨e, hf⟩ := I.ok.stk
  · rw [e] at hb; exact List.mem_cons_of_mem _ hb
  · rw [e] at hb
    unfold frs at hb
    rw [List.filterMap_cons, hf] at hb
    exact hb
theorem Inv.stkFree (I : Inv X pins σ H s) : ∀ b ∈ frs X.stack, H b = none := fun b hb => by
  obtain e | hb := List.mem_cons.mp (I.stkSub b hb)
  · rw [e]; exact I.free
  · obtain ⟨_, o, ho, _⟩ := I.ok.funs.mem hb
    exact I.base.free b o ho (I.ok.frf b hb) fun z => I.ok.exfs b z hb

theorem Inv.step {g' : Array GenState} {t' : Nat} {d' : Drawn} {ch : List Addr} (I : Inv X pins σ H s)
    (hch : ∀ b ∈ ch, (b ∈ X.ex ∨ X.s₀.heap.objs.size ≤ b) ∧ b ≠ X.env.locals ∧ (∀ x c, X.env.cells.lookup x = some c → c ≠ b) ∧ ∀ p ∈ X.pn ++ pins, p.1 ≠ b)
    (keep : ∀ b o, b ≠ X.env.locals → b ∉ X.fs → b ∉ ch → s.heap.get? b = some o → H b = none → h'.get? b = some o)
    (slot : ∀ b o, b ≠ X.env.locals → b ∈ X.fs → b ∉ ch → s.heap.get? b = some o → H b = none → ∃ sl, h'.get? b = some { o with slots := sl }) (free : ∀ b o, b ∉ ch → s.heap.get? b = some o → H b = none → H' b = none)
    (there : ∀ b o, b ∉ ch → s.heap.get? b = some o → ∃ o', h'.get? b = some o')
    (tups : ∀ b xs, H b = some (.tup xs) → H' b = some (.tup xs)) (frzs : ∀ b o u, H b = some (.frz o u) → H' b = some (.frz o u)) (tbls : ∀ b ps, H b = some (.tbl ps) → ∃ more, H' b = some (.tbl (ps ++ more)))
    (ns : ∀ m, s.heap.Ns X.env.locals m → h'.Ns X.env.locals m) (hok : HOk X.prog X.w H' h') (hg : AllBare g') :
    Inv X pins σ H' { s with heap := h', gens := g', drawn := d', toks := t' } := by
  have neL : ∀ b o, X.s₀.heap.get? b = some o → b ≠ X.env.locals := fun b o e => Nat.ne_of_lt (Nat.lt_of_lt_of_le (Heap.lt_size e) I.ok.above)
  have neC : ∀ b o, X.s₀.heap.get? b = some o → b ∉ X.ex → b ∉ ch := fun b o e hx hb => by
    obtain z | z := (hch b hb).1
    · exact hx z
    · exact absurd (Nat.lt_of_lt_of_le (Heap.lt_size e) z) (Nat.lt_irrefl _)
  have cellK : ∀ x c, X.env.cells.lookup x = some c → ∀ v, s.heap.IsCell c v → h'.IsCell c v := fun x c e v ⟨o, ho, hd⟩ => by
    have nch : c ∉ ch := fun z => (hch c z).2.2.1 x c e rfl
    by_cases hc : c ∈ X.fs
    · obtain ⟨sl, q⟩ := slot c o (I.cne x c e) hc nch ho (I.freeC x c e)
      exact ⟨_, q, hd⟩
    · exact ⟨o, keep c o (I.cne x c e) hc nch ho (I.freeC x c e), hd⟩
  refine ⟨I.ok, I.os, hg, ⟨fun b o e n hb hx => ?_, fun b o e n hb hx => ?_, fun b o e n hx => ?_, fun b o e hx => ?_, fun b xs e => tups b xs (I.base.tups b xs e), fun b o xs e => frzs b o xs (I.base.frzs b o xs e), fun b ps e => ?_⟩, ?_, fun x c e => ?_, ?_, fun x c e => ?_, fun p hp => ?_, hok, I.len⟩
  · exact keep b o (neL b o e) hb (neC b o e hx) (I.base.keep b o e n hb hx) (I.base.free b o e n hx)
  · obtain ⟨sl, e1⟩ := I.base.slot b o e n hb hx
    obtain ⟨sl', e2⟩ := slot b _ (neL b o e) hb (neC b o e hx) e1 (I.base.free b o e n hx)
    exact ⟨sl', e2⟩
  · obtain ⟨o', e1⟩ := I.base.there b o e hx
    exact free b o' (neC b o e hx) e1 (I.base.free b o e n hx)
  · obtain ⟨o', e1⟩ := I.base.there b o e hx
    exact there b o' (neC b o e hx) e1
  · obtain ⟨m1, e1⟩ := I.base.tbls b ps e
    obtain ⟨m2, e2⟩ := tbls b _ e1
    exact ⟨m1 ++ m2, by rw [e2, Array.append_assoc]⟩
  · obtain ⟨m, hn, hl⟩ := I.loc
    refine ⟨m, ns m hn, fun i x v e1 e2 e3 => ?_⟩
    obtain ⟨u, r, l⟩ := hl i x v e1 e2 e3
    refine ⟨u, r, ?_⟩
    obtain l | ⟨k, c, e, z⟩ := l
    · exact .inl l
    · exact .inr ⟨k, c, e, cellK x c e _ z⟩
  · obtain ⟨v, z⟩ := I.cell x c e
    exact ⟨v, cellK x c e v z⟩
  · obtain ⟨m, ⟨o, _, _, ho, _⟩, _⟩ := I.loc
    exact free _ o (fun z => (hch _ z).2.1 rfl) ho I.free
  · obtain ⟨v, o, ho, hd⟩ := I.cell x c e
    exact free c o (fun z => (hch c z).2.2.1 x c e rfl) ho (I.freeC x c e)
  · obtain ⟨e, n, ne, nf, d⟩ := I.pin p hp
    have nch : p.1 ∉ ch := fun z => (hch p.1 z).2.2.2 p hp rfl
    exact ⟨keep p.1 p.2 ne nf nch e n, free p.1 p.2 nch e n, ne, nf, d⟩
theorem Inv.un {t' : Nat} (I : Inv X pins σ H s) (u : Un X.fs [] H H' s.heap h') (hok : HOk X.prog X.w H' h') : Inv X pins σ H' { s with heap := h', toks := t' } := by
  obtain ⟨m, ⟨o, es, ep, ho, r⟩, _⟩ := id I.loc
  obtain ⟨sl, hL⟩ := u.any ho I.free (by simp)
  exact I.step (g' := s.gens) (d' := s.drawn) (ch := []) (fun _ z => nomatch z) (fun b o _ hb _ e n => u.keep b o e n hb (by simp)) (fun b o _ hb _ e n => u.slot b o e n hb (by simp)) (fun b o _ e n => u.free b o e n (by simp)) (fun b o _ e => u.there b o e (by simp)) u.tups u.frzs u.tbls (fun m' hm => by
    obtain ⟨o', es', ep', ho', r'⟩ := hm
    rw [ho] at ho'; cases ho'
    exact ⟨_, es', ep', hL, r'⟩) hok I.bare
theorem Inv.call {g' : Array GenState} {t' : Nat} {d' : Drawn} {ch : List Addr} (I : Inv X pins σ H s) (u : Un (frs X.stack) ch H H' s.heap h') (hok : HOk X.prog X.w H' h') (hg : AllBare g')
    (hch : ∀ b ∈ ch, (b ∈ X.ex ∨ X.s₀.heap.objs.size ≤ b) ∧ b ≠ X.env.locals ∧ (∀ x c, X.env.cells.lookup x = some c → c ≠ b) ∧ ∀ p ∈ X.pn ++ pins, p.1 ≠ b) :
    Inv X pins σ H' { s with heap := h', gens := g', drawn := d', toks := t' } := by
  obtain ⟨m, ⟨o, es, ep, ho, r⟩, _⟩ := id I.loc
  obtain ⟨sl, hL⟩ := u.any ho I.free fun z => (hch _ z).2.1 rfl
  exact I.step (ch := ch) hch (fun b o hL hb hc e n => u.keep b o e n (fun z => (List.mem_cons.mp (I.stkSub b z)).elim hL hb) hc) (fun b o _ _ hc e n => u.any e n hc) (fun b o hc e n => u.free b o e n hc) (fun b o hc e => u.there b o e hc) u.tups u.frzs u.tbls (fun m' hm => by
    obtain ⟨o', es', ep', ho', r'⟩ := hm
    rw [ho] at ho'; cases ho'
    exact ⟨_, es', ep', hL, r'⟩) hok hg
theorem Inv.turned {t' : Nat} {it : Addr} (I : Inv X pins σ H s) (k : ∀ b o, b ≠ it → s.heap.get? b = some o → h'.get? b = some o) (hn : H it = none) (hL : it ≠ X.env.locals)
    (h1 : it ∈ X.ex ∨ X.s₀.heap.objs.size ≤ it) (h2 : ∀ x c, X.env.cells.lookup x = some c → c ≠ it) (h3 : ∀ p ∈ X.pn ++ pins, p.1 ≠ it) : Inv X pins σ H { s with heap := h', toks := t' } := by
  have nit : ∀ b u, H b = some u → b ≠ it := fun b u e z => by rw [z, hn] at e; cases e
  refine I.step (g' := s.gens) (d' := s.drawn) (ch := [it]) (fun b hb => ?_) (fun b o _ _ hc e _ => k b o (fun z => hc (by simp [z])) e) (fun b o _ _ hc e _ => ⟨o.slots, k b o (fun z => hc (by simp [z])) e⟩) (fun _ _ _ _ n => n)
    (fun b o hc e => ⟨o, k b o (fun z => hc (by simp [z])) e⟩) (fun _ _ e => e) (fun _ _ _ e => e) (fun b ps e => ⟨#[], by rw [e]; simp⟩) (fun m hm => ?_) (fun b u e => ?_) I.bare
  · have e : b = it := by simpa using hb
    subst e
    exact ⟨h1, hL, h2, h3⟩
  · obtain ⟨o, es, ep, ho, r⟩ := hm
    exact ⟨o, es, ep, k _ o (Ne.symm hL) ho, r⟩
  · refine (I.hok b u e).stay (fun c v hc q => k c v ?_ q) (fun _ q => q) fun _ _ q => q
    obtain z | z := hc
    · rw [z]; exact nit b u e
    · exact nit c _ z
theorem Inv.tok (I : Inv X pins σ H s) (t : Nat) : Inv X pins σ H { s with toks := t } := I.un (h' := s.heap) (t' := t) Un.refl I.hok
theorem Inv.kept {t' : Nat} (I : Inv X pins σ H s) (k : ∀ b u, s.heap.get? b = some u → h'.get? b = some u) : Inv X pins σ H { s with heap := h', toks := t' } := I.un (Un.kept k) (I.hok.kept k)
theorem Inv.laid {a : Addr} {o : HO} {t' : Nat} (I : Inv X pins σ H s) (k : ∀ b u, s.heap.get? b = some u → h'.get? b = some u) (hp : s.heap.objs.size ≤ a) (new : ObjOk X.prog X.w (upd H a o) h' a o) :
    Inv X pins σ (upd H a o) { s with heap := h', toks := t' } := I.un (Un.laid k hp (I.hok.fresh hp)) (I.hok.laid k hp new)
theorem Inv.write {x e : Addr} {o : HO} {t' : Nat} (I : Inv X pins σ H s) (mu : Mut (H x)) (he : e = x ∨ H e = some (.own x)) (k : ∀ b u, b ≠ e → s.heap.get? b = some u → h'.get? b = some u) (heo : ∃ u, h'.get? e = some u)
    (new : ObjOk X.prog X.w (upd H x o) h' x o) : Inv X pins σ (upd H x o) { s with heap := h', toks := t' } := I.un (Un.write mu he k heo) (I.hok.write mu he k heo new)
theorem Inv.weak {σ' : List (Option V)} (I : Inv X pins σ H s) (hl : σ'.length = σ.length) (w : ∀ (i : Nat) v, σ'[i]? = some (some v) → σ[i]? = some (some v)) : Inv X pins σ' H s :=
  ⟨I.ok, I.os, I.bare, I.base, let ⟨m, hn, hl'⟩ := I.loc; ⟨m, hn, fun i x v e1 e2 e3 => hl' i x v e1 (w i v e2) e3⟩, I.cell, I.free, I.freeC, I.pin, I.hok, hl.trans I.len⟩
theorem Inv.pins_of {pins' : List (Addr × Obj)} (I : Inv X pins σ H s) (h : ∀ p ∈ pins', s.heap.get? p.1 = some p.2 ∧ H p.1 = none ∧ p.1 ≠ X.env.locals ∧ p.1 ∉ X.fs ∧ ∀ v, p.2.data ≠ .cell v) : Inv X pins' σ H s :=
  ⟨I.ok, I.os, I.bare, I.base, I.loc, I.cell, I.free, I.freeC, fun p hp => (List.mem_append.mp hp).elim (fun z => I.pin p (List.mem_append_left _ z)) (h p), I.hok, I.len⟩

theorem nodup_ix {N : List Str} (hN : N.Nodup) {i j : Nat} {x : Str} (a : N[i]? = some x) (b : N[j]? = some x) : i = j := by
  obtain ⟨h1, e1⟩ := List.getElem?_eq_some_iff.mp a
  obtain ⟨h2, e2⟩ := List.getElem?_eq_some_iff.mp b
  exact (List.getElem_inj hN).mp (e1.trans e2.symm)

theorem store_ok2 {M : Model} {A : Around} {E : Value → Shared → Prop} {i : Nat} {x : Str} {v : V} {u : Value} {Q : Unit → Shared → Prop} (I : Inv X pins σ H s) (hN : X.N.Nodup) (hi : X.N[i]? = some x) (hx : Loc X.env.scope x) (r : RelV v u)
    (h : ∀ s', Inv X pins (σ.set i (some v)) H s' → (∃ a, Heap.SameBut a s.heap s'.heap ∧ (a = X.env.locals ∨ X.env.cells.lookup x = some a)) → Q () s') (hf : X.fn x = true ∨ X.env.scope.names.lookup x = some .local := by first | exact .inl rfl | exact .inr rfl | assumption) : wpAny M A (storeName X.env x u) Q E s := by
  obtain ⟨m, hn, hl⟩ := id I.loc
  have hcls : (X.env.scope.kind == .class || (X.env.scope.kind == .module && X.env.locals != X.env.globals)) = false := by rw [I.ok.kind]; rfl
  have hiσ : i < σ.length := by rw [I.len]; exact (List.getElem?_eq_some_iff.mp hi).1
  have cne := I.cne
  have tracked : ∀ {a : Addr} {h' : Heap}, (∃ o, s.heap.get? a = some o ∧ H a = none) → Heap.SameBut a s.heap h' → HOk X.prog X.w H h' := fun {a h'} ha hs b ob e => by
    obtain ⟨_, _, hfree⟩ := ha
    refine (I.hok b ob e).stay (fun c w' hc q => (hs.2 c ?_).trans q) (fun _ q => q) fun _ _ q => q
    rintro rfl
    obtain rfl | hc := hc
    · rw [hfree] at e; cases e
    · rw [hfree] at hc; cases hc
  obtain hk | hk := hx
  · refine wpAny_storeName_local hk hn (fun h' hn' hs => ?_) hcls
    obtain ⟨oL, _, _, hoL, _⟩ := id hn
    refine h _ ⟨I.ok, I.os, I.bare, ⟨fun b o e n hb hx => ?_, fun b o e n hb hx => ?_, I.base.free, fun b o e hx => ?_, I.base.tups, I.base.frzs, I.base.tbls⟩, ⟨_, hn', fun j y v' e1 e2 e3 => ?_⟩, fun y c e => ?_, I.free, I.freeC, fun p hp => ?_, tracked ⟨oL, hoL, I.free⟩ hs, by simpa using I.len⟩ ⟨_, hs, .inl rfl⟩
    · exact (hs.2 b (Nat.ne_of_lt (Nat.lt_of_lt_of_le (Heap.lt_size e) I.ok.above))).trans (I.base.keep b o e n hb hx)
    · obtain ⟨sl, e1⟩ := I.base.slot b o e n hb hx
      exact ⟨sl, (hs.2 b (Nat.ne_of_lt (Nat.lt_of_lt_of_le (Heap.lt_size e) I.ok.above))).trans e1⟩
    · obtain ⟨o', e1⟩ := I.base.there b o e hx
      exact ⟨o', (hs.2 b (Nat.ne_of_lt (Nat.lt_of_lt_of_le (Heap.lt_size e) I.ok.above))).trans e1⟩
    · by_cases hj : j = i
      · subst hj
        rw [hi] at e1; cases e1
        rw [List.getElem?_set_self hiσ] at e2
        cases e2
        exact ⟨u, r, .inl ⟨hk, by simp⟩⟩
      · rw [List.getElem?_set_ne (Ne.symm hj)] at e2
        obtain ⟨u', r', q⟩ := hl j y v' e1 e2 e3
        refine ⟨u', r', ?_⟩
        obtain ⟨k, e⟩ | ⟨k, c, e, z⟩ := q
        · refine .inl ⟨k, ?_⟩
          have : y ≠ x := fun e => hj (nodup_ix hN e1 (e ▸ hi))
          simp [this, e]
        · exact .inr ⟨k, c, e, z.sameBut hs (cne y c e)⟩
    · obtain ⟨w', z⟩ := I.cell y c e
      exact ⟨w', z.sameBut hs (cne y c e)⟩
    · obtain ⟨e, n, ne, nf, d⟩ := I.pin p hp
      exact ⟨(hs.2 p.1 ne).trans e, n, ne, nf, d⟩
  · have hfn : X.fn x = true := by
      obtain z | z := hf
      · exact z
      · rw [z] at hk; cases hk
    obtain ⟨c, hc⟩ := I.ok.has x (.inl hk)
    obtain ⟨w', z⟩ := I.cell x c hc
    refine wpAny_storeName_cell I.ok.kind hk hc z (fun h' hc' hs => ?_)
    obtain ⟨oc, hoc, hocd⟩ := id z
    refine h { s with heap := h' } ⟨I.ok, I.os, I.bare, ⟨fun b o e n hb hx => ?_, fun b o e n hb hx => ?_, I.base.free, fun b o e hx => ?_, I.base.tups, I.base.frzs, I.base.tbls⟩, ⟨m, hn.sameBut hs (Ne.symm (cne x c hc)), fun j y v' e1 e2 e3 => ?_⟩, fun y c' e => ?_, I.free, I.freeC, fun p hp => ?_, tracked ⟨oc, hoc, I.freeC x c hc⟩ hs, by simpa using I.len⟩ ⟨c, hs, .inr hc⟩
    · exact (hs.2 b (Nat.ne_of_lt (Nat.lt_of_lt_of_le (Heap.lt_size e) (I.ok.cab x c hfn hc)))).trans (I.base.keep b o e n hb hx)
    · obtain ⟨sl, e1⟩ := I.base.slot b o e n hb hx
      exact ⟨sl, (hs.2 b (Nat.ne_of_lt (Nat.lt_of_lt_of_le (Heap.lt_size e) (I.ok.cab x c hfn hc)))).trans e1⟩
    · obtain ⟨o', e1⟩ := I.base.there b o e hx
      exact ⟨o', (hs.2 b (Nat.ne_of_lt (Nat.lt_of_lt_of_le (Heap.lt_size e) (I.ok.cab x c hfn hc)))).trans e1⟩
    · by_cases hj : j = i
      · subst hj
        rw [hi] at e1; cases e1
        rw [List.getElem?_set_self hiσ] at e2
        cases e2
        exact ⟨u, r, .inr ⟨.inl hk, c, hc, hc'⟩⟩
      · rw [List.getElem?_set_ne (Ne.symm hj)] at e2
        obtain ⟨u', r', q⟩ := hl j y v' e1 e2 e3
        refine ⟨u', r', ?_⟩
        obtain q | ⟨k, c', e, z'⟩ := q
        · exact .inl q
        · refine .inr ⟨k, c', e, z'.sameBut hs ?_⟩
          rintro rfl
          exact hj (nodup_ix hN e1 (I.ok.inj _ _ _ e hc ▸ hi))
    · by_cases hcc : c' = c
      · subst hcc; exact ⟨_, hc'⟩
      · obtain ⟨w2, z2⟩ := I.cell y c' e
        exact ⟨w2, z2.sameBut hs hcc⟩
    · obtain ⟨e, n, ne, nf, d⟩ := I.pin p hp
      refine ⟨(hs.2 p.1 ?_).trans e, n, ne, nf, d⟩
      intro q
      rw [q, hoc] at e
      have q' : oc = p.2 := Option.some.inj e
      exact d w' (by rw [← q']; exact hocd)
theorem store_ok {M : Model} {A : Around} {E : Value → Shared → Prop} {i : Nat} {x : Str} {v : V} {u : Value} {Q : Unit → Shared → Prop} (I : Inv X pins σ H s) (hN : X.N.Nodup) (hi : X.N[i]? = some x) (hx : Loc X.env.scope x) (r : RelV v u)
    (h : ∀ s', Inv X pins (σ.set i (some v)) H s' → Q () s') (hf : X.fn x = true ∨ X.env.scope.names.lookup x = some .local := by first | exact .inl rfl | exact .inr rfl | assumption) : wpAny M A (storeName X.env x u) Q E s :=
  store_ok2 I hN hi hx r (fun s' I' _ => h s' I') hf
theorem Inv.call' {s' : Shared} {ch : List Addr} (I : Inv X pins σ H s) (ho : s'.os = s.os) (u : Un (frs X.stack) ch H H' s.heap s'.heap) (hok : HOk X.prog X.w H' s'.heap) (hg : AllBare s'.gens)
    (hch : ∀ b ∈ ch, (b ∈ X.ex ∨ X.s₀.heap.objs.size ≤ b) ∧ b ≠ X.env.locals ∧ (∀ x c, X.env.cells.lookup x = some c → c ≠ b) ∧ ∀ p ∈ X.pn ++ pins, p.1 ≠ b) : Inv X pins σ H' s' := by
  obtain ⟨h', g', d', t', o'⟩ := s'
  have e : o' = s.os := ho
  subst e
  exact I.call (g' := g') (t' := t') (d' := d') u hok hg hch
end

noncomputable abbrev XK := Value → Option Addr → Hp → Prop
noncomputable abbrev St := List (Option V)
noncomputable abbrev VK := V → Hp → Prop
noncomputable abbrev TE := St → Hp → VK → Prop
noncomputable abbrev TT := St → Hp → (Bool → Hp → Prop) → Prop
noncomputable abbrev TA := St → Hp → (List V → Hp → Prop) → Prop
structure Ends where
  nx : St → Hp → Prop
  rt : VK
  bk : St → Hp → Prop := fun _ _ => False
  ct : St → Hp → Prop := fun _ _ => False
noncomputable abbrev TS := Ends → St → Hp → Prop

noncomputable def EP (X : Cx) (pins : List (Addr × Obj)) (σ : St) (Q : VK) (u : Value) (s' : Shared) : Prop := ∃ v H', Inv X pins σ H' s' ∧ RelV v u ∧ Q v H'
noncomputable def TP (X : Cx) (pins : List (Addr × Obj)) (σ : St) (Q : Bool → Hp → Prop) (b : Bool) (s' : Shared) : Prop := ∃ H', Inv X pins σ H' s' ∧ Q b H'
noncomputable def AP (X : Cx) (pins : List (Addr × Obj)) (σ : St) (Q : List V → Hp → Prop) (us : List Value) (s' : Shared) : Prop := ∃ vs H', Inv X pins σ H' s' ∧ Vals vs us ∧ Q vs H'
noncomputable def SP (X : Cx) (pins : List (Addr × Obj)) (D : Ends) (f : Flow) (s' : Shared) : Prop :=
  match f with
  | .next => ∃ σ' H', Inv X pins σ' H' s' ∧ D.nx σ' H'
  | .brk => ∃ σ' H', Inv X pins σ' H' s' ∧ D.bk σ' H'
  | .cont => ∃ σ' H', Inv X pins σ' H' s' ∧ D.ct σ' H'
  | .ret u => ∃ v σ' H', Inv X pins σ' H' s' ∧ RelV v u ∧ D.rt v H'

noncomputable def PE (X : Cx) (e : Expr) (t : TE) : Prop :=
  ∀ (pins : List (Addr × Obj)) (s : Shared) (σ : St) (H : Hp) (Q : VK), Inv X pins σ H s → t σ H Q → wpAny (model X.prog X.w) X.A (eval e X.env) (EP X pins σ Q) X.xe s
noncomputable def PT (X : Cx) (e : Expr) (t : TT) : Prop :=
  ∀ (pins : List (Addr × Obj)) (s : Shared) (σ : St) (H : Hp) (Q : Bool → Hp → Prop), Inv X pins σ H s → t σ H Q → wpAny (model X.prog X.w) X.A (isTrue e X.env (eval e X.env)) (TP X pins σ Q) X.xe s
noncomputable def PW (X : Cx) (e : Expr) (t : TT) : Prop :=
  ∀ (whole : Sem Value) (pins : List (Addr × Obj)) (s : Shared) (σ : St) (H : Hp) (Q : Bool → Hp → Prop), Inv X pins σ H s → t σ H Q → wpAny (model X.prog X.w) X.A (isTrue e X.env whole) (TP X pins σ Q) X.xe s
theorem PW.pt {X : Cx} {e : Expr} {t : TT} (h : PW X e t) : PT X e t := h _
noncomputable def PA (X : Cx) (es : List Expr) (t : TA) : Prop :=
  ∀ (pos : Pos) (pins : List (Addr × Obj)) (s : Shared) (σ : St) (H : Hp) (Q : List V → Hp → Prop), Inv X pins σ H s → t σ H Q → wpAny (model X.prog X.w) X.A (spliced (backTo pos (starEach es X.env))) (AP X pins σ Q) X.xe s
noncomputable def PS (X : Cx) (st : Stmt) (t : TS) : Prop :=
  ∀ (pins : List (Addr × Obj)) (s : Shared) (σ : St) (H : Hp) (D : Ends), Inv X pins σ H s → t D σ H → wpAny (model X.prog X.w) X.A (exec st X.env) (SP X pins D) X.xe s
noncomputable def PSs (X : Cx) (st : List Stmt) (t : TS) : Prop :=
  ∀ (pins : List (Addr × Obj)) (s : Shared) (σ : St) (H : Hp) (D : Ends), Inv X pins σ H s → t D σ H → wpAny (model X.prog X.w) X.A (execs st X.env) (SP X pins D) X.xe s
theorem thn {α : Type} {t : Sem α} {Q Q' : α → Shared → Prop} {M : Model} {A : Around} {E : Value → Shared → Prop} {s : Shared} (h : wpAny M A t Q E s) (hQ : ∀ a s, Q a s → Q' a s) : wpAny M A t Q' E s := wpAny_mono h hQ fun _ _ x => x
end L2

namespace L2
open PySem PySem.Spec PyProof.Rows
section
variable {X : Cx}

theorem bin {a b : Expr} {ta tb : TE} (ha : PE X a ta) (hb : PE X b tb) {pins : List (Addr × Obj)} {s : Shared} {σ : St} {H : Hp} {R : V → V → Hp → Prop} (I : Inv X pins σ H s) (h : ta σ H fun x H1 => tb σ H1 fun y H2 => R x y H2)
    {α : Type} {Q : α → Shared → Prop} {f : Value → Value → Sem α}
    (hf : ∀ v u s2 x y H2, Inv X pins σ H2 s2 → RelV x v → RelV y u → R x y H2 → wpAny (model X.prog X.w) X.A (f v u) Q X.xe s2) :
    wpAny (model X.prog X.w) X.A (eval a X.env) (fun v s₁ => wpAny (model X.prog X.w) X.A (eval b X.env) (fun u s₂ => wpAny (model X.prog X.w) X.A (f v u) Q X.xe s₂) X.xe s₁) X.xe s := by
  refine thn (ha pins s σ H _ I h) fun v s1 hm_ => ?_
  obtain ⟨x, H1, I1, r1, q1⟩ := hm_
  refine thn (hb pins s1 σ H1 _ I1 q1) fun u s2 hm_ => ?_
  obtain ⟨y, H2, I2, r2, q2⟩ := hm_
  exact hf v u s2 x y H2 I2 r1 r2 q2

inductive TVar (i : Nat) (σ : St) (H : Hp) (Q : VK) : Prop
  | mk (v : V) (h : σ[i]? = some (some v)) (q : Q v H) : TVar i σ H Q
noncomputable def tVar (i : Nat) : TE := fun σ H Q => TVar i σ H Q
noncomputable def tC (v : V) : TE := fun _ H Q => Q v H
theorem pe_var {i : Nat} {x : Str} {pos : Pos} (hN : X.N[i]? = some x) (hv : Vis X.env.scope x) (hd : (x == ("__debug__" : Str)) = false := by decide) (hcd : (x == ("__classdict__" : Str)) = false := by decide) : PE X (.Name x pos) (tVar i) := by
  intro pins s σ H Q I h
  obtain ⟨v, e, h⟩ := h
  obtain ⟨m, hn, hl⟩ := I.loc
  obtain ⟨u, r, l⟩ := hl i x v hN e hv
  have fin : EP X pins σ Q u s := ⟨v, H, I, r, h⟩
  obtain ⟨hk, hm⟩ | ⟨hk, c, hc, hcell⟩ := l
  · exact wpAny_Name (wpAny_loadName_local I.ok.kind hk hn hm fin) hd
  · obtain hk | hk := hk
    · exact wpAny_Name (wpAny_loadName_cell I.ok.kind hk hc hcell fin) hd
    · exact wpAny_Name (wpAny_loadName_free I.ok.kind hk hc hcell fin hcd) hd
theorem pe_int {i j pos} : PE X (.Constant (.int i) j pos) (tC (.int i)) := fun _ _ _ H _ I h => wpAny_Constant_int ⟨.int i, H, I.tok _, ⟨_, rfl⟩, h⟩
theorem pe_bl {b j pos} : PE X (.Constant (.bool b) j pos) (tC (.bl b)) := fun _ _ _ H _ I h => Constant_bool ⟨.bl b, H, I, rfl, h⟩
theorem pe_non {j pos} : PE X (.Constant .none j pos) (tC .non) := fun _ _ _ H _ I h => Constant_none ⟨.non, H, I, rfl, h⟩
theorem pe_str {x j pos} : PE X (.Constant (.str x) j pos) (tC (.str x)) := fun _ _ _ H _ I h => Calls.Constant_str ⟨.str x, H, I.tok _, ⟨_, rfl⟩, h⟩

noncomputable def Gl (X : Cx) (x : Str) : Prop := X.env.kindOf x = some .globalImplicit
theorem ld_glob {E : Value → Shared → Prop} {pins : List (Addr × Obj)} {s : Shared} {σ : St} {H : Hp} {x : Str} {u : Value} {pos : Pos} {Q : Value → Shared → Prop} (I : Inv X pins σ H s) (hg : Gl X x) (hm : X.mg x = some u) (h : Q u s)
    (hd : (x == ("__debug__" : Str)) = false := by decide) : wpAny (model X.prog X.w) X.A (eval (.Name x pos) X.env) Q E s :=
  Calls.Name_function_global I.ok.kind hg (Calls.loadGlobal_global (by rw [I.ok.glob]; exact I.mod.glob.keeps I.bk) hm h) hd
theorem ld_blt {E : Value → Shared → Prop} {pins : List (Addr × Obj)} {s : Shared} {σ : St} {H : Hp} {x : Str} {u : Value} {pos : Pos} {Q : Value → Shared → Prop} (I : Inv X pins σ H s) (hg : Gl X x) (hm : X.mg x = none) (hv : bootBuiltins x = some u) (h : Q u s)
    (hn : x ≠ "__name__" := by decide) (hd : (x == ("__debug__" : Str)) = false := by decide) : wpAny (model X.prog X.w) X.A (eval (.Name x pos) X.env) Q E s := by
  obtain ⟨mb, h1, h2⟩ := I.mod.blt
  exact Calls.Name_function_global I.ok.kind hg (Calls.loadGlobal_builtin (by rw [I.ok.glob]; exact I.mod.glob.keeps I.bk) hm (by rw [I.ok.blt]; exact h1.keeps I.bk) ((h2 x hn).trans hv) h) hd
theorem pe_glob {x : Str} {v : V} {u : Value} {pos : Pos} (hg : Gl X x) (hm : X.mg x = some u) (r : RelV v u) (hd : (x == ("__debug__" : Str)) = false := by decide) : PE X (.Name x pos) (tC v) :=
  fun _ _ _ H _ I h => ld_glob I hg hm ⟨v, H, I, r, h⟩ hd
theorem pe_bltn {x : Str} {v : V} {u : Value} {pos : Pos} (hg : Gl X x) (hm : X.mg x = none) (hv : bootBuiltins x = some u) (r : RelV v u) (hn : x ≠ "__name__" := by decide) (hd : (x == ("__debug__" : Str)) = false := by decide) : PE X (.Name x pos) (tC v) :=
  fun _ _ _ H _ I h => ld_blt I hg hm hv ⟨v, H, I, r, h⟩ hn hd

variable {a b : Expr} {ta tb : TE} {pos : Pos}
noncomputable def PC (X : Cx) (op : CmpOp) (a b : Expr) (t : TE) : Prop :=
  ∀ (pins : List (Addr × Obj)) (s : Shared) (σ : St) (H : Hp) (Q : VK), Inv X pins σ H s → t σ H Q →
    wpAny (model X.prog X.w) X.A (eval a X.env) (fun v s₁ => wpAny (model X.prog X.w) X.A (eval b X.env) (fun u s₂ => wpAny (model X.prog X.w) X.A (compareOp op v u) (EP X pins σ Q) X.xe s₂) X.xe s₁) X.xe s
theorem nobehind (b : Expr) {op : CmpOp} (h : op ≠ .In) (h2 : op ≠ .NotIn) : behindInMarks op b = false := by
  have e1 : (op == CmpOp.In) = false := by cases op <;> first | rfl | exact absurd rfl h
  have e2 : (op == CmpOp.NotIn) = false := by cases op <;> first | rfl | exact absurd rfl h2
  cases b <;> simp [behindInMarks, e1, e2]
inductive IsBl (x : V) (Q : Bool → Prop) : Prop
  | mk (c : Bool) (h : x = .bl c) (q : Q c) : IsBl x Q
noncomputable def tB (t : TE) : TT := fun σ H Q => t σ H fun x H1 => IsBl x fun c => Q c H1
theorem pt_cmp {op : CmpOp} {t : TE} (h : PC X op a b t) (h1 : behindInMarks op b = false := by first | exact nobehind _ (by decide) (by decide) | rfl) : PT X (.Compare a [op] [b] pos) (tB t) := by
  intro pins s σ H Q I hw
  refine wpAny_isTrue_Compare1 (thn (h pins s σ H _ I hw) fun v s1 h1 => thn h1 fun u s2 h2 => thn h2 fun c s3 hm_ => ?_) h1
  obtain ⟨x, H1, I1, r1, q1⟩ := hm_
  obtain ⟨d, rfl, q⟩ := q1
  cases r1
  exact wpAny_truthy_bool ⟨H1, I1, q⟩
theorem pt_val {e : Expr} {t : TE} (h : PE X e t) (he : ∀ whole, isTrue e X.env whole = (do let v ← whole; standAt e.pos; holding [v] (truthy v)) := by intro _; rfl) : PT X e (tB t) := by
  intro pins s σ H Q I hw
  refine isTrue_plain (thn (h pins s σ H _ I hw) fun v s1 hm_ => ?_) (he _)
  obtain ⟨x, H1, I1, r1, q1⟩ := hm_
  obtain ⟨d, rfl, q⟩ := q1
  cases r1
  exact wpAny_truthy_bool ⟨H1, I1, q⟩

variable {tA tB' : TT} {rest : List Expr}
noncomputable def tAnd (t u : TT) : TT := fun σ H Q => t σ H fun c H1 => if c = true then u σ H1 Q else Q false H1
noncomputable def tOr (t u : TT) : TT := fun σ H Q => t σ H fun c H1 => if c = true then Q true H1 else u σ H1 Q
noncomputable def tNot (t : TT) : TT := fun σ H Q => t σ H fun c H1 => Q (!c) H1
theorem pw_and1 (ha : PT X a tA) : PW X (.BoolOp .And [a] pos) tA := by
  intro wh pins s σ H Q I h
  refine isTrue_and (thn (ha pins s σ H Q I h) fun c s1 e => ?_)
  cases c with
  | true => exact isTrue_and_nil e
  | false => exact e
theorem pw_or1 (ha : PT X a tA) : PW X (.BoolOp .Or [a] pos) tA := by
  intro wh pins s σ H Q I h
  refine isTrue_or (thn (ha pins s σ H Q I h) fun c s1 e => ?_)
  cases c with
  | false => exact isTrue_or_nil e
  | true => exact e
theorem pw_and (ha : PT X a tA) (hb : PW X (.BoolOp .And (b :: rest) pos) tB') : PW X (.BoolOp .And (a :: b :: rest) pos) (tAnd tA tB') := by
  intro wh pins s σ H Q I h
  refine isTrue_and (thn (ha pins s σ H _ I h) fun c s1 hm_ => ?_)
  obtain ⟨H1, I1, q1⟩ := hm_
  cases c with
  | true => exact hb wh pins s1 σ H1 Q I1 q1
  | false => exact ⟨H1, I1, q1⟩
theorem pw_or (ha : PT X a tA) (hb : PW X (.BoolOp .Or (b :: rest) pos) tB') : PW X (.BoolOp .Or (a :: b :: rest) pos) (tOr tA tB') := by
  intro wh pins s σ H Q I h
  refine isTrue_or (thn (ha pins s σ H _ I h) fun c s1 hm_ => ?_)
  obtain ⟨H1, I1, q1⟩ := hm_
  cases c with
  | true => exact ⟨H1, I1, q1⟩
  | false => exact hb wh pins s1 σ H1 Q I1 q1
theorem pt_not (ha : PT X a tA) : PT X (.UnaryOp .Not a pos) (tNot tA) := by
  intro pins s σ H Q I h
  exact isTrue_not (ha pins s σ H (fun c H1 => Q (!c) H1) I h)
noncomputable def tAndV (ta tb : TE) : TE := fun σ H Q => ta σ H fun x H1 => IsBl x fun c => if c = true then tb σ H1 Q else Q (.bl false) H1
noncomputable def tNotV (ta : TE) : TE := fun σ H Q => ta σ H fun x H1 => IsBl x fun c => Q (.bl (!c)) H1
theorem pe_one {op} {t : TE} (h : PE X a t) : PE X (.BoolOp op [a] pos) t := fun pins s σ H Q I hw => BoolOp_one (h pins s σ H Q I hw)
theorem pe_and (ha : PE X a ta) (hb : PE X (.BoolOp .And (b :: rest) pos) tb) : PE X (.BoolOp .And (a :: b :: rest) pos) (tAndV ta tb) := by
  intro pins s σ H Q I h
  refine BoolOp_and (thn (ha pins s σ H _ I h) fun v s1 hm_ => ?_)
  obtain ⟨x, H1, I1, r1, q1⟩ := hm_
  obtain ⟨c, rfl, q1⟩ := q1
  cases r1
  refine wpAny_truthy_bool ?_
  cases c with
  | true => exact hb pins s1 σ H1 Q I1 q1
  | false => exact ⟨.bl false, H1, I1, rfl, q1⟩
theorem pe_not (ha : PE X a ta) : PE X (.UnaryOp .Not a pos) (tNotV ta) := by
  intro pins s σ H Q I h
  refine UnaryOp_ (thn (ha pins s σ H _ I h) fun v s1 hm_ => ?_)
  obtain ⟨x, H1, I1, r1, q1⟩ := hm_
  obtain ⟨c, rfl, q1⟩ := q1
  cases r1
  exact not_of (wpAny_truthy_bool ⟨.bl (!c), H1, I1, rfl, q1⟩)
end
end L2

namespace L2
open PySem PySem.Spec PyProof.Rows

noncomputable def SqL (K : PySem.W.Frag) (H : Hp) (a : Addr) (xs : List V) : Prop :=
  Rd H a (.lst xs) ∨
    ∃ (o : Obj) (its : Array Value) (n : Nat), K.lookup a = some o ∧ o.cls = .type "list" ∧ o.dict = none ∧ o.data = .seq its n ∧ its.size ≤ sizeLine ∧ Vals xs its.toList
noncomputable def SqT (K : PySem.W.Frag) (H : Hp) (a : Addr) (xs : List V) : Prop :=
  Rd H a (.tup xs) ∨
    ∃ (o : Obj) (its : Array Value) (n : Nat), K.lookup a = some o ∧ o.cls = .type "tuple" ∧ o.data = .seq its n ∧ its.size ≤ sizeLine ∧ Vals xs its.toList
noncomputable def absV : Value → Option V
  | .none => some .non
  | .bool b => some (.bl b)
  | .int i _ => some (.int i)
  | .str x _ => some (.str x)
  | .bytes b _ => some (.byt b)
  | .float b _ => some (.flt b)
  | .ref a => some (.ref a)
  | .type n => some (.ty n)
  | _ => none
theorem RelV.abs {x : V} {u : Value} (r : RelV x u) : absV u = some x := by
  cases x with
  | non => cases r; rfl
  | bl _ => cases r; rfl
  | int _ => obtain ⟨t, rfl⟩ := r; rfl
  | str _ => obtain ⟨t, rfl⟩ := r; rfl
  | byt _ => obtain ⟨t, rfl⟩ := r; rfl
  | flt _ => obtain ⟨t, rfl⟩ := r; rfl
  | ref _ => cases r; rfl
  | ty _ => cases r; rfl
theorem RelV.inj {x y : V} {u : Value} (r : RelV x u) (q : RelV y u) : x = y := Option.some.inj (r.abs.symm.trans q.abs)
theorem Vals.inj {xs ys : List V} {us : List Value} (h : Vals xs us) (h' : Vals ys us) : xs = ys := by
  induction h generalizing ys with
  | nil => cases h'; rfl
  | cons r _ ih => cases h' with
    | cons r' t' => rw [r.inj r', ih t']
section
variable {X : Cx} {pins : List (Addr × Obj)} {σ : St} {H : Hp} {s : Shared} {a : Addr} {xs ys : List V}
theorem SqL.of {K : PySem.W.Frag} (h : H a = some (.lst xs)) : SqL K H a xs := .inl (.inl h)
theorem SqT.of {K : PySem.W.Frag} (h : H a = some (.tup xs)) : SqT K H a xs := .inl (.inl h)
theorem Inv.list (I : Inv X pins σ H s) (h : SqL X.K H a xs) : ∃ its : List Value, Vals xs its ∧ PlainL s.heap a its.toArray ∧ xs.length ≤ sizeLine := by
  obtain h | ⟨o, its, n, hk, hc, hd, hs, hz, r⟩ := h
  · obtain ⟨z, its, n, r, e⟩ := h.ok I.hok
    exact ⟨its, r, ⟨_, n, e, rfl, rfl, rfl⟩, z⟩
  · refine ⟨its.toList, r, ⟨o, n, I.kIn a o hk, hc, hd, by simpa using hs⟩, ?_⟩
    have e := r.length
    simp only [Array.length_toList] at e
    omega
theorem Inv.tuple (I : Inv X pins σ H s) (h : SqT X.K H a xs) : ∃ its : List Value, Vals xs its ∧ IsTup s.heap a its.toArray ∧ xs.length ≤ sizeLine := by
  obtain h | ⟨o, its, n, hk, hc, hs, hz, r⟩ := h
  · obtain ⟨z, its, r, p⟩ := h.ok I.hok
    exact ⟨its, r, p, z⟩
  · refine ⟨its.toList, r, ⟨o, I.kIn a o hk, hc, n, by simpa using hs⟩, ?_⟩
    have e := r.length
    simp only [Array.length_toList] at e
    omega
theorem Inv.list_inj (I : Inv X pins σ H s) (h : SqL X.K H a xs) (h' : SqL X.K H a ys) : xs = ys := by
  obtain ⟨its, r, ⟨o, n, e, _, _, d⟩, _⟩ := I.list h
  obtain ⟨its', r', ⟨o', n', e', _, _, d'⟩, _⟩ := I.list h'
  rw [e] at e'; cases e'
  rw [d] at d'
  injection d' with d1 _
  have : its = its' := by simpa using congrArg Array.toList d1
  subst this
  exact r.inj r'
theorem Inv.tuple_inj (I : Inv X pins σ H s) (h : SqT X.K H a xs) (h' : SqT X.K H a ys) : xs = ys := by
  obtain ⟨its, r, ⟨o, e, _, n, d⟩, _⟩ := I.tuple h
  obtain ⟨its', r', ⟨o', e', _, n', d'⟩, _⟩ := I.tuple h'
  rw [e] at e'; cases e'
  rw [d] at d'
  injection d' with d1 _
  have : its = its' := by simpa using congrArg Array.toList d1
  subst this
  exact r.inj r'
end

noncomputable abbrev Cx.wish (X : Cx) (E : Value → Shared → Prop) : Cx := { X with xe := E }
noncomputable abbrev Cx.nox (X : Cx) : Cx := X.wish fun _ _ => False
theorem Cx.Ok.wish {X : Cx} (ok : X.Ok) (E : Value → Shared → Prop) : (X.wish E).Ok :=
  ⟨ok.mod, ok.kind, ok.glob, ok.blt, ok.above, ok.inj, ok.has, ok.cab, ok.hd, ok.frames, ok.stk, ok.exf, ok.bs, ok.bsz, ok.noex, ok.exfs, ok.funs, ok.frf⟩
theorem Cx.Ok.unwish {X : Cx} {E : Value → Shared → Prop} (ok : (X.wish E).Ok) : X.Ok :=
  ⟨ok.mod, ok.kind, ok.glob, ok.blt, ok.above, ok.inj, ok.has, ok.cab, ok.hd, ok.frames, ok.stk, ok.exf, ok.bs, ok.bsz, ok.noex, ok.exfs, ok.funs, ok.frf⟩
section
variable {X : Cx} {pins : List (Addr × Obj)} {σ : St} {H : Hp} {s : Shared} {E : Value → Shared → Prop}
theorem Inv.wish (I : Inv X pins σ H s) (E : Value → Shared → Prop) : Inv (X.wish E) pins σ H s := ⟨I.ok.wish E, I.os, I.bare, I.base, I.loc, I.cell, I.free, I.freeC, I.pin, I.hok, I.len⟩
theorem Inv.unwish (I : Inv (X.wish E) pins σ H s) : Inv X pins σ H s := ⟨I.ok.unwish, I.os, I.bare, I.base, I.loc, I.cell, I.free, I.freeC, I.pin, I.hok, I.len⟩
theorem SP.unwish {D : Ends} {f : Flow} {s' : Shared} (h : SP (X.wish E) pins D f s') : SP X pins D f s' := by
  cases f with
  | next => obtain ⟨σ', H', I, q⟩ := h; exact ⟨σ', H', I.unwish, q⟩
  | brk => obtain ⟨σ', H', I, q⟩ := h; exact ⟨σ', H', I.unwish, q⟩
  | cont => obtain ⟨σ', H', I, q⟩ := h; exact ⟨σ', H', I.unwish, q⟩
  | ret u => obtain ⟨v, σ', H', I, r, q⟩ := h; exact ⟨v, σ', H', I.unwish, r, q⟩
theorem PSs.nox {st : List Stmt} {t : TS} (h : PSs X.nox st t) : PSs X st t := fun pins s σ H D I hw =>
  wpAny_mono (h pins s σ H D (I.wish _) hw) (fun _ _ q => q.unwish) fun _ _ z => False.elim z
end

section
variable {X : Cx} {st : Stmt} {rest : List Stmt} {t u : TS} {e : Expr} {te : TE} {pos : Pos}
noncomputable def tNext : TS := fun D σ H => D.nx σ H
noncomputable def tSeq (t u : TS) : TS := fun D σ H => t { D with nx := u D } σ H
theorem pss_nil : PSs X [] tNext := fun _ _ σ H _ I h => wpAny_execs_nil ⟨σ, H, I, h⟩
theorem pss_cons (h1 : PS X st t) (h2 : PSs X rest u) : PSs X (st :: rest) (tSeq t u) := by
  intro pins s σ H D I h
  refine wpAny_execs_cons (thn (h1 pins s σ H { D with nx := u D } I h) fun f s1 q => ?_)
  cases f with
  | next =>
    obtain ⟨σ', H', I', q⟩ := q
    exact h2 pins s1 σ' H' D I' q
  | ret v => exact q
  | brk => exact q
  | cont => exact q
theorem pss_one (h1 : PS X st t) : PSs X [st] t := by
  intro pins s σ H D I h
  refine wpAny_execs_cons (thn (h1 pins s σ H D I h) fun f s1 q => ?_)
  cases f with
  | next => exact wpAny_execs_nil q
  | ret v => exact q
  | brk => exact q
  | cont => exact q
theorem Inv.quiet {pins : List (Addr × Obj)} {σ : St} {H : Hp} {s : Shared} (I : Inv X pins σ H s) : interactive X.env = false := by simp [interactive, I.ok.kind]
noncomputable def tDrop (te : TE) : TS := fun D σ H => te σ H fun _ H1 => D.nx σ H1
theorem ps_expr (he : PE X e te) (hs : swapsWith e none pos.line X.env = pure false := by rfl) : PS X (.Expr e pos) (tDrop te) := by
  intro pins s σ H D I h
  exact wpAny_Expr_any (thn (he pins s σ H _ I h) fun v s1 ⟨x, H1, I1, r1, q1⟩ => ⟨σ, H1, I1, q1⟩) I.quiet hs
noncomputable def tRet (te : TE) : TS := fun D σ H => te σ H D.rt
theorem ps_ret (he : PE X e te) : PS X (.Return (some e) pos) (tRet te) := by
  intro pins s σ H D I h
  exact wpAny_Return_some (thn (he pins s σ H _ I h) fun v s1 ⟨x, H1, I1, r1, q1⟩ => ⟨x, σ, H1, I1, r1, q1⟩)
noncomputable def tIfS (c : TT) (t u : TS) : TS := fun D σ H => c σ H fun b H1 => if b = true then t D σ H1 else u D σ H1
theorem ps_if {c : Expr} {a b : List Stmt} {tc : TT} (hc : PT X c tc) (ha : PSs X a t) (hb : PSs X b u) : PS X (.If c a b pos) (tIfS tc t u) := by
  intro pins s σ H D I h
  refine wpAny_If (thn (hc pins s σ H _ I h) fun d s1 hm_ => ?_)
  obtain ⟨H1, I1, q1⟩ := hm_
  cases d with
  | true => exact ha pins s1 σ H1 D I1 q1
  | false => exact hb pins s1 σ H1 D I1 q1
end

noncomputable abbrev TG := V → St → Hp → (St → Hp → Prop) → Prop
noncomputable abbrev TGs := List V → St → Hp → (St → Hp → Prop) → Prop
noncomputable def PG (X : Cx) (target : Expr) (t : TG) : Prop :=
  ∀ (pins : List (Addr × Obj)) (s : Shared) (σ : St) (H : Hp) (v : V) (u : Value) (Q : St → Hp → Prop), Inv X pins σ H s → RelV v u → t v σ H Q →
    wpAny (model X.prog X.w) X.A (assign target X.env u) (fun _ s' => ∃ σ' H', Inv X pins σ' H' s' ∧ Q σ' H') X.xe s
noncomputable def PGs (X : Cx) (ts : List Expr) (t : TGs) : Prop :=
  ∀ (pins : List (Addr × Obj)) (s : Shared) (σ : St) (H : Hp) (vs : List V) (us : List Value) (Q : St → Hp → Prop), Inv X pins σ H s → Vals vs us → t vs σ H Q →
    wpAny (model X.prog X.w) X.A (assignInOrder ((assignEach ts X.env).map (·.2)) us) (fun _ s' => ∃ σ' H', Inv X pins σ' H' s' ∧ Q σ' H') X.xe s
section
variable {X : Cx} {pos : Pos}
noncomputable def gName (i : Nat) : TG := fun v σ H Q => Q (σ.set i (some v)) H
theorem pg_name {i : Nat} {x : Str} (hN : X.N.Nodup) (hi : X.N[i]? = some x) (hx : Loc X.env.scope x) (hf : X.fn x = true ∨ X.env.scope.names.lookup x = some .local := by first | exact .inl rfl | exact .inr rfl | assumption) : PG X (.Name x pos) (gName i) := by
  intro pins s σ H v u Q I r h
  exact wpAny_assign_Name (store_ok I hN hi hx r (fun s' I' => ⟨_, H, I', h⟩) hf)
noncomputable def gNil : TGs := fun vs σ H Q => vs = [] ∧ Q σ H
noncomputable def gCons (t : TG) (u : TGs) : TGs := fun vs σ H Q => ∃ v r, vs = v :: r ∧ t v σ H fun σ' H' => u r σ' H' Q
theorem pgs_nil : PGs X [] gNil := by
  intro pins s σ H vs us Q I r h
  obtain ⟨e, h⟩ := h
  subst e
  cases r
  exact assignInOrder_nil ⟨σ, H, I, h⟩
theorem pgs_cons {e : Expr} {es : List Expr} {t : TG} {u : TGs} (h1 : PG X e t) (h2 : PGs X es u)
    (hs : (assignEach (e :: es) X.env).map (·.2) = assign e X.env :: (assignEach es X.env).map (·.2) := by rfl) : PGs X (e :: es) (gCons t u) := by
  intro pins s σ H vs us Q I r h
  obtain ⟨v, vr, e1, h⟩ := h
  subst e1
  cases r with
  | cons r rr =>
    rw [hs]
    refine assignInOrder_cons (thn (h1 pins s σ H _ _ _ I r h) fun _ s1 hm_ => ?_)
    obtain ⟨σ1, H1, I1, q1⟩ := hm_
    exact h2 pins s1 σ1 H1 _ _ Q I1 rr q1
noncomputable def gTup (K : PySem.W.Frag) (n : Nat) (t : TGs) : TG := fun v σ H Q => ∃ a xs, v = .ref a ∧ SqT K H a xs ∧ xs.length = n ∧ t xs σ H Q
theorem pg_tup {es : List Expr} {k : Nat} {t : TGs} {n : Nat} (hc : X.calm = true) (h : PGs X es t)
    (hn : (assignEach es X.env).length = n := by rfl) (hst : (assignEach es X.env).findIdx? (·.1) = none := by rfl) : PG X (.Tuple es k pos) (gTup X.K n t) := by
  intro pins s σ H v u Q I r hw
  obtain ⟨a, xs, e1, hq, hl, hw⟩ := hw
  subst e1
  cases r
  obtain ⟨its, rv, ht, hz⟩ := I.tuple hq
  refine assign_Tuple_tuple (I.ok.hd hc) ht (by simp [hn, ← hl, rv.length]) hst fun h' hx => ?_
  have I1 : Inv X pins σ H { s with heap := h' } := I.kept (t' := s.toks) fun b o e => hx b o (Nat.ne_of_lt (Heap.lt_size e)) e
  exact h pins _ σ H xs _ Q I1 (by simpa using rv) hw
noncomputable def tAsg (te : TE) (g : TG) : TS := fun D σ H => te σ H fun x H1 => g x σ H1 D.nx
theorem ps_set {i : Nat} {x : Str} {e : Expr} {te : TE} {pos' : Pos} (hN : X.N.Nodup) (hi : X.N[i]? = some x) (hx : Loc X.env.scope x) (he : PE X e te) (hs : swapsWith e (some (.Name x pos')) pos.line X.env = pure false := by rfl) (hf : X.fn x = true ∨ X.env.scope.names.lookup x = some .local := by first | exact .inl rfl | exact .inr rfl | assumption) :
    PS X (.Assign [.Name x pos'] e pos) (tAsg te (gName i)) := by
  intro pins s σ H D I h
  refine wpAny_Assign_Name (thn (he pins s σ H _ I h) fun v s1 hm_ => ?_) hs
  obtain ⟨y, H1, I1, r1, q1⟩ := hm_
  exact store_ok I1 hN hi hx r1 (fun s2 I2 => ⟨_, H1, I2, q1⟩) hf
end

section
variable {X : Cx} {pos : Pos}
end

structure It where
  go : Nat → Hp → Prop
  yld : Nat → Hp → V → Hp → Prop
  stop : Nat → Hp → Prop
noncomputable def FpOk (X : Cx) (pins : List (Addr × Obj)) (H : Hp) (b : Addr) : Prop :=
  H b = none ∧ b ≠ X.env.locals ∧ b ∉ X.fs ∧ (b ∈ X.ex ∨ X.s₀.heap.objs.size ≤ b) ∧ (∀ x c, X.env.cells.lookup x = some c → c ≠ b) ∧ ∀ p ∈ X.pn ++ pins, p.1 ≠ b
theorem Inv.fpOk {X : Cx} {pins : List (Addr × Obj)} {σ : St} {H H' : Hp} {s : Shared} {b : Addr} (I : Inv X pins σ H s) (hb : s.heap.objs.size ≤ b) (hn : H' b = none) : FpOk X pins H' b := by
  refine ⟨hn, Nat.ne_of_gt (Nat.lt_of_lt_of_le I.lt hb), I.nofs hb, .inr (Nat.le_trans I.sz hb), fun x c e z => ?_, fun p hp z => ?_⟩
  · obtain ⟨v, q⟩ := I.cell x c e
    exact absurd (Nat.lt_of_lt_of_le q.lt (by rw [z]; exact hb)) (Nat.lt_irrefl _)
  · exact absurd (Nat.lt_of_lt_of_le (Heap.lt_size (I.pin p hp).1) (by rw [z]; exact hb)) (Nat.lt_irrefl _)
structure Turn (P : Program) (w : World) (K : PySem.W.Frag) (tg : Expr) (J : It) (fp : List Addr) (it : Addr) (tn : Nat → Heap → Prop) : Prop where
  mem : it ∈ fp
  obj : ∀ i h, tn i h → ∀ b ∈ fp, ∃ o, h.get? b = some o ∧ ∀ v, o.data ≠ .cell v
  keep : ∀ i h h', tn i h → (∀ b ∈ fp, ∀ o, h.get? b = some o → h'.get? b = some o) → tn i h'
  item : ∀ (X : Cx), X.prog = P → X.w = w → X.K = K → X.calm = true → ∀ (i : Nat) (pins : List (Addr × Obj)) (s : Shared) (σ : St) (H : Hp) (E : Value → Shared → Prop), Inv X pins σ H s → (∀ b ∈ fp, FpOk X pins H b) → tn i s.heap → J.go i H →
    wpAny (model P w) X.A (pyNext (.ref it)) (fun r s1 => ∃ u, r = some u ∧
      wpAny (model P w) X.A (letOwnedTupleGo tg (.ref it) u) (fun _ s2 => ∃ x H', Inv X pins σ H' s2 ∧ RelV x u ∧ J.yld i H x H' ∧ tn (i + 1) s2.heap ∧ ∀ b ∈ fp, H' b = none) E s1) E s
  done : ∀ (X : Cx), X.prog = P → X.w = w → X.K = K → X.calm = true → ∀ (i : Nat) (pins : List (Addr × Obj)) (s : Shared) (σ : St) (H : Hp) (E : Value → Shared → Prop), Inv X pins σ H s → (∀ b ∈ fp, FpOk X pins H b) → tn i s.heap → J.stop i H →
    wpAny (model P w) X.A (pyNext (.ref it)) (fun r s1 => r = none ∧ Inv X pins σ H s1) E s
  self : ∀ (A : Around) (i : Nat) (s : Shared) (Q : Value → Shared → Prop) (E : Value → Shared → Prop), tn i s.heap → Q (.ref it) s → wpAny (model P w) A (pyIter (.ref it)) Q E s
noncomputable abbrev TI := St → Hp → (It → Hp → Prop) → Prop
noncomputable def PIE (X : Cx) (pins : List (Addr × Obj)) (σ : St) (tg : Expr) (R : It → Hp → Prop) (itv : Value) (s2 : Shared) : Prop :=
  ∃ (it : Addr) (fp : List Addr) (tn : Nat → Heap → Prop) (J : It) (H' : Hp), itv = .ref it ∧ Inv X pins σ H' s2 ∧ Turn X.prog X.w X.K tg J fp it tn ∧ tn 0 s2.heap ∧ (∀ b ∈ fp, FpOk X pins H' b) ∧ R J H'
noncomputable def PI (X : Cx) (tg iter : Expr) (wi : TI) : Prop :=
  ∀ (pins : List (Addr × Obj)) (s : Shared) (σ : St) (H : Hp) (R : It → Hp → Prop), Inv X pins σ H s → wi σ H R →
    wpAny (model X.prog X.w) X.A (eval iter X.env) (fun v s1 => wpAny (model X.prog X.w) X.A (pyIter v) (PIE X pins σ tg R) X.xe s1) X.xe s

theorem go_of {M : Model} {A : Around} {E : Value → Shared → Prop} {s : Shared} {tg : Expr} {it : Addr} {u : Value} {o : Obj} {n : String} {vs : Array Value} {Q : Unit → Shared → Prop} (ho : s.heap.get? it = some o) (hc : o.cls = .type n) (hd : o.data = .fields vs)
    (hn : ["enumerate", "zip", "dict_itemiterator", "dict_reverseitemiterator", "odict_iterator", "itertools.zip_longest", "itertools.pairwise"].contains n = false) (hQ : Q () s) : wpAny M A (letOwnedTupleGo tg (.ref it) u) Q E s := by
  unfold letOwnedTupleGo
  cases tg <;> first
    | exact wpAny_pure hQ
    | (cases u <;> first
        | exact wpAny_pure hQ
        | (refine wpAny_bind (wpAny_load ho ?_)
           rw [hc, hd]
           show wpAny M A (if (["enumerate", "zip", "dict_itemiterator", "dict_reverseitemiterator", "odict_iterator", "itertools.zip_longest", "itertools.pairwise"].contains n && vs[0]? == some (rawInt _)) = true then _ else _) Q E s
           rw [if_neg (by intro h; rw [hn, Bool.false_and] at h; cases h)]
           exact wpAny_pure hQ))

noncomputable def Itl (K : PySem.W.Frag) (a : Addr) : It :=
  ⟨fun i H => ∃ xs x, SqL K H a xs ∧ xs[i]? = some x, fun i H x H' => H' = H ∧ ∀ xs, SqL K H a xs → xs[i]? = some x, fun i H => ∃ xs, SqL K H a xs ∧ xs.length ≤ i⟩
noncomputable def Itt (K : PySem.W.Frag) (a : Addr) : It :=
  ⟨fun i H => ∃ xs x, SqT K H a xs ∧ xs[i]? = some x, fun i H x H' => H' = H ∧ ∀ xs, SqT K H a xs → xs[i]? = some x, fun i H => ∃ xs, SqT K H a xs ∧ xs.length ≤ i⟩
noncomputable def Itr (lo : Int) (n : Nat) : It := ⟨fun i _ => i < n, fun i H x H' => H' = H ∧ x = .int (lo + i), fun i _ => n ≤ i⟩
theorem turn_list {P : Program} {w : World} {K : PySem.W.Frag} {tg : Expr} (a it : Addr) : Turn P w K tg (Itl K a) [it] it (fun i h => h.IsListIter it a i) where
  mem := by simp
  obj := fun i h st b hb => by
    have e : b = it := by simpa using hb
    subst e
    obtain ⟨o, e, c, d⟩ := st
    exact ⟨o, e, fun v z => by rw [d] at z; cases z⟩
  keep := fun i h h' st k => st.at fun o e => k it (by simp) o e
  item := by
    intro X hP hw hK hc i pins s σ H E I hf st hg
    subst hP hw hK
    obtain ⟨xs, x, hq, hx⟩ := hg
    obtain ⟨its, rv, p, hz⟩ := I.list hq
    obtain ⟨u, hu, ru⟩ := rv.get hx
    obtain ⟨f0, f1, f2, f3, f4, f5⟩ := hf it (by simp)
    refine wpAny_pyNext_list_item st p.isList (x := u) (by simpa using hu) fun h' st' sb => ?_
    have I1 : Inv X pins σ H { s with heap := h' } := I.turned (t' := s.toks) (fun b o hb e => (sb.2 b hb).trans e) f0 f1 f3 f4 f5
    obtain ⟨o, e, c, d⟩ := id st'
    exact ⟨u, rfl, go_of (s := { s with heap := h' }) e c d (by decide) ⟨x, H, I1, ru, ⟨rfl, fun ys hy => by rw [I.list_inj hy hq]; exact hx⟩, st', fun b hb => (hf b hb).1⟩⟩
  done := by
    intro X hP hw hK hc i pins s σ H E I hf st hg
    subst hP hw hK
    obtain ⟨xs, hq, hx⟩ := hg
    obtain ⟨its, rv, p, hz⟩ := I.list hq
    obtain ⟨f0, f1, f2, f3, f4, f5⟩ := hf it (by simp)
    have hl := rv.length
    exact wpAny_pyNext_list_end (I.ok.hd hc) st p.isList (by simp; omega) fun h' eb => ⟨rfl, I.turned (t' := s.toks) (fun b o hb e => eb b o hb e) f0 f1 f3 f4 f5⟩
  self := fun _ _ _ _ _ st h => wpAny_pyIter_listiter st h
theorem turn_tuple {P : Program} {w : World} {K : PySem.W.Frag} {tg : Expr} (a it : Addr) : Turn P w K tg (Itt K a) [it] it (fun i h => h.IsTupleIter it a i) where
  mem := by simp
  obj := fun i h st b hb => by
    have e : b = it := by simpa using hb
    subst e
    obtain ⟨o, e, c, d⟩ := st
    exact ⟨o, e, fun v z => by rw [d] at z; cases z⟩
  keep := fun i h h' st k => st.at fun o e => k it (by simp) o e
  item := by
    intro X hP hw hK hc i pins s σ H E I hf st hg
    subst hP hw hK
    obtain ⟨xs, x, hq, hx⟩ := hg
    obtain ⟨its, rv, p, hz⟩ := I.tuple hq
    obtain ⟨u, hu, ru⟩ := rv.get hx
    obtain ⟨f0, f1, f2, f3, f4, f5⟩ := hf it (by simp)
    refine wpAny_pyNext_tuple_item st (show s.heap.IsTuple a its.toArray from p) (x := u) (by simpa using hu) fun h' st' sb => ?_
    have I1 : Inv X pins σ H { s with heap := h' } := I.turned (t' := s.toks) (fun b o hb e => (sb.2 b hb).trans e) f0 f1 f3 f4 f5
    obtain ⟨o, e, c, d⟩ := id st'
    exact ⟨u, rfl, go_of (s := { s with heap := h' }) e c d (by decide) ⟨x, H, I1, ru, ⟨rfl, fun ys hy => by rw [I.tuple_inj hy hq]; exact hx⟩, st', fun b hb => (hf b hb).1⟩⟩
  done := by
    intro X hP hw hK hc i pins s σ H E I hf st hg
    subst hP hw hK
    obtain ⟨xs, hq, hx⟩ := hg
    obtain ⟨its, rv, p, hz⟩ := I.tuple hq
    obtain ⟨f0, f1, f2, f3, f4, f5⟩ := hf it (by simp)
    have hl := rv.length
    exact wpAny_pyNext_tuple_end (I.ok.hd hc) st (show s.heap.IsTuple a its.toArray from p) (by simp; omega) fun h' eb => ⟨rfl, I.turned (t' := s.toks) (fun b o hb e => eb b o hb e) f0 f1 f3 f4 f5⟩
  self := fun _ _ _ _ _ st h => wpAny_pyIter_tupleiter st h
theorem turn_range {P : Program} {w : World} {K : PySem.W.Frag} {tg : Expr} (it : Addr) (lo : Int) (n : Nat) : Turn P w K tg (Itr lo n) [it] it (fun i h => IsRangeIter h it (lo + (i : Nat) * 1) ((n : Int) - (i : Nat)) 1) where
  mem := by simp
  obj := fun i h st b hb => by
    have e : b = it := by simpa using hb
    subst e
    exact ⟨_, st, fun v z => by
      have z' : Data.fields _ = Data.cell v := z
      cases z'⟩
  keep := fun i h h' st k => k it (by simp) _ st
  item := by
    intro X hP hw hK hc i pins s σ H E I hf st hg
    subst hP hw hK
    obtain ⟨f0, f1, f2, f3, f4, f5⟩ := hf it (by simp)
    have W := Walks.range (prog := X.prog) (w := X.w) (I.ok.hd hc) it lo 1 n
    refine W.item i s _ _ hg st fun v h' tk hv st' kk => ?_
    obtain ⟨t, rfl⟩ := hv
    have I1 : Inv X pins σ H { s with heap := h', toks := tk } := I.turned (fun b o hb e => kk b o (by simpa using hb) e) f0 f1 f3 f4 f5
    refine ⟨_, rfl, go_of (s := { s with heap := h', toks := tk }) (n := "range_iterator") st' rfl rfl (by decide) ⟨.int (lo + i), H, I1, ⟨t, ?_⟩, ⟨rfl, rfl⟩, st', fun b hb => (hf b hb).1⟩⟩
    rw [Int.mul_one]
  done := by
    intro X hP hw hK hc i pins s σ H E I hf st hg
    subst hP hw hK
    obtain ⟨f0, f1, f2, f3, f4, f5⟩ := hf it (by simp)
    exact wpAny_pyNext_range_end (I.ok.hd hc) st (by have : n ≤ i := hg; omega) fun h' eb => ⟨rfl, I.turned (t' := s.toks) (fun b o hb e => eb b o hb e) f0 f1 f3 f4 f5⟩
  self := fun _ _ _ _ _ st h => wpAny_pyIter_rangeiter st h
end L2

namespace L2
open PySem PySem.Spec PyProof.Rows
section
variable {X : Cx} {tg : Expr}
inductive IterL (S : Addr → List V → Prop) (x : V) (R : Addr → Prop) : Prop
  | mk (a : Addr) (h : x = .ref a) (s : ∃ xs, S a xs) (q : R a) : IterL S x R
noncomputable def iList (K : PySem.W.Frag) (tl : TE) : TI := fun σ H R => tl σ H fun x H1 => IterL (SqL K H1) x fun a => R (Itl K a) H1
noncomputable def iTup (K : PySem.W.Frag) (tl : TE) : TI := fun σ H R => tl σ H fun x H1 => ∃ a, x = .ref a ∧ (∃ xs, SqT K H1 a xs) ∧ R (Itt K a) H1
theorem pi_list {l : Expr} {tl : TE} (hl : PE X l tl) : PI X tg l (iList X.K tl) := by
  intro pins s σ H R I h
  refine thn (hl pins s σ H _ I h) fun v s1 hm_ => ?_
  obtain ⟨x, H1, I1, r1, q1⟩ := hm_
  obtain ⟨a, e, ⟨xs, hq⟩, q⟩ := q1
  subst e
  cases r1
  obtain ⟨its, rv, p, hz⟩ := I1.list hq
  refine wpAny_pyIter_list p.isList ?_
  refine ⟨s1.heap.objs.size, [s1.heap.objs.size], _, _, H1, rfl, I1.kept (t' := s1.toks) fun b o e => Heap.get?_push_of_some _ e, turn_list a _, ⟨_, Heap.get?_push_size _ rfl, rfl, rfl⟩, fun b hb => ?_, q⟩
  have e : b = s1.heap.objs.size := by simpa using hb
  subst e
  exact I1.fpOk (Nat.le_refl _) (I1.hok.fresh (Nat.le_refl _))
theorem pi_tup {l : Expr} {tl : TE} (hl : PE X l tl) : PI X tg l (iTup X.K tl) := by
  intro pins s σ H R I h
  refine thn (hl pins s σ H _ I h) fun v s1 hm_ => ?_
  obtain ⟨x, H1, I1, r1, q1⟩ := hm_
  obtain ⟨a, e, ⟨xs, hq⟩, q⟩ := q1
  subst e
  cases r1
  obtain ⟨its, rv, p, hz⟩ := I1.tuple hq
  refine wpAny_pyIter_tuple (show s1.heap.IsTuple a its.toArray from p) ?_
  refine ⟨s1.heap.objs.size, [s1.heap.objs.size], _, _, H1, rfl, I1.kept (t' := s1.toks) fun b o e => Heap.get?_push_of_some _ e, turn_tuple a _, ⟨_, Heap.get?_push_size _ rfl, rfl, rfl⟩, fun b hb => ?_, q⟩
  have e : b = s1.heap.objs.size := by simpa using hb
  subst e
  exact I1.fpOk (Nat.le_refl _) (I1.hok.fresh (Nat.le_refl _))
theorem range_it {pins : List (Addr × Obj)} {σ : St} {H : Hp} {s : Shared} {R : It → Hp → Prop} {E : Value → Shared → Prop} {lo hi : Int} {t u v : Tok} {tk : Nat} (I : Inv X pins σ H s) (h1 : -(2 ^ 62) ≤ lo) (h2 : lo < 2 ^ 62) (h3 : -(2 ^ 62) ≤ hi) (h4 : hi < 2 ^ 62)
    (q : R (Itr lo (hi - lo).toNat) H) : wpAny (model X.prog X.w) X.A (pyIter (.ref s.heap.objs.size)) (PIE X pins σ tg R) E { s with heap := s.heap.push { cls := .type "range", data := .fields #[.int lo t, .int hi u, .int 1 v] }, toks := tk } := by
  refine wpAny_pyIter_range (IsRange.new ..) (small_one h1 h2 h3 h4) ?_
  have I1 : Inv X pins σ H { s with heap := s.heap.push { cls := .type "range", data := .fields #[.int lo t, .int hi u, .int 1 v] }, toks := tk } := I.kept fun b o e => Heap.get?_push_of_some _ e
  refine ⟨(s.heap.push { cls := .type "range", data := .fields #[.int lo t, .int hi u, .int 1 v] }).objs.size, [(s.heap.push { cls := .type "range", data := .fields #[.int lo t, .int hi u, .int 1 v] }).objs.size], _, _, H, rfl,
    I1.kept (t' := tk) fun b o e => Heap.get?_push_of_some _ e, turn_range _ lo (hi - lo).toNat, ?_, fun b hb => ?_, q⟩
  · have e1 : lo + ((0 : Nat) : Int) * 1 = lo := by simp
    have e2 : (((hi - lo).toNat : Nat) : Int) - ((0 : Nat) : Int) = Builtin.Range.rangeSize lo hi 1 := by rw [rangeSize_one]; split <;> omega
    show IsRangeIter _ _ (lo + ((0 : Nat) : Int) * 1) ((((hi - lo).toNat : Nat) : Int) - ((0 : Nat) : Int)) 1
    rw [e1, e2]
    exact Heap.get?_push_size _ rfl
  · have e : b = (s.heap.push { cls := .type "range", data := .fields #[.int lo t, .int hi u, .int 1 v] }).objs.size := by simpa using hb
    subst e
    exact I1.fpOk (Nat.le_refl _) (I1.hok.fresh (Nat.le_refl _))
inductive RngJ (vs : List V) (R : Int → Prop) : Prop
  | mk (j : Int) (h : vs = [.int j]) (l : -(2 ^ 62) ≤ j) (u : j < 2 ^ 62) (q : R j) : RngJ vs R
noncomputable def iRng1 (ta : TA) : TI := fun σ H R => ta σ H fun vs H1 => RngJ vs fun j => R (Itr 0 j.toNat) H1
theorem pi_range1 {a : Expr} {ta : TA} {p pos : Pos} (hg : Gl X "range") (hm : X.mg "range" = none) (ha : PA X [a] ta) (hs : starEach [a] X.env = [(false, eval a X.env)] := by rfl) : PI X tg (.Call (.Name "range" p) [a] [] pos) (iRng1 ta) := by
  intro pins s σ H R I h
  refine Call_ (ld_blt I hg hm boot_range (PyProof.Rows.callWith_type1 (thn (ha pos pins s σ H _ I h) fun us s1 hm_ => ?_) hs rfl))
  obtain ⟨vs, H1, I1, r1, q1⟩ := hm_
  obtain ⟨j, e, q1, q2, q⟩ := q1
  subst e
  cases r1 with
  | cons r rr =>
    cases rr
    obtain ⟨t, rfl⟩ := r
    exact call_range_1 (range_it I1 (by omega) (by omega) q1 q2 (by simpa using q))
noncomputable def tFor (wi : TI) (g : TG) (tb : TS) : TS := fun D σ H => wi σ H fun J H1 => ∃ W : Nat → Nat → St → Hp → Prop, (∃ m, W 0 m σ H1) ∧ ∀ i m σ H, W i m σ H →
  (J.stop i H ∧ D.nx σ H) ∨ (J.go i H ∧ ∃ N : St → Hp → Prop, (∀ σ' H', N σ' H' → ∃ m', m' < m ∧ W (i + 1) m' σ' H') ∧ ∀ x H', J.yld i H x H' → g x σ H' fun σ2 H2 => tb { D with nx := N, ct := N, bk := D.nx } σ2 H2)
noncomputable def pinsAt (fp : List Addr) (h : Heap) : List (Addr × Obj) := fp.filterMap fun b => (h.get? b).map fun o => (b, o)
theorem mem_pinsAt {fp : List Addr} {h : Heap} {b : Addr} {o : Obj} (hb : b ∈ fp) (e : h.get? b = some o) : (b, o) ∈ pinsAt fp h := List.mem_filterMap.mpr ⟨b, hb, by rw [e]; rfl⟩
theorem of_pinsAt {fp : List Addr} {h : Heap} {p : Addr × Obj} (hp : p ∈ pinsAt fp h) : p.1 ∈ fp ∧ h.get? p.1 = some p.2 := by
  obtain ⟨b, hb, e⟩ := List.mem_filterMap.mp hp
  cases q : h.get? b with
  | none => rw [q] at e; cases e
  | some o =>
    rw [q] at e
    have e' : (b, o) = p := Option.some.inj e
    subst e'
    exact ⟨hb, q⟩
theorem Inv.pinned {pins : List (Addr × Obj)} {σ : St} {H : Hp} {s : Shared} {fp : List Addr} (I : Inv X pins σ H s) (hf : ∀ b ∈ fp, FpOk X pins H b) (ho : ∀ b ∈ fp, ∃ o, s.heap.get? b = some o ∧ ∀ v, o.data ≠ .cell v) : Inv X (pins ++ pinsAt fp s.heap) σ H s :=
  I.pins_of fun p hp => (List.mem_append.mp hp).elim (fun z => I.pin p (List.mem_append_right _ z)) fun z => by
    obtain ⟨hb, e⟩ := of_pinsAt z
    obtain ⟨f0, f1, f2, _⟩ := hf p.1 hb
    obtain ⟨o, e', d⟩ := ho p.1 hb
    rw [e] at e'; cases e'
    exact ⟨e, f0, f1, f2, d⟩
theorem Inv.unpinned {pins pl : List (Addr × Obj)} {σ : St} {H : Hp} {s : Shared} (I : Inv X (pins ++ pl) σ H s) : Inv X pins σ H s := I.pins_of fun p hp => I.pin p (List.mem_append_right _ (List.mem_append_left _ hp))
theorem ps_for {iter : Expr} {body : List Stmt} {wi : TI} {g : TG} {tb : TS} {pos : Pos} (hp : PassesOwn (model X.prog X.w) X.A X.env X.xe) (hc : X.calm = true) (hi : PI X tg iter wi) (hg : PG X tg g) (hb : PSs X body tb)
    (hs : ∀ x, foldedSetIterable iter X.env x = pure x := by intro _; rfl) : PS X (.For tg iter body [] pos) (tFor wi g tb) := by
  intro pins s σ H D I h
  refine wpAny_For (thn (hi pins s σ H _ I h) fun v s1 h1 => thn h1 fun itv s2 h2 => ?_) hs
  obtain ⟨it, fp, tn, J, H2, e, I2, T, st2, f2, W, ⟨m0, w0⟩, turn⟩ := h2
  subst e
  -- what stays true of the iterator's objects through the loop
  have stat : ∀ {H' : Hp}, (∀ b ∈ fp, H' b = none) → ∀ b ∈ fp, FpOk X pins H' b := fun hn b hb => ⟨hn b hb, (f2 b hb).2⟩
  refine codeAny_forLoop_any (fun n s' => ∃ i σ' H', Inv X pins σ' H' s' ∧ tn i s'.heap ∧ (∀ b ∈ fp, H' b = none) ∧ W i n σ' H') ?_ m0 ⟨0, σ, H2, I2, st2, fun b hb => (f2 b hb).1, w0⟩
  intro n s3 hz_
  obtain ⟨i, σ3, H3, I3, st3, fr3, w3⟩ := hz_
  obtain ⟨stop, qn⟩ | ⟨go, N, hN, step⟩ := turn i n σ3 H3 w3
  · refine wpAny_passesOwn hp (thn (T.done X rfl rfl rfl hc i pins s3 σ3 H3 X.xe I3 (stat fr3) st3 stop) fun r s4 hm_ => ?_)
    obtain ⟨hr, I4⟩ := hm_
    subst hr
    exact wpAny_execs_nil ⟨σ3, H3, I4, qn⟩
  · refine wpAny_passesOwn hp (thn (T.item X rfl rfl rfl hc i pins s3 σ3 H3 X.xe I3 (stat fr3) st3 go) fun r s4 hm_ => ?_)
    obtain ⟨u, hr, h4⟩ := hm_
    subst hr
    refine wpAny_passesOwn hp (thn h4 fun _ s5 hm_ => ?_)
    obtain ⟨x, H5, I5, r5, y5, st5, fr5⟩ := hm_
    have I5' := I5.pinned (stat fr5) (T.obj _ _ st5)
    refine wpAny_passesOwn hp (thn (hg _ s5 σ3 H5 x u _ I5' r5 (step x H5 y5)) fun _ s6 hm_ => ?_)
    obtain ⟨σ6, H6, I6, q6⟩ := hm_
    refine wpAny_passesOwn hp (thn (hb _ s6 σ6 H6 _ I6 q6) fun f s7 q7 => ?_)
    have again : ∀ {σ7 : St} {H7 : Hp}, Inv X (pins ++ pinsAt fp s5.heap) σ7 H7 s7 → N σ7 H7 → ∃ m, m < n ∧ ∃ i σ' H', Inv X pins σ' H' s7 ∧ tn i s7.heap ∧ (∀ b ∈ fp, H' b = none) ∧ W i m σ' H' := fun {σ7 H7} I7 n7 => by
      obtain ⟨m', hm, w7⟩ := hN σ7 H7 n7
      refine ⟨m', hm, i + 1, σ7, H7, I7.unpinned, T.keep _ _ _ st5 fun b hb o e => (I7.pin (b, o) (List.mem_append_right _ (List.mem_append_right _ (mem_pinsAt hb e)))).1, fun b hb => ?_, w7⟩
      obtain ⟨o, e, d⟩ := T.obj _ _ st5 b hb
      exact (I7.pin (b, o) (List.mem_append_right _ (List.mem_append_right _ (mem_pinsAt hb e)))).2.1
    cases f with
    | next => obtain ⟨σ7, H7, I7, n7⟩ := q7; exact again I7 n7
    | cont => obtain ⟨σ7, H7, I7, n7⟩ := q7; exact again I7 n7
    | brk => obtain ⟨σ7, H7, I7, q7⟩ := q7; exact ⟨σ7, H7, I7.unpinned, q7⟩
    | ret v => obtain ⟨x7, σ7, H7, I7, r7, q7⟩ := q7; exact ⟨x7, σ7, H7, I7.unpinned, r7, q7⟩
end

theorem for_list {K : PySem.W.Frag} {a : Addr} {xs : List V} {g : TG} {tb : TS} {D : Ends} {σ : St} {H : Hp} (Pv : Nat → St → Hp → Prop) (h0 : Pv 0 σ H) (hl : ∀ i σ H, i ≤ xs.length → Pv i σ H → SqL K H a xs)
    (hs : ∀ i x σ H, xs[i]? = some x → Pv i σ H → g x σ H fun σ2 H2 => tb { D with nx := Pv (i + 1), ct := Pv (i + 1), bk := D.nx } σ2 H2) (hd : ∀ σ H, Pv xs.length σ H → D.nx σ H) :
    ∃ W : Nat → Nat → St → Hp → Prop, (∃ m, W 0 m σ H) ∧ ∀ i m σ H, W i m σ H →
      ((Itl K a).stop i H ∧ D.nx σ H) ∨ ((Itl K a).go i H ∧ ∃ N : St → Hp → Prop, (∀ σ' H', N σ' H' → ∃ m', m' < m ∧ W (i + 1) m' σ' H') ∧ ∀ x H', (Itl K a).yld i H x H' → g x σ H' fun σ2 H2 => tb { D with nx := N, ct := N, bk := D.nx } σ2 H2) := by
  refine ⟨fun i m σ H => m = xs.length - i ∧ i ≤ xs.length ∧ Pv i σ H, ⟨xs.length, by simp, Nat.zero_le _, h0⟩, ?_⟩
  intro i m σ H hz_
  obtain ⟨rfl, hi, p⟩ := hz_
  have q := hl i σ H hi p
  by_cases hlt : i < xs.length
  · refine .inr ⟨⟨xs, xs[i], q, by simp [hlt]⟩, Pv (i + 1), fun σ' H' p' => ⟨xs.length - (i + 1), by omega, rfl, hlt, p'⟩, fun x H' y => ?_⟩
    obtain ⟨e, y⟩ := y
    subst e
    exact hs i x σ _ (y xs q) p
  · have e : i = xs.length := by omega
    subst e
    exact .inl ⟨⟨xs, q, Nat.le_refl _⟩, hd σ H p⟩
theorem for_tup {K : PySem.W.Frag} {a : Addr} {xs : List V} {g : TG} {tb : TS} {D : Ends} {σ : St} {H : Hp} (Pv : Nat → St → Hp → Prop) (h0 : Pv 0 σ H) (hl : ∀ i σ H, i ≤ xs.length → Pv i σ H → SqT K H a xs)
    (hs : ∀ i x σ H, xs[i]? = some x → Pv i σ H → g x σ H fun σ2 H2 => tb { D with nx := Pv (i + 1), ct := Pv (i + 1), bk := D.nx } σ2 H2) (hd : ∀ σ H, Pv xs.length σ H → D.nx σ H) :
    ∃ W : Nat → Nat → St → Hp → Prop, (∃ m, W 0 m σ H) ∧ ∀ i m σ H, W i m σ H →
      ((Itt K a).stop i H ∧ D.nx σ H) ∨ ((Itt K a).go i H ∧ ∃ N : St → Hp → Prop, (∀ σ' H', N σ' H' → ∃ m', m' < m ∧ W (i + 1) m' σ' H') ∧ ∀ x H', (Itt K a).yld i H x H' → g x σ H' fun σ2 H2 => tb { D with nx := N, ct := N, bk := D.nx } σ2 H2) := by
  refine ⟨fun i m σ H => m = xs.length - i ∧ i ≤ xs.length ∧ Pv i σ H, ⟨xs.length, by simp, Nat.zero_le _, h0⟩, ?_⟩
  intro i m σ H hz_
  obtain ⟨rfl, hi, p⟩ := hz_
  have q := hl i σ H hi p
  by_cases hlt : i < xs.length
  · refine .inr ⟨⟨xs, xs[i], q, by simp [hlt]⟩, Pv (i + 1), fun σ' H' p' => ⟨xs.length - (i + 1), by omega, rfl, hlt, p'⟩, fun x H' y => ?_⟩
    obtain ⟨e, y⟩ := y
    subst e
    exact hs i x σ _ (y xs q) p
  · have e : i = xs.length := by omega
    subst e
    exact .inl ⟨⟨xs, q, Nat.le_refl _⟩, hd σ H p⟩
theorem for_range {lo : Int} {n : Nat} {g : TG} {tb : TS} {D : Ends} {σ : St} {H : Hp} (Pv : Nat → St → Hp → Prop) (h0 : Pv 0 σ H)
    (hs : ∀ i σ H, i < n → Pv i σ H → g (.int (lo + i)) σ H fun σ2 H2 => tb { D with nx := Pv (i + 1), ct := Pv (i + 1), bk := D.nx } σ2 H2) (hd : ∀ σ H, Pv n σ H → D.nx σ H) :
    ∃ W : Nat → Nat → St → Hp → Prop, (∃ m, W 0 m σ H) ∧ ∀ i m σ H, W i m σ H →
      ((Itr lo n).stop i H ∧ D.nx σ H) ∨ ((Itr lo n).go i H ∧ ∃ N : St → Hp → Prop, (∀ σ' H', N σ' H' → ∃ m', m' < m ∧ W (i + 1) m' σ' H') ∧ ∀ x H', (Itr lo n).yld i H x H' → g x σ H' fun σ2 H2 => tb { D with nx := N, ct := N, bk := D.nx } σ2 H2) := by
  refine ⟨fun i m σ H => m = n - i ∧ i ≤ n ∧ Pv i σ H, ⟨n, by simp, Nat.zero_le _, h0⟩, ?_⟩
  intro i m σ H hz_
  obtain ⟨rfl, hi, p⟩ := hz_
  by_cases hlt : i < n
  · refine .inr ⟨hlt, Pv (i + 1), fun σ' H' p' => ⟨n - (i + 1), by omega, rfl, hlt, p'⟩, fun x H' y => ?_⟩
    obtain ⟨e, y⟩ := y
    subst e y
    exact hs i σ _ hlt p
  · have e : i = n := by omega
    subst e
    exact .inl ⟨Nat.le_refl _, hd σ H p⟩
end L2

namespace L2
open PySem PySem.Spec PyProof.Rows

noncomputable abbrev R2 := V → V → Hp → VK → Prop
noncomputable def OpR (X : Cx) (f : Value → Value → Sem Value) (r : R2) : Prop :=
  ∀ (pins : List (Addr × Obj)) (s : Shared) (σ : St) (H : Hp) (x y : V) (v u : Value) (Q : VK), Inv X pins σ H s → RelV x v → RelV y u → r x y H Q →
    wpAny (model X.prog X.w) X.A (f v u) (EP X pins σ Q) X.xe s
noncomputable def UnR (X : Cx) (f : Value → Sem Value) (r : V → Hp → VK → Prop) : Prop :=
  ∀ (pins : List (Addr × Obj)) (s : Shared) (σ : St) (H : Hp) (x : V) (v : Value) (Q : VK), Inv X pins σ H s → RelV x v → r x H Q →
    wpAny (model X.prog X.w) X.A (f v) (EP X pins σ Q) X.xe s
noncomputable def CallR (X : Cx) (f : Value) (r : List V → Hp → VK → Prop) : Prop :=
  ∀ (pins : List (Addr × Obj)) (s : Shared) (σ : St) (H : Hp) (xs : List V) (us : List Value) (Q : VK), Inv X pins σ H s → Vals xs us → r xs H Q →
    wpAny (model X.prog X.w) X.A (call f us) (EP X pins σ Q) X.xe s
noncomputable def tOp (r : R2) (ta tb : TE) : TE := fun σ H Q => ta σ H fun x H1 => tb σ H1 fun y H2 => r x y H2 Q
noncomputable def tUn (r : V → Hp → VK → Prop) (ta : TE) : TE := fun σ H Q => ta σ H fun x H1 => r x H1 Q
inductive TwoC (C : Int → Int → Prop) (x y : V) (Q : Int → Int → Prop) : Prop
  | mk (i j : Int) (h1 : x = .int i) (h2 : y = .int j) (c : C i j) (q : Q i j) : TwoC C x y Q
noncomputable def rI (C : Int → Int → Prop) (g : Int → Int → V) : R2 := fun x y H Q => TwoC C x y fun i j => Q (g i j) H
inductive TwoI (x y : V) (Q : Int → Int → Prop) : Prop
  | mk (i j : Int) (h1 : x = .int i) (h2 : y = .int j) (q : Q i j) : TwoI x y Q
noncomputable def rI0 (g : Int → Int → V) : R2 := fun x y H Q => TwoI x y fun i j => Q (g i j) H
inductive IsInt (x : V) (Q : Int → Prop) : Prop
  | mk (i : Int) (h : x = .int i) (q : Q i) : IsInt x Q
noncomputable def rU (g : Int → V) : V → Hp → VK → Prop := fun x H Q => IsInt x fun i => Q (g i) H

section
variable {X : Cx} {a b c : Expr} {ta tb tc : TE} {pos : Pos}

theorem binT (ha : PE X a ta) (hb : PE X b tb) {pins : List (Addr × Obj)} {s : Shared} {σ : St} {H : Hp} {R : V → V → Hp → Prop} (I : Inv X pins σ H s)
    (h : ta σ H fun x H1 => tb σ H1 fun y H2 => R x y H2) {Q : Value → Shared → Prop} {f : Value → Value → Sem Value}
    (hf : ∀ v u s2 x y H2, Inv X pins σ H2 s2 → RelV x v → RelV y u → R x y H2 → wpAny (model X.prog X.w) X.A (f v u) Q X.xe s2) :
    wpAny (model X.prog X.w) X.A (eval a X.env) (fun v s₁ => wpAny (model X.prog X.w) X.A (eval b X.env) (fun u s₂ => wpAny (model X.prog X.w) X.A (f v u) Q X.xe s₂) X.xe s₁) X.xe s := by
  refine thn (ha pins s σ H _ I h) fun v s1 hm_ => ?_
  obtain ⟨x, H1, I1, r1, q1⟩ := hm_
  refine thn (hb pins s1 σ H1 _ I1 q1) fun u s2 hm_ => ?_
  obtain ⟨y, H2, I2, r2, q2⟩ := hm_
  exact hf v u s2 x y H2 I2 r1 r2 q2

theorem pe_op {op : Operator} {r : R2} (ho : OpR X (binaryOp op) r) (ha : PE X a ta) (hb : PE X b tb) : PE X (.BinOp a op b pos) (tOp r ta tb) := by
  intro pins s σ H Q I h
  exact wpAny_BinOp (binT ha hb I h fun v u s2 x y H2 I2 rx ry q => ho pins s2 σ H2 x y v u Q I2 rx ry q)
theorem pe_un {op : UnaryOp} {r : V → Hp → VK → Prop} (ho : UnR X (unaryOp op) r) (ha : PE X a ta) : PE X (.UnaryOp op a pos) (tUn r ta) := by
  intro pins s σ H Q I h
  exact UnaryOp_ (thn (ha pins s σ H _ I h) fun v s1 ⟨x, H1, I1, r1, q1⟩ => ho pins s1 σ H1 x v Q I1 r1 q1)
theorem opI {f : Value → Value → Sem Value} {C : Int → Int → Prop} {g : Int → Int → Int}
    (rule : ∀ (i j : Int) (t u : Tok) (s : Shared) (Q : Value → Shared → Prop) (E : Value → Shared → Prop), C i j → Q (.int (g i j) s.toks) { s with toks := s.toks + 1 } → wpAny (model X.prog X.w) X.A (f (.int i t) (.int j u)) Q E s) :
    OpR X f (rI C fun i j => .int (g i j)) := by
  intro pins s σ H x y v u Q I rx ry h
  obtain ⟨i, j, rfl, rfl, hc, q⟩ := h
  obtain ⟨t, rfl⟩ := rx
  obtain ⟨t', rfl⟩ := ry
  exact rule i j t t' s _ _ hc ⟨.int (g i j), H, I.tok _, ⟨_, rfl⟩, q⟩
theorem opI0 {f : Value → Value → Sem Value} {g : Int → Int → Int}
    (rule : ∀ (i j : Int) (t u : Tok) (s : Shared) (Q : Value → Shared → Prop) (E : Value → Shared → Prop), Q (.int (g i j) s.toks) { s with toks := s.toks + 1 } → wpAny (model X.prog X.w) X.A (f (.int i t) (.int j u)) Q E s) :
    OpR X f (rI0 fun i j => .int (g i j)) := by
  intro pins s σ H x y v u Q I rx ry h
  obtain ⟨i, j, rfl, rfl, q⟩ := h
  obtain ⟨t, rfl⟩ := rx
  obtain ⟨t', rfl⟩ := ry
  exact rule i j t t' s _ _ ⟨.int (g i j), H, I.tok _, ⟨_, rfl⟩, q⟩
theorem opB0 {f : Value → Value → Sem Value} {g : Int → Int → Bool}
    (rule : ∀ (i j : Int) (t u : Tok) (s : Shared) (Q : Value → Shared → Prop) (E : Value → Shared → Prop), Q (.bool (g i j)) s → wpAny (model X.prog X.w) X.A (f (.int i t) (.int j u)) Q E s) :
    OpR X f (rI0 fun i j => .bl (g i j)) := by
  intro pins s σ H x y v u Q I rx ry h
  obtain ⟨i, j, rfl, rfl, q⟩ := h
  obtain ⟨t, rfl⟩ := rx
  obtain ⟨t', rfl⟩ := ry
  exact rule i j t t' s _ _ ⟨.bl (g i j), H, I, rfl, q⟩

noncomputable def CDiv (i j : Int) : Prop := 0 < j ∧ j < 1073741824
noncomputable def CPow (i j : Int) : Prop := 0 ≤ j ∧ j ≤ 1000000 ∧ i.natAbs < 2 ^ 64
noncomputable def CMul (i j : Int) : Prop := (-(2 ^ 64) < i ∧ i < 2 ^ 64) ∨ (-(2 ^ 64) < j ∧ j < 2 ^ 64)
theorem CMul.ok {i j : Int} (h : CMul i j) : IntMulOk i j := by
  obtain ⟨h1, h2⟩ | ⟨h1, h2⟩ := h
  · exact .of_left (intBits_le_64 h1 h2)
  · exact .of_right (intBits_le_64 h1 h2)
theorem op_add : OpR X (binaryOp .Add) (rI0 fun i j => .int (i + j)) := opI0 fun _ _ _ _ _ _ _ q => add_int q
theorem op_sub : OpR X (binaryOp .Sub) (rI0 fun i j => .int (i - j)) := opI0 fun _ _ _ _ _ _ _ q => sub_int q
theorem op_mul : OpR X (binaryOp .Mult) (rI CMul fun i j => .int (i * j)) := opI fun _ _ _ _ _ _ _ hc q => mul_int q hc.ok
theorem op_fdiv : OpR X (binaryOp .FloorDiv) (rI CDiv fun i j => .int (i / j)) := opI fun i j _ _ _ _ _ hc q => by
  have h1 : (0 : Int) < j := hc.1
  have h2 : j < 1073741824 := hc.2
  exact floordiv_int (by omega) (by rw [Int.fdiv_eq_ediv_of_nonneg i (by omega)]; exact q) (.inl (PyProof.noPylong_small (by omega)))
theorem op_mod : OpR X (binaryOp .Mod) (rI (fun _ j => 0 < j) fun i j => .int (i % j)) := opI fun i j _ _ _ _ _ hc q => by
  have h1 : (0 : Int) < j := hc
  exact mod_int' (by omega) (by rw [Int.fmod_eq_emod_of_nonneg i (by omega)]; exact q)
theorem op_pow : OpR X (binaryOp .Pow) (rI CPow fun i j => .int (i ^ j.toNat)) := opI fun _ _ _ _ _ _ _ hc q => pow_int_small hc.1 hc.2.1 hc.2.2 q
theorem op_shl : OpR X (binaryOp .LShift) (rI CPow fun i j => .int (i * 2 ^ j.toNat)) := opI fun _ _ _ _ _ _ _ hc q => lshift_int_small hc.1 hc.2.1 hc.2.2 q
theorem op_and : OpR X (binaryOp .BitAnd) (rI0 fun i j => .int (Builtin.bitAnd i j)) := opI0 fun _ _ _ _ _ _ _ q => and_int q
theorem unI {f : Value → Sem Value} {g : Int → Int}
    (rule : ∀ (i : Int) (t : Tok) (s : Shared) (Q : Value → Shared → Prop) (E : Value → Shared → Prop), Q (.int (g i) s.toks) { s with toks := s.toks + 1 } → wpAny (model X.prog X.w) X.A (f (.int i t)) Q E s) :
    UnR X f (rU fun i => .int (g i)) := by
  intro pins s σ H x v Q I rx h
  obtain ⟨i, rfl, q⟩ := h
  obtain ⟨t, rfl⟩ := rx
  exact rule i t s _ _ ⟨.int (g i), H, I.tok _, ⟨_, rfl⟩, q⟩
theorem un_neg : UnR X (unaryOp .USub) (rU fun i => .int (-i)) := unI fun _ _ _ _ _ q => neg_int q
end

noncomputable def scal : V → V → Bool
  | .non, .non => true | .non, .int _ => true | .int _, .non => true | .non, .bl _ => true | .bl _, .non => true | .non, .str _ => true | .str _, .non => true
  | .int _, .int _ => true | .bl _, .bl _ => true | .str _, .str _ => true | .byt _, .byt _ => true
  | .int _, .str _ => true | .str _, .int _ => true | .bl _, .str _ => true | .str _, .bl _ => true
  | _, _ => false
noncomputable def rEq : R2 := fun x y H Q => scal x y = true ∧ Q (.bl (decide (x = y))) H
noncomputable def rNe : R2 := fun x y H Q => scal x y = true ∧ Q (.bl (!decide (x = y))) H

theorem dec_int {i j : Int} : decide (V.int i = V.int j) = (i == j) := by
  rw [Bool.eq_iff_iff]
  simp
theorem dec_bl {i j : Bool} : decide (V.bl i = V.bl j) = (i == j) := by
  rw [Bool.eq_iff_iff]
  simp
theorem dec_str {i j : Str} : decide (V.str i = V.str j) = (i == j) := by
  rw [Bool.eq_iff_iff]
  simp
theorem dec_byt {i j : Array UInt8} : decide (V.byt i = V.byt j) = (i.toList == j.toList) := by
  rw [Bool.eq_iff_iff]
  cases i
  cases j
  simp

section
variable {X : Cx} {a b c : Expr} {ta tb tc : TE} {pos : Pos}
theorem fin_bl {pins : List (Addr × Obj)} {σ : St} {H : Hp} {s : Shared} {Q : VK} {k k' : Bool} (I : Inv X pins σ H s) (q : Q (.bl k) H) (e : k = k') : EP X pins σ Q (.bool k') s := by
  subst e
  exact ⟨.bl k, H, I, rfl, q⟩
theorem op_eq : OpR X (compareOp .Eq) rEq := by
  intro pins s σ H x y v u Q I rx ry h
  obtain ⟨hs, q⟩ := h
  cases x with
  | non =>
    cases rx
    cases y with
    | non => cases ry; exact PySem.EqNone.eq_none_none (fin_bl I q (by simp))
    | bl j => cases ry; exact PySem.EqNone.eq_none_bool (fin_bl I q (by simp))
    | int j => obtain ⟨t', rfl⟩ := ry; exact PySem.EqNone.eq_none_int (fin_bl I q (by simp))
    | str j => obtain ⟨t', rfl⟩ := ry; exact PySem.EqNone.eq_none_str (fin_bl I q (by simp))
    | _ => exact absurd (show false = true from hs) Bool.false_ne_true
  | bl i =>
    cases rx
    cases y with
    | non => cases ry; exact PySem.EqNone.eq_bool_none (fin_bl I q (by simp))
    | bl j => cases ry; exact eq_bool (fin_bl I q dec_bl)
    | str j => obtain ⟨t', rfl⟩ := ry; exact PySem.EqMixed.eq_bool_str (fin_bl I q (by simp))
    | _ => exact absurd (show false = true from hs) Bool.false_ne_true
  | int i =>
    obtain ⟨t, rfl⟩ := rx
    cases y with
    | non => cases ry; exact PySem.EqNone.eq_int_none (fin_bl I q (by simp))
    | int j => obtain ⟨t', rfl⟩ := ry; exact eq_int (fin_bl I q dec_int)
    | str j => obtain ⟨t', rfl⟩ := ry; exact PySem.EqMixed.eq_int_str (fin_bl I q (by simp))
    | _ => exact absurd (show false = true from hs) Bool.false_ne_true
  | str i =>
    obtain ⟨t, rfl⟩ := rx
    cases y with
    | non => cases ry; exact PySem.EqNone.eq_str_none (fin_bl I q (by simp))
    | bl j => cases ry; exact PySem.EqMixed.eq_str_bool (fin_bl I q (by simp))
    | int j => obtain ⟨t', rfl⟩ := ry; exact PySem.EqMixed.eq_str_int (fin_bl I q (by simp))
    | str j => obtain ⟨t', rfl⟩ := ry; exact eq_str (fin_bl I q dec_str)
    | _ => exact absurd (show false = true from hs) Bool.false_ne_true
  | byt i =>
    obtain ⟨t, rfl⟩ := rx
    cases y with
    | byt j => obtain ⟨t', rfl⟩ := ry; exact PySem.W.eq_bytes (fin_bl I q dec_byt)
    | _ => exact absurd (show false = true from hs) Bool.false_ne_true
  | _ => cases y <;> exact absurd (show false = true from hs) Bool.false_ne_true
theorem op_ne : OpR X (compareOp .NotEq) rNe := by
  intro pins s σ H x y v u Q I rx ry h
  obtain ⟨hs, q⟩ := h
  cases x with
  | non =>
    cases rx
    cases y with
    | non => cases ry; exact PySem.EqNone.ne_none_none (fin_bl I q (by simp))
    | bl j => cases ry; exact PySem.EqNone.ne_none_bool (fin_bl I q (by simp))
    | int j => obtain ⟨t', rfl⟩ := ry; exact PySem.EqNone.ne_none_int (fin_bl I q (by simp))
    | str j => obtain ⟨t', rfl⟩ := ry; exact PySem.EqNone.ne_none_str (fin_bl I q (by simp))
    | _ => exact absurd (show false = true from hs) Bool.false_ne_true
  | bl i =>
    cases rx
    cases y with
    | non => cases ry; exact PySem.EqNone.ne_bool_none (fin_bl I q (by simp))
    | bl j => cases ry; exact ne_bool (fin_bl I q (congrArg not dec_bl))
    | str j => obtain ⟨t', rfl⟩ := ry; exact PySem.EqMixed.ne_bool_str (fin_bl I q (by simp))
    | _ => exact absurd (show false = true from hs) Bool.false_ne_true
  | int i =>
    obtain ⟨t, rfl⟩ := rx
    cases y with
    | non => cases ry; exact PySem.EqNone.ne_int_none (fin_bl I q (by simp))
    | int j => obtain ⟨t', rfl⟩ := ry; exact ne_int (fin_bl I q (congrArg not dec_int))
    | str j => obtain ⟨t', rfl⟩ := ry; exact PySem.EqMixed.ne_int_str (fin_bl I q (by simp))
    | _ => exact absurd (show false = true from hs) Bool.false_ne_true
  | str i =>
    obtain ⟨t, rfl⟩ := rx
    cases y with
    | non => cases ry; exact PySem.EqNone.ne_str_none (fin_bl I q (by simp))
    | bl j => cases ry; exact PySem.EqMixed.ne_str_bool (fin_bl I q (by simp))
    | int j => obtain ⟨t', rfl⟩ := ry; exact PySem.EqMixed.ne_str_int (fin_bl I q (by simp))
    | str j => obtain ⟨t', rfl⟩ := ry; exact ne_str (fin_bl I q (congrArg not dec_str))
    | _ => exact absurd (show false = true from hs) Bool.false_ne_true
  | byt i =>
    obtain ⟨t, rfl⟩ := rx
    cases y with
    | byt j => obtain ⟨t', rfl⟩ := ry; exact PySem.W.ne_bytes (fin_bl I q (congrArg not dec_byt))
    | _ => exact absurd (show false = true from hs) Bool.false_ne_true
  | _ => cases y <;> exact absurd (show false = true from hs) Bool.false_ne_true

theorem op_lt : OpR X (compareOp .Lt) (rI0 fun i j => .bl (decide (i < j))) := opB0 fun _ _ _ _ _ _ _ q => lt_int q
theorem op_gt : OpR X (compareOp .Gt) (rI0 fun i j => .bl (decide (j < i))) := opB0 fun _ _ _ _ _ _ _ q => gt_int q
theorem op_ge : OpR X (compareOp .GtE) (rI0 fun i j => .bl (decide (j ≤ i))) := opB0 fun _ _ _ _ _ _ _ q => ge_int q
theorem op_isN : OpR X (compareOp .Is) (fun x y H Q => y = .non ∧ Q (.bl (decide (x = .non))) H) := by
  intro pins s σ H x y v u Q I rx ry h
  obtain ⟨rfl, q⟩ := h
  cases ry
  refine is_none_gen (fin_bl I q ?_)
  cases x <;> first
    | (cases rx; rfl)
    | (obtain ⟨t, rfl⟩ := rx; rfl)
theorem op_notN : OpR X (compareOp .IsNot) (fun x y H Q => y = .non ∧ Q (.bl (!decide (x = .non))) H) := by
  intro pins s σ H x y v u Q I rx ry h
  obtain ⟨rfl, q⟩ := h
  cases ry
  refine isnot_none_gen (fin_bl I q ?_)
  cases x <;> first
    | (cases rx; rfl)
    | (obtain ⟨t, rfl⟩ := rx; rfl)

theorem nomark (b : Expr) {op : CmpOp} (h : op ≠ .In := by decide) (h2 : op ≠ .NotIn := by decide) : behindInMarks op b = false := by
  have e1 : (op == CmpOp.In) = false := by cases op <;> first | rfl | exact absurd rfl h
  have e2 : (op == CmpOp.NotIn) = false := by cases op <;> first | rfl | exact absurd rfl h2
  cases b <;> simp [behindInMarks, e1, e2]
theorem pe_cmpR {op : CmpOp} {r : R2} (ho : OpR X (compareOp op) r) (ha : PE X a ta) (hb : PE X b tb) (hm : behindInMarks op b = false) : PE X (.Compare a [op] [b] pos) (tOp r ta tb) := by
  intro pins s σ H Q I h
  exact wpAny_Compare1 (binT ha hb I h fun v u s2 x y H2 I2 rx ry q => ho pins s2 σ H2 x y v u Q I2 rx ry q) hm
noncomputable def tTest (t : TE) : TT := fun σ H Q => t σ H fun x H' => IsBl x fun k => Q k H'
theorem pt_cmpR {op : CmpOp} {r : R2} (ho : OpR X (compareOp op) r) (ha : PE X a ta) (hb : PE X b tb) (hm : behindInMarks op b = false) : PT X (.Compare a [op] [b] pos) (tTest (tOp r ta tb)) := by
  intro pins s σ H Q I h
  refine wpAny_isTrue_Compare1 (thn (ha pins s σ H _ I h) fun v s1 ⟨x, H1, I1, r1, q1⟩ => thn (hb pins s1 σ H1 _ I1 q1) fun u s2 ⟨y, H2, I2, r2, q2⟩ =>
    thn (ho pins s2 σ H2 x y v u _ I2 r1 r2 q2) fun c s3 ⟨z, H3, I3, r3, k, e, q3⟩ => ?_) hm
  subst e
  cases r3
  exact wpAny_truthy_bool ⟨H3, I3, q3⟩
theorem line63 : (sizeLine : Nat) < 2 ^ 63 := by rw [sizeLine_eq]; decide
theorem vals1 {x : V} {us : List Value} (r : Vals [x] us) : ∃ u, us = [u] ∧ RelV x u := by
  cases r with
  | cons r1 r2 => cases r2; exact ⟨_, rfl, r1⟩
theorem vals2 {x y : V} {us : List Value} (r : Vals [x, y] us) : ∃ u w', us = [u, w'] ∧ RelV x u ∧ RelV y w' := by
  cases r with
  | cons r1 r2 =>
    cases r2 with
    | cons r3 r4 => cases r4; exact ⟨_, _, rfl, r1, r3⟩
theorem call_abs : CallR X (.builtin "abs") (fun xs H Q => ∃ i, xs = [.int i] ∧ Q (.int (if i < 0 then -i else i)) H) := by
  intro pins s σ H xs us Q I r h
  obtain ⟨i, rfl, q⟩ := h
  obtain ⟨u, rfl, t, rfl⟩ := vals1 r
  exact call_abs_int fun u tk => ⟨.int (if i < 0 then -i else i), H, I.tok _, ⟨_, rfl⟩, q⟩
theorem call_max2 (hc : X.calm = true) : CallR X (.builtin "max") (fun xs H Q => ∃ i j, xs = [.int i, .int j] ∧ Q (.int (if j > i then j else i)) H) := by
  intro pins s σ H xs us Q I r h
  obtain ⟨i, j, rfl, q⟩ := h
  obtain ⟨u, w', rfl, ⟨t, rfl⟩, ⟨t', rfl⟩⟩ := vals2 r
  refine max_two_ints (I.ok.hd hc) fun h' tk k => ⟨_, H, I.kept k, ?_, q⟩
  by_cases hj : j > i
  · rw [if_pos hj, if_pos hj]; exact ⟨_, rfl⟩
  · rw [if_neg hj, if_neg hj]; exact ⟨_, rfl⟩
theorem call_min2 (hc : X.calm = true) : CallR X (.builtin "min") (fun xs H Q => ∃ i j, xs = [.int i, .int j] ∧ Q (.int (if j < i then j else i)) H) := by
  intro pins s σ H xs us Q I r h
  obtain ⟨i, j, rfl, q⟩ := h
  obtain ⟨u, w', rfl, ⟨t, rfl⟩, ⟨t', rfl⟩⟩ := vals2 r
  refine min_two_ints (I.ok.hd hc) fun h' tk k => ⟨_, H, I.kept k, ?_, q⟩
  by_cases hj : j < i
  · rw [if_pos hj, if_pos hj]; exact ⟨_, rfl⟩
  · rw [if_neg hj, if_neg hj]; exact ⟨_, rfl⟩
theorem call_int1 : CallR X (.type "int") (fun xs H Q => (∃ i, xs = [.int i] ∧ Q (.int i) H) ∨ ∃ k, xs = [.bl k] ∧ Q (.int (if k then 1 else 0)) H) := by
  intro pins s σ H xs us Q I r h
  obtain ⟨i, rfl, q⟩ | ⟨k, rfl, q⟩ := h
  · obtain ⟨u, rfl, t, rfl⟩ := vals1 r
    exact call_int_int ⟨.int i, H, I, ⟨_, rfl⟩, q⟩
  · obtain ⟨u, rfl, r1⟩ := vals1 r
    cases r1
    exact call_int_bool ⟨.int (if k then 1 else 0), H, I.tok _, ⟨_, rfl⟩, q⟩
end
end L2

namespace L2
open PySem PySem.Spec PyProof.Rows

structure ObjM (h : Heap) (x dx C : Addr) (mA : Str → Option Value) : Prop where
  obj : h.get? x = some (PySem.W.instObj C dx)
  ns : h.Ns1 dx mA
  ne : dx ≠ x

theorem lookIn_ns {h : Heap} {dx : Addr} {mA : Str → Option Value} (n : h.Ns1 dx mA) : ∃ od, h.get? dx = some od ∧ ∀ name, PySem.W.lookIn name od = some (mA name) := by
  obtain ⟨o, es, ep, ho, hd, hk, _, hm⟩ := n
  refine ⟨o, ho, fun name => ?_⟩
  have e := hm name
  unfold nsFind findBy at e
  rw [← Array.find?_toList] at e
  unfold PySem.W.lookIn
  rw [hd]
  dsimp only
  split
  · rename_i y q
    rw [q] at e
    exact congrArg some e
  · rename_i q
    rw [q] at e
    have a : es.toList.any (·.refKey) = false := by
      rw [List.any_eq_false]
      intro y hy
      obtain ⟨z, t, hkey⟩ := hk y (Array.mem_toList_iff.mp hy)
      simp [DictEntry.refKey, hkey]
    have a' : ¬ es.toList.any (·.refKey) = true := by rw [a]; exact Bool.false_ne_true
    rw [if_neg a']
    exact congrArg some e

theorem ObjM.look {h : Heap} {x dx C : Addr} {mA : Str → Option Value} (I : ObjM h x dx C mA) : ∃ od, PySem.W.InstAt h x (PySem.W.instObj C dx) C (some od) ∧ ∀ name, PySem.W.lookIn name od = some (mA name) :=
  let ⟨od, ho, hl⟩ := lookIn_ns I.ns
  ⟨od, ⟨I.obj, rfl, rfl, ho⟩, hl⟩

section
variable {prog : Program} {w : World} {A : Around} {E : Value → Shared → Prop} {s : Shared} {K : PySem.W.Frag} {x dx C f : Addr} {mA : Str → Option Value} {name : Str} {v : Value}

theorem get_map {expr : Bool} {Q : Value → Shared → Prop} (X : K.In s.heap) (I : ObjM s.heap x dx C mA) (hg : PySem.W.plainGet K C name = true) (hh : PySem.W.hasDictIn K C = true)
    (ha : PySem.W.findIn K (.ref C) name = some none) (hv : mA name = some v) (hv' : PySem.W.handedIn v = true) (h : Q v { s with toks := s.toks + 1 }) :
    wpAny (model prog w) A (getAttr (.ref x) name expr) Q E s := by
  obtain ⟨od, J, hl⟩ := I.look
  exact PySem.W.get_value X J (PySem.W.plainGet_of hg).1 (PySem.W.findObj_own hh ha rfl (by rw [hl, hv])) hv' h

theorem get_meth {pl : Sem Bool} {Q : Value × List Value → Shared → Prop} (X : K.In s.heap) (I : ObjM s.heap x dx C mA) (hg : PySem.W.plainGet K C name = true)
    (hf : PySem.W.findIn K (.ref C) name = some (some (.ref f))) (ht : PySem.W.isFn K (.ref f) = true) (hv : mA name = none) (h : Q (.ref f, [.ref x]) s) :
    wpAny (model prog w) A (getMethod (.ref x) name pl) Q E s := by
  obtain ⟨od, J, hl⟩ := I.look
  exact PySem.W.method_fn X J (PySem.W.plainGet_of hg).1 (PySem.W.plainGet_of hg).2 hf (beq_iff_eq.mp ht) (by show (PySem.W.lookIn name od).map (·.isSome) = some false; rw [hl, hv]; rfl) h

theorem set_map {ns : List Str} {Q : Unit → Shared → Prop} (X : K.In s.heap) (I : ObjM s.heap x dx C mA)
    (hs : PySem.W.findIn K (.ref C) "__setattr__" = some (some (.builtin "object.__setattr__"))) (hp : PySem.W.plainOver K C = true) (ht : PySem.W.takerIn K C name = some none) (hh : PySem.W.hasDictIn K C = true)
    (hw : PySem.Within mA ns) (hsz : ns.length ≤ sizeLine)
    (h : ∀ h', ObjM h' x dx C (fun y => if y = name then some v else mA y) → Heap.SameBut dx s.heap h' → Q () { s with heap := h', toks := s.toks + 2 }) :
    wpAny (model prog w) A (setAttr (.ref x) name v) Q E s := by
  obtain ⟨od, J, hl⟩ := I.look
  refine PySem.W.set_plain X J hs (PySem.W.osa_open (s := { s with toks := s.toks + 1 }) (r := none) X J hp ht fun b => ?_)
  obtain ⟨cd, hc, hd'⟩ := PySem.W.any_some hh
  have hx : s.heap.get? x = some ⟨.ref C, some dx, .plain, #[]⟩ := I.obj
  refine wpAny_bind (wpAny_pure (wpAny_bind (wpAny_bind (wpAny_loadPart hx (wpAny_bind (PySem.W.Looks.here (s := { s with toks := s.toks + 1 }) (PySem.W.looks_clsIn X hc) ?_))))))
  rw [hd']
  refine wpAny_pure (a := some dx) (wpAny_bind (wpAny_pure (wpAny_bind ?_)))
  refine wpAny_nsSet1 (s := { s with toks := s.toks + 1 }) I.ns fun h' hn2 hs2 => ?_
  obtain ⟨oD, esD, epD, hoD, hdD, hcD⟩ := hn2.count (PySem.Within.cons name v hw)
  refine wpAny_bind (wpAny_lookBehind hoD (by rw [hdD]; exact pastItsLine_dict (Nat.le_trans hcD (by rw [List.length_cons]; omega))) ?_)
  exact wpAny_pure (h _ ⟨(hs2.2 _ (Ne.symm I.ne)).trans I.obj, hn2, I.ne⟩ hs2)

theorem make_map {R : Result → Shared → Prop} {vs : List Value} {kw : List (Str × Value)} (X : K.In s.heap) (hm : PySem.W.makesIn K C = true)
    (hi : PySem.W.findIn K (.ref C) "__init__" = some (some (.ref f))) (hf : PySem.W.typeIn K (.ref f) = some (.type "function"))
    (h : codeAny (model prog w) (A.under (.builtin "type.__call__" ⟨.ref C :: vs, kw⟩)) (.call (.ref f) ⟨.ref (s.heap.objs.size + 1) :: vs, kw⟩) (PySem.W.InitBack (s.heap.objs.size + 1) R)
      { s with heap := (s.heap.push PySem.W.emptyDict).push (PySem.W.instObj C s.heap.objs.size) }) :
    codeAny (model prog w) A (.call (.ref C) ⟨vs, kw⟩) R s := by
  obtain ⟨hh, g, d, t, os⟩ := s
  exact PySem.W.make_core (PySem.W.makes_of X hm) (PySem.W.looks_findIn X hi) (fun self => PySem.W.bind_fn X self hf) (.inl rfl) h
end

noncomputable def putF (f : Str) (v : V) : List (Str × V) → List (Str × V)
  | [] => [(f, v)]
  | (g, x) :: r => if g = f then (g, v) :: r else (g, x) :: putF f v r
theorem lookup_putF (f g : Str) (v : V) : ∀ fs : List (Str × V), (putF f v fs).lookup g = if g = f then some v else fs.lookup g
  | [] => by
    show List.lookup g [(f, v)] = _
    by_cases h : g = f
    · have hb : (g == f) = true := beq_iff_eq.mpr h
      simp only [List.lookup, hb, if_pos h]
    · have hb : (g == f) = false := beq_eq_false_iff_ne.mpr h
      simp only [List.lookup, hb, if_neg h]
  | (k, x) :: r => by
    have ih := lookup_putF f g v r
    rw [show putF f v ((k, x) :: r) = (if k = f then (k, v) :: r else (k, x) :: putF f v r) from rfl]
    by_cases hk : k = f
    · rw [if_pos hk]
      by_cases h : g = k
      · have hb : (g == k) = true := beq_iff_eq.mpr h
        simp only [List.lookup, hb, if_pos (h.trans hk)]
      · have hb : (g == k) = false := beq_eq_false_iff_ne.mpr h
        simp only [List.lookup, hb, if_neg (fun e : g = f => h (e.trans hk.symm))]
    · rw [if_neg hk]
      by_cases h : g = k
      · have hb : (g == k) = true := beq_iff_eq.mpr h
        simp only [List.lookup, hb, if_neg (fun e : g = f => hk (h.symm.trans e))]
      · have hb : (g == k) = false := beq_eq_false_iff_ne.mpr h
        simp only [List.lookup, hb]
        exact ih
theorem keys_putF (f : Str) (v : V) : ∀ fs : List (Str × V), f ∈ (putF f v fs).map (·.1) ∧ ∀ g, g ∈ fs.map (·.1) → g ∈ (putF f v fs).map (·.1)
  | [] => ⟨by simp [putF], fun g h => by simp at h⟩
  | (k, x) :: r => by
    obtain ⟨i1, i2⟩ := keys_putF f v r
    rw [show putF f v ((k, x) :: r) = (if k = f then (k, v) :: r else (k, x) :: putF f v r) from rfl]
    by_cases hk : k = f
    · rw [if_pos hk]
      subst hk
      exact ⟨by simp, fun g h => by simpa using h⟩
    · rw [if_neg hk]
      refine ⟨?_, fun g h => ?_⟩
      · rw [List.map_cons]
        exact List.mem_cons_of_mem _ i1
      · rw [List.map_cons] at h ⊢
        obtain e | e := List.mem_cons.mp h
        · exact List.mem_cons.mpr (.inl e)
        · exact List.mem_cons_of_mem _ (i2 g e)
theorem length_putF (f : Str) (v : V) : ∀ fs : List (Str × V), (putF f v fs).length ≤ fs.length + 1
  | [] => by simp [putF]
  | (k, x) :: r => by
    have ih := length_putF f v r
    rw [show putF f v ((k, x) :: r) = (if k = f then (k, v) :: r else (k, x) :: putF f v r) from rfl]
    by_cases hk : k = f
    · rw [if_pos hk, List.length_cons, List.length_cons]; omega
    · rw [if_neg hk, List.length_cons, List.length_cons]; omega

theorem RelO.some_of {v : V} {o : Option Value} (r : RelO (some v) o) : ∃ u, o = some u ∧ RelV v u := by
  cases o with
  | none => exact (show False from r).elim
  | some u => exact ⟨u, rfl, r⟩
theorem RelO.none_of {o : Option Value} (r : RelO none o) : o = none := by
  cases o with
  | none => rfl
  | some u => exact (show False from r).elim
theorem handed_of {v : V} {u : Value} (r : RelV v u) : PySem.W.handedIn u = true := by
  cases v with
  | non => cases (show u = Value.none from r); rfl
  | bl b => cases (show u = Value.bool b from r); rfl
  | int i => obtain ⟨t, e⟩ := (show ∃ t, u = Value.int i t from r); cases e; rfl
  | str x => obtain ⟨t, e⟩ := (show ∃ t, u = Value.str x t from r); cases e; rfl
  | byt b => obtain ⟨t, e⟩ := (show ∃ t, u = Value.bytes b t from r); cases e; rfl
  | flt b => obtain ⟨t, e⟩ := (show ∃ t, u = Value.float b t from r); cases e; rfl
  | ref a => cases (show u = Value.ref a from r); rfl
  | ty n => cases (show u = Value.type n from r); rfl

section
variable {P : Program} {w : World} {H H' : Hp} {h h' : Heap} {a C dx : Addr} {fs fs' : List (Str × V)}
theorem ins_get (hok : HOk P w H h) (e : H a = some (.ins C dx fs)) : ∃ mA, ObjM h a dx C mA ∧ (∀ f, RelO (fs.lookup f) (mA f)) ∧ PySem.Within mA (fs.map (·.1)) ∧ fs.length ≤ 1000 ∧ H dx = some (.own a) := by
  obtain ⟨d, z, ne, ob, mA, n, r, q⟩ := (show ObjOk P w H h a (.ins C dx fs) from hok a _ e)
  exact ⟨mA, ⟨ob, n, ne⟩, r, q, z, d⟩
end

structure Cls (K : PySem.W.Frag) (C : Addr) : Prop where
  pg : PySem.W.plainGet K C Str.empty = true
  hd : PySem.W.hasDictIn K C = true
  po : PySem.W.plainOver K C = true
  sa : PySem.W.findIn K (.ref C) "__setattr__" = some (some (.builtin "object.__setattr__"))
theorem Cls.get {K : PySem.W.Frag} {C : Addr} (c : Cls K C) (f : Str) : PySem.W.plainGet K C f = true := c.pg
noncomputable def NoAttr (K : PySem.W.Frag) (C : Addr) (f : Str) : Prop := PySem.W.findIn K (.ref C) f = some none
theorem NoAttr.taker {K : PySem.W.Frag} {C : Addr} {f : Str} (n : NoAttr K C f) : PySem.W.takerIn K C f = some none := by
  unfold PySem.W.takerIn
  rw [show PySem.W.findIn K (.ref C) f = some none from n]
  rfl
structure Con (K : PySem.W.Frag) (C : Addr) (f : Str) (v : V) (u : Value) : Prop where
  at_ : PySem.W.findIn K (.ref C) f = some (some u)
  rel : RelV v u
  get : PySem.W.specialIn K u "__get__" = some none
  cp : PySem.W.copiedNames.contains f = false
structure Meth (K : PySem.W.Frag) (C : Addr) (m : Str) (f : Addr) : Prop where
  at_ : PySem.W.findIn K (.ref C) m = some (some (.ref f))
  fn : PySem.W.isFn K (.ref f) = true
  kp : PySem.W.keepIn K (.ref f) = true

section
variable {X : Cx} {pins : List (Addr × Obj)} {σ : St} {H : Hp} {s : Shared} {a C dx : Addr} {fs : List (Str × V)} {f : Str} {v : V} {A : Around} {E : Value → Shared → Prop}

theorem getattr_ok {b : Bool} {Q : Value → Shared → Prop} (I : Inv X pins σ H s) (e : H a = some (.ins C dx fs)) (c : Cls X.K C) (n : NoAttr X.K C f) (l : fs.lookup f = some v)
    (h : ∀ u s', Inv X pins σ H s' → RelV v u → Q u s') : wpAny (model X.prog X.w) A (getAttr (.ref a) f b) Q E s := by
  obtain ⟨mA, O, r, _, _, _⟩ := ins_get I.hok e
  obtain ⟨u, hu, ru⟩ := RelO.some_of (v := v) (o := mA f) (by rw [← l]; exact r f)
  exact get_map I.kIn O (c.get f) c.hd n hu (handed_of ru) (h u _ (I.tok _) ru)

theorem getmeth_ok {m : Str} {g : Addr} {pl : Sem Bool} {Q : Value × List Value → Shared → Prop} (I : Inv X pins σ H s) (e : H a = some (.ins C dx fs)) (c : Cls X.K C) (k : Meth X.K C m g) (l : fs.lookup m = none)
    (h : Q (.ref g, [.ref a]) s) : wpAny (model X.prog X.w) A (getMethod (.ref a) m pl) Q E s := by
  obtain ⟨mA, O, r, _, _, _⟩ := ins_get I.hok e
  have hn : mA m = none := RelO.none_of (by rw [← l]; exact r m)
  exact get_meth I.kIn O (c.get m) k.at_ k.fn hn h

theorem setattr_ok {y : V} {u : Value} {Q : Unit → Shared → Prop} (I : Inv X pins σ H s) (e : H a = some (.ins C dx fs)) (c : Cls X.K C) (n : NoAttr X.K C f) (hl : fs.length < 1000) (ry : RelV y u)
    (h : ∀ s', Inv X pins σ (upd H a (.ins C dx (putF f y fs))) s' → Q () s') : wpAny (model X.prog X.w) A (setAttr (.ref a) f u) Q E s := by
  obtain ⟨mA, O, r, wi, _, ho⟩ := ins_get I.hok e
  have hz : (fs.map (·.1)).length ≤ sizeLine := by rw [List.length_map, sizeLine_eq]; omega
  refine set_map I.kIn O c.sa c.po n.taker c.hd wi hz fun h' O' sb => h _ ?_
  have hd : ∃ o, h'.get? dx = some o := let ⟨o, _, _, e', _⟩ := O'.ns; ⟨o, e'⟩
  refine I.write (x := a) (e := dx) (by rw [e]; exact True.intro) (.inr ho) (fun b q hb z => (sb.2 b hb).trans z) hd ?_
  refine ⟨by rw [upd_ne O.ne]; exact ho, ?_, O.ne, O'.obj, _, O'.ns, fun g => ?_, fun g hg => ?_⟩
  · have := length_putF f y fs; omega
  · show RelO ((putF f y fs).lookup g) (if g = f then some u else mA g)
    rw [lookup_putF]
    by_cases q : g = f
    · rw [if_pos q, if_pos q]; exact ry
    · rw [if_neg q, if_neg q]; exact r g
  · by_cases q : g = f
    · rw [q]; exact (keys_putF f y fs).1
    · refine (keys_putF f y fs).2 g (wi g fun z => hg ?_)
      show (if g = f then some u else mA g) = none
      rw [if_neg q]; exact z

theorem Inv.made (I : Inv X pins σ H s) : Inv X pins σ (upd (upd H s.heap.objs.size (.own (s.heap.objs.size + 1))) (s.heap.objs.size + 1) (.ins C s.heap.objs.size []))
    { s with heap := (s.heap.push PySem.W.emptyDict).push (PySem.W.instObj C s.heap.objs.size) } := by
  have e1 : (s.heap.push PySem.W.emptyDict).get? s.heap.objs.size = some PySem.W.emptyDict := Heap.get?_push_size s.heap rfl
  have e2 : ((s.heap.push PySem.W.emptyDict).push (PySem.W.instObj C s.heap.objs.size)).get? (s.heap.objs.size + 1) = some (PySem.W.instObj C s.heap.objs.size) := by
    have := Heap.get?_push_size (s.heap.push PySem.W.emptyDict) (o := PySem.W.instObj C s.heap.objs.size) rfl
    rwa [Heap.size_push] at this
  have e3 : (s.heap.push PySem.W.emptyDict).Ns s.heap.objs.size (fun _ => none) := ⟨PySem.W.emptyDict, #[], _, e1, rfl, (fun e he => absurd he (by simp)), fun _ => rfl⟩
  have I1 := I.laid (a := s.heap.objs.size) (o := .own (s.heap.objs.size + 1)) (h' := s.heap.push PySem.W.emptyDict) (t' := s.toks) (fun b u q => Heap.get?_push_of_some _ q) (Nat.le_refl _) ⟨_, e1⟩
  refine I1.laid (a := s.heap.objs.size + 1) (o := .ins C s.heap.objs.size []) (t' := s.toks) (fun b u q => Heap.get?_push_of_some _ q) (Nat.le_of_eq (Heap.size_push _ _)) ?_
  have ne : s.heap.objs.size ≠ s.heap.objs.size + 1 := Nat.ne_of_lt (Nat.lt_succ_self _)
  refine ⟨by rw [upd_ne ne, upd_same], Nat.zero_le _, ne, e2, fun _ => none, (Heap.Ns1.of_empty e3).at fun o q => Heap.get?_push_of_some _ q, fun _ => True.intro, fun y hy => absurd rfl hy⟩

theorem attr_of {prog : Program} {w : World} {env : Env} {e : Expr} {f : Str} {pos : Pos} {s : Shared} {Q : Value → Shared → Prop} (hb : attributeBase e f env (eval e env) = eval e env)
    (h : wpAny (model prog w) A (eval e env) (fun o s₁ => wpAny (model prog w) A (getAttr o f true) Q E s₁) E s) : wpAny (model prog w) A (eval (.Attribute e f pos) env) Q E s :=
  Attribute_any_ h (by rw [arm_eval_Attribute, hb])
end

noncomputable def tFld (K : PySem.W.Frag) (ta : TE) (f : Str) : TE := fun σ H Q => ta σ H fun x H1 => ∃ a C dx fs v, x = .ref a ∧ H1 a = some (.ins C dx fs) ∧ Cls K C ∧ NoAttr K C f ∧ fs.lookup f = some v ∧ Q v H1
noncomputable def sFld (K : PySem.W.Frag) (ta tv : TE) (f : Str) : TS := fun D σ H => tv σ H fun y H1 => ta σ H1 fun x H2 => ∃ a C dx fs, x = .ref a ∧ H2 a = some (.ins C dx fs) ∧ Cls K C ∧ NoAttr K C f ∧ fs.length < 1000 ∧
  D.nx σ (upd H2 a (.ins C dx (putF f y fs)))
section
variable {X : Cx} {o e value : Expr} {f : Str} {pos pos' tpos : Pos} {ta tv : TE}
theorem pe_fld (he : PE X e ta) (hb : attributeBase e f X.env (eval e X.env) = eval e X.env) : PE X (.Attribute e f pos) (tFld X.K ta f) := by
  intro pins s σ H Q I h
  refine attr_of hb (thn (he pins s σ H _ I h) fun u s1 hm_ => ?_)
  obtain ⟨x, H1, I1, rx, a, C, dx, fs, v, ex, ea, c, n, l, q⟩ := hm_
  subst ex
  obtain rfl : u = Value.ref a := rx
  exact getattr_ok I1 ea c n l fun u' s2 I2 ru => ⟨v, H1, I2, ru, q⟩
theorem ps_fld (ha : PE X o ta) (hv : PE X value tv) (hs : swapsWith value (some (.Attribute o f pos')) pos.line X.env = pure false) : PS X (.Assign [.Attribute o f pos'] value pos) (sFld X.K ta tv f) := by
  intro pins s σ H D I h
  refine plainObj_wpAny_Assign_Attribute (thn (hv pins s σ H _ I h) fun u s1 ⟨y, H1, I1, ry, q⟩ => thn (ha pins s1 σ H1 _ I1 q) fun ov s2 hm_ => ?_) hs
  obtain ⟨x, H2, I2, rx, a, C, dx, fs, ex, ea, c, n, l, q2⟩ := hm_
  subst ex
  obtain rfl : ov = Value.ref a := rx
  exact setattr_ok I2 ea c n l ry fun s3 I3 => ⟨σ, _, I3, q2⟩
theorem methcall_of {pl : Sem Bool} {m : Str} {apos : Pos} {args : List Expr} {pins : List (Addr × Obj)} {s : Shared} {σ : St} {H : Hp} {Q : Value → Shared → Prop} {te : TE} (he : PE X e te) (I : Inv X pins σ H s)
    (h : te σ H fun x H1 => ∃ a C dx fs g, x = .ref a ∧ H1 a = some (.ins C dx fs) ∧ Cls X.K C ∧ Meth X.K C m g ∧ fs.lookup m = none ∧
      ∀ s1, Inv X pins σ H1 s1 → wpAny (model X.prog X.w) X.A (callWith pos (.ref g) [.ref a] (backTo pos (starEach args X.env)) (backToKw pos (keywordEach [] X.env))) Q X.xe s1)
    (ht : eval (.Call (.Attribute e m apos) args [] pos) X.env = (do
      let ov ← eval e X.env
      standAt apos.atName
      let (f, first) ← holding [ov] (getMethod ov m pl)
      callWith pos f first (backTo pos (starEach args X.env)) (backToKw pos (keywordEach [] X.env)))) :
    wpAny (model X.prog X.w) X.A (eval (.Call (.Attribute e m apos) args [] pos) X.env) Q X.xe s := by
  refine PySem.W.methodCall_KW (pl := pl) (thn (he pins s σ H _ I h) fun u s1 hm_ => ?_) ht
  obtain ⟨x, H1, I1, rx, a, C, dx, fs, g, ex, ea, c, k, l, q⟩ := hm_
  subst ex
  obtain rfl : u = Value.ref a := rx
  exact getmeth_ok I1 ea c k l (q s1 I1)
end

section
variable {X : Cx} {pins : List (Addr × Obj)} {σ : St} {H : Hp} {s : Shared} {A : Around} {E : Value → Shared → Prop} {Q : Value → Shared → Prop} {c : Value} {b : Bool}
inductive TyOf (K : PySem.W.Frag) (H : Hp) : V → Value → Prop where
  | non : TyOf K H .non (.type "NoneType")
  | bl (x : Bool) : TyOf K H (.bl x) (.type "bool")
  | int (i : Int) : TyOf K H (.int i) (.type "int")
  | str (x : Str) : TyOf K H (.str x) (.type "str")
  | flt (x : UInt64) : TyOf K H (.flt x) (.type "float")
  | lst {a : Addr} {xs : List V} (e : H a = some (.lst xs)) : TyOf K H (.ref a) (.type "list")
  | frz {a : Addr} {o : Obj} {xs : List V} (e : H a = some (.frz o (.lst xs))) : TyOf K H (.ref a) (.type "list")
  | tup {a : Addr} {xs : List V} (e : H a = some (.tup xs)) : TyOf K H (.ref a) (.type "tuple")
  | dK {a : Addr} {kvs : List (Key × V)} (e : H a = some (.dK kvs)) : TyOf K H (.ref a) (.type "dict")
  | dT {a : Addr} {kvs : List (List Key × V)} (e : H a = some (.dT kvs)) : TyOf K H (.ref a) (.type "dict")
  | ins {a C dx : Addr} {fs : List (Str × V)} (e : H a = some (.ins C dx fs)) (cl : Cls K C) (ha : PySem.W.findIn K (.ref C) "__class__" = some (some (.builtin "object.__class__")))
      (hn : PySem.W.specialIn K (.builtin "object.__class__") "__get__" = some (some (.builtin "getset_descriptor.__get__"))) (htk : PySem.W.takesIn K (.builtin "object.__class__") = some true)
      (hm : PySem.W.mroIn K C (.type "object") = some true) : TyOf K H (.ref a) (.ref C)
theorem isinst_ok {x : V} {u t : Value} (I : Inv X pins σ H s) (rx : RelV x u) (ty : TyOf X.K H x t) (e : PySem.W.kitOne X.K t c = some b) (h : ∀ tk, Q (.bool b) { s with toks := tk }) :
    wpAny (model X.prog X.w) A (call (.builtin "isinstance") [u, c]) Q E s := by
  cases ty with
  | non => cases (show u = Value.none from rx); exact PySem.W.kia_one PySem.W.kitx_none I.kIn True.intro e (fun z => nomatch z) h
  | bl y => cases (show u = Value.bool y from rx); exact PySem.W.kia_one PySem.W.kitx_bool I.kIn True.intro e (fun z => nomatch z) h
  | int i => obtain ⟨t, q⟩ := (show ∃ t, u = Value.int i t from rx); cases q; exact PySem.W.kia_one PySem.W.kitx_int I.kIn True.intro e (fun z => nomatch z) h
  | str y => obtain ⟨t, q⟩ := (show ∃ t, u = Value.str y t from rx); cases q; exact PySem.W.kia_one PySem.W.kitx_str I.kIn True.intro e (fun z => nomatch z) h
  | flt y => obtain ⟨t, q⟩ := (show ∃ t, u = Value.float y t from rx); cases q; exact PySem.W.kia_one PySem.W.kitx_float I.kIn True.intro e (fun z => nomatch z) h
  | @lst a xs ea =>
    cases (show u = Value.ref a from rx)
    obtain ⟨_, _, n, _, h1⟩ := (show ObjOk X.prog X.w H s.heap a (.lst xs) from I.hok a _ ea)
    exact PySem.W.kia_one PySem.W.kitx_list I.kIn ⟨_, h1, rfl⟩ e (fun z => nomatch z) h
  | @frz a ob xs ea =>
    cases (show u = Value.ref a from rx)
    obtain ⟨_, _, _, n, _, h1⟩ := (show ObjOk X.prog X.w H s.heap a (.frz ob (.lst xs)) from I.hok a _ ea)
    exact PySem.W.kia_one PySem.W.kitx_list I.kIn ⟨_, h1, rfl⟩ e (fun z => nomatch z) h
  | @tup a xs ea =>
    cases (show u = Value.ref a from rx)
    obtain ⟨_, _, _, p⟩ := (show ObjOk X.prog X.w H s.heap a (.tup xs) from I.hok a _ ea)
    obtain ⟨o, h1, h2, _⟩ := p
    exact PySem.W.kia_one PySem.W.kitx_tuple I.kIn ⟨o, h1, h2⟩ e (fun z => nomatch z) h
  | @dK a kvs ea =>
    cases (show u = Value.ref a from rx)
    obtain ⟨_, _, vs, _, p⟩ := (show ObjOk X.prog X.w H s.heap a (.dK kvs) from I.hok a _ ea)
    obtain ⟨o, es, ep, h1, h2, _⟩ := p
    exact PySem.W.kia_one PySem.W.kitx_dict I.kIn ⟨o, h1, h2.1⟩ e (fun z => nomatch z) h
  | @dT a kvs ea =>
    cases (show u = Value.ref a from rx)
    obtain ⟨_, _, xs, _, o, es, ep, h1, h2, _⟩ := (show ObjOk X.prog X.w H s.heap a (.dT kvs) from I.hok a _ ea)
    exact PySem.W.kia_one PySem.W.kitx_dict I.kIn ⟨o, h1, h2.1⟩ e (fun z => nomatch z) h
  | @ins a C dx fs ea cl ha hn htk hm =>
    cases (show u = Value.ref a from rx)
    obtain ⟨mA, O, _⟩ := ins_get I.hok ea
    obtain ⟨od, J, _⟩ := O.look
    exact PySem.W.kia_one (PySem.W.kitx_own (cl.get _) cl.hd ha hn htk hm) I.kIn J e (fun z => nomatch z) h
end
end L2

namespace L2
open PySem PySem.Spec PyProof.Rows

structure Room (k : Nat) (A : Around) : Prop where
  hd : A.handled = none
  dp : A.depth + 3 * k + 5 < recursionLimit
  un : A.units + 16 * k + 200 < cLine
  gd : A.guards = some []
theorem Room.mono {j k : Nat} {A : Around} (r : Room k A) (h : j ≤ k) : Room j A := ⟨r.hd, by have := r.dp; omega, by have := r.un; omega, r.gd⟩
theorem Room.deeper {k : Nat} {A : Around} (r : Room (k + 1) A) (env : Env) : Room k (A.deeper env) :=
  ⟨r.hd, by have := r.dp; show A.depth + 1 + 3 * k + 5 < _; omega, by have := r.un; show A.units + 3 + 16 * k + 200 < _; omega, r.gd⟩
theorem make_depth {A : Around} {C : Addr} {us : List Value} {kw : List (Str × Value)} : (A.under (.builtin "type.__call__" ⟨.ref C :: us, kw⟩)).depth = A.depth + 1 := by
  first | rfl | simp [Around.under, Code.weight, Code.isCreation, Code.isGuard, Code.isCaller, Code.frames, Code.isFrame, guardIds]
theorem make_units {A : Around} {C : Addr} {us : List Value} {kw : List (Str × Value)} : (A.under (.builtin "type.__call__" ⟨.ref C :: us, kw⟩)).units = A.units + 1 := by
  first | rfl | simp [Around.under, Code.cUnits, Code.frames, Code.isFrame]
theorem Room.make {k : Nat} {A : Around} (r : Room (k + 1) A) (C : Addr) (us : List Value) (kw : List (Str × Value)) : Room k (A.under (.builtin "type.__call__" ⟨.ref C :: us, kw⟩)) :=
  ⟨r.hd, by have := r.dp; rw [make_depth]; omega, by have := r.un; rw [make_units]; omega, by have g := r.gd; simp [Around.under, Code.guards, Code.isGuard, guardIds, pushGuards, g]⟩
theorem Room.depth {k : Nat} {A : Around} (r : Room k A) : A.depth < recursionLimit := by have := r.dp; omega
theorem Room.units {k : Nat} {A : Around} (r : Room k A) : A.units + 64 < cLine := by have := r.un; omega
noncomputable def tNil : TA := fun _ H Q => Q [] H
noncomputable def tCons (ta : TE) (tr : TA) : TA := fun σ H Q => ta σ H fun x H1 => tr σ H1 fun xs H2 => Q (x :: xs) H2
section
variable {X : Cx} {e : Expr} {es : List Expr} {te : TE} {t : TA} {pos : Pos}
theorem pa_nil : PA X [] tNil := fun _ _ _ _ H Q I h => Calls.spliced_nil ⟨[], H, I, .nil, h⟩
theorem pa_cons (ha : PE X e te) (hr : PA X es t) (hs : starEach (e :: es) X.env = (false, eval e X.env) :: starEach es X.env := by rfl) : PA X (e :: es) (tCons te t) := by
  intro pos pins s σ H Q I h
  rw [hs]
  show wpAny _ _ (spliced ((false, eval e X.env) :: backTo pos (starEach es X.env))) _ _ s
  refine Calls.spliced_cons (thn (ha pins s σ H _ I h) fun u s1 hm_ => ?_)
  obtain ⟨x, H1, I1, r1, q1⟩ := hm_
  exact thn (hr pos pins s1 σ H1 _ I1 q1) fun us s2 ⟨xs, H2, I2, r2, q2⟩ => ⟨x :: xs, H2, I2, .cons r1 r2, q2⟩

noncomputable def tTup (t : TA) : TE := fun σ H Q => t σ H fun xs H1 => xs.length ≤ sizeLine ∧ ∀ p, H1 p = none → Q (.ref p) (upd H1 p (.tup xs))
noncomputable def tLst (t : TA) : TE := fun σ H Q => t σ H fun xs H1 => xs.length ≤ sizeLine ∧ ∀ p, H1 p = none → Q (.ref p) (upd H1 p (.lst xs))
theorem pe_tup {x1} (h : PA X es t) : PE X (.Tuple es x1 pos) (tTup t) := by
  intro pins s σ H Q I hq
  refine wpAny_Tuple_spliced (thn (h pos pins s σ H _ I hq) fun us s1 ⟨xs, H1, I1, r, z, q⟩ => ⟨by rw [← r.length]; exact z, ?_⟩)
  have hf : H1 s1.heap.objs.size = none := I1.hok.fresh (Nat.le_refl _)
  refine ⟨.ref s1.heap.objs.size, upd H1 s1.heap.objs.size (.tup xs), I1.laid (t' := s1.toks) (fun b u e => Heap.get?_push_of_some _ e) (Nat.le_refl _) ?_, rfl, q _ hf⟩
  exact ⟨z, us, r, ⟨_, Heap.get?_push_size _ rfl, rfl, _, rfl⟩⟩
theorem pe_lst (h : PA X es t) : PE X (.List es pos) (tLst t) := by
  intro pins s σ H Q I hq
  refine wpAny_List_spliced (thn (h pos pins s σ H _ I hq) fun us s1 ⟨xs, H1, I1, r, z, q⟩ => ⟨by rw [← r.length]; exact z, ?_⟩)
  have hf : H1 s1.heap.objs.size = none := I1.hok.fresh (Nat.le_refl _)
  refine ⟨.ref s1.heap.objs.size, upd H1 s1.heap.objs.size (.lst xs), I1.laid (t' := s1.toks) (fun b u e => Heap.get?_push_of_some _ e) (Nat.le_refl _) ?_, rfl, q _ hf⟩
  exact ⟨z, us, 0, r, Heap.get?_push_size _ rfl⟩
end

noncomputable abbrev Sp := List V → Hp → VK → XK → Prop
noncomputable abbrev CXT := List Env → Hp → Shared → XK → Value → Shared → Prop

structure Env0 (P : Program) (w : World) (K : PySem.W.Frag) (mg : Str → Option Value) (base : Heap) (A : Around) (outer : List Env) (s : Shared) (H : Hp) : Prop where
  frames : A.frames = some outer
  mod : Mod K mg base
  bs : ∀ b o, base.get? b = some o → s.heap.get? b = some o ∧ H b = none
  bsz : base.objs.size ≤ s.heap.objs.size
  funs : s.heap.FunFrames base outer
  frf : ∀ b ∈ frs outer, H b = none
  hok : HOk P w H s.heap
  bare : AllBare s.gens
noncomputable def CE (outer : List Env) (P : Program) (w : World) (H : Hp) (s : Shared) (Q : VK) (u : Value) (s' : Shared) : Prop :=
  ∃ v H', s'.os = s.os ∧ AllBare s'.gens ∧ Un (frs outer) [] H H' s.heap s'.heap ∧ HOk P w H' s'.heap ∧ RelV v u ∧ Q v H'
noncomputable def CR (CX : CXT) (outer : List Env) (P : Program) (w : World) (H : Hp) (s : Shared) (Q : VK) (E : XK) (r : Result) (s' : Shared) : Prop :=
  match r with
  | .ok (.ret u) => CE outer P w H s Q u s'
  | .ok _ => False
  | .error e => CX outer H s E e s'
structure FnOk (P : Program) (w : World) (K : PySem.W.Frag) (mg : Str → Option Value) (base : Heap) (CX : CXT) (k : Nat) (f : Addr) (fd : FuncData) (ps : List Str) (sp : Sp) : Prop where
  len : ∀ vs H Q E, sp vs H Q E → vs.length = ps.length
  run : ∀ (A : Around) (outer : List Env) (s : Shared) (H : Hp) (args : Args) (us : List Value) (vs : List V) (Q : VK) (E : XK), Room k A → Env0 P w K mg base A outer s H → BindsTo s fd args (ps.zip us) → Vals vs us → sp vs H Q E →
    codeAny (model P w) A (.call (.ref f) args) (CR CX outer P w H s Q E) s
theorem FnOk.mono {P : Program} {w : World} {K : PySem.W.Frag} {mg : Str → Option Value} {base : Heap} {CX : CXT} {j k : Nat} {f : Addr} {fd : FuncData} {ps : List Str} {sp : Sp} (F : FnOk P w K mg base CX j f fd ps sp) (h : j ≤ k) :
    FnOk P w K mg base CX k f fd ps sp := ⟨F.len, fun A outer s H args us vs Q E hr => F.run A outer s H args us vs Q E (hr.mono h)⟩
theorem Env0.make {P : Program} {w : World} {K : PySem.W.Frag} {mg : Str → Option Value} {base : Heap} {A : Around} {outer : List Env} {s : Shared} {H : Hp} (e : Env0 P w K mg base A outer s H) (C : Addr) (us : List Value) (kw : List (Str × Value)) :
    Env0 P w K mg base (A.under (.builtin "type.__call__" ⟨.ref C :: us, kw⟩)) outer s H := ⟨by first | exact e.frames | (simpa [Around.under, Code.envs, Code.isFrame, pushEnvs] using e.frames), e.mod, e.bs, e.bsz, e.funs, e.frf, e.hok, e.bare⟩
section
variable {X : Cx} {pins : List (Addr × Obj)} {σ : St} {H : Hp} {s s' : Shared}
theorem Inv.env0 (I : Inv X pins σ H s) : Env0 X.prog X.w X.K X.mg X.base X.A X.stack s H :=
  ⟨I.ok.frames, I.ok.mod, I.bs, Nat.le_trans I.ok.bsz I.sz, I.stack, I.stkFree, I.hok, I.bare⟩
theorem Inv.after {Q : VK} {u : Value} (I : Inv X pins σ H s) (h : CE X.stack X.prog X.w H s Q u s') : EP X pins σ Q u s' := by
  obtain ⟨v, H', os, bare, un, hok, r, q⟩ := h
  obtain ⟨hh, g, d, t, os'⟩ := s'
  obtain rfl : os' = s.os := os
  exact ⟨v, H', I.call (h' := hh) (g' := g) (d' := d) (t' := t) (ch := []) un hok bare (fun b z => absurd z (by simp)), r, q⟩
end

noncomputable def tCall (sp : Sp) (dvs : List V) (E : XK) (t : TA) : TE := fun σ H Q => t σ H fun vs H1 => sp (vs ++ dvs) H1 Q E
inductive InsAt (C : Addr) (m : Str) (x : V) (H : Hp) (R : Prop) : Prop
  | mk (a dx : Addr) (fs : List (Str × V)) (h1 : x = .ref a) (h2 : H a = some (.ins C dx fs)) (h3 : fs.lookup m = none) (q : R) : InsAt C m x H R
noncomputable def tMeth (C : Addr) (m : Str) (sp : Sp) (dvs : List V) (E : XK) (ta : TE) (t : TA) : TE := fun σ H Q => ta σ H fun x H1 => InsAt C m x H1 (t σ H1 fun vs H2 => sp (x :: (vs ++ dvs)) H2 Q E)
noncomputable def tMake (C : Addr) (sp : Sp) (dvs : List V) (E : XK) (t : TA) : TE := fun σ H Q => t σ H fun vs H1 => ∀ x dx, H1 x = none → H1 dx = none → dx ≠ x →
  sp (.ref x :: (vs ++ dvs)) (upd (upd H1 dx (.own x)) x (.ins C dx [])) (fun v H2 => v = .non ∧ Q (.ref x) H2) E

noncomputable def Binds (K : PySem.W.Frag) (fd : FuncData) (ps : List Str) (ds : List Value) : Prop :=
  ∀ (s : Shared) (us : List Value), K.In s.heap → (us ++ ds).length = ps.length → BindsTo s fd ⟨us, []⟩ (ps.zip (us ++ ds))
theorem Binds.all {K : PySem.W.Frag} {fd : FuncData} {ps : List Str} (h : ∀ us : List Value, us.length = ps.length → bindArgs fd ⟨us, []⟩ = pure (ps.zip us)) : Binds K fd ps [] := fun s us _ hl => by
  rw [List.append_nil] at hl ⊢
  exact .of_eq (h us hl)

noncomputable def Passes (CX : CXT) (X : Cx) (E : XK) : Prop := ∀ (pins : List (Addr × Obj)) (σ : St) (H : Hp) (s : Shared) (e : Value) (s' : Shared), Inv X pins σ H s → CX X.stack H s E e s' → X.xe e s'

section
variable {X : Cx} {CX : CXT} {k : Nat} {f C : Addr} {fd : FuncData} {ps : List Str} {sp : Sp} {dvs : List V} {ds : List Value} {E : XK} {x m : Str} {p pos apos : Pos} {e o : Expr} {es : List Expr} {ta : TE} {t : TA}

theorem run_fn {pins : List (Addr × Obj)} {σ : St} {H : Hp} {s : Shared} {Q : VK} {us : List Value} {vs : List V} (F : FnOk X.prog X.w X.K X.mg X.base CX k f fd ps sp) (hr : Room k X.A) (hb : Binds X.K fd ps ds) (hd : Vals dvs ds) (hx : Passes CX X E)
    (I : Inv X pins σ H s) (r : Vals vs us) (h : sp (vs ++ dvs) H Q E) : wpAny (model X.prog X.w) X.A (call (.ref f) us) (EP X pins σ Q) X.xe s := by
  have r2 : Vals (vs ++ dvs) (us ++ ds) := r.append hd
  have hl : (us ++ ds).length = ps.length := by rw [← r2.length]; exact F.len _ _ _ _ h
  refine wpAny_call (codeAny_mono (F.run X.A X.stack s H ⟨us, []⟩ (us ++ ds) (vs ++ dvs) Q E hr I.env0 (hb s us I.kIn hl) r2 h) fun r s' hq => ?_)
  cases r with
  | error e => exact hx pins σ H s e s' I hq
  | ok fl =>
    cases fl with
    | ret u => exact I.after hq
    | next => exact False.elim hq
    | brk => exact False.elim hq
    | cont => exact False.elim hq

theorem pe_call (F : FnOk X.prog X.w X.K X.mg X.base CX k f fd ps sp) (hr : Room k X.A) (hg : Gl X x) (hm : X.mg x = some (.ref f)) (hk : PySem.W.keepIn X.K (.ref f) = true) (hb : Binds X.K fd ps ds) (hd : Vals dvs ds) (hx : Passes CX X E)
    (ha : PA X (e :: es) t) (hdb : (x == ("__debug__" : Str)) = false := by decide) (he : starEach (e :: es) X.env = (false, eval e X.env) :: starEach es X.env := by rfl) (hpl : (backTo pos (starEach es X.env)).any (·.1) = false := by rfl) :
    PE X (.Call (.Name x p) (e :: es) [] pos) (tCall sp dvs E t) := by
  intro pins s σ H Q I h
  refine wpAny_Call_Name_kw (ld_glob I hg hm ?_ hdb)
  refine PySem.W.callWith_K (h₀ := X.base) I.ok.mod.kin hk (thn (ha pos pins s σ H _ I h) fun us s1 ⟨vs, H1, I1, r, q⟩ => ⟨I1.kIn, ?_⟩) he hpl
  exact run_fn F hr hb hd hx I1 r q
theorem pe_meth {pl : Sem Bool} (he : PE X o ta) (c : Cls X.K C) (hm : Meth X.K C m f) (F : FnOk X.prog X.w X.K X.mg X.base CX k f fd ps sp) (hr : Room k X.A) (hb : Binds X.K fd ps ds) (hd : Vals dvs ds) (hx : Passes CX X E) (ha : PA X (e :: es) t)
    (hst : starEach (e :: es) X.env = (false, eval e X.env) :: starEach es X.env := by rfl) (hpl : (backTo pos (starEach es X.env)).any (·.1) = false := by rfl)
    (ht : eval (.Call (.Attribute o m apos) (e :: es) [] pos) X.env = (do
      let ov ← eval o X.env
      standAt apos.atName
      let (f, first) ← holding [ov] (getMethod ov m pl)
      callWith pos f first (backTo pos (starEach (e :: es) X.env)) (backToKw pos (keywordEach [] X.env))) := by rfl) :
    PE X (.Call (.Attribute o m apos) (e :: es) [] pos) (tMeth C m sp dvs E ta t) := by
  intro pins s σ H Q I h
  refine PySem.W.methodCall_KW (pl := pl) (thn (he pins s σ H _ I h) fun u s1 hm_ => ?_) ht
  obtain ⟨x, H1, I1, rx, a, dx, fs, ex, ea, l, q⟩ := hm_
  subst ex
  obtain rfl : u = Value.ref a := rx
  refine getmeth_ok I1 ea c hm l ?_
  refine PySem.W.callWith_K (first := [.ref a]) (h₀ := X.base) I.ok.mod.kin hm.kp (thn (ha pos pins s1 σ H1 _ I1 q) fun us s2 ⟨vs, H2, I2, r, q2⟩ => ⟨I2.kIn, ?_⟩) hst hpl
  exact run_fn (us := .ref a :: us) (vs := .ref a :: vs) F hr hb hd hx I2 (.cons rfl r) q2
theorem pe_meth0 {pl : Sem Bool} (he : PE X o ta) (c : Cls X.K C) (hm : Meth X.K C m f) (F : FnOk X.prog X.w X.K X.mg X.base CX k f fd ps sp) (hr : Room k X.A) (hb : Binds X.K fd ps ds) (hd : Vals dvs ds) (hx : Passes CX X E)
    (ht : eval (.Call (.Attribute o m apos) [] [] pos) X.env = (do
      let ov ← eval o X.env
      standAt apos.atName
      let (f, first) ← holding [ov] (getMethod ov m pl)
      callWith pos f first (backTo pos (starEach [] X.env)) (backToKw pos (keywordEach [] X.env))) := by rfl) :
    PE X (.Call (.Attribute o m apos) [] [] pos) (tMeth C m sp dvs E ta tNil) := by
  intro pins s σ H Q I h
  refine PySem.W.methodCall_KW (pl := pl) (thn (he pins s σ H _ I h) fun u s1 hm_ => ?_) ht
  obtain ⟨x, H1, I1, rx, a, dx, fs, ex, ea, l, q⟩ := hm_
  subst ex
  obtain rfl : u = Value.ref a := rx
  refine getmeth_ok I1 ea c hm l ?_
  exact PySem.W.callWith_K0 (first := [.ref a]) I1.kIn hm.kp (run_fn (us := [.ref a]) (vs := [.ref a]) F hr hb hd hx I1 (.cons rfl .nil) q)

structure Mk (K : PySem.W.Frag) (C f : Addr) : Prop where
  makes : PySem.W.makesIn K C = true
  init : PySem.W.findIn K (.ref C) "__init__" = some (some (.ref f))
  fn : PySem.W.isFn K (.ref f) = true
  kp : PySem.W.keepIn K (.ref C) = true

theorem run_make {pins : List (Addr × Obj)} {σ : St} {H : Hp} {s : Shared} {Q : VK} {us : List Value} {vs : List V} (M : Mk X.K C f) (F : FnOk X.prog X.w X.K X.mg X.base CX k f fd ps sp) (hr : Room (k + 1) X.A) (hb : Binds X.K fd ps ds) (hd : Vals dvs ds)
    (hx : Passes CX X E) (I : Inv X pins σ H s) (r : Vals vs us)
    (h : ∀ x dx, H x = none → H dx = none → dx ≠ x → sp (.ref x :: (vs ++ dvs)) (upd (upd H dx (.own x)) x (.ins C dx [])) (fun v H2 => v = .non ∧ Q (.ref x) H2) E) :
    wpAny (model X.prog X.w) X.A (call (.ref C) us) (EP X pins σ Q) X.xe s := by
  have hq := h (s.heap.objs.size + 1) s.heap.objs.size (I.hok.fresh (Nat.le_succ _)) (I.hok.fresh (Nat.le_refl _)) (Nat.ne_of_lt (Nat.lt_succ_self _))
  have I2 := Inv.made (C := C) I
  have r2 : Vals (V.ref (s.heap.objs.size + 1) :: (vs ++ dvs)) (Value.ref (s.heap.objs.size + 1) :: (us ++ ds)) := .cons rfl (r.append hd)
  have hl : (Value.ref (s.heap.objs.size + 1) :: us ++ ds).length = ps.length := by
    have e := r2.length
    rw [F.len _ _ _ _ hq] at e
    exact e.symm
  refine wpAny_call (make_map (f := f) I.kIn M.makes M.init (beq_iff_eq.mp M.fn) (codeAny_mono (F.run _ X.stack _ _ ⟨Value.ref (s.heap.objs.size + 1) :: us, []⟩ (Value.ref (s.heap.objs.size + 1) :: (us ++ ds)) _ _ E (hr.make C us [])
    (I2.env0.make C us []) (hb _ (Value.ref (s.heap.objs.size + 1) :: us) I2.kIn hl) r2 hq) fun r s' hq' => ?_))
  cases r with
  | error e => exact hx pins σ _ _ e s' I2 hq'
  | ok fl =>
    cases fl with
    | ret u =>
      obtain ⟨v, H', I3, rv, ev, q3⟩ := I2.after hq'
      subst ev
      exact ⟨rv, ⟨V.ref (s.heap.objs.size + 1), H', I3, rfl, q3⟩⟩
    | next => exact False.elim hq'
    | brk => exact False.elim hq'
    | cont => exact False.elim hq'
theorem pe_make (M : Mk X.K C f) (F : FnOk X.prog X.w X.K X.mg X.base CX k f fd ps sp) (hr : Room (k + 1) X.A) (hg : Gl X x) (hm : X.mg x = some (.ref C)) (hb : Binds X.K fd ps ds) (hd : Vals dvs ds) (hx : Passes CX X E)
    (ha : PA X (e :: es) t) (hdb : (x == ("__debug__" : Str)) = false := by decide) (he : starEach (e :: es) X.env = (false, eval e X.env) :: starEach es X.env := by rfl) (hpl : (backTo pos (starEach es X.env)).any (·.1) = false := by rfl) :
    PE X (.Call (.Name x p) (e :: es) [] pos) (tMake C sp dvs E t) := by
  intro pins s σ H Q I h
  refine wpAny_Call_Name_kw (ld_glob I hg hm ?_ hdb)
  refine PySem.W.callWith_K (h₀ := X.base) I.ok.mod.kin M.kp (thn (ha pos pins s σ H _ I h) fun us s1 ⟨vs, H1, I1, r, q⟩ => ⟨I1.kIn, ?_⟩) he hpl
  exact run_make M F hr hb hd hx I1 r q
end

section
variable {X : Cx} {CX : CXT} {k : Nat} {f C : Addr} {fd : FuncData} {ps ks : List Str} {sp : Sp} {E : XK} {x m : Str} {p pos apos kpos : Pos} {e o : Expr} {es : List Expr} {kws : List Keyword} {te ta : TE} {t tk : TA} {nm : Option Str}
structure KBinds (K : PySem.W.Frag) (fd : FuncData) (ps ks : List Str) (g : List Value → List Value → List Value) (gV : List V → List V → List V) : Prop where
  to : ∀ (s : Shared) (us ws : List Value), K.In s.heap → (g us ws).length = ps.length → BindsTo s fd ⟨us, ks.zip ws⟩ (ps.zip (g us ws))
  rel : ∀ {vs : List V} {us : List Value} {zs : List V} {ws : List Value}, Vals vs us → Vals zs ws → Vals (gV vs zs) (g us ws)
variable {g : List Value → List Value → List Value} {gV : List V → List V → List V}
end

structure FnScope (N P : List Str) (sc : Scope) : Prop where
  kind : sc.kind = .function
  co : sc.isCoroutine = false
  gen : sc.isGenerator = false
  nd : N.Nodup
  pre : N.take P.length = P
  par : ∀ x ∈ P, sc.names.lookup x = some .local ∨ sc.names.lookup x = some .cell
  nofree : ∀ y ∈ sc.names, y.2 ≠ .free

theorem bindL_out {kindOf : Str → Option NameKind} {x : Str} : ∀ {binds : List (Str × Value)} {m : Str → Option Value}, (∀ v, (x, v) ∉ binds) → bindL kindOf binds m x = m x
  | [], _, _ => rfl
  | (n, v) :: r, m, h => by
    unfold bindL
    rw [bindL_out fun w hw => h w (List.mem_cons_of_mem _ hw)]
    split
    · have : x ≠ n := by rintro rfl; exact h v List.mem_cons_self
      simp [this]
    · rfl
theorem bindC_out {kindOf : Str → Option NameKind} {x : Str} : ∀ {binds : List (Str × Value)} {m : Str → Option Value}, (∀ v, (x, v) ∉ binds) → bindC kindOf binds m x = m x
  | [], _, _ => rfl
  | (n, v) :: r, m, h => by
    unfold bindC
    rw [bindC_out fun w hw => h w (List.mem_cons_of_mem _ hw)]
    split
    · rfl
    · have : x ≠ n := by rintro rfl; exact h v List.mem_cons_self
      simp [this]
theorem bindL_get {kindOf : Str → Option NameKind} {x : Str} {v : Value} : ∀ {P : List Str} {vs : List Value} {i : Nat} {m : Str → Option Value}, P.Nodup → P[i]? = some x → vs[i]? = some v → kindOf x = some .local →
    bindL kindOf (P.zip vs) m x = some v
  | [], _, _, _, _, h, _, _ => by simp at h
  | _ :: _, [], _, _, _, _, h, _ => by simp at h
  | p :: P, w :: vs, 0, m, nd, h1, h2, hk => by
    simp at h1 h2; subst h1; subst h2
    show bindL kindOf ((p, w) :: P.zip vs) m p = _
    unfold bindL
    rw [bindL_out fun v hv => (List.nodup_cons.mp nd).1 (List.of_mem_zip hv).1, if_pos hk]
    simp
  | p :: P, w :: vs, i + 1, m, nd, h1, h2, hk => by
    show bindL kindOf ((p, w) :: P.zip vs) m x = _
    unfold bindL
    exact bindL_get (i := i) (List.nodup_cons.mp nd).2 (by simpa using h1) (by simpa using h2) hk
theorem bindC_get {kindOf : Str → Option NameKind} {x : Str} {v : Value} : ∀ {P : List Str} {vs : List Value} {i : Nat} {m : Str → Option Value}, P.Nodup → P[i]? = some x → vs[i]? = some v → kindOf x ≠ some .local →
    bindC kindOf (P.zip vs) m x = some v
  | [], _, _, _, _, h, _, _ => by simp at h
  | _ :: _, [], _, _, _, _, h, _ => by simp at h
  | p :: P, w :: vs, 0, m, nd, h1, h2, hk => by
    simp at h1 h2; subst h1; subst h2
    show bindC kindOf ((p, w) :: P.zip vs) m p = _
    unfold bindC
    rw [bindC_out fun v hv => (List.nodup_cons.mp nd).1 (List.of_mem_zip hv).1, if_neg hk]
    simp
  | p :: P, w :: vs, i + 1, m, nd, h1, h2, hk => by
    show bindC kindOf ((p, w) :: P.zip vs) m x = _
    unfold bindC
    exact bindC_get (i := i) (List.nodup_cons.mp nd).2 (by simpa using h1) (by simpa using h2) hk

noncomputable def start (N : List Str) (vs : List V) : St := vs.map some ++ List.replicate (N.length - vs.length) none

noncomputable def cxOf (CX : CXT) (P : Program) (w : World) (K : PySem.W.Frag) (mg : Str → Option Value) (base : Heap) (N : List Str) (qual : Str) (scope : Scope) (f : Addr) (cd : Value) (A : Around) (outer : List Env) (s : Shared) (H : Hp) (E : XK) : Cx where
  prog := P
  w := w
  K := K
  mg := mg
  base := base
  A := A.deeper (envOfC qual scope s.heap.objs.size f cd)
  N := N
  s₀ := s
  H₀ := H
  env := envOfC qual scope s.heap.objs.size f cd
  outer := outer
  stack := envOfC qual scope s.heap.objs.size f cd :: outer
  ex := []
  calm := true
  fn := fun _ => true
  pn := []
  xe := fun e s' => wpAny (model P w) (A.deeper (envOfC qual scope s.heap.objs.size f cd)) (leaving (envOfC qual scope s.heap.objs.size f cd) e) (fun _ s'' => CX outer H s E e s'') (fun e' s'' => CX outer H s E e' s'') s'

theorem cell_has {sc : Scope} {n : Nat} {x : Str} (h : sc.names.lookup x = some .cell) : ∃ c, (cellsFrom n sc.names []).lookup x = some c := by
  have q := PySem.W.cellsFrom_some sc.names n [] (.inl h)
  exact Option.isSome_iff_exists.mp q

theorem inv_start {CX : CXT} {P : Program} {w : World} {K : PySem.W.Frag} {mg : Str → Option Value} {base : Heap} {N ps : List Str} {qual : Str} {scope : Scope} {f : Addr} {cd : Value} {A : Around} {outer : List Env} {s s1 : Shared} {H : Hp} {E : XK} {us : List Value} {vs : List V}
    (S : FnScope N ps scope) (hd : A.handled = none) (e0 : Env0 P w K mg base A outer s H) (hl : vs.length = ps.length) (r : Vals vs us)
    (x : InCallC s s.heap.objs.size (bindL (envOfC qual scope s.heap.objs.size f cd).kindOf (ps.zip us) fun _ => none) (cellsFrom (s.heap.objs.size + 1) scope.names []) (bindC (envOfC qual scope s.heap.objs.size f cd).kindOf (ps.zip us) fun _ => none) s1) :
    Inv (cxOf CX P w K mg base N qual scope f cd A outer s H E) [] (start N vs) H s1 := by
  have hpl : ps.length ≤ N.length := by have := congrArg List.length S.pre; rw [List.length_take] at this; omega
  obtain ⟨h1, tk, rfl, hk⟩ := x.done
  have noA : ∀ b : Addr, b ∉ (cxOf CX P w K mg base N qual scope f cd A outer s H E).ex := fun b z => absurd (show b ∈ ([] : List Addr) from z) (by simp)
  refine ⟨⟨e0.mod, S.kind, rfl, rfl, Nat.le_refl _, fun y z c h1 h2 => ?_, fun y hy => ?_, fun y c _ h => ?_, fun _ => hd, Around.frames_deeper e0.frames, .inr ⟨rfl, rfl⟩, fun b z => absurd z (noA b), e0.bs, e0.bsz, fun b _ _ => noA b, fun b z => absurd z (noA b), e0.funs, e0.frf⟩,
    rfl, e0.bare, Un.kept hk, ⟨_, x.toInCall.ns, fun i y v h1 h2 h3 => ?_⟩, fun y c h => ⟨_, x.cell y c h⟩, e0.hok.fresh (Nat.le_refl _), fun y c h => ?_, fun p hp => absurd (show p ∈ ([] : List (Addr × Obj)) from hp) (by simp), e0.hok.kept hk, ?_⟩
  · exact name_of_addr x.apart (PySem.mem_of_lookup h1) (PySem.mem_of_lookup h2)
  · have hy : scope.names.lookup y = some .cell ∨ scope.names.lookup y = some .free := hy
    obtain hy | hy := hy
    · exact cell_has hy
    · exact absurd rfl (S.nofree _ (PySem.mem_of_lookup hy))
  · exact Nat.le_of_lt (x.above y c (PySem.mem_of_lookup h))
  · have hi : i < vs.length := by
      unfold start at h2
      by_cases hi : i < vs.length
      · exact hi
      · rw [List.getElem?_append_right (by simpa using hi)] at h2
        rw [List.getElem?_replicate] at h2
        split at h2 <;> cases h2
    have ha : vs[i]? = some v := by
      unfold start at h2
      rw [List.getElem?_append_left (by simpa using hi), List.getElem?_map] at h2
      cases e : vs[i]? with
      | none => rw [e] at h2; cases h2
      | some a => rw [e] at h2; cases h2; rfl
    obtain ⟨u, hu, rv⟩ := r.get ha
    have hp : ps[i]? = some y := by
      rw [← S.pre, List.getElem?_take_of_lt (by omega)]; exact h1
    have ndP : ps.Nodup := by rw [← S.pre]; exact S.nd.sublist (List.take_sublist _ _)
    refine ⟨u, rv, ?_⟩
    obtain k | k := S.par y (List.mem_of_getElem? hp)
    · exact .inl ⟨k, bindL_get ndP hp hu k⟩
    · obtain ⟨c, e⟩ := cell_has (n := s.heap.objs.size + 1) k
      refine .inr ⟨.inl k, c, e, ?_⟩
      have q := x.cell y c e
      rw [bindC_get ndP hp hu (by show scope.names.lookup y ≠ _; rw [k]; decide)] at q
      exact q
  · exact e0.hok.fresh (Nat.le_of_lt (x.above y c (PySem.mem_of_lookup h)))
  · unfold start
    show _ = N.length
    rw [List.length_append, List.length_map, List.length_replicate]
    omega

theorem fn_of {CX : CXT} {P : Program} {w : World} {K : PySem.W.Frag} {mg : Str → Option Value} {base : Heap} {k : Nat} {f : Addr} {name qual : Str} {params : Arguments} {body : List Stmt} {scope : Scope} {dV kV doc pm cdv ct oc : Value} {an od : Option Addr}
    {osl : Array (Option Value)} {N ps : List Str} {sp : Sp} (lk : K.lookup f = some ⟨oc, od, .func (PySem.W.fnOf name qual params body scope dV kV doc pm an cdv ct), osl⟩) (hcd : PySem.W.codeIn K cdv qual = true) (S : FnScope N ps scope)
    (len : ∀ vs H Q E, sp vs H Q E → vs.length = ps.length)
    (hbody : ∀ (A : Around) (outer : List Env) (s : Shared) (H : Hp) (vs : List V) (Q : VK) (E : XK), Room k (A.deeper (envOfC qual scope s.heap.objs.size f cdv)) → sp vs H Q E →
      ∃ t, PSs (cxOf CX P w K mg base N qual scope f cdv A outer s H E) body t ∧ t { nx := fun _ H' => Q .non H', rt := Q } (start N vs) H) :
    FnOk P w K mg base CX (k + 1) f (PySem.W.fnOf name qual params body scope dV kV doc pm an cdv ct) ps sp := by
  refine ⟨len, fun A outer s H args us vs Q E hr e0 hb r hsp => ?_⟩
  have hl := len _ _ _ _ hsp
  have KX : K.In s.heap := e0.mod.kin.keeps fun b o e => (e0.bs b o e).1
  have lim : s.heap.NoLimit := e0.mod.nolimit.keeps fun b o e => (e0.bs b o e).1
  have hkind : ∀ y ∈ ps.zip us, scope.names.lookup y.1 = some .local ∨ (scope.names.lookup y.1 = some .cell ∧ ((cellsFrom (s.heap.objs.size + 1) scope.names []).lookup y.1).isSome = true) := fun ⟨n, v⟩ hy => by
    obtain q | q := S.par n (List.of_mem_zip hy).1
    · exact .inl q
    · exact .inr ⟨q, PySem.W.cellsFrom_some _ _ _ (.inl q)⟩
  refine codeAny_call_function hr.depth (KX _ _ lk) rfl S.co S.gen rfl (PySem.W.codeRec_of KX hcd) (hb _ _ _ _ ?_)
  refine wpAny_newFunctionEnv_cells S.kind hkind fun env he s1 x => ?_
  subst he
  refine ⟨lim.keeps x.toInCall.keep, codeAny_func ?_⟩
  obtain ⟨t, ht, hq⟩ := hbody A outer s H vs Q E (hr.deeper _) hsp
  have I : Inv (cxOf CX P w K mg base N qual scope f cdv A outer s H E) [] (start N vs) H s1 := inv_start S hr.hd e0 hl r x
  refine wpAny_mono (ht [] s1 (start N vs) H _ I hq) (fun fl s' hs => ?_) fun e s' hs => hs
  have fin : ∀ {σ' : St} {H' : Hp} {v : V} {u : Value}, Inv (cxOf CX P w K mg base N qual scope f cdv A outer s H E) [] σ' H' s' → RelV v u → Q v H' → CE outer P w H s Q u s' :=
    fun {σ' H' v u} J rv q => ⟨v, H', J.os, J.bare, J.base, J.hok, rv, q⟩
  cases fl with
  | ret u =>
    obtain ⟨v, σ', H', J, rv, q⟩ := hs
    exact fin J rv q
  | next =>
    obtain ⟨σ', H', J, q⟩ := hs
    exact fin (v := V.non) (u := Value.none) J rfl q
  | brk =>
    obtain ⟨_, _, _, q⟩ := hs
    exact False.elim q
  | cont =>
    obtain ⟨_, _, _, q⟩ := hs
    exact False.elim q
end L2

namespace L2
open PySem PySem.Spec PyProof.Rows
section
variable {X : Cx} {x : Str} {p pos : Pos} {e : Expr} {es : List Expr} {t : TA} {id T : String} {r : List V → Hp → VK → Prop}

noncomputable def tCB (r : List V → Hp → VK → Prop) (t : TA) : TE := fun σ H Q => t σ H fun vs H1 => r vs H1 Q
theorem pe_callB (hc : CallR X (.builtin id) r) (hg : Gl X x) (hm : X.mg x = none) (hv : bootBuiltins x = some (.builtin id)) (ha : PA X (e :: es) t) (hn : x ≠ "__name__" := by decide) (hdb : (x == ("__debug__" : Str)) = false := by decide)
    (he : starEach (e :: es) X.env = (false, eval e X.env) :: starEach es X.env := by rfl) (hpl : (backTo pos (starEach es X.env)).any (·.1) = false := by rfl) : PE X (.Call (.Name x p) (e :: es) [] pos) (tCB r t) := by
  intro pins s σ H Q I h
  refine wpAny_Call_Name_kw (ld_blt I hg hm hv ?_ hn hdb)
  exact PyProof.Rows.callWith_builtin1 (thn (ha pos pins s σ H _ I h) fun us s1 ⟨vs, H1, I1, r1, q1⟩ => hc pins s1 σ H1 vs us Q I1 r1 q1) he hpl
theorem pe_callTy (hc : CallR X (.type T) r) (hg : Gl X x) (hm : X.mg x = none) (hv : bootBuiltins x = some (.type T)) (ha : PA X (e :: es) t) (hn : x ≠ "__name__" := by decide) (hdb : (x == ("__debug__" : Str)) = false := by decide)
    (he : starEach (e :: es) X.env = (false, eval e X.env) :: starEach es X.env := by rfl) (hpl : (backTo pos (starEach es X.env)).any (·.1) = false := by rfl) : PE X (.Call (.Name x p) (e :: es) [] pos) (tCB r t) := by
  intro pins s σ H Q I h
  refine wpAny_Call_Name_kw (ld_blt I hg hm hv ?_ hn hdb)
  exact PyProof.Rows.callWith_type1 (thn (ha pos pins s σ H _ I h) fun us s1 ⟨vs, H1, I1, r1, q1⟩ => hc pins s1 σ H1 vs us Q I1 r1 q1) he hpl
end
end L2

namespace HT
open PySem PyProof.Rows

noncomputable def lexLt : List Int → List Int → Bool
  | [], [] => false
  | [], _ :: _ => true
  | _ :: _, [] => false
  | x :: xs, y :: ys => if x = y then lexLt xs ys else decide (x < y)
section
open PySem.SeqAt
open PySem.AutoSeq1 (wpAny_loadPart')
open PySem.MeetsSeq PySem.MeetsSeq2 PySem.MeetsSeq3

end

section
variable {prog : Program} {w : World} {A : Around} {E : Value → Shared → Prop} {s : Shared}

noncomputable def sIx (n d : Nat) : Option Int → Nat
  | none => d
  | some v => if v < 0 then (v + (n : Int)).toNat else min v.toNat n
theorem sIx_nat (n d k : Nat) : sIx n d (some (k : Int)) = min k n := by
  show (if (k : Int) < 0 then ((k : Int) + (n : Int)).toNat else min (k : Int).toNat n) = min k n
  rw [if_neg (by omega), Int.toNat_natCast]
end
end HT

namespace L2
open PySem PySem.Spec PyProof.Rows

noncomputable abbrev TO := St → Hp → (Option Int → Hp → Prop) → Prop
noncomputable def PO (X : Cx) (e : Option Expr) (t : TO) : Prop :=
  ∀ (pins : List (Addr × Obj)) (s : Shared) (σ : St) (H : Hp) (Q : Option Int → Hp → Prop), Inv X pins σ H s → t σ H Q →
    wpAny (model X.prog X.w) X.A (evalPart e X.env) (fun u s' => ∃ o H', Inv X pins σ H' s' ∧ IsPart u o ∧ Q o H') X.xe s
noncomputable def tPart (t : TE) : TO := fun σ H Q => t σ H fun x H1 => ∃ i, x = .int i ∧ Q (some i) H1

theorem intsAre_of {ns : List Int} : ∀ {us : List Value}, Vals (ns.map V.int) us → IntsAre us ns := by
  induction ns with
  | nil => intro us r; rw [List.map_nil] at r; cases r; exact .nil
  | cons n ns ih =>
    intro us r
    rw [List.map_cons] at r
    cases r with
    | cons r1 r2 =>
      obtain ⟨t, e⟩ := r1
      subst e
      exact .cons n t (ih r2)

section
variable {X : Cx} {e : Expr} {te : TE} {lo hi : Option Expr} {tl th : TO} {pos p2 : Pos}

theorem po_some (h : PE X e te) : PO X (some e) (tPart te) := by
  intro pins s σ H Q I hw
  rw [evalPart_some]
  refine thn (h pins s σ H _ I hw) fun u s1 hm_ => ?_
  obtain ⟨x, H1, I1, r1, q1⟩ := hm_
  obtain ⟨i, rfl, q⟩ := q1
  obtain ⟨t, rfl⟩ := r1
  exact ⟨some i, H1, I1, .int i t, q⟩

noncomputable def SlR (X : Cx) (r : V → Option Int → Option Int → Hp → VK → Prop) : Prop :=
  ∀ (pins : List (Addr × Obj)) (s : Shared) (σ : St) (H : Hp) (x : V) (v vl vu : Value) (lo hi : Option Int) (sl : Addr) (Q : VK), Inv X pins σ H s → RelV x v → s.heap.IsSliceOf sl vl vu .none → IsPart vl lo → IsPart vu hi → r x lo hi H Q →
    ∃ T id, typeLookup (.type T) "__getitem__" = pure (some (.builtin id)) ∧ s.TypeIs v T ∧ wpAny (model X.prog X.w) X.A (getItem v (.ref sl)) (EP X pins σ Q) X.xe s
noncomputable def tSl (r : V → Option Int → Option Int → Hp → VK → Prop) (te : TE) (tl th : TO) : TE := fun σ H Q => te σ H fun x H1 => tl σ H1 fun l H2 => th σ H2 fun u H3 => r x l u H3 Q
theorem pe_slice {r : V → Option Int → Option Int → Hp → VK → Prop} (hr : SlR X r) (he : PE X e te) (hl : PO X lo tl) (hu : PO X hi th) : PE X (.Subscript e (.Slice lo hi none p2) pos) (tSl r te tl th) := by
  intro pins s σ H Q I h
  refine Subscript_ (thn (he pins s σ H _ I h) fun v s1 hm_ => ?_)
  obtain ⟨x, H1, I1, r1, q1⟩ := hm_
  refine wpAny_Slice (thn (hl pins s1 σ H1 _ I1 q1) fun vl s2 ⟨l, H2, I2, pl, q2⟩ => thn (hu pins s2 σ H2 _ I2 q2) fun vu s3 hm_ => ?_)
  obtain ⟨u, H3, I3, pu, q3⟩ := hm_
  rw [evalPart_none]
  refine wpAny_pure ?_
  have I4 : Inv X pins σ H3 { s3 with heap := s3.heap.push { cls := .type "slice", data := .fields #[vl, vu, .none] } } := I3.kept (t' := s3.toks) fun b ob q => Heap.get?_push_of_some _ q
  obtain ⟨T, id, hT, ht, hg⟩ := hr pins { s3 with heap := s3.heap.push { cls := .type "slice", data := .fields #[vl, vu, .none] } } σ H3 x v vl vu l u s3.heap.objs.size Q I4 r1 (Heap.IsSliceOf.new ..) pl pu q3
  show wpAny (model X.prog X.w) X.A (subscriptTail e (.Slice lo hi none p2) v (.ref s3.heap.objs.size)) (EP X pins σ Q) X.xe { s3 with heap := s3.heap.push { cls := .type "slice", data := .fields #[vl, vu, .none] } }
  exact tail_any (ops := [.ref s3.heap.objs.size, v]) ht hT hg (by with_unfolding_all rfl)

noncomputable def cutV (xs : List V) (lo hi : Option Int) : List V := (xs.drop (HT.sIx xs.length 0 lo)).take (HT.sIx xs.length xs.length hi - HT.sIx xs.length 0 lo)
theorem cutV_length (xs : List V) (lo hi : Option Int) : (cutV xs lo hi).length ≤ xs.length := by
  unfold cutV
  rw [List.length_take, List.length_drop]
  omega
end
end L2

namespace L2
open PySem PySem.Spec PyProof.Rows

noncomputable def ixN (n : Nat) (i : Int) : Option Nat := if 0 ≤ i then (if i < n then some i.toNat else none) else if -(n : Int) ≤ i then some (i + n).toNat else none
noncomputable def atI {α : Type} (xs : List α) (i : Int) : Option α := (ixN xs.length i).bind fun j => xs[j]?
theorem ixN_seq {n : Nat} {i : Int} {j : Nat} (h : ixN n i = some j) : seqIndex? i n = some j ∧ j < n ∧ -(n : Int) ≤ i ∧ i < n := by
  unfold ixN at h
  by_cases h0 : 0 ≤ i
  · rw [if_pos h0] at h
    by_cases h1 : i < n
    · rw [if_pos h1] at h
      have e : i.toNat = j := Option.some.inj h
      exact ⟨by rw [seqIndex_of h0 h1, e], by omega, by omega, h1⟩
    · rw [if_neg h1] at h; cases h
  · rw [if_neg h0] at h
    by_cases h1 : -(n : Int) ≤ i
    · rw [if_pos h1] at h
      have e : (i + n).toNat = j := Option.some.inj h
      exact ⟨by rw [seqIndex_neg (by omega) h1, e], by omega, h1, by omega⟩
    · rw [if_neg h1] at h; cases h
theorem atI_get {α : Type} {xs : List α} {i : Int} {v : α} (h : atI xs i = some v) : ∃ j, seqIndex? i xs.length = some j ∧ xs[j]? = some v ∧ j < xs.length ∧ -(xs.length : Int) ≤ i ∧ i < xs.length := by
  unfold atI at h
  cases e : ixN xs.length i with
  | none => rw [e] at h; cases h
  | some j =>
    rw [e] at h
    obtain ⟨h1, h2, h3, h4⟩ := ixN_seq e
    exact ⟨j, h1, h, h2, h3, h4⟩
theorem atI_nat {α : Type} {xs : List α} {j : Nat} {v : α} (h : xs[j]? = some v) : atI xs (j : Int) = some v := by
  have hj : j < xs.length := (List.getElem?_eq_some_iff.mp h).1
  have e : ixN xs.length (j : Int) = some j := by
    unfold ixN
    rw [if_pos (by omega), if_pos (by omega)]; simp
  unfold atI; rw [e]; exact h
theorem atI_last {α : Type} (xs : List α) (v : α) : atI (xs ++ [v]) (-1) = some v := by
  have hl : (xs ++ [v]).length = xs.length + 1 := by simp
  have e : ixN (xs ++ [v]).length (-1) = some xs.length := by
    unfold ixN
    rw [hl, if_neg (by decide), if_pos (by omega)]
    congr 1
    omega
  unfold atI
  rw [e]
  show (xs ++ [v])[xs.length]? = some v
  simp

noncomputable def PlainIx (b : Expr) : Prop := ∀ o i, subscripted b false o i = operate [o, i] (getItem o i)
noncomputable def IxR (X : Cx) (r : R2) : Prop :=
  ∀ (value slice : Expr) (pins : List (Addr × Obj)) (s : Shared) (σ : St) (H : Hp) (x y : V) (v u : Value) (Q : VK), Inv X pins σ H s → RelV x v → RelV y u → r x y H Q →
    subscripted slice false v u = operate [v, u] (getItem v u) → wpAny (model X.prog X.w) X.A (subscriptTail value slice v u) (EP X pins σ Q) X.xe s
noncomputable def MtR (X : Cx) (id : String) (r : V → List V → Hp → VK → Prop) : Prop :=
  ∀ (pins : List (Addr × Obj)) (s : Shared) (σ : St) (H : Hp) (x : V) (xs : List V) (v : Value) (us : List Value) (Q : VK), Inv X pins σ H s → RelV x v → Vals xs us → r x xs H Q →
    wpAny (model X.prog X.w) X.A (call (.builtin id) (v :: us)) (EP X pins σ Q) X.xe s
section
variable {X : Cx} {a b : Expr} {ta tb : TE} {pos : Pos}
theorem pe_ix {r : R2} (hr : IxR X r) (ha : PE X a ta) (hb : PE X b tb) (hs : PlainIx b) : PE X (.Subscript a b pos) (tOp r ta tb) := by
  intro pins s σ H Q I h
  exact Subscript_ (binT ha hb I h fun v u s2 x y H2 I2 rx ry q => hr a b pins s2 σ H2 x y v u Q I2 rx ry q (hs _ _))

inductive IxAt (S : Addr → List V → Prop) (x y : V) (Q : V → Prop) : Prop
  | mk (p : Addr) (xs : List V) (i : Int) (v : V) (h1 : x = .ref p) (h2 : y = .int i) (s : S p xs) (a : atI xs i = some v) (q : Q v) : IxAt S x y Q
noncomputable def rIxL (K : PySem.W.Frag) : R2 := fun x y H Q => IxAt (SqL K H) x y fun v => Q v H
noncomputable def rIxT (K : PySem.W.Frag) : R2 := fun x y H Q => IxAt (SqT K H) x y fun v => Q v H
theorem ix_list : IxR X (rIxL X.K) := by
  intro value slice pins s σ H x y v u Q I rx ry h hs
  obtain ⟨p, xs, i, z, rfl, rfl, hq, he, q⟩ := h
  cases rx
  obtain ⟨t, rfl⟩ := ry
  obtain ⟨its, r, pl, hz⟩ := I.list hq
  obtain ⟨j, h1, h2, h3, h4, h5⟩ := atI_get he
  obtain ⟨w, ew, rw'⟩ := r.get h2
  have hl := r.length
  have hn := line63
  have fin : EP X pins σ Q w s := ⟨z, H, I, rw', q⟩
  by_cases h0 : 0 ≤ i
  · have hj : i.toNat = j := by
      rw [seqIndex_of h0 h5] at h1
      exact Option.some.inj h1
    exact item_listR pl.isList h0 (by omega) (by rw [hj]; simpa using ew) fin hs
  · have hj : (i + (its.toArray.size : Int)).toNat = j := by
      rw [seqIndex_neg (by omega) h4] at h1
      rw [List.size_toArray, ← hl]
      exact Option.some.inj h1
    exact subscriptTail_builtinR (x := w) pl.isList.typeIs slot_list_getitem.lookup
      (wpAny_getItem_list_neg (Q := fun r s' => r = w ∧ EP X pins σ Q r s') pl.isList (by omega) (by rw [List.size_toArray] <;> omega) (by omega) (by rw [hj]; simpa using ew) ⟨rfl, fin⟩) hs
theorem ix_tup : IxR X (rIxT X.K) := by
  intro value slice pins s σ H x y v u Q I rx ry h hs
  obtain ⟨p, xs, i, z, rfl, rfl, hq, he, q⟩ := h
  cases rx
  obtain ⟨t, rfl⟩ := ry
  obtain ⟨its, r, pl, hz⟩ := I.tuple hq
  obtain ⟨j, h1, h2, h3, h4, h5⟩ := atI_get he
  obtain ⟨w, ew, rw'⟩ := r.get h2
  have hl := r.length
  have hn := line63
  have fin : EP X pins σ Q w s := ⟨z, H, I, rw', q⟩
  exact subscriptTail_builtinR (x := w) pl.typeIs slot_tuple_getitem.lookup
    (getItem_tuple (j := j) (Q := fun r s' => r = w ∧ EP X pins σ Q r s') pl (by omega) (by omega) (by rw [List.size_toArray, ← hl]; exact h1) (by simpa using ew) ⟨rfl, fin⟩) hs
theorem slice_bounds (lo hi : Option Int) (n : Nat) : (sliceBounds lo hi none n).1 = ((HT.sIx n 0 lo : Nat) : Int) ∧ (sliceBounds lo hi none n).2.1 = ((HT.sIx n n hi : Nat) : Int) ∧ (sliceBounds lo hi none n).2.2 = 1 := by
  refine ⟨?_, ?_, rfl⟩
  · cases lo with
    | none => simp [sliceBounds, HT.sIx]
    | some i =>
      simp only [sliceBounds, HT.sIx, Option.getD_none, show (1 : Int) > 0 by decide, if_true]
      by_cases h : i < 0
      · simp only [h, if_true] <;> omega
      · simp only [h, if_false] <;> omega
  · cases hi with
    | none => simp [sliceBounds, HT.sIx]
    | some i =>
      simp only [sliceBounds, HT.sIx, Option.getD_none, show (1 : Int) > 0 by decide, if_true]
      by_cases h : i < 0
      · simp only [h, if_true] <;> omega
      · simp only [h, if_false] <;> omega
theorem slicePick_cut (its : List Value) (lo hi : Option Int) : slicePick its.toArray lo hi none = ((its.drop (HT.sIx its.length 0 lo)).take (HT.sIx its.length its.length hi - HT.sIx its.length 0 lo)).toArray := by
  obtain ⟨h1, h2, h3⟩ := slice_bounds lo hi its.toArray.size
  unfold slicePick
  rw [h1, h2, h3]
  simp only [sliceRange_one, pick_run, List.size_toArray] <;> rfl
inductive SlAt (S : Addr → List V → Prop) (x : V) (Q : List V → Prop) : Prop
  | mk (a : Addr) (xs : List V) (h : x = .ref a) (s : S a xs) (q : Q xs) : SlAt S x Q
noncomputable def rSlL (K : PySem.W.Frag) : V → Option Int → Option Int → Hp → VK → Prop := fun x lo hi H Q => SlAt (SqL K H) x fun xs => ∀ p, H p = none → Q (.ref p) (upd H p (.lst (cutV xs lo hi)))
theorem sl_list : SlR X (rSlL X.K) := by
  intro pins s σ H x v vl vu lo hi sl Q I rx hs pl pu h
  obtain ⟨a, xs, rfl, hx, q⟩ := h
  cases rx
  obtain ⟨its, r, ht, hz⟩ := I.list hx
  have hlen := r.length
  refine ⟨"list", _, slot_list_getitem.lookup, ht.isList.typeIs, ?_⟩
  refine wpAny_getItem_list_slice ht.isList hs pl pu .none (by simp) ?_ (by rw [List.size_toArray] <;> omega)
  rw [slicePick_cut, ← hlen]
  refine ⟨.ref s.heap.objs.size, _, I.laid (t' := s.toks) (o := .lst (cutV xs lo hi)) (fun b ob q => Heap.get?_push_of_some _ q) (Nat.le_refl _) ?_, rfl, q _ (I.hok.fresh (Nat.le_refl _))⟩
  exact ⟨Nat.le_trans (cutV_length xs lo hi) hz, _, 0, (r.drop (HT.sIx xs.length 0 lo)).take (HT.sIx xs.length xs.length hi - HT.sIx xs.length 0 lo), Heap.get?_push_size _ rfl⟩

inductive LenAt (K : PySem.W.Frag) (xs : List V) (H : Hp) (Q : VK) : Prop
  | mk (p : Addr) (ys : List V) (h : xs = [.ref p]) (s : SqL K H p ys ∨ SqT K H p ys) (q : Q (.int ys.length) H) : LenAt K xs H Q
theorem call_len_seq : CallR X (.builtin "len") (LenAt X.K) := by
  intro pins s σ H xs us Q I r h
  obtain ⟨p, ys, rfl, hq, q⟩ := h
  obtain ⟨u, rfl, rx⟩ := vals1 r
  cases rx
  have hn := line63
  obtain hq | hq := hq
  · obtain ⟨its, r', pl, hz⟩ := I.list hq
    have hlen := r'.length
    exact Calls.call_len_list pl.isList (by simp only [List.size_toArray] <;> omega) ⟨.int ys.length, H, I.tok _, ⟨s.toks + 1, by rw [List.size_toArray, hlen]⟩, q⟩
  · obtain ⟨its, r', pl, hz⟩ := I.tuple hq
    have hlen := r'.length
    exact len_tuple pl (by simp only [List.size_toArray] <;> omega) ⟨.int ys.length, H, I.tok _, ⟨s.toks + 1, by rw [List.size_toArray, hlen]⟩, q⟩
theorem call_list_of : CallR X (.type "list") (fun xs H Q => ∃ p ys, xs = [.ref p] ∧ (SqL X.K H p ys ∨ SqT X.K H p ys) ∧ ∀ l, H l = none → Q (.ref l) (upd H l (.lst ys))) := by
  intro pins s σ H xs us Q I r h
  obtain ⟨p, ys, rfl, hq, q⟩ := h
  obtain ⟨u, rfl, rx⟩ := vals1 r
  cases rx
  have fin : ∀ (its : List Value), Vals ys its → ys.length ≤ sizeLine → ∀ (h' : Heap) (c' : Nat), (∀ b o', s.heap.get? b = some o' → h'.get? b = some o') →
      h'.get? s.heap.objs.size = some { cls := .type "list", dict := none, data := .seq its.toArray c', slots := #[] } → EP X pins σ Q (.ref s.heap.objs.size) { s with heap := h' } := fun its r' hz h' c' kp e =>
    ⟨.ref s.heap.objs.size, _, I.laid (t' := s.toks) kp (Nat.le_refl _) (show ObjOk X.prog X.w _ h' _ (.lst ys) from ⟨hz, its, c', r', e⟩), rfl, q _ (I.hok.fresh (Nat.le_refl _))⟩
  obtain hq | hq := hq
  · obtain ⟨its, r', pl, hz⟩ := I.list hq
    have hlen := r'.length
    obtain ⟨o, ho, hc, n, hd⟩ := pl.isList
    exact call_list_seq p (.inl rfl) ho hc hd (fun h' c' kp e => fin its r' hz h' c' kp e) (by simp only [List.size_toArray] <;> omega)
  · obtain ⟨its, r', pl, hz⟩ := I.tuple hq
    have hlen := r'.length
    obtain ⟨o, ho, hc, n, hd⟩ := pl
    exact call_list_seq p (.inr rfl) ho hc hd (fun h' c' kp e => fin its r' hz h' c' kp e) (by simp only [List.size_toArray] <;> omega)
noncomputable def tyV (K : PySem.W.Frag) (T : String) (x : V) (H : Hp) : Prop := match x with
  | .str _ => T = "str"
  | .int _ => T = "int"
  | .ref p => (T = "list" ∧ ∃ xs, SqL K H p xs) ∨ (T = "tuple" ∧ ∃ o, K.lookup p = some o ∧ o.cls = .type "tuple" ∧ o.dict = none) ∨
      (T = "dict" ∧ ((∃ kvs, H p = some (.dK kvs)) ∨ ∃ kvs, H p = some (.dT kvs))) ∨ (T = "set" ∧ ∃ S n, H p = some (.set S n))
  | _ => False
theorem tyV_is {pins : List (Addr × Obj)} {σ : St} {H : Hp} {s : Shared} {T : String} {x : V} {v : Value} (I : Inv X pins σ H s) (r : RelV x v) (ty : tyV X.K T x H) :
    s.TypeIs v T ∧ ∀ a, v = .ref a → ∃ ob, s.heap.get? a = some ob ∧ ob.dict = none := by
  cases x with
  | str z =>
    obtain ⟨t, rfl⟩ := r
    cases (show T = "str" from ty)
    exact ⟨typeIs_str s z t, fun _ e => nomatch e⟩
  | int i =>
    obtain ⟨t, rfl⟩ := r
    cases (show T = "int" from ty)
    exact ⟨typeIs_int s i t, fun _ e => nomatch e⟩
  | ref p =>
    cases r
    obtain ⟨rfl, xs, hq⟩ | ⟨rfl, o, hk, hc, hd⟩ | ⟨rfl, hk⟩ | ⟨rfl, S, n, hk⟩ := ty
    · obtain ⟨its, _, pl, _⟩ := I.list hq
      refine ⟨pl.isList.typeIs, fun a e => ?_⟩
      cases e
      obtain ⟨o, n, e, c, hd, _⟩ := pl
      exact ⟨o, e, hd⟩
    · refine ⟨⟨o, I.kIn p o hk, hc⟩, fun a e => ?_⟩
      cases e
      exact ⟨o, I.kIn _ o hk, hd⟩
    · have z : ∃ o, s.heap.get? p = some o ∧ o.ExactDict := by
        obtain ⟨kvs, hk⟩ | ⟨kvs, hk⟩ := hk
        · obtain ⟨_, _, _, _, o, _, _, e, ex, _⟩ := I.hok p _ hk
          exact ⟨o, e, ex⟩
        · obtain ⟨_, _, _, _, o, _, _, e, ex, _⟩ := I.hok p _ hk
          exact ⟨o, e, ex⟩
      obtain ⟨o, e, ex⟩ := z
      refine ⟨⟨o, e, ex.1⟩, fun a e2 => ?_⟩
      cases e2
      exact ⟨o, e, ex.2.1⟩
    · obtain ⟨o, _, _, _, e, ex, _⟩ := I.hok p _ hk
      refine ⟨⟨o, e, ex.1⟩, fun a e2 => ?_⟩
      cases e2
      exact ⟨o, e, ex.2.1⟩
  | _ => exact False.elim ty
noncomputable def tBM0 (K : PySem.W.Frag) (T : String) (r : V → List V → Hp → VK → Prop) (to : TE) : TE := fun σ H Q => to σ H fun x H1 => tyV K T x H1 ∧ r x [] H1 Q
noncomputable def tBM (K : PySem.W.Frag) (T : String) (r : V → List V → Hp → VK → Prop) (to : TE) (t : TA) : TE := fun σ H Q => to σ H fun x H1 => tyV K T x H1 ∧ t σ H1 fun xs H2 => r x xs H2 Q
variable {o e : Expr} {es : List Expr} {to : TE} {t : TA} {name : Str} {apos cpos : Pos} {T id : String} {r : V → List V → Hp → VK → Prop}
theorem pe_bm0 (pa : PlainAttrs T) (slot : Slot T name id) (hty : typeOf (.builtin id) = pure (.type "method_descriptor")) (hm : MtR X id r) (ho : PE X o to)
    (hbase : attributeBase o name X.env (eval o X.env) = eval o X.env := by rfl) (hline : (apos.endLine == cpos.line) = true := by rfl) : PE X (.Call (.Attribute o name apos) [] [] cpos) (tBM0 X.K T r to) := by
  intro pins s σ H Q I h
  refine wpAny_Call_method0_late hbase hline (thn (ho pins s σ H _ I h) fun v s1 hm_ => ?_)
  obtain ⟨x, H1, I1, r1, ty, q1⟩ := hm_
  obtain ⟨h1, h2⟩ := tyV_is I1 r1 ty
  exact ⟨T, id, pa, slot, hty, h1, h2, Calls.callWith_builtin rfl (PySem.evalArgs_none (hm pins s1 σ H1 x [] v [] Q I1 r1 .nil q1))⟩
theorem pe_bm (pa : PlainAttrs T) (slot : Slot T name id) (hty : typeOf (.builtin id) = pure (.type "method_descriptor")) (hm : MtR X id r) (ho : PE X o to) (ha : PA X (e :: es) t)
    (hbase : attributeBase o name X.env (eval o X.env) = eval o X.env := by rfl)
    (hfew : ((backTo cpos (starEach (e :: es) X.env)).all (fun x => !x.1) && (backToKw cpos (keywordEach [] X.env)).all (fun x => x.1.isSome)
      && decide ((e :: es).length + ([] : List Keyword).length + (if ([] : List Keyword).isEmpty then 0 else 1) < 30)) = true := by rfl)
    (hline : (apos.endLine == cpos.line) = true := by rfl) (hs : starEach (e :: es) X.env = (false, eval e X.env) :: starEach es X.env := by rfl) (hplain : (backTo cpos (starEach es X.env)).any (·.1) = false := by rfl) :
    PE X (.Call (.Attribute o name apos) (e :: es) [] cpos) (tBM X.K T r to t) := by
  intro pins s σ H Q I h
  refine wpAny_Call_method_late hbase hfew hline rfl (thn (ho pins s σ H _ I h) fun v s1 hm_ => ?_)
  obtain ⟨x, H1, I1, r1, ty, q1⟩ := hm_
  obtain ⟨h1, h2⟩ := tyV_is I1 r1 ty
  refine ⟨T, id, pa, slot, hty, h1, h2, ?_⟩
  have hA := ha cpos pins s1 σ H1 _ I1 q1
  rw [hs] at hA ⊢
  refine Calls.callWith_builtin (by show (false || (backTo cpos (starEach es X.env)).any (·.1)) = false; rw [hplain] <;> rfl) (Calls.evalArgs_plain ?_)
  exact thn hA fun us s2 ⟨vs, H2, I2, r2, q2⟩ => hm pins s2 σ H2 x vs v us Q I2 r1 r2 q2
/- xs.append(e), list.index on a module's tuple .. are MtR facts of 06m -/
end
end L2

namespace L2
open PySem PySem.Spec PyProof.Rows

noncomputable def MtM (X : Cx) (id : String) (r : V → List V → Hp → VK → Prop) : Prop :=
  ∀ (pins : List (Addr × Obj)) (s : Shared) (σ : St) (H : Hp) (x : V) (xs : List V) (v : Value) (us : List Value) (Q : VK), Inv X pins σ H s → RelV x v → Vals xs us → r x xs H Q →
    wpAny (model X.prog X.w) X.A (call (.builtin id) (v :: us)) (EP X pins σ Q) X.xe s

theorem Vals.one {x : V} {us : List Value} (h : Vals [x] us) : ∃ u, us = [u] ∧ RelV x u := by
  cases h with
  | cons r t => cases t; exact ⟨_, rfl, r⟩
theorem Vals.two {x y : V} {us : List Value} (h : Vals [x, y] us) : ∃ u v, us = [u, v] ∧ RelV x u ∧ RelV y v := by
  cases h with
  | cons r t =>
    obtain ⟨v, rfl, q⟩ := Vals.one t
    exact ⟨_, _, rfl, r, q⟩
theorem Vals.zero : ∀ {us : List Value}, Vals [] us → us = []
  | _, .nil => rfl
theorem Vals.eraseIdx : ∀ {xs : List V} {us : List Value} (i : Nat), Vals xs us → Vals (xs.eraseIdx i) (us.eraseIdx i)
  | _, _, _, .nil => .nil
  | _, _, 0, .cons _ t => t
  | _, _, i + 1, .cons r t => .cons r (Vals.eraseIdx i t)
theorem len_erase {α : Type} : ∀ (l : List α) (i : Nat), (l.eraseIdx i).length ≤ l.length
  | [], _ => Nat.le_refl _
  | _ :: _, 0 => Nat.le_succ _
  | _ :: r, i + 1 => Nat.succ_le_succ (len_erase r i)
section
variable {X : Cx} {pins : List (Addr × Obj)} {σ : St} {H : Hp} {s : Shared} {l b : Addr} {xs ys zs : List V}

theorem Inv.lset {its its' : List Value} {n : Nat} {f : Array Value → Array Value} {t' : Nat} (I : Inv X pins σ H s) (hH : H l = some (.lst xs))
    (e : s.heap.get? l = some { cls := .type "list", data := .seq its.toArray n }) (hf : f its.toArray = its'.toArray) (hv : Vals ys its') (hz : ys.length ≤ sizeLine) :
    Inv X pins σ (upd H l (.lst ys)) { s with heap := s.heap.update l (Obj.mapSeq f), toks := t' } := by
  have q := PySem.IsL.update e f
  rw [hf] at q
  refine I.write (x := l) (e := l) (by rw [hH]; exact trivial) (.inl rfl) (fun b' u hb hu => (Heap.get?_update_other s.heap (Obj.mapSeq f) (Ne.symm hb)).trans hu) ⟨_, q⟩ ?_
  exact ⟨hz, its', _, hv, q⟩
theorem Inv.lnew {its : List Value} {t' : Nat} (I : Inv X pins σ H s) (hv : Vals ys its) (hz : ys.length ≤ sizeLine) :
    Inv X pins σ (upd H s.heap.objs.size (.lst ys)) { s with heap := s.heap.push { cls := .type "list", data := .seq its.toArray }, toks := t' } :=
  I.laid (fun _ _ q => Heap.get?_push_of_some _ q) (Nat.le_refl _) ⟨hz, its, 0, hv, Heap.get?_push_size _ rfl⟩
theorem Inv.fresh (I : Inv X pins σ H s) : H s.heap.objs.size = none := I.hok.fresh (Nat.le_refl _)
theorem Inv.lstM (I : Inv X pins σ H s) (hH : H l = some (.lst xs)) : xs.length ≤ sizeLine ∧ ∃ (its : List Value) (n : Nat), Vals xs its ∧ xs.length = its.length ∧ s.heap.get? l = some { cls := .type "list", data := .seq its.toArray n } := by
  obtain ⟨z, its, n, r, e⟩ := I.hok l _ hH
  exact ⟨z, its, n, r, r.length, e⟩

theorem notLongL {n : Nat} (h : n ≤ sizeLine) : Builtin.List.listTooLong n = false := by
  unfold Builtin.List.listTooLong
  exact decide_eq_false (by omega)
end

section
variable {X : Cx}

inductive Appd (x : V) (vs : List V) (H : Hp) (Q : VK) : Prop
  | mk (l : Addr) (xs : List V) (y : V) (h1 : x = .ref l) (h2 : vs = [y]) (h3 : H l = some (.lst xs)) (h4 : xs.length < sizeLine) (q : Q .non (upd H l (.lst (xs ++ [y])))) : Appd x vs H Q
noncomputable def rAppend : V → List V → Hp → VK → Prop := fun x vs H Q => Appd x vs H Q
theorem mt_append : MtM X "list.append" rAppend := by
  intro pins s σ H x vs v us Q I rx rv h
  obtain ⟨l, xs, y, rfl, rfl, hH, hz, q⟩ := h
  cases rx
  obtain ⟨u, rfl, ru⟩ := rv.one
  obtain ⟨z, its, n, r, hl, e⟩ := I.lstM hH
  refine call_meets F.slot_list_append ⟨_, e, rfl⟩ F.entry_list_append (F.args_list_append_2 _ _) (PySem.list_append l its.toArray n u (by rw [List.size_toArray]; omega)) ⟨e, ?_⟩
  refine ⟨.non, _, I.lset (its' := its ++ [u]) hH e (by simp) (r.append (.cons ru .nil)) ?_, rfl, q⟩
  rw [List.length_append, List.length_singleton]
  omega

noncomputable def rExtend : V → List V → Hp → VK → Prop := fun x vs H Q => ∃ l b xs zs, x = .ref l ∧ vs = [.ref b] ∧ H l = some (.lst xs) ∧ H b = some (.lst zs) ∧ xs.length + zs.length ≤ sizeLine ∧ Q .non (upd H l (.lst (xs ++ zs)))
theorem mt_extend : MtM X "list.extend" rExtend := by
  intro pins s σ H x vs v us Q I rx rv h
  obtain ⟨l, b, xs, zs, rfl, rfl, hH, hB, hz, q⟩ := h
  cases rx
  obtain ⟨u, rfl, ru⟩ := rv.one
  cases ru
  obtain ⟨z, its, n, r, hl, e⟩ := I.lstM hH
  obtain ⟨z2, its2, n2, r2, hl2, e2⟩ := I.lstM hB
  have hsz : its.toArray.size + its2.toArray.size ≤ sizeLine := by rw [List.size_toArray, List.size_toArray]; omega
  have hlong : ¬ (!its.toArray.isEmpty && Builtin.List.listTooLong (its.toArray.size + its2.toArray.size)) = true := by
    rw [notLongL hsz, Bool.and_false]
    exact Bool.false_ne_true
  refine call_meets F.slot_list_extend ⟨_, e, rfl⟩ F.entry_list_extend (F.args_list_extend_2 _ _)
    (AutoSeq1.list_extend_list_list_0 l its.toArray n b its2.toArray n2 hlong (by rw [List.size_toArray]; omega) (by omega)) ⟨e, e2, ?_⟩
  refine ⟨.non, _, I.lset (its' := its ++ its2) hH e (by simp) (r.append r2) ?_, rfl, q⟩
  rw [List.length_append]
  omega

noncomputable def rPopAt : V → List V → Hp → VK → Prop := fun x vs H Q => ∃ l xs i k y, x = .ref l ∧ vs = [.int i] ∧ H l = some (.lst xs) ∧ -(2 ^ 63) ≤ i ∧ i < 2 ^ 63 ∧ seqIndex? i xs.length = some k ∧ xs[k]? = some y ∧ Q y (upd H l (.lst (xs.eraseIdx k)))
theorem mt_popAt : MtM X "list.pop" rPopAt := by
  intro pins s σ H x vs v us Q I rx rv h
  obtain ⟨l, xs, i, k, y, rfl, rfl, hH, h1, h2, hk, hy, q⟩ := h
  cases rx
  obtain ⟨u, rfl, ru⟩ := rv.one
  obtain ⟨t, rfl⟩ := ru
  obtain ⟨z, its, n, r, hl, e⟩ := I.lstM hH
  obtain ⟨w, hw, rw'⟩ := r.get hy
  refine call_meets F.slot_list_pop ⟨_, e, rfl⟩ F.entry_list_pop (F.args_list_pop_2 _ _)
    (MeetsSeq.list_pop_at l its.toArray n i t k w (fitsIndex_both h1 h2) (by rw [List.size_toArray, ← hl]; exact hk) (by rw [← Array.getElem?_toList]; exact hw) (by rw [List.size_toArray]; omega)) ⟨e, ?_⟩
  refine ⟨y, _, I.lset (its' := its.eraseIdx k) hH e ?_ (r.eraseIdx k) ?_, rw', q⟩
  · show its.toArray.eraseIdxIfInBounds k = (its.eraseIdx k).toArray
    rw [List.eraseIdxIfInBounds_toArray]
  · have := len_erase xs k
    omega

noncomputable def rCat : R2 := fun x y H Q => ∃ l b xs zs, x = .ref l ∧ y = .ref b ∧ H l = some (.lst xs) ∧ H b = some (.lst zs) ∧ xs.length + zs.length ≤ sizeLine ∧ ∀ p, H p = none → Q (.ref p) (upd H p (.lst (xs ++ zs)))
theorem op_cat : OpR X (binaryOp .Add) rCat := by
  intro pins s σ H x y v u Q I rx ry h
  obtain ⟨l, b, xs, zs, rfl, rfl, hH, hB, hz, q⟩ := h
  cases rx
  cases ry
  obtain ⟨z, its, n, r, hl, e⟩ := I.lstM hH
  obtain ⟨z2, its2, n2, r2, hl2, e2⟩ := I.lstM hB
  refine PySem.P.add_list e e2 ?_ (by rw [List.size_toArray, List.size_toArray]; omega)
  have ea : its.toArray ++ its2.toArray = (its ++ its2).toArray := by simp
  rw [ea]
  exact ⟨.ref _, _, I.lnew (t' := s.toks) (r.append r2) (by rw [List.length_append]; omega), rfl, q _ I.fresh⟩
end

section
variable {prog : Program} {w : World} {A : Around} {E : Value → Shared → Prop} {s : Shared}
end

section
variable {X : Cx}
end
end L2

namespace Att
open PySem PySem.W PySem.Calls PyProof.Rows

theorem ints_of_wellAll {P : Params} {h : Heap} : ∀ (ns : List Int) (vs : List Value), WellAll P h vs (ns.map WData.int) → IntsAre vs ns := by
  intro ns
  induction ns with
  | nil =>
    intro vs w
    rw [List.map_nil] at w
    cases w
    exact .nil
  | cons n ns ih =>
    intro vs w
    rw [List.map_cons] at w
    cases w with
    | cons a b =>
      cases a
      exact .cons _ _ (ih _ b)

theorem script_of {l : OpenLaw} {n : Nat} (hn : l.most = some n) {P : Params} {h : Heap} {args : List WData} {vals : List Value}
    (hpre : l.row.toRowW.claim.pre args = true) (hwl : WellAll P h vals args) :
    ∃ a vs ns, vals = [Value.ref a] ∧ args = [WData.list (ns.map WData.int)] ∧ h.get? a = some { cls := .type "list", data := .seq vs.toArray } ∧ IntsAre vs ns ∧ ns.length ≤ n := by
  have hsh : WShape.hasAll [] args [.list .int] = true := (pre_splitW hpre).1
  have hc : l.pre.holds [] { args := args } = true := (pre_splitW hpre).2
  obtain ⟨d, r, rfl, h1, h2⟩ := hasAllW_cons hsh
  obtain rfl := hasAllW_nil h2
  obtain ⟨xs, rfl, h3⟩ := hasW_list h1
  obtain ⟨ns, rfl⟩ := items_int h3
  have hlen : ns.length ≤ n := by
    unfold OpenLaw.pre at hc
    have h4 : (WTm.not (.lt (.lit (.int (n : Int))) (.len (.arg 0)))).holds [] { args := [.list (ns.map .int)] } = true := by
      have h4 := (holds_andW hc).1
      rw [hn] at h4
      exact h4
    have h5 := condW_of h4 (w_not (w_lt w_lit (w_len_list (w_arg rfl))))
    rw [List.length_map] at h5
    refine Nat.le_of_not_lt fun q => ?_
    have q' : (n : Int) < ((ns.length : Nat) : Int) := by omega
    first
      | (rw [decide_eq_true q'] at h5; exact absurd h5 (by decide))
      | (simp at h5; omega)
  cases hwl with
  | cons w1 w2 =>
    cases w2
    cases w1 with
    | list ho hall => exact ⟨_, _, ns, rfl, rfl, ho, ints_of_wellAll ns _ hall, hlen⟩

theorem post_true (l : OpenLaw) (args : List WData) : l.row.toRowW.claim.post args (.bool true) args = true :=
  postW_of (r := l.row.toRowW) (X := (true == true))
    (show WShape.has [] (.bool true) .bool = true by first | rfl | decide | simp [WShape.has, WShape.arms, WShape.armsAll])
    (show (WTm.eq .res (.lit (.bool true))).value [] { args := args, res := some (.bool true), after := args } = some (.bool (true == true)) from w_eq_bool (w_res rfl) w_lit) rfl

theorem attach_call {l : OpenLaw} {n : Nat} {q : Program} {loose : List Str} {XP : (Str → Option Value) → Heap → Prop} {YP : World → Heap → Prop} {d : DefRec}
    (hn : l.most = some n) (hdf : d.params.defaults = [])
    (call : ∀ (w : World) (s₀ s₁ : Shared) (mg mb : Str → Option Value) (fa : Addr) (o : Obj) (pm cd doc : Value) (a : Addr) (vs : List Value) (ns : List Int),
      Ground q loose [] XP w s₀ mg mb s₁.heap → YP w s₁.heap →
      s₁.heap.get? fa = some o → o.data = .func (docDef d.name d.params d.body d.scope pm cd doc) → s₁.heap.CodeRec cd d.name → mg d.name = some (.ref fa) →
      s₁.heap.get? a = some { cls := .type "list", data := .seq vs.toArray } → IntsAre vs ns → ns.length ≤ n → s₁.gens = #[] →
      codeAny (model l.prog w) callerA (.call (.ref fa) ⟨[.ref a], []⟩) (fun r s' => r = .ok (.ret (.bool true)) ∧ OldK s₁.heap s'.heap ∧ s'.os = s₁.os ∧ AllBare s'.gens) s₁) :
    WalkO q loose XP YP l.row.toRowW d [] (fun f vs => PySem.call f vs) := by
  intro w s₀ s₁ mg mb G Y fa o pm cd doc dV kV ho hd hcd hD hmg hg args vals as hpre hlay hrd hwl hlo
  obtain rfl : dV = .none := Dflts.none hD hdf
  obtain rfl : kV = .none := Dflts.noKw hD
  obtain ⟨a, vs, ns, rfl, rfl, hobj, hints, hlen⟩ := script_of hn hpre hwl
  refine enter_call (codeAny_mono (call w s₀ s₁ mg mb fa o pm cd doc a vs ns G Y ho (fd_plain hd) hcd hmg hobj hints hlen hg) fun r s' hq => ?_)
  obtain ⟨rfl, h2, h3, h4⟩ := hq
  exact ⟨.inl ⟨.bool true, .bool true, [], rfl, fun _ => rfl, .bool true, post_true l _, fun _ => ⟨List.Pairwise.nil, fun _ hm => (nomatch hm)⟩⟩, h2, h3, h4⟩

section
variable {prog : Program} {w : World} {A : Around} {E : Value → Shared → Prop} {s : Shared} {K : Frag}

noncomputable def ledger (h : Heap) (L d : Addr) : List (Addr × Obj) := (List.range h.objs.size).filterMap fun a => if a = L ∨ a = d then none else (h.get? a).map fun o => (a, o)
end
end Att

namespace L2
open PySem PySem.Spec PyProof.Rows

theorem vals_ints : ∀ {vs : List Value} {ns : List Int}, IntsAre vs ns → Vals (ns.map V.int) vs
  | _, _, .nil => .nil
  | _, _, .cons n t h => .cons ⟨t, rfl⟩ (vals_ints h)

noncomputable def Only (H : Hp) : Prop := ∀ b, H b = none ∨ ∃ o xs, H b = some (.frz o (.lst xs))

theorem law_call {P : Program} {w : World} {K : PySem.W.Frag} {mg mb : Str → Option Value} {CX : CXT} {k : Nat} {fa a : Addr} {fd : FuncData} {x : Str} {sp : Sp} {s₁ : Shared} {vs : List Value} {ns : List Int}
    (KX : K.In s₁.heap) (hns : s₁.heap.Ns mainGlobals mg) (hb : s₁.heap.Ns builtinsNs mb) (hbb : ∀ x : Str, x ≠ "__name__" → mb x = bootBuiltins x) (hlim : s₁.heap.NoLimit) (hg : s₁.gens = #[])
    (ha : s₁.heap.get? a = some { cls := .type "list", data := .seq vs.toArray }) (hi : IntsAre vs ns) (hl : ns.length ≤ sizeLine) (hr : Room k callerA)
    (F : ∀ base : Heap, K.In base → base.Ns mainGlobals mg → FnOk P w K mg base CX k fa fd [x] sp) (hbind : ∀ (s : Shared) (u : Value), BindsTo s fd ⟨[u], []⟩ [(x, u)])
    (hsp : ∀ H : Hp, Only H → SqL K H a (ns.map V.int) → sp [.ref a] H (fun v _ => v = .bl true) fun _ _ _ => False)
    (hCX : ∀ H e s', CX [] H s₁ (fun _ _ _ => False) e s' → False) :
    codeAny (model P w) callerA (.call (.ref fa) ⟨[.ref a], []⟩) (fun r s' => r = .ok (.ret (.bool true)) ∧ OldK s₁.heap s'.heap ∧ s'.os = s₁.os ∧ AllBare s'.gens) s₁ := by
  have rv := vals_ints hi
  have lenV := hi.length
  -- from an abstract heap in which nothing but the script may be tracked
  have core : ∀ H : Hp, Only H → SqL K H a (ns.map V.int) → HOk P w H s₁.heap → (∀ b, H b ≠ none → b = a) → (H a ≠ none → K.lookup a = none) →
      codeAny (model P w) callerA (.call (.ref fa) ⟨[.ref a], []⟩) (fun r s' => r = .ok (.ret (.bool true)) ∧ OldK s₁.heap s'.heap ∧ s'.os = s₁.os ∧ AllBare s'.gens) s₁ := by
    intro H hO hS hok hA hK
    have base_of : ∀ {b : Addr} {o : Obj}, s₁.heap.get? b = some o → H b = none → (hidT s₁.heap H).get? b = some o := fun e n => hidT_get e n
    have noA : ∀ {b : Addr} {o : Obj} {es : Array DictEntry} {ep : Nat}, s₁.heap.get? b = some o → o.data = .dict es ep → H b = none := fun {b o es ep} e d => by
      cases q : H b with
      | none => rfl
      | some u =>
        have e' : b = a := hA b (by rw [q]; simp)
        subst e'
        rw [ha] at e; cases e
        have d' : Data.seq vs.toArray _ = Data.dict es ep := d
        cases d'
    have nsK : ∀ {b : Addr} {m : Str → Option Value}, s₁.heap.Ns b m → (hidT s₁.heap H).Ns b m := fun {b m} ⟨o, es, ep, e, d, r⟩ => ⟨o, es, ep, base_of e (noA e d), d, r⟩
    have hKb : K.In (hidT s₁.heap H) := fun b o e => base_of (KX b o e) (by
      cases q : H b with
      | none => rfl
      | some u =>
        have e' : b = a := hA b (by rw [q]; simp)
        subst e'
        rw [hK (by rw [q]; simp)] at e; cases e)
    have hM : Mod K mg (hidT s₁.heap H) := ⟨hKb, nsK hns, ⟨mb, nsK hb, hbb⟩, let ⟨mc, h1, h2⟩ := hlim; ⟨mc, nsK h1, h2⟩⟩
    have e0 : Env0 P w K mg (hidT s₁.heap H) callerA [] s₁ H := ⟨rfl, hM, fun b o e => of_hidT e, Nat.le_of_eq (hidT_size _ _), trivial, fun b hb => absurd (show b ∈ ([] : List Addr) from hb) (by simp), hok, .of_eq hg⟩
    refine codeAny_mono ((F _ hKb (nsK hns)).run callerA [] s₁ H ⟨[.ref a], []⟩ [.ref a] [.ref a] _ _ hr e0 (hbind s₁ (.ref a)) (.cons rfl .nil) (hsp H hO hS)) fun r s' h => ?_
    cases r with
    | error e => exact (hCX H e s' h).elim
    | ok fl =>
      cases fl with
      | next => exact False.elim h
      | brk => exact False.elim h
      | cont => exact False.elim h
      | ret u =>
        obtain ⟨v, H', os, bare, un, hok', r', q⟩ := h
        have q' : v = .bl true := q
        subst q'
        obtain rfl : u = Value.bool true := r'
        refine ⟨rfl, OldK.of_keep fun b o e => ?_, os, bare⟩
        cases q : H b with
        | none => exact un.keep b o e q (by intro z; exact absurd (show b ∈ ([] : List Addr) from z) (by simp)) (by simp)
        | some u =>
          obtain z | ⟨ob, xs, z⟩ := hO b
          · rw [q] at z; cases z
          · have z2 := un.frzs b ob _ z
            obtain ⟨e1, _⟩ := hok b _ z
            obtain ⟨e2, _⟩ := hok' b _ z2
            rw [e] at e1; cases e1
            exact e2
  cases hk : K.lookup a with
  | some o =>
    -- the script is one of the module's own objects
    have e := KX a o hk
    rw [ha] at e
    cases e
    refine core (fun _ => none) (fun _ => .inl rfl) (.inr ⟨_, vs.toArray, _, hk, rfl, rfl, rfl, by rw [List.size_toArray, lenV]; exact hl, by simpa using rv⟩) (fun b u z => by have z' : (none : Option HO) = some u := z; cases z') (fun b z => absurd rfl z) fun z => absurd rfl z
  | none =>
    refine core (fun b => if b = a then some (.frz { cls := .type "list", data := .seq vs.toArray } (.lst (ns.map V.int))) else none) (fun b => ?_) (.inl (.inr ⟨{ cls := .type "list", data := .seq vs.toArray }, if_pos rfl⟩)) (fun b u z => ?_) (fun b z => ?_) fun _ => hk
    · by_cases hb : b = a
      · exact .inr ⟨_, _, if_pos hb⟩
      · exact .inl (if_neg hb)
    · by_cases hb : b = a
      · have z' := (if_pos hb).symm.trans z
        cases z'
        subst hb
        exact ⟨ha, by rw [List.length_map]; exact hl, vs, _, rv, ha⟩
      · have z' := (if_neg hb).symm.trans z
        cases z'
    · by_cases hb : b = a
      · exact hb
      · exact absurd (if_neg hb) z
end L2

namespace L2
open PySem PySem.Spec PyProof.Rows

theorem walk_of {l : PySem.W.OpenLaw} {n k : Nat} {q : Program} {loose : List Str} {XP : (Str → Option Value) → Heap → Prop} {YP : World → Heap → Prop} {d : DefRec} {K : Params → PySem.W.Frag} {CX : World → CXT} {sp : World → Sp} {x : Str}
    (hn : l.most = some n) (hn2 : n ≤ sizeLine) (hdf : d.params.defaults = []) (hr : Room k callerA)
    (hY : ∀ (w : World) (h : Heap), YP w h → (K w.params).In h)
    (F : ∀ (w : World) (mg : Str → Option Value) (fa : Addr) (h : Heap), (K w.params).In h → h.Ns mainGlobals mg → mg d.name = some (.ref fa) →
      ∃ fd : FuncData, (∀ (s : Shared) (u : Value), BindsTo s fd ⟨[u], []⟩ [(x, u)]) ∧
        ∀ base : Heap, (K w.params).In base → base.Ns mainGlobals mg → FnOk l.prog w (K w.params) mg base (CX w) k fa fd [x] (sp w))
    (hsp : ∀ (w : World) (H : Hp) (a : Addr) (ns : List Int), ns.length ≤ n → Only H → SqL (K w.params) H a (ns.map V.int) → sp w [.ref a] H (fun v _ => v = .bl true) fun _ _ _ => False)
    (hCX : ∀ (w : World) (H : Hp) (s : Shared) (e : Value) (s' : Shared), CX w [] H s (fun _ _ _ => False) e s' → False) :
    PySem.W.WalkO q loose XP YP l.row.toRowW d [] (fun f vs => PySem.call f vs) := by
  refine Att.attach_call hn hdf fun w s₀ s₁ mg mb fa o pm cd doc a vs ns G Y ho hd hcd hmg hobj hints hlen hg => ?_
  have KX := hY w _ Y
  obtain ⟨fd, hb, hF⟩ := F w mg fa _ KX G.T.g hmg
  exact law_call KX G.T.g G.T.b G.T.builtins G.T.nolimit hg hobj hints (Nat.le_trans hlen hn2) hr hF hb (fun H hO hS => hsp w H a ns hlen hO hS) fun H e s' => hCX w H s₁ e s'
end L2



namespace L2
open PySem PySem.Spec PyProof.Rows

noncomputable def inClass (s : Stmt) (j : Nat) : Stmt := match s with
  | .ClassDef _ _ _ body _ _ _ _ _ _ _ => body.getD j (.Pass ⟨0, 0, 0, 0⟩)
  | _ => .Pass ⟨0, 0, 0, 0⟩
noncomputable def defArgs (s : Stmt) : Arguments := match s with
  | .FunctionDef _ a _ _ _ _ _ _ _ _ => a
  | _ => { posonlyargs := [], args := [], vararg := none, kwonlyargs := [], kw_defaults := [], kwarg := none, defaults := [] }
noncomputable def defBody (s : Stmt) : List Stmt := match s with
  | .FunctionDef _ _ b _ _ _ _ _ _ _ => b
  | _ => []
noncomputable def defScope (s : Stmt) : Scope := match s with
  | .FunctionDef _ _ _ _ _ _ sc _ _ _ => sc
  | _ => { kind := .function, names := [], isGenerator := false, isCoroutine := false }

noncomputable abbrev CX0 : CXT := fun _ _ _ _ _ _ => False
noncomputable abbrev E0 : XK := fun _ _ _ => False
theorem pass0 {X : Cx} : Passes CX0 X E0 := fun _ _ _ _ _ _ _ h => h.elim

structure Fun (K : PySem.W.Frag) (x qual : Str) (st : Stmt) (f : Addr) (fd : FuncData) : Prop where
  ex : ∃ (oc : Value) (od : Option Addr) (kV doc pm : Value) (an : Option Addr) (cdv ct : Value) (osl : Array (Option Value)),
    fd = PySem.W.fnOf x qual (defArgs st) (defBody st) (defScope st) .none kV doc pm an cdv ct ∧ K.lookup f = some ⟨oc, od, .func fd, osl⟩ ∧ PySem.W.codeIn K cdv qual = true
  kp : PySem.W.keepIn K (.ref f) = true
section
variable {P : Program} {w : World} {K : PySem.W.Frag} {mg : Str → Option Value} {base : Heap}
theorem Fun.ok {x qual : Str} {st : Stmt} {f : Addr} {fd : FuncData} {N ps : List Str} {k : Nat} {sp : Sp} (F : Fun K x qual st f fd) (S : FnScope N ps (defScope st)) (len : ∀ vs H Q E, sp vs H Q E → vs.length = ps.length)
    (hbody : ∀ (cdv : Value) (A : Around) (outer : List Env) (s : Shared) (H : Hp) (vs : List V) (Q : VK) (E : XK), Room k (A.deeper (envOfC qual (defScope st) s.heap.objs.size f cdv)) → sp vs H Q E →
      ∃ t, PSs (cxOf CX0 P w K mg base N qual (defScope st) f cdv A outer s H E).nox (defBody st) t ∧ t { nx := fun _ H' => Q .non H', rt := Q } (start N vs) H) : FnOk P w K mg base CX0 (k + 1) f fd ps sp := by
  obtain ⟨oc, od, kV, doc, pm, an, cdv, ct, osl, rfl, lk, hcd⟩ := F.ex
  refine fn_of lk hcd S len fun A outer s H vs Q E hr hsp => ?_
  obtain ⟨t, h, q⟩ := hbody cdv A outer s H vs Q E hr hsp
  exact ⟨t, h.nox, q⟩
theorem Fun.binds {x qual : Str} {st : Stmt} {f : Addr} {fd : FuncData} {ps : List Str} (F : Fun K x qual st f fd)
    (h : ∀ (kV doc pm : Value) (an : Option Addr) (cdv ct : Value) (us : List Value), us.length = ps.length → bindArgs (PySem.W.fnOf x qual (defArgs st) (defBody st) (defScope st) .none kV doc pm an cdv ct) ⟨us, []⟩ = pure (ps.zip us)) : Binds K fd ps [] := by
  obtain ⟨oc, od, kV, doc, pm, an, cdv, ct, osl, rfl, lk, hcd⟩ := F.ex
  exact .all (h kV doc pm an cdv ct)
theorem fun_mk {x qual : Str} {st : Stmt} {f : Addr} {oc : Value} {od an : Option Addr} {osl : Array (Option Value)} {kV doc pm cdv ct : Value} (l : K.lookup f = some ⟨oc, od, .func (PySem.W.fnOf x qual (defArgs st) (defBody st) (defScope st) .none kV doc pm an cdv ct), osl⟩)
    (c : PySem.W.codeIn K cdv qual = true) (k : PySem.W.keepIn K (.ref f) = true) : Fun K x qual st f (PySem.W.fnOf x qual (defArgs st) (defBody st) (defScope st) .none kV doc pm an cdv ct) := ⟨⟨oc, od, kV, doc, pm, an, cdv, ct, osl, rfl, l, c⟩, k⟩
end
theorem hu_of {A : Around} {k : Nat} (hr : Room k A) : A.units + 1 < cLine := Nat.lt_of_le_of_lt (Nat.add_le_add_left (by decide : 1 ≤ 64) _) hr.units
theorem small1000 {n : Nat} (h : n ≤ 1000) : n < sizeLine := Nat.lt_of_le_of_lt h (by decide)

section
variable {X : Cx}
theorem pv (i : Nat) {x : Str} {pos : Pos} (hN : X.N[i]? = some x := by rfl) (hv : Vis X.env.scope x := by first | exact Or.inl rfl | exact Or.inr (Or.inl rfl) | exact Or.inr (Or.inr rfl)) (hd : (x == ("__debug__" : Str)) = false := by decide)
    (hcd : (x == ("__classdict__" : Str)) = false := by decide) : PE X (.Name x pos) (tVar i) := pe_var hN hv hd hcd
end

theorem iteF {A B : Prop} (h : B) : if false = true then A else B := by
  rw [if_neg Bool.false_ne_true]
  exact h
theorem iteT {A B : Prop} (h : A) : if true = true then A else B := by
  rw [if_pos rfl]
  exact h
theorem ite2 {c A B : Prop} [Decidable c] (h1 : c → A) (h2 : ¬ c → B) : if c then A else B := by
  by_cases h : c
  · rw [if_pos h]
    exact h1 h
  · rw [if_neg h]
    exact h2 h
noncomputable def Same (H H' : Hp) : Prop := ∀ b o, H b = some o → H' b = some o
theorem Same.refl (H : Hp) : Same H H := fun _ _ h => h
theorem Same.trans {H H1 H2 : Hp} (a : Same H H1) (b : Same H1 H2) : Same H H2 := fun c o h => b c o (a c o h)
theorem Same.free {H H' : Hp} (e : Same H H') {l : Addr} (h : H' l = Option.none) : H l = Option.none := by
  cases q : H l with
  | none => rfl
  | some o =>
    rw [e l o q] at h
    cases h
theorem Same.seq {K : PySem.W.Frag} {H H' : Hp} {a : Addr} {xs : List V} (e : Same H H') (h : SqL K H a xs) : SqL K H' a xs := by
  obtain (h | ⟨o, h⟩) | h := h
  · exact .inl (.inl (e _ _ h))
  · exact .inl (.inr ⟨o, e _ _ h⟩)
  · exact .inr h

end L2

namespace L2
open PySem PySem.Spec PyProof.Rows

theorem compLoop_any {prog : Program} {w : World} {A : Around} {R : Result → Shared → Prop} {s : Shared} {elt target iter : Expr} {ifs : List Expr} {scope : Scope} {pos : Pos} {it acc : Value} {env : Env} (I : Nat → Shared → Prop)
    (turn : ∀ n s, I n s → wpAny (model prog w) A (pyNext it) (fun r s1 => match r with
      | none => R (.ok .next) s1
      | some v => wpAny (model prog w) A (letOwnedTupleGo target it v) (fun _ s1' => wpAny (model prog w) A (assign target env v) (fun _ s2 =>
          wpAny (model prog w) A (forIn ifs true fun c r => if r = true then do let ok ← isTrue c env (eval c env); pure (ForInStep.yield ok) else pure (ForInStep.yield r)) (fun ok s3 =>
            if ok = true then wpAny (model prog w) A (eval elt env) (fun x s4 =>
              wpAny (model prog w) A (call (.builtin "list.append") [acc, x]) (fun _ s5 => ∃ m, m < n ∧ I m s5) (fun _ _ => False) s4) (fun _ _ => False) s3
            else ∃ m, m < n ∧ I m s3) (fun _ _ => False) s2) (fun _ _ => False) s1') (fun _ _ => False) s1) (fun _ _ => False) s)
    (n : Nat) (h : I n s) : codeAny (model prog w) A (.compLoop (.ListComp elt [⟨target, iter, ifs, 0⟩] scope pos) 0 it acc env) R s := by
  refine codeAny_loop rfl I (fun n s hI => ?_) n h
  show wpAny _ A ((compTurn (.ListComp elt [⟨target, iter, ifs, 0⟩] scope pos) 0 it acc env).onRaise (fun x => do noteFrame x env; theTreesLotGoes x)) _ _ s
  refine wpAny_noted (wpAny_mono (Q := _) (E := fun _ _ => False) ?_ (fun _ _ x => x) fun _ _ x => x.elim)
  rw [compTurn_list]
  refine wpAny_bind (wpAny_standAt (wpAny_bind (thn (turn n s hI) (fun r s1 h1 => ?_))))
  cases r with
  | none => exact wpAny_pure h1
  | some v =>
    refine wpAny_bind (thn h1 fun _ s1' h1' => wpAny_bind (thn h1' fun _ s2 h2 => wpAny_bind (thn h2 fun ok s3 h3 => ?_)))
    cases ok with
    | false => exact wpAny_pure ⟨rfl, h3⟩
    | true => exact wpAny_bind (wpAny_bind (thn h3 fun x s4 h4 => wpAny_bind (thn h4 fun _ s5 h5 => wpAny_pure (wpAny_pure ⟨rfl, h5⟩))))

theorem forIn_free {env : Env} : ∀ (names : List (Str × NameKind)) (cs : List (Str × Addr)), (∀ n, (n, NameKind.free) ∈ names → ∃ c, env.cells.lookup n = some c) →
    ∃ cl : List (Str × Addr), (forIn names cs (fun (x : Str × NameKind) (cs : List (Str × Addr)) => (do
      if (x.2 == NameKind.free) = true then do let a ← cellOf env x.1; pure (ForInStep.yield ((x.1, a) :: cs))
      else pure (ForInStep.yield cs) : Sem (ForInStep (List (Str × Addr)))))) = (pure cl : Sem (List (Str × Addr))) ∧
      (∀ p ∈ cl, p ∈ cs ∨ env.cells.lookup p.1 = some p.2) ∧ (∀ p ∈ cs, p ∈ cl) ∧ (∀ n, (n, NameKind.free) ∈ names → ∃ c, (n, c) ∈ cl)
  | [], cs, _ => ⟨cs, rfl, fun p hp => .inl hp, fun p hp => hp, fun n hn => nomatch hn⟩
  | (n, k) :: r, cs, h => by
    by_cases hk : k = .free
    · subst hk
      obtain ⟨c, hc⟩ := h n List.mem_cons_self
      obtain ⟨cl, e, h1, h2, h3⟩ := forIn_free (env := env) r ((n, c) :: cs) fun m hm => h m (List.mem_cons_of_mem _ hm)
      refine ⟨cl, ?_, fun p hp => ?_, fun p hp => h2 p (List.mem_cons_of_mem _ hp), fun m hm => ?_⟩
      · rw [List.forIn_cons]
        have z : cellOf env n = pure c := by unfold cellOf; rw [hc]
        simp only [beq_self_eq_true, if_true, z]
        exact e
      · obtain q | q := h1 p hp
        · obtain q | q := List.mem_cons.mp q
          · subst q; exact .inr hc
          · exact .inl q
        · exact .inr q
      · obtain q | q := List.mem_cons.mp hm
        · have q1 : m = n := by cases q; rfl
          subst q1
          exact ⟨c, h2 _ List.mem_cons_self⟩
        · exact h3 m q
    · obtain ⟨cl, e, h1, h2, h3⟩ := forIn_free (env := env) r cs fun m hm => h m (List.mem_cons_of_mem _ hm)
      refine ⟨cl, ?_, h1, h2, fun m hm => ?_⟩
      · rw [List.forIn_cons]
        have z : (k == NameKind.free) = false := by simpa using hk
        simp only [z, Bool.false_eq_true, if_false]
        exact e
      · obtain q | q := List.mem_cons.mp hm
        · cases q; exact absurd rfl hk
        · exact h3 m q

theorem mem_lookup {cl : List (Str × Addr)} {x : Str} {c : Addr} (h : (x, c) ∈ cl) : ∃ c', cl.lookup x = some c' := by
  induction cl with
  | nil => cases h
  | cons p r ih =>
    obtain ⟨y, d⟩ := p
    by_cases e : x = y
    · subst e; exact ⟨d, by simp⟩
    · have e' : (x == y) = false := by simpa using e
      obtain q | q := List.mem_cons.mp h
      · cases q; exact absurd rfl e
      · obtain ⟨c', q'⟩ := ih q
        exact ⟨c', by rw [List.lookup_cons, e']; exact q'⟩

theorem closure_ok {env : Env} {scope : Scope} (h : ∀ n, (n, NameKind.free) ∈ scope.names → ∃ c, env.cells.lookup n = some c) :
    ∃ cl, closureFor scope env = pure cl ∧ (∀ x c, cl.lookup x = some c → env.cells.lookup x = some c) ∧ (∀ n, (n, NameKind.free) ∈ scope.names → ∃ c, cl.lookup n = some c) := by
  obtain ⟨cl, e, h1, _, h3⟩ := forIn_free (env := env) scope.names [] h
  refine ⟨cl, ?_, fun x c q => ?_, fun n hn => ?_⟩
  · unfold closureFor
    refine Eq.trans ?_ e
    first
      | rfl
      | (simp only [bind_pure]; rfl)
      | simp only [bind_pure]
  · obtain z | z := h1 _ (PySem.mem_of_lookup q)
    · cases z
    · exact z
  · obtain ⟨c, q⟩ := h3 n hn
    exact mem_lookup q

theorem relabel_lookup {scope : Scope} {env : Env} {x : Str} {k' : NameKind} (h : (relabel scope env).names.lookup x = some k') : ∃ k, scope.names.lookup x = some k ∧ (k' = k ∨ (k = .free ∧ k' = .cell)) := by
  have go : ∀ names : List (Str × NameKind), (names.map fun (n, k) => if (k == NameKind.free && env.scope.kind == .function && env.kindOf n == some .cell) then (n, NameKind.cell) else (n, k)).lookup x = some k' →
      ∃ k, names.lookup x = some k ∧ (k' = k ∨ (k = .free ∧ k' = .cell)) := by
    intro names
    induction names with
    | nil => intro h; cases h
    | cons p r ih =>
      obtain ⟨n, k⟩ := p
      intro h
      rw [List.map_cons] at h
      by_cases hc : (k == NameKind.free && env.scope.kind == .function && env.kindOf n == some .cell) = true
      · simp only [hc, if_true] at h
        cases hx : x == n with
        | true =>
          rw [List.lookup_cons, hx] at h
          have hk : k = .free := by
            cases k <;> first | rfl | (simp at hc)
          exact ⟨k, by rw [List.lookup_cons, hx], .inr ⟨hk, by cases h; rfl⟩⟩
        | false =>
          rw [List.lookup_cons, hx] at h
          obtain ⟨k2, q1, q2⟩ := ih h
          exact ⟨k2, by rw [List.lookup_cons, hx]; exact q1, q2⟩
      · have hc' : (k == NameKind.free && env.scope.kind == .function && env.kindOf n == some .cell) = false := by simpa using hc
        simp only [hc', Bool.false_eq_true, if_false] at h
        cases hx : x == n with
        | true =>
          rw [List.lookup_cons, hx] at h
          exact ⟨k, by rw [List.lookup_cons, hx], .inl (by cases h; rfl)⟩
        | false =>
          rw [List.lookup_cons, hx] at h
          obtain ⟨k2, q1, q2⟩ := ih h
          exact ⟨k2, by rw [List.lookup_cons, hx]; exact q1, q2⟩
  exact go _ h

noncomputable def pick (n : Nat) (js : List Nat) (σ : St) : St := List.replicate n none ++ js.map fun j => (σ[j]?).join
noncomputable def Wk (σ σ' : St) : Prop := σ.length = σ'.length ∧ ∀ (i : Nat) v, σ[i]? = some (some v) → σ'[i]? = some (some v)
theorem Wk.refl (σ : St) : Wk σ σ := ⟨rfl, fun _ _ h => h⟩
theorem Wk.set {n : Nat} {js : List Nat} {σ σ' : St} {i : Nat} {v : Option V} (h : Wk (pick n js σ) σ') (hi : i < n) : Wk (pick n js σ) (σ'.set i v) := by
  refine ⟨by rw [List.length_set]; exact h.1, fun j u q => ?_⟩
  by_cases e : i = j
  · subst e
    unfold pick at q
    rw [List.getElem?_append_left (by simpa using hi), List.getElem?_replicate] at q
    split at q <;> cases q
  · rw [List.getElem?_set_ne e]; exact h.2 j u q

structure CompScopeN (sc : Scope) (N : List Str) (scope : Scope) (js : List Nat) : Prop where
  kind : scope.kind = .function
  cell : ∀ x ∈ scope.names, x.2 ≠ .cell
  names : ∀ x ∈ scope.names, x.2 = .local → scope.names.lookup x.1 = some .local
  free : ∀ x ∈ scope.names, x.2 = .free → sc.names.lookup x.1 = some .cell ∨ sc.names.lookup x.1 = some .free
  js : ∀ j ∈ js, scope.names.lookup (N.getD j "") ≠ some .local
structure CompScope (X : Cx) (scope : Scope) (own : List Str) (js : List Nat) : Prop where
  kind : scope.kind = .function
  cell : ∀ x ∈ scope.names, x.2 ≠ .cell
  names : ∀ x ∈ scope.names, x.2 = .local → scope.names.lookup x.1 = some .local
  free : ∀ x ∈ scope.names, x.2 = .free → X.env.kindOf x.1 = some .cell ∨ X.env.kindOf x.1 = some .free
  js : ∀ j ∈ js, scope.names.lookup (X.N.getD j "") ≠ some .local

section
variable {X : Cx} {scope : Scope} {own : List Str} {js : List Nat}
end
end L2

namespace L2
open PySem PySem.Spec PyProof.Rows

noncomputable def PIfs (X : Cx) (ifs : List Expr) (t : TT) : Prop :=
  ∀ (pins : List (Addr × Obj)) (s : Shared) (σ : St) (H : Hp) (Q : Bool → Hp → Prop), Inv X pins σ H s → t σ H Q →
    wpAny (model X.prog X.w) X.A (forIn ifs true fun c r => if r = true then do let ok ← isTrue c X.env (eval c X.env); pure (ForInStep.yield ok) else pure (ForInStep.yield r)) (TP X pins σ Q) X.xe s
noncomputable def tYes : TT := fun _ H Q => Q true H
theorem pifs_nil {X : Cx} : PIfs X [] tYes := fun _ _ _ H _ I h => wpAny_tests_nil ⟨H, I, h⟩
theorem pifs_one {X : Cx} {c : Expr} {t : TT} (h : PT X c t) : PIfs X [c] t := fun pins s σ H Q I hw => wpAny_tests_one (h pins s σ H Q I hw)

noncomputable def tCompR (n : Nat) (js : List Nat) (g : TG) (c : TT) (te : TE) (J : It) (σ : St) (H1 : Hp) (Q : VK) : Prop :=
  ∀ acc, H1 acc = none → ∃ W : Nat → Nat → Hp → Prop, (∃ m, W 0 m (upd H1 acc (.lst []))) ∧ ∀ i m H, W i m H →
    (J.stop i H ∧ Q (.ref acc) H) ∨
    (J.go i H ∧ ∀ x H', J.yld i H x H' → g x (pick n js σ) H' fun σ2 H2 => Wk (pick n js σ) σ2 ∧ c σ2 H2 fun b H3 =>
      if b = true then te σ2 H3 fun y H4 => ∃ ys, H4 acc = some (.lst ys) ∧ ys.length < sizeLine ∧ ∃ m', m' < m ∧ W (i + 1) m' (upd H4 acc (.lst (ys ++ [y])))
      else ∃ m', m' < m ∧ W (i + 1) m' H3)
noncomputable def tComp (n : Nat) (js : List Nat) (wi : TI) (g : TG) (c : TT) (te : TE) : TE := fun σ H Q => wi σ H fun J H1 => tCompR n js g c te J σ H1 Q

section
variable {X : Cx} {scope : Scope} {own : List Str} {js : List Nat} {tg iter elt : Expr} {ifs : List Expr} {pos : Pos} {wi : TI} {g : TG} {c : TT} {te : TE}

theorem comp_gone {pins : List (Addr × Obj)} {σ σ1 : St} {H H' : Hp} {s s' : Shared} {C : Addr} {h' : Heap} (I : Inv X pins σ H s) (hC : s.heap.objs.size ≤ C) (J : Inv X pins σ1 H' s') (hn : H' C = none) (hs : Heap.SameBut C s'.heap h') : Inv X pins σ1 H' { s' with heap := h' } := by
  obtain ⟨f0, f1, f2, f3, f4, f5⟩ := I.fpOk hC hn
  exact J.turned (t' := s'.toks) (fun b o hb e => (hs.2 b hb).trans e) f0 f1 f3 f4 f5

end
end L2

namespace L2
open PySem PySem.Spec PyProof.Rows

noncomputable def Ite (K : PySem.W.Frag) (a : Addr) : It :=
  ⟨fun i H => ∃ xs x, SqL K H a xs ∧ xs[i]? = some x, fun i H x H' => ∃ p v, x = .ref p ∧ H p = none ∧ H' = upd H p (.tup [.int (i : Nat), v]) ∧ ∀ xs, SqL K H a xs → xs[i]? = some v, fun i H => ∃ xs, SqL K H a xs ∧ xs.length ≤ i⟩
theorem turn_enum {P : Program} {w : World} {K : PySem.W.Frag} {es : List Expr} {k : _} {pos : Pos} (a e it : Addr) (hne : e ≠ it) : Turn P w K (.Tuple es k pos) (Ite K a) [e, it] e (fun i h => (∃ old, IsEnum h e it (i : Nat) old) ∧ h.IsListIter it a i) where
  mem := by simp
  obj := fun i h st b hb => by
    obtain ⟨⟨old, he⟩, o, e1, c, d⟩ := st
    obtain q | q := List.mem_cons.mp hb
    · subst q
      exact ⟨_, he, fun v z => by
        have z' : Data.fields _ = Data.cell v := z
        cases z'⟩
    · have q : b = it := by simpa using q
      subst q
      exact ⟨o, e1, fun v z => by rw [d] at z; cases z⟩
  keep := fun i h h' st k => ⟨by obtain ⟨⟨old, he⟩, _⟩ := st; exact ⟨old, k e (by simp) _ he⟩, st.2.at fun o q => k it (by simp) o q⟩
  item := by
    intro X hP hw hK hc i pins s σ H E I hf st hg
    subst hP hw hK
    obtain ⟨xs, x, hq, hx⟩ := hg
    obtain ⟨its, rv, p, hz⟩ := I.list hq
    obtain ⟨u, hu, ru⟩ := rv.get hx
    obtain ⟨⟨old, he⟩, hit⟩ := st
    refine wpAny_pyNext_enum_item he hit p.isList (x := u) (by simpa using hu) hne fun h' ho hit' ht hsz hk => ?_
    refine ⟨_, rfl, wpAny_letOwnedTupleGo_enum ho fun h2 he2 hs2 => ?_⟩
    have hTe : s.heap.objs.size ≠ e := Nat.ne_of_gt (Heap.lt_size he)
    have hk2 : ∀ b o, b ∉ [e, it] → s.heap.get? b = some o → h2.get? b = some o := fun b o hb q => (hs2.2 b (fun z => hb (by simp [z]))).trans (hk b o (fun z => hb (by simp [z])) (fun z => hb (by simp [z])) q)
    have hT : h2.get? s.heap.objs.size = some { cls := .type "tuple", data := .seq #[.int i s.toks, u] } := (hs2.2 _ hTe).trans ht
    have hTn : H s.heap.objs.size = none := I.hok.fresh (Nat.le_refl _)
    have ne : ∀ b o, H b = some o → b ≠ s.heap.objs.size := fun b o q z => by rw [z, hTn] at q; cases q
    have nch : ∀ b o, H b = some o → b ∉ [e, it] := fun b o q z => by rw [(hf b z).1] at q; cases q
    have up : ∀ b o, H b = some o → upd H s.heap.objs.size (.tup [.int (i : Nat), x]) b = some o := fun b o q => by rw [upd_ne (ne b o q)]; exact q
    have I1 : Inv X pins σ (upd H s.heap.objs.size (.tup [.int (i : Nat), x])) { s with heap := h2, toks := s.toks + 1 } := by
      refine I.step (g' := s.gens) (d' := s.drawn) (ch := [e, it]) (fun b hb => ?_) (fun b o _ _ hb q _ => hk2 b o hb q) (fun b o _ _ hb q _ => ⟨o.slots, hk2 b o hb q⟩) (fun b o hb q n => ?_) (fun b o hb q => ⟨o, hk2 b o hb q⟩)
        (fun b xs q => up b _ q) (fun b o u q => up b _ q) (fun b ps q => ⟨#[], by rw [up b _ q]; simp⟩) (fun m hm => ?_) (fun b u q => ?_) I.bare
      · obtain ⟨f0, f1, f2, f3, f4, f5⟩ := hf b hb
        exact ⟨f3, f1, f4, f5⟩
      · rw [upd_ne (Nat.ne_of_lt (Heap.lt_size q))]; exact n
      · obtain ⟨o, es, ep, ho, r⟩ := hm
        exact ⟨o, es, ep, hk2 _ o (fun z => (hf _ z).2.1 rfl) ho, r⟩
      · by_cases hb : b = s.heap.objs.size
        · subst hb
          rw [upd_same] at q
          cases q
          exact ⟨by show 2 ≤ sizeLine; decide, [.int i s.toks, u], .cons ⟨_, rfl⟩ (.cons ru .nil), _, hT, rfl, 0, rfl⟩
        · rw [upd_ne hb] at q
          refine (I.hok b u q).stay (fun c v hc q' => hk2 c v ?_ q') (fun c q' => up c _ q') fun c xs q' => up c _ q'
          obtain z | z := hc
          · subst z; exact nch _ _ q
          · exact nch _ _ z
    refine ⟨.ref s.heap.objs.size, _, I1, rfl, ⟨_, x, rfl, hTn, rfl, fun ys hy => by rw [I.list_inj hy hq]; exact hx⟩, ⟨⟨u, by simpa using he2⟩, ?_⟩, fun b hb => ?_⟩
    · exact hit'.extBut hs2.extBut (Ne.symm hne)
    · have hb' : b ≠ s.heap.objs.size := by
        obtain q | q := List.mem_cons.mp hb
        · rw [q]; exact hTe.symm
        · have q : b = it := by simpa using q
          obtain ⟨o, q1, _⟩ := hit
          rw [q]; exact Nat.ne_of_lt (Heap.lt_size q1)
      rw [upd_ne hb']; exact (hf b hb).1
  done := by
    intro X hP hw hK hc i pins s σ H E I hf st hg
    subst hP hw hK
    obtain ⟨xs, hq, hx⟩ := hg
    obtain ⟨its, rv, p, hz⟩ := I.list hq
    obtain ⟨⟨old, he⟩, hit⟩ := st
    obtain ⟨f0, f1, f2, f3, f4, f5⟩ := hf it (by simp)
    have hl := rv.length
    exact wpAny_pyNext_enum_end (I.ok.hd hc) he hit p.isList (by simp; omega) fun h' eb => ⟨rfl, I.turned (t' := s.toks) (fun b o hb e => eb b o hb e) f0 f1 f3 f4 f5⟩
  self := fun _ _ _ _ _ st h => by
    obtain ⟨⟨old, he⟩, _⟩ := st
    exact wpAny_pyIter_enum he h

section
variable {X : Cx}
noncomputable def iEnum (K : PySem.W.Frag) (ta : TA) : TI := fun σ H R => ta σ H fun vs H1 => ∃ a, vs = [.ref a] ∧ (∃ xs, SqL K H1 a xs) ∧ R (Ite K a) H1
theorem pi_enum {es : List Expr} {k : _} {tpos : Pos} {a : Expr} {ta : TA} {p pos : Pos} (hg : Gl X "enumerate") (hm : X.mg "enumerate" = none) (ha : PA X [a] ta) (hs : starEach [a] X.env = [(false, eval a X.env)] := by rfl) : PI X (.Tuple es k tpos) (.Call (.Name "enumerate" p) [a] [] pos) (iEnum X.K ta) := by
  intro pins s σ H R I h
  refine Call_ (ld_blt I hg hm boot_enumerate (PyProof.Rows.callWith_type1 (thn (ha pos pins s σ H _ I h) fun us s1 hm_ => ?_) hs rfl))
  obtain ⟨vs, H1, I1, r1, q1⟩ := hm_
  obtain ⟨l, e, ⟨xs, hq⟩, q⟩ := q1
  subst e
  obtain ⟨u, rfl, ru⟩ := r1.one
  cases ru
  obtain ⟨its, rv, pl, hz⟩ := I1.list hq
  refine call_enumerate_list pl.isList fun h' he hit hsz hk => wpAny_pyIter_enum (i := 0) (old := .none) (by simpa using he) ?_
  have I2 : Inv X pins σ H1 { s1 with heap := h' } := I1.kept (t' := s1.toks) hk
  refine ⟨s1.heap.objs.size + 1, [s1.heap.objs.size + 1, s1.heap.objs.size], _, _, H1, rfl, I2, turn_enum l _ _ (Nat.succ_ne_self _), ⟨⟨.none, by simpa using he⟩, hit⟩, fun b hb => ?_, q⟩
  have hb' : s1.heap.objs.size ≤ b := by
    obtain q | q := List.mem_cons.mp hb
    · rw [q]; exact Nat.le_succ _
    · have q : b = s1.heap.objs.size := by simpa using q
      rw [q]; exact Nat.le_refl _
  exact I1.fpOk hb' (I1.hok.fresh hb')

noncomputable def Itr3 (lo c : Int) (n : Nat) : It := ⟨fun i _ => i < n, fun i H x H' => H' = H ∧ x = .int (lo + i * c), fun i _ => n ≤ i⟩
theorem turn_range3 {P : Program} {w : World} {K : PySem.W.Frag} {tg : Expr} (it : Addr) (lo c : Int) (n : Nat) : Turn P w K tg (Itr3 lo c n) [it] it (fun i h => IsRangeIter h it (lo + (i : Nat) * c) ((n : Int) - (i : Nat)) c) where
  mem := by simp
  obj := fun i h st b hb => by
    have e : b = it := by simpa using hb
    subst e
    exact ⟨_, st, fun v z => by
      have z' : Data.fields _ = Data.cell v := z
      cases z'⟩
  keep := fun i h h' st k => k it (by simp) _ st
  item := by
    intro X hP hw hK hc i pins s σ H E I hf st hg
    subst hP hw hK
    obtain ⟨f0, f1, f2, f3, f4, f5⟩ := hf it (by simp)
    have W := Walks.range (prog := X.prog) (w := X.w) (I.ok.hd hc) it lo c n
    refine W.item i s _ _ hg st fun v h' tk hv st' kk => ?_
    obtain ⟨t, rfl⟩ := hv
    have I1 : Inv X pins σ H { s with heap := h', toks := tk } := I.turned (fun b o hb e => kk b o (by simpa using hb) e) f0 f1 f3 f4 f5
    exact ⟨_, rfl, go_of (s := { s with heap := h', toks := tk }) (n := "range_iterator") st' rfl rfl (by decide) ⟨.int (lo + i * c), H, I1, ⟨t, rfl⟩, ⟨rfl, rfl⟩, st', fun b hb => (hf b hb).1⟩⟩
  done := by
    intro X hP hw hK hc i pins s σ H E I hf st hg
    subst hP hw hK
    obtain ⟨f0, f1, f2, f3, f4, f5⟩ := hf it (by simp)
    exact wpAny_pyNext_range_end (I.ok.hd hc) st (by have : n ≤ i := hg; omega) fun h' eb => ⟨rfl, I.turned (t' := s.toks) (fun b o hb e => eb b o hb e) f0 f1 f3 f4 f5⟩
  self := fun _ _ _ _ _ st h => wpAny_pyIter_rangeiter st h
inductive RngK (vs : List V) (R : Int → Int → Int → Prop) : Prop
  | mk (i j c : Int) (h : vs = [.int i, .int j, .int c]) (n : c ≠ 0 ∧ c.natAbs < 1073741824) (s : Builtin.Range.small i j c = true) (z : 0 ≤ Builtin.Range.rangeSize i j c) (q : R i j c) : RngK vs R
noncomputable def iRng3 (ta : TA) : TI := fun σ H R => ta σ H fun vs H1 => RngK vs fun i j c => R (Itr3 i c (Builtin.Range.rangeSize i j c).toNat) H1
theorem pi_range3 {tg a b c : Expr} {ta : TA} {p pos : Pos} (hg : Gl X "range") (hm : X.mg "range" = none) (ha : PA X [a, b, c] ta) (hs : starEach [a, b, c] X.env = [(false, eval a X.env), (false, eval b X.env), (false, eval c X.env)] := by rfl) (hs2 : starEach [b, c] X.env = [(false, eval b X.env), (false, eval c X.env)] := by rfl) :
    PI X tg (.Call (.Name "range" p) [a, b, c] [] pos) (iRng3 ta) := by
  intro pins s σ H R I h
  refine Call_ (ld_blt I hg hm boot_range (PyProof.Rows.callWith_type1 (thn (ha pos pins s σ H _ I h) fun us s1 ⟨vs, H1, I1, r1, q1⟩ => ?_) (by rw [hs, hs2]) (by rw [hs2]; rfl)))
  obtain ⟨i, j, c, e, ⟨hc0, hcs⟩, hsm, hrs, q⟩ := q1
  subst e
  cases r1 with
  | cons r rr =>
    cases rr with
    | cons r' rr =>
      cases rr with
      | cons r'' rr =>
        cases rr
        obtain ⟨t, rfl⟩ := r
        obtain ⟨t', rfl⟩ := r'
        obtain ⟨t'', rfl⟩ := r''
        refine call_range_3 hc0 ?_ (.inl (PyProof.noPylong_small hcs))
        refine wpAny_pyIter_range (IsRange.new ..) hsm ?_
        have I2 : Inv X pins σ H1 { s1 with heap := s1.heap.push { cls := .type "range", data := .fields #[.int i t, .int j t', .int c t''] }, toks := s1.toks } := I1.kept fun b o e => Heap.get?_push_of_some _ e
        refine ⟨(s1.heap.push { cls := .type "range", data := .fields #[.int i t, .int j t', .int c t''] }).objs.size, [(s1.heap.push { cls := .type "range", data := .fields #[.int i t, .int j t', .int c t''] }).objs.size], _, _, H1, rfl,
          I2.kept (t' := s1.toks) fun b o e => Heap.get?_push_of_some _ e, turn_range3 _ i c (Builtin.Range.rangeSize i j c).toNat, ?_, fun b hb => ?_, q⟩
        · have e1 : i + ((0 : Nat) : Int) * c = i := by simp
          have e2 : (((Builtin.Range.rangeSize i j c).toNat : Nat) : Int) - ((0 : Nat) : Int) = Builtin.Range.rangeSize i j c := by omega
          show IsRangeIter _ _ (i + ((0 : Nat) : Int) * c) ((((Builtin.Range.rangeSize i j c).toNat : Nat) : Int) - ((0 : Nat) : Int)) c
          rw [e1, e2]
          exact Heap.get?_push_size _ rfl
        · have e : b = (s1.heap.push { cls := .type "range", data := .fields #[.int i t, .int j t', .int c t''] }).objs.size := by simpa using hb
          subst e
          exact I2.fpOk (Nat.le_refl _) (I2.hok.fresh (Nat.le_refl _))

mutual
inductive DR (K : PySem.W.Frag) (H : Hp) : V → PyData → Prop
  | non : DR K H .non .none
  | bl (b : Bool) : DR K H (.bl b) (.bool b)
  | int (i : Int) : DR K H (.int i) (.int i)
  | str (x : Str) : DR K H (.str x) (.str x)
  | lst {a : Addr} {xs : List V} {ds : List PyData} : SqL K H a xs → DRs K H xs ds → DR K H (.ref a) (.list ds)
  | tup {a : Addr} {xs : List V} {ds : List PyData} : SqT K H a xs → DRs K H xs ds → DR K H (.ref a) (.tuple ds)
inductive DRs (K : PySem.W.Frag) (H : Hp) : List V → List PyData → Prop
  | nil : DRs K H [] []
  | cons {x : V} {d : PyData} {xs : List V} {ds : List PyData} : DR K H x d → DRs K H xs ds → DRs K H (x :: xs) (d :: ds)
end
mutual
theorem DR.reads {pins : List (Addr × Obj)} {σ : St} {H : Hp} {s : Shared} (I : Inv X pins σ H s) : ∀ {x : V} {d : PyData} {u : Value}, DR X.K H x d → RelV x u → ∃ as, Reads s.heap u d as
  | _, _, _, .non, r => by cases (show _ = Value.none from r); exact ⟨_, .none⟩
  | _, _, _, .bl b, r => by cases (show _ = Value.bool b from r); exact ⟨_, .bool b⟩
  | _, _, _, .int i, r => by obtain ⟨t, rfl⟩ := r; exact ⟨_, .int i t⟩
  | _, _, _, .str x, r => by obtain ⟨t, rfl⟩ := r; exact ⟨_, .str x t⟩
  | _, _, _, .lst (a := a) h hs, r => by
    cases (show _ = Value.ref a from r)
    obtain ⟨its, rv, p, hz⟩ := I.list h
    obtain ⟨o, h1, h2, n, h3⟩ := p.isList
    obtain ⟨as, ra⟩ := DRs.reads I hs rv
    exact ⟨_, .list h1 h2 h3 (by simpa using ra)⟩
  | _, _, _, .tup (a := a) h hs, r => by
    cases (show _ = Value.ref a from r)
    obtain ⟨its, rv, p, hz⟩ := I.tuple h
    obtain ⟨o, h1, h2, n, h3⟩ := p
    obtain ⟨as, ra⟩ := DRs.reads I hs rv
    exact ⟨_, .tuple h1 h2 h3 (by simpa using ra)⟩
theorem DRs.reads {pins : List (Addr × Obj)} {σ : St} {H : Hp} {s : Shared} (I : Inv X pins σ H s) : ∀ {xs : List V} {ds : List PyData} {us : List Value}, DRs X.K H xs ds → Vals xs us → ∃ as, ReadsAll s.heap us ds as
  | _, _, _, .nil, r => by cases r; exact ⟨_, .nil⟩
  | _, _, _, .cons h hs, r => by
    cases r with
    | cons r1 r2 =>
      obtain ⟨as, ra⟩ := DR.reads I h r1
      obtain ⟨bs, rb⟩ := DRs.reads I hs r2
      exact ⟨_, .cons ra rb⟩
end
open PySem.SeqAt in
noncomputable def rEqD (K : PySem.W.Frag) (neg : Bool) : R2 := fun x y H Q => ∃ d e, DR K H x d ∧ DR K H y e ∧ shaped d = true ∧ shaped e = true ∧ Q (.bl (if neg then !PyData.eqv d e else PyData.eqv d e)) H
theorem op_eqD {k : Nat} (hr : Room k X.A) : OpR X (compareOp .Eq) (rEqD X.K false) := by
  intro pins s σ H x y v u Q I rx ry h
  obtain ⟨d, e, h1, h2, s1, s2, q⟩ := h
  obtain ⟨as, ra⟩ := h1.reads I rx
  obtain ⟨bs, rb⟩ := h2.reads I ry
  exact eq_dataH ra rb s1 s2 hr.units ⟨.bl (PyData.eqv d e), H, I, rfl, q⟩
theorem op_neD {k : Nat} (hr : Room k X.A) : OpR X (compareOp .NotEq) (rEqD X.K true) := by
  intro pins s σ H x y v u Q I rx ry h
  obtain ⟨d, e, h1, h2, s1, s2, q⟩ := h
  obtain ⟨as, ra⟩ := h1.reads I rx
  obtain ⟨bs, rb⟩ := h2.reads I ry
  exact ne_dataH ra rb s1 s2 hr.units ⟨.bl (!PyData.eqv d e), H, I, rfl, q⟩

noncomputable def rIsI (K : PySem.W.Frag) : List V → Hp → VK → Prop := fun xs H Q => ∃ x t T b, xs = [x, .ty T] ∧ TyOf K H x t ∧ PySem.W.kitOne K t (.type T) = some b ∧ Q (.bl b) H
theorem call_isinst : CallR X (.builtin "isinstance") (rIsI X.K) := by
  intro pins s σ H xs us Q I r h
  obtain ⟨x, t, T, b, rfl, ty, e, q⟩ := h
  obtain ⟨u, w', rfl, r1, r2⟩ := vals2 r
  cases (show w' = Value.type T from r2)
  exact isinst_ok I r1 ty e fun tk => ⟨.bl b, H, I.tok _, rfl, q⟩
theorem kit_ii (K : PySem.W.Frag) : PySem.W.kitOne K (.type "int") (.type "int") = some true := rfl
theorem kit_ib (K : PySem.W.Frag) : PySem.W.kitOne K (.type "int") (.type "bool") = some false := by rfl
theorem kit_ll (K : PySem.W.Frag) : PySem.W.kitOne K (.type "list") (.type "list") = some true := rfl
theorem kit_tt (K : PySem.W.Frag) : PySem.W.kitOne K (.type "tuple") (.type "tuple") = some true := rfl

end

theorem Same.tup {K : PySem.W.Frag} {H H' : Hp} {a : Addr} {xs : List V} (e : Same H H') (h : SqT K H a xs) : SqT K H' a xs := by
  obtain (h | ⟨o, h⟩) | h := h
  · exact .inl (.inl (e _ _ h))
  · exact .inl (.inr ⟨o, e _ _ h⟩)
  · exact .inr h
mutual
theorem DR.same {K : PySem.W.Frag} {H H' : Hp} (e : Same H H') : ∀ {x : V} {d : PyData}, DR K H x d → DR K H' x d
  | _, _, .non => .non
  | _, _, .bl b => .bl b
  | _, _, .int i => .int i
  | _, _, .str x => .str x
  | _, _, .lst h hs => .lst (e.seq h) (DRs.same e hs)
  | _, _, .tup h hs => .tup (e.tup h) (DRs.same e hs)
theorem DRs.same {K : PySem.W.Frag} {H H' : Hp} (e : Same H H') : ∀ {xs : List V} {ds : List PyData}, DRs K H xs ds → DRs K H' xs ds
  | _, _, .nil => .nil
  | _, _, .cons h hs => .cons (DR.same e h) (DRs.same e hs)
end
theorem DRs.ints {K : PySem.W.Frag} {H : Hp} : ∀ ns : List Int, DRs K H (ns.map V.int) (ns.map PyData.int)
  | [] => .nil
  | n :: ns => .cons (.int n) (DRs.ints ns)
theorem same_new {H : Hp} {p : Addr} (h : H p = none) (o : HO) : Same H (upd H p o) := fun b u q => by rw [upd_ne (ne_of_none q h)]; exact q
end L2

namespace L2
open PySem PySem.Spec PyProof.Rows

structure Dfn (P : Program) (w : World) (K : PySem.W.Frag) (mg : Str → Option Value) (base : Heap) (k : Nat) (x : Str) (ps : List Str) (sp : Sp) : Prop where
  ex : ∃ f fd, FnOk P w K mg base CX0 k f fd ps sp ∧ Binds K fd ps [] ∧ PySem.W.keepIn K (.ref f) = true ∧ mg x = some (.ref f)
section
variable {P : Program} {w : World} {K : PySem.W.Frag} {mg : Str → Option Value} {base : Heap}
theorem Dfn.mono {j k : Nat} {x : Str} {ps : List Str} {sp : Sp} (D : Dfn P w K mg base j x ps sp) (h : j ≤ k) : Dfn P w K mg base k x ps sp := by
  obtain ⟨f, fd, F, b, kp, m⟩ := D.ex
  exact ⟨f, fd, F.mono h, b, kp, m⟩
theorem Dfn.of {k : Nat} {x qual : Str} {st : Stmt} {f : Addr} {fd : FuncData} {N ps : List Str} {sp : Sp} (F : Fun K x qual st f fd) (b : Binds K fd ps []) (m : mg x = some (.ref f)) (S : FnScope N ps (defScope st)) (len : ∀ vs H Q E, sp vs H Q E → vs.length = ps.length)
    (hbody : ∀ (cdv : Value) (A : Around) (outer : List Env) (s : Shared) (H : Hp) (vs : List V) (Q : VK) (E : XK), Room k (A.deeper (envOfC qual (defScope st) s.heap.objs.size f cdv)) → sp vs H Q E →
      ∃ t, PSs (cxOf CX0 P w K mg base N qual (defScope st) f cdv A outer s H E).nox (defBody st) t ∧ t { nx := fun _ H' => Q .non H', rt := Q } (start N vs) H) : Dfn P w K mg base (k + 1) x ps sp :=
  ⟨f, fd, F.ok S len hbody, b, F.kp, m⟩
end
theorem pe_def {X : Cx} {k j : Nat} {x : Str} {ps : List Str} {sp : Sp} {e : Expr} {es : List Expr} {t : TA} {p pos : Pos} (D : Dfn X.prog X.w X.K X.mg X.base k x ps sp) (hr : Room j X.A) (hj : k ≤ j) (hg : Gl X x) (ha : PA X (e :: es) t)
    (hdb : (x == ("__debug__" : Str)) = false := by decide) (he : starEach (e :: es) X.env = (false, eval e X.env) :: starEach es X.env := by rfl) (hpl : (backTo pos (starEach es X.env)).any (·.1) = false := by rfl) :
    PE X (.Call (.Name x p) (e :: es) [] pos) (tCall sp [] E0 t) := by
  obtain ⟨f, fd, F, b, kp, m⟩ := D.ex
  exact pe_call F (hr.mono hj) hg m kp b .nil pass0 ha hdb he hpl

noncomputable def CW (n : Nat) (acc : Addr) (Pv : Nat → List V → Hp → Prop) : Nat → Nat → Hp → Prop := fun i m H => m = n - i ∧ i ≤ n ∧ ∃ ys, H acc = some (.lst ys) ∧ Pv i ys H
noncomputable def CSkip (n : Nat) (acc : Addr) (Pv : Nat → List V → Hp → Prop) (i : Nat) (H : Hp) : Prop := ∃ m', m' < n - i ∧ CW n acc Pv (i + 1) m' H
noncomputable def CPut (n : Nat) (acc : Addr) (Pv : Nat → List V → Hp → Prop) (i : Nat) (y : V) (H : Hp) : Prop := ∃ ys, H acc = some (.lst ys) ∧ ys.length < sizeLine ∧ ∃ m', m' < n - i ∧ CW n acc Pv (i + 1) m' (upd H acc (.lst (ys ++ [y])))
noncomputable def CP (H1 : Hp) (F : Nat → List V) : Nat → List V → Hp → Prop := fun i ys H => Same H1 H ∧ ys = F i
section
variable {n i : Nat} {acc : Addr} {H1 H H' : Hp} {F : Nat → List V} {y : V}
theorem cput (hlt : i < n) (hacc : H1 acc = none) (S : Same H1 H) (h0 : H acc = some (.lst (F i))) (s : Same H H') (e : F (i + 1) = F i ++ [y]) (hz : (F i).length < sizeLine) : CPut n acc (CP H1 F) i y H' :=
  ⟨F i, s acc _ h0, hz, n - (i + 1), by omega, rfl, hlt, F i ++ [y], upd_same, fun b o q => by
    rw [upd_ne (ne_of_none q hacc)]; exact s b o (S b o q), e.symm⟩
theorem cskip (hlt : i < n) (S : Same H1 H) (h0 : H acc = some (.lst (F i))) (s : Same H H') (e : F (i + 1) = F i) : CSkip n acc (CP H1 F) i H' :=
  ⟨n - (i + 1), by omega, rfl, hlt, F i, s acc _ h0, S.trans s, e.symm⟩
end
section
variable {K : PySem.W.Frag} {m : Nat} {js : List Nat} {g : TG} {c : TT} {te : TE} {σ : St} {H1 : Hp} {Q : VK}
theorem comp_list {a : Addr} {xs : List V} (hx : SqL K H1 a xs) (F : Nat → List V) (hF : F 0 = [])
    (turn : ∀ acc i x H, H1 acc = none → i < xs.length → xs[i]? = some x → Same H1 H → H acc = some (.lst (F i)) → g x (pick m js σ) H fun σ2 H2 => Wk (pick m js σ) σ2 ∧ c σ2 H2 fun b H3 => if b = true then te σ2 H3 fun y H4 => CPut xs.length acc (CP H1 F) i y H4 else CSkip xs.length acc (CP H1 F) i H3)
    (hQ : ∀ acc H, H1 acc = none → Same H1 H → H acc = some (.lst (F xs.length)) → Q (.ref acc) H) : tCompR m js g c te (Itl K a) σ H1 Q := by
  intro acc hacc
  refine ⟨CW xs.length acc (CP H1 F), ⟨_, rfl, Nat.zero_le _, [], upd_same, same_new hacc _, hF.symm⟩, ?_⟩
  intro i m' H hz_
  obtain ⟨rfl, hi, ys, h0, S, rfl⟩ := hz_
  have q := S.seq hx
  by_cases hlt : i < xs.length
  · refine .inr ⟨⟨xs, xs[i], q, by simp [hlt]⟩, fun x H' y => ?_⟩
    obtain ⟨e, y⟩ := y
    subst e
    exact turn acc i x _ hacc hlt (y xs q) S h0
  · have e : i = xs.length := by omega
    subst e
    exact .inl ⟨⟨xs, q, Nat.le_refl _⟩, hQ acc H hacc S h0⟩
theorem comp_enum {a : Addr} {xs : List V} (hx : SqL K H1 a xs) (F : Nat → List V) (hF : F 0 = [])
    (turn : ∀ acc i x p H, H1 acc = none → i < xs.length → xs[i]? = some x → Same H1 H → H acc = some (.lst (F i)) → H p = none → g (.ref p) (pick m js σ) (upd H p (.tup [.int (i : Nat), x])) fun σ2 H2 => Wk (pick m js σ) σ2 ∧ c σ2 H2 fun b H3 => if b = true then te σ2 H3 fun y H4 => CPut xs.length acc (CP H1 F) i y H4 else CSkip xs.length acc (CP H1 F) i H3)
    (hQ : ∀ acc H, H1 acc = none → Same H1 H → H acc = some (.lst (F xs.length)) → Q (.ref acc) H) : tCompR m js g c te (Ite K a) σ H1 Q := by
  intro acc hacc
  refine ⟨CW xs.length acc (CP H1 F), ⟨_, rfl, Nat.zero_le _, [], upd_same, same_new hacc _, hF.symm⟩, ?_⟩
  intro i m' H hz_
  obtain ⟨rfl, hi, ys, h0, S, rfl⟩ := hz_
  have q := S.seq hx
  by_cases hlt : i < xs.length
  · refine .inr ⟨⟨xs, xs[i], q, by simp [hlt]⟩, fun x H' y => ?_⟩
    obtain ⟨p, v, e, hp, e2, y⟩ := y
    subst e e2
    exact turn acc i v p _ hacc hlt (y xs q) S h0 hp
  · have e : i = xs.length := by omega
    subst e
    exact .inl ⟨⟨xs, q, Nat.le_refl _⟩, hQ acc H hacc S h0⟩
theorem comp_range {lo : Int} {n : Nat} (F : Nat → List V) (hF : F 0 = [])
    (turn : ∀ acc i H, H1 acc = none → i < n → Same H1 H → H acc = some (.lst (F i)) → g (.int (lo + (i : Nat))) (pick m js σ) H fun σ2 H2 => Wk (pick m js σ) σ2 ∧ c σ2 H2 fun b H3 => if b = true then te σ2 H3 fun y H4 => CPut n acc (CP H1 F) i y H4 else CSkip n acc (CP H1 F) i H3)
    (hQ : ∀ acc H, H1 acc = none → Same H1 H → H acc = some (.lst (F n)) → Q (.ref acc) H) : tCompR m js g c te (Itr lo n) σ H1 Q := by
  intro acc hacc
  refine ⟨CW n acc (CP H1 F), ⟨_, rfl, Nat.zero_le _, [], upd_same, same_new hacc _, hF.symm⟩, ?_⟩
  intro i m' H hz_
  obtain ⟨rfl, hi, ys, h0, S, rfl⟩ := hz_
  by_cases hlt : i < n
  · refine .inr ⟨hlt, fun x H' y => ?_⟩
    obtain ⟨e, y⟩ := y
    subst e y
    exact turn acc i _ hacc hlt S h0
  · have e : i = n := by omega
    subst e
    exact .inl ⟨Nat.le_refl _, hQ acc H hacc S h0⟩
end
theorem for_range3 {lo c : Int} {n : Nat} {g : TG} {tb : TS} {D : Ends} {σ : St} {H : Hp} (Pv : Nat → St → Hp → Prop) (h0 : Pv 0 σ H)
    (hs : ∀ i σ H, i < n → Pv i σ H → g (.int (lo + (i : Nat) * c)) σ H fun σ2 H2 => tb { D with nx := Pv (i + 1), ct := Pv (i + 1), bk := D.nx } σ2 H2) (hd : ∀ σ H, Pv n σ H → D.nx σ H) :
    ∃ W : Nat → Nat → St → Hp → Prop, (∃ m, W 0 m σ H) ∧ ∀ i m σ H, W i m σ H →
      ((Itr3 lo c n).stop i H ∧ D.nx σ H) ∨ ((Itr3 lo c n).go i H ∧ ∃ N : St → Hp → Prop, (∀ σ' H', N σ' H' → ∃ m', m' < m ∧ W (i + 1) m' σ' H') ∧ ∀ x H', (Itr3 lo c n).yld i H x H' → g x σ H' fun σ2 H2 => tb { D with nx := N, ct := N, bk := D.nx } σ2 H2) := by
  refine ⟨fun i m σ H => m = n - i ∧ i ≤ n ∧ Pv i σ H, ⟨n, by simp, Nat.zero_le _, h0⟩, ?_⟩
  intro i m σ H hz_
  obtain ⟨rfl, hi, p⟩ := hz_
  by_cases hlt : i < n
  · refine .inr ⟨hlt, Pv (i + 1), fun σ' H' p' => ⟨n - (i + 1), by omega, rfl, hlt, p'⟩, fun x H' y => ?_⟩
    obtain ⟨e, y⟩ := y
    subst e y
    exact hs i σ _ hlt p
  · have e : i = n := by omega
    subst e
    exact .inl ⟨Nat.le_refl _, hd σ H p⟩

theorem int_eq {i j : Int} : decide (V.int i = V.int j) = (i == j) := dec_int
theorem atI_int {ns : List Int} {k : Int} (h0 : 0 ≤ k) (h : k < (ns.length : Int)) : atI (ns.map V.int) k = some (.int (ns.getD k.toNat 0)) := by
  have hk : k.toNat < ns.length := by omega
  have ek : k = ((k.toNat : Nat) : Int) := by omega
  have q : atI (ns.map V.int) ((k.toNat : Nat) : Int) = some (.int ns[k.toNat]) := atI_nat (by rw [List.getElem?_map, List.getElem?_eq_getElem hk] <;> rfl)
  rw [← ek] at q
  rw [q, List.getD_eq_getElem?_getD, List.getElem?_eq_getElem hk]; rfl
theorem ints_get {ns : List Int} {i : Nat} {x : V} (h : (ns.map V.int)[i]? = some x) : x = .int (ns.getD i 0) := by
  rw [List.getElem?_map] at h
  cases e : ns[i]? with
  | none => rw [e] at h; cases h
  | some n => rw [e] at h; cases h; rw [List.getD_eq_getElem?_getD, e]; rfl
theorem small {n : Nat} (h : n ≤ 1000) : n ≤ sizeLine := Nat.le_of_lt (small1000 h)
noncomputable def Bk (K : PySem.W.Frag) (H : Hp) (b : Addr) (many : Int) (bs : List Int) : Prop := ∃ l, SqT K H b [.int many, .ref l] ∧ SqL K H l (bs.map V.int)
theorem Bk.same {K : PySem.W.Frag} {H H' : Hp} {b : Addr} {many : Int} {bs : List Int} (e : Same H H') (h : Bk K H b many bs) : Bk K H' b many bs := by
  obtain ⟨l, h1, h2⟩ := h
  exact ⟨l, e.tup h1, e.seq h2⟩
theorem lay_ints : ∀ ns : List Int, PyData.canLayAll0 (ns.map PyData.int) = true
  | [] => rfl
  | n :: ns => by
    show (PyData.canLay0 (.int n) && PyData.canLayAll0 (ns.map PyData.int)) = true
    rw [lay_ints ns]; rfl
theorem depth_ints : ∀ ns : List Int, PyData.depthAll (ns.map PyData.int) = 0
  | [] => rfl
  | n :: ns => by
    show max (PyData.depth (.int n)) (PyData.depthAll (ns.map PyData.int)) = 0
    rw [depth_ints ns]; rfl
theorem shaped_ints (ns : List Int) : PySem.SeqAt.shaped (.list (ns.map PyData.int)) = true := by
  unfold PySem.SeqAt.shaped
  rw [show PyData.canLay0 (.list (ns.map PyData.int)) = true from lay_ints ns]
  rw [show PyData.depth (.list (ns.map PyData.int)) = 0 + 1 from by rw [← depth_ints ns]; rfl]
  rfl
theorem eqv_ints : ∀ ns ms : List Int, PyData.eqvAll (ns.map PyData.int) (ms.map PyData.int) = decide (ns = ms) := PySem.W.ked_eqvAll
end L2
namespace L2
open PySem PySem.Spec PyProof.Rows
inductive MidI (t u : TS) (D : Ends) (σ : St) (H : Hp) : Prop
  | mk (R : St → Hp → Prop) (a : t { D with nx := R } σ H) (b : ∀ σ' H', R σ' H' → u D σ' H') : MidI t u D σ H
noncomputable def tMid (t u : TS) : TS := fun D σ H => MidI t u D σ H
theorem pss_mid {X : Cx} {st : Stmt} {rest : List Stmt} {t u : TS} (h1 : PS X st t) (h2 : PSs X rest u) : PSs X (st :: rest) (tMid t u) := by
  intro pins s σ H D I h
  obtain ⟨R, q1, q2⟩ := h
  refine wpAny_execs_cons (thn (h1 pins s σ H { D with nx := R } I q1) fun f s1 q => ?_)
  cases f with
  | next =>
    obtain ⟨σ', H', I', q⟩ := q
    exact h2 pins s1 σ' H' D I' (q2 σ' H' q)
  | ret v => exact q
  | brk => exact q
  | cont => exact q
noncomputable def LookT (t : TT) (σ : St) (H : Hp) (c : Bool) : Prop := ∀ Q : Bool → Hp → Prop, (∀ H', Same H H' → Q c H') → t σ H Q
theorem LookT.pure {t : TT} {σ : St} {H : Hp} {c : Bool} (h : ∀ Q : Bool → Hp → Prop, Q c H → t σ H Q) : LookT t σ H c := fun Q q => h Q (q H (Same.refl H))
theorem lookAnd {t u : TT} {σ : St} {H : Hp} {c d : Bool} (h1 : LookT t σ H c) (h2 : c = true → ∀ H1, Same H H1 → LookT u σ H1 d) : LookT (tAnd t u) σ H (c && d) := fun Q h => by
  refine h1 _ fun H1 S1 => ?_
  cases c with
  | true => exact iteT (h2 rfl H1 S1 Q fun H2 S2 => h H2 (S1.trans S2))
  | false => exact iteF (h H1 S1)
theorem lookOr {t u : TT} {σ : St} {H : Hp} {c d : Bool} (h1 : LookT t σ H c) (h2 : c = false → ∀ H1, Same H H1 → LookT u σ H1 d) : LookT (tOr t u) σ H (c || d) := fun Q h => by
  refine h1 _ fun H1 S1 => ?_
  cases c with
  | true => exact iteT (h H1 S1)
  | false => exact iteF (h2 rfl H1 S1 Q fun H2 S2 => h H2 (S1.trans S2))
noncomputable def SameB (l : Addr) (H H' : Hp) : Prop := ∀ b o, b ≠ l → H b = some o → H' b = some o
theorem Same.b {l : Addr} {H H' : Hp} (h : Same H H') : SameB l H H' := fun b o _ e => h b o e
theorem SameB.trans {l : Addr} {H H1 H2 : Hp} (a : SameB l H H1) (b : SameB l H1 H2) : SameB l H H2 := fun c o n h => b c o n (a c o n h)
theorem sameB_upd {l : Addr} {H : Hp} {o : HO} : SameB l H (upd H l o) := fun b u n e => by rw [upd_ne n]; exact e
theorem SameB.same {l : Addr} {H0 H H' : Hp} (h : SameB l H H') (h0 : Same H0 H) (hn : H0 l = none) : Same H0 H' := fun b o e => h b o (ne_of_none e hn) (h0 b o e)
theorem SameB.seq {K : PySem.W.Frag} {l : Addr} {H H' : Hp} {a : Addr} {xs : List V} (e : SameB l H H') (n : a ≠ l) (h : SqL K H a xs) : SqL K H' a xs := by
  obtain (h | ⟨o, h⟩) | h := h
  · exact .inl (.inl (e _ _ n h))
  · exact .inl (.inr ⟨o, e _ _ n h⟩)
  · exact .inr h
noncomputable def cutI (ds : List Int) (lo hi : Option Int) : List Int := (ds.drop (HT.sIx ds.length 0 lo)).take (HT.sIx ds.length ds.length hi - HT.sIx ds.length 0 lo)
theorem cut_ints (ds : List Int) (lo hi : Option Int) : cutV (ds.map V.int) lo hi = (cutI ds lo hi).map V.int := by
  unfold cutV cutI
  rw [List.length_map, List.map_take, List.map_drop]
theorem cutI_len (ds : List Int) (a c : Nat) : (cutI ds (some (a : Int)) (some (c : Int))).length ≤ c - a := by
  unfold cutI
  rw [List.length_take, List.length_drop, HT.sIx_nat, HT.sIx_nat]
  omega +splitDisjunctions
end L2
namespace L2
open PySem PySem.Spec PyProof.Rows
section
variable {X : Cx} (K : PySem.W.Frag) (hK : X.K = K)
include hK
theorem pg_tupK {pos : Pos} {es : List Expr} {k : Nat} {t : TGs} {n : Nat} (hc : X.calm = true) (h : PGs X es t) (hn : (assignEach es X.env).length = n := by rfl) (hst : (assignEach es X.env).findIdx? (·.1) = none := by rfl) : PG X (.Tuple es k pos) (gTup K n t) := by
  subst hK; exact pg_tup hc h hn hst
theorem ix_tupK : IxR X (rIxT K) := by subst hK; exact ix_tup
theorem len_seqK : CallR X (.builtin "len") (LenAt K) := by subst hK; exact call_len_seq
end
end L2

namespace OL
open PySem L2

noncomputable def hasF (x y : Int) : Bool := Builtin.bitAnd x y == y
noncomputable def topF (n : Int) : Int := 1 * 2 ^ n.toNat - 1
noncomputable def hold (bs : List Int) (lot : Int) (n : Nat) : List Int := ((List.range n).filter fun i => hasF (bs.getD i 0) lot).map fun (i : Nat) => (i : Int)
noncomputable def holdF (bs : List Int) (lot : Int) : List Int := hold bs lot bs.length
noncomputable def commonF (many : Int) (bs ps : List Int) : Int := ps.foldl (fun acc p => Builtin.bitAnd acc (bs.getD p.toNat 0)) (topF many)
noncomputable def closeF (many : Int) (bs : List Int) (lot : Int) : Int := commonF many bs (holdF bs lot)
noncomputable def closeL (many : Int) (bs : List Int) (lot : Int) : Int := bs.foldl (fun acc b => if hasF b lot then Builtin.bitAnd acc b else acc) (topF many)

theorem hold_yes {bs : List Int} {lot : Int} {n : Nat} (h : hasF (bs.getD n 0) lot = true) : hold bs lot (n + 1) = hold bs lot n ++ [(n : Int)] := by
  unfold hold
  rw [List.range_succ, List.filter_append, List.map_append, List.filter_cons, if_pos h]
  rfl
theorem hold_no {bs : List Int} {lot : Int} {n : Nat} (h : hasF (bs.getD n 0) lot = false) : hold bs lot (n + 1) = hold bs lot n := by
  unfold hold
  rw [List.range_succ, List.filter_append, List.map_append, List.filter_cons, if_neg (by rw [h]; decide)]
  exact List.append_nil _
theorem hold_len (bs : List Int) (lot : Int) (n : Nat) : (hold bs lot n).length ≤ n := by
  unfold hold
  rw [List.length_map]
  have h := List.length_filter_le (fun i => hasF (bs.getD i 0) lot) (List.range n)
  rw [List.length_range] at h
  exact h
theorem hold_mem {bs : List Int} {lot : Int} {n : Nat} {p : Int} (h : p ∈ hold bs lot n) : 0 ≤ p ∧ p < n := by
  unfold hold at h
  obtain ⟨i, hi, e⟩ := List.mem_map.mp h
  have := List.mem_range.mp (List.mem_filter.mp hi).1
  omega
theorem close_upto (many : Int) (bs : List Int) (lot : Int) : ∀ n, n ≤ bs.length → commonF many bs (hold bs lot n) = (bs.take n).foldl (fun acc b => if hasF b lot then Builtin.bitAnd acc b else acc) (topF many)
  | 0, _ => rfl
  | n + 1, h => by
    have ih := close_upto many bs lot n (by omega)
    have hn : n < bs.length := by omega
    have e : bs.take (n + 1) = bs.take n ++ [bs.getD n 0] := by
      rw [List.getD_eq_getElem?_getD, List.getElem?_eq_getElem hn]
      exact List.take_succ_eq_append_getElem hn
    rw [e, List.foldl_append, ← ih]
    cases hh : hasF (bs.getD n 0) lot with
    | true =>
      rw [hold_yes hh]
      unfold commonF
      rw [List.foldl_append]
      simp only [List.foldl_cons, List.foldl_nil, hh, if_true, Int.toNat_natCast]
    | false =>
      rw [hold_no hh]
      simp only [List.foldl_cons, List.foldl_nil, hh, Bool.false_eq_true, if_false]
theorem close_eq (many : Int) (bs : List Int) (lot : Int) : closeF many bs lot = closeL many bs lot := by
  have h := close_upto many bs lot bs.length (Nat.le_refl _)
  rw [List.take_length] at h
  exact h

noncomputable def spHas : Sp := fun vs H Q _ => ∃ x y, vs = [.int x, .int y] ∧ Q (.bl (hasF x y)) H
inductive spTop_I (vs : List V) (H : Hp) (Q : VK) : Prop
  | mk (n : Int) (e_1 : vs = [.int n]) (e_2 : 0 ≤ n) (e_3 : n ≤ 64) (e_4 : Q (.int (topF n)) H) : spTop_I vs H Q
noncomputable def spTop : Sp := fun vs H Q _ => spTop_I vs H Q
inductive spHold_I (K : PySem.W.Frag) (vs : List V) (H : Hp) (Q : VK) : Prop
  | mk (b : Addr) (many : Int) (bs : List Int) (lot : Int) (e_1 : vs = [.ref b, .int lot]) (e_2 : Bk K H b many bs) (e_3 : bs.length ≤ 500) (e_4 : ∀ (r : Addr) (H' : Hp), Same H H' → H r = none → H' r = some (.lst ((holdF bs lot).map V.int)) → Q (.ref r) H') : spHold_I K vs H Q
noncomputable def spHold (K : PySem.W.Frag) : Sp := fun vs H Q _ => spHold_I K vs H Q
inductive spCommon_I (K : PySem.W.Frag) (vs : List V) (H : Hp) (Q : VK) : Prop
  | mk (b p : Addr) (many : Int) (bs ps : List Int) (e_1 : vs = [.ref b, .ref p]) (e_2 : Bk K H b many bs) (e_3 : SqL K H p (ps.map V.int)) (e_4 : 0 ≤ many) (e_5 : many ≤ 64) (e_6 : (∀ q ∈ ps, 0 ≤ q ∧ q < bs.length)) (e_7 : Q (.int (commonF many bs ps)) H) : spCommon_I K vs H Q
noncomputable def spCommon (K : PySem.W.Frag) : Sp := fun vs H Q _ => spCommon_I K vs H Q
inductive spClose_I (K : PySem.W.Frag) (f : Int → List Int → Int → V) (vs : List V) (H : Hp) (Q : VK) : Prop
  | mk (b : Addr) (many : Int) (bs : List Int) (lot : Int) (e_1 : vs = [.ref b, .int lot]) (e_2 : Bk K H b many bs) (e_3 : bs.length ≤ 500) (e_4 : 0 ≤ many) (e_5 : many ≤ 64) (e_6 : ∀ H', Same H H' → Q (f many bs lot) H') : spClose_I K f vs H Q
noncomputable def spClose (K : PySem.W.Frag) (f : Int → List Int → Int → V) : Sp := fun vs H Q _ => spClose_I K f vs H Q
noncomputable def InB (many : Int) (x : Int) : Prop := 0 ≤ x ∧ x < 2 ^ many.toNat
theorem InB.and {many x y : Int} (hx : InB many x) (hy : InB many y) : InB many (Builtin.bitAnd x y) := by
  obtain ⟨h1, h2⟩ := hx
  obtain ⟨h3, h4⟩ := hy
  rw [PyProof.Rows.bitAnd_pp h1 h3]
  refine ⟨Int.natCast_nonneg _, ?_⟩
  have h5 : x.toNat &&& y.toNat ≤ x.toNat := Nat.and_le_left
  have h6 : ((x.toNat &&& y.toNat : Nat) : Int) ≤ x := by omega
  exact Int.lt_of_le_of_lt h6 h2
structure BookOk (many : Int) (bs : List Int) (most top : Int) : Prop where
  lo : 1 ≤ many
  hi : many ≤ most
  len : (bs.length : Int) ≤ top
  bas : ∀ x ∈ bs, InB many x
theorem getD_mem {ds : List Int} {i : Nat} (h : i < ds.length) : ds.getD i 0 ∈ ds := by
  rw [List.getD_eq_getElem?_getD, List.getElem?_eq_getElem h]; exact List.getElem_mem h
theorem two_pow_pos (n : Int) : (0 : Int) < 1 * 2 ^ n.toNat := by
  have : (0 : Int) < 2 ^ n.toNat := Int.pow_pos (by decide)
  omega
theorem mod_InB (d many : Int) : InB many (d % (1 * 2 ^ many.toNat)) := by
  have h := two_pow_pos many
  have h1 := Int.emod_nonneg d (show (1 * 2 ^ many.toNat : Int) ≠ 0 by omega)
  have h2 := Int.emod_lt_of_pos d h
  rw [Int.one_mul] at h1 h2 ⊢
  exact ⟨h1, h2⟩
end OL

namespace OL
open PySem L2
noncomputable def PureT (t : TT) (σ : St) (H : Hp) (c : Bool) : Prop := ∀ Q : Bool → Hp → Prop, Q c H → t σ H Q
theorem pureAnd {t u : TT} {σ : St} {H : Hp} {c d : Bool} (h1 : PureT t σ H c) (h2 : c = true → PureT u σ H d) : PureT (tAnd t u) σ H (c && d) := fun Q h => by
  refine h1 _ ?_
  cases c with
  | true => exact iteT (h2 rfl Q h)
  | false => exact iteF h
theorem common_succ {many : Int} {bs ps : List Int} {i : Nat} (h : i < ps.length) : commonF many bs (ps.take (i + 1)) = Builtin.bitAnd (commonF many bs (ps.take i)) (bs.getD (ps.getD i 0).toNat 0) := by
  have e : ps.take (i + 1) = ps.take i ++ [ps.getD i 0] := by
    rw [List.getD_eq_getElem?_getD, List.getElem?_eq_getElem h]
    exact List.take_succ_eq_append_getElem h
  unfold commonF
  rw [e, List.foldl_append]; rfl
theorem mod_ok (a : Int) {m : Int} (h0 : 0 < m) (h1 : m < 2 ^ 64) : -(2 ^ 64) < a % m ∧ a % m < 2 ^ 64 := by
  have g0 := Int.emod_nonneg a (show m ≠ 0 by omega)
  have g1 := Int.emod_lt_of_pos a h0
  omega
noncomputable def cellF (ns : List Int) (k : Int) : Int := ns.getD k.toNat 0
inductive spCell_I (K : PySem.W.Frag) (vs : List V) (H : Hp) (Q : VK) : Prop
  | mk (a : Addr) (ns : List Int) (k : Int) (e_1 : vs = [.ref a, .int k]) (e_2 : SqL K H a (ns.map V.int)) (e_3 : 0 ≤ k) (e_4 : Q (.int (cellF ns k)) H) : spCell_I K vs H Q
noncomputable def spCell (K : PySem.W.Frag) : Sp := fun vs H Q _ => spCell_I K vs H Q
inductive spDraws_I (vs : List V) (H : Hp) (Q : VK) : Prop
  | mk (c m b : Int) (e_1 : vs = [.int c, .int m, .int b]) (e_2 : 0 ≤ m) (e_3 : m ≤ 100) (e_4 : 0 < b) (e_5 : b < 1073741824) (e_6 : ∀ (r : Addr) (H' : Hp) (ds : List Int), Same H H' → H r = none → H' r = some (.lst (ds.map V.int)) → (ds.length : Int) = m → (∀ d ∈ ds, 0 ≤ d ∧ d < b) → Q (.ref r) H') : spDraws_I vs H Q
noncomputable def spDraws : Sp := fun vs H Q _ => spDraws_I vs H Q
end OL
namespace OL
open PySem L2
theorem ne_nil {bs : List Int} (h : (!PyData.eqv (.list (bs.map PyData.int)) (.list [])) = true) : bs ≠ [] := by
  intro e
  subst e
  exact absurd h (by decide)
end OL
namespace OL
open PySem L2
inductive spLaw_I (K : PySem.W.Frag) (vs : List V) (H : Hp) (Q : VK) : Prop
  | mk (a : Addr) (ns : List Int) (e_1 : vs = [.ref a]) (e_2 : SqL K H a (ns.map V.int)) (e_3 : ns.length ≤ 63) (e_4 : ∀ H', Q (.bl true) H') : spLaw_I K vs H Q
noncomputable def spLaw (K : PySem.W.Frag) : Sp := fun vs H Q _ => spLaw_I K vs H Q
theorem yes_of {σ : St} {H : Hp} {A B : Hp → Prop} (h : A H) : tYes σ H fun b H3 => if b = true then A H3 else B H3 := by
  show if true = true then A H else B H
  exact iteT h
theorem seq_if {c : TT} {t u v : TS} {D : Ends} {σ : St} {H : Hp} {b : Bool} (h : LookT c σ H b) (k : ∀ H', Same H H' → if b = true then t { D with nx := v D } σ H' else u { D with nx := v D } σ H') : tSeq (tIfS c t u) v D σ H := h _ k
theorem one_if {c : TT} {t u : TS} {D : Ends} {σ : St} {H : Hp} {b : Bool} (h : LookT c σ H b) (k : ∀ H', Same H H' → if b = true then t D σ H' else u D σ H') : tIfS c t u D σ H := h _ k
theorem take_get {cs : List Int} {i : Nat} (h : i < cs.length) : cs.take (i + 1) = cs.take i ++ [cs.getD i 0] := by
  rw [List.getD_eq_getElem?_getD, List.getElem?_eq_getElem h]
  exact List.take_succ_eq_append_getElem h
end OL

namespace OL
open PySem L2
noncomputable def countF (bs : List Int) (lot : Int) : Int := ((holdF bs lot).length : Int)
end OL
namespace L2
open PySem PySem.Spec PyProof.Rows
end L2

namespace OL
open PySem L2
noncomputable def Th (x : Int) (i : Nat) : Prop := x.toNat.testBit i = true
theorem th_and {x y : Int} (hx : 0 ≤ x) (hy : 0 ≤ y) (i : Nat) : Th (Builtin.bitAnd x y) i ↔ Th x i ∧ Th y i := by
  unfold Th
  rw [PyProof.Rows.bitAnd_pp hx hy, Int.toNat_natCast, Nat.testBit_and, Bool.and_eq_true]
theorem th_ext {x y : Int} (hx : 0 ≤ x) (hy : 0 ≤ y) (h : ∀ i, Th x i ↔ Th y i) : x = y := by
  have e : x.toNat = y.toNat := Nat.eq_of_testBit_eq fun i => by
    have := h i
    unfold Th at this
    cases h1 : x.toNat.testBit i <;> cases h2 : y.toNat.testBit i <;> simp_all
  omega
theorem and_nn {x y : Int} (hx : 0 ≤ x) (hy : 0 ≤ y) : 0 ≤ Builtin.bitAnd x y := by
  rw [PyProof.Rows.bitAnd_pp hx hy]; exact Int.natCast_nonneg _
theorem has_iff {x y : Int} (hx : 0 ≤ x) (hy : 0 ≤ y) : hasF x y = true ↔ ∀ i, Th y i → Th x i := by
  unfold hasF
  rw [beq_iff_eq]
  constructor
  · intro h i hi
    rw [← h] at hi
    exact ((th_and hx hy i).mp hi).1
  · intro h
    exact th_ext (and_nn hx hy) hy fun i => by
      rw [th_and hx hy]
      exact ⟨fun z => z.2, fun z => ⟨h i z, z⟩⟩
theorem th_top (many : Int) (i : Nat) : Th (topF many) i ↔ i < many.toNat := by
  unfold Th topF
  have e : (1 * 2 ^ many.toNat - 1 : Int).toNat = 2 ^ many.toNat - 1 := by
    have : (2 : Int) ^ many.toNat = ((2 ^ many.toNat : Nat) : Int) := by push_cast; rfl
    rw [Int.one_mul, this]; omega
  rw [e, Nat.testBit_two_pow_sub_one, decide_eq_true_eq]
theorem top_nn (many : Int) : 0 ≤ topF many := by
  unfold topF
  have := two_pow_pos many
  omega
theorem top_in (many : Int) : InB many (topF many) := ⟨top_nn many, by unfold topF; rw [Int.one_mul]; omega⟩
theorem InB.th {many x : Int} (h : InB many x) {i : Nat} (hi : Th x i) : i < many.toNat := by
  unfold Th at hi
  have h1 : x.toNat < 2 ^ many.toNat := by
    have : (2 : Int) ^ many.toNat = ((2 ^ many.toNat : Nat) : Int) := by push_cast; rfl
    have := h.2
    have := h.1
    omega
  by_cases hlt : i < many.toNat
  · exact hlt
  · have := Nat.testBit_lt_two_pow (Nat.lt_of_lt_of_le h1 (Nat.pow_le_pow_right (by decide) (Nat.le_of_not_lt hlt)))
    rw [this] at hi
    cases hi
theorem InB.of_th {many x : Int} (h0 : 0 ≤ x) (h : ∀ i, Th x i → i < many.toNat) : InB many x := by
  refine ⟨h0, ?_⟩
  have h1 : x.toNat < 2 ^ many.toNat := Nat.lt_pow_two_of_testBit _ fun i hi => by
    cases e : x.toNat.testBit i with
    | false => rfl
    | true => exact absurd (h i e) (Nat.not_lt.mpr hi)
  have : (2 : Int) ^ many.toNat = ((2 ^ many.toNat : Nat) : Int) := by push_cast; rfl
  omega
structure BasOk (many : Int) (bs : List Int) : Prop where
  bas : ∀ x ∈ bs, InB many x
theorem close_fold {many lot : Int} : ∀ (bs : List Int) (acc : Int), (∀ x ∈ bs, InB many x) → InB many acc →
    InB many (bs.foldl (fun acc b => if hasF b lot then Builtin.bitAnd acc b else acc) acc) ∧ ∀ i, Th (bs.foldl (fun acc b => if hasF b lot then Builtin.bitAnd acc b else acc) acc) i ↔ Th acc i ∧ ∀ b ∈ bs, hasF b lot = true → Th b i
  | [], acc, _, ha => ⟨ha, fun i => ⟨fun h => ⟨h, fun b hb => nomatch hb⟩, fun h => h.1⟩⟩
  | b :: r, acc, hb, ha => by
    have hb0 := hb b List.mem_cons_self
    have hr : ∀ x ∈ r, InB many x := fun x hx => hb x (List.mem_cons_of_mem _ hx)
    rw [List.foldl_cons]
    cases hh : hasF b lot with
    | true =>
      simp only [if_true]
      obtain ⟨h1, h2⟩ := close_fold (lot := lot) r (Builtin.bitAnd acc b) hr (ha.and hb0)
      refine ⟨h1, fun i => ?_⟩
      rw [h2, th_and ha.1 hb0.1]
      constructor
      · intro hz_
        obtain ⟨⟨a1, a2⟩, a3⟩ := hz_
        refine ⟨a1, fun c hc h => ?_⟩
        obtain rfl | z := List.mem_cons.mp hc
        · exact a2
        · exact a3 c z h
      · intro hz_
        obtain ⟨a1, a2⟩ := hz_
        exact ⟨⟨a1, a2 b List.mem_cons_self hh⟩, fun c hc h => a2 c (List.mem_cons_of_mem _ hc) h⟩
    | false =>
      simp only [Bool.false_eq_true, if_false]
      obtain ⟨h1, h2⟩ := close_fold (lot := lot) r acc hr ha
      refine ⟨h1, fun i => ?_⟩
      rw [h2]
      constructor
      · intro hz_
        obtain ⟨a1, a3⟩ := hz_
        refine ⟨a1, fun c hc h => ?_⟩
        obtain rfl | z := List.mem_cons.mp hc
        · rw [hh] at h; cases h
        · exact a3 c z h
      · intro hz_
        obtain ⟨a1, a2⟩ := hz_
        exact ⟨a1, fun c hc h => a2 c (List.mem_cons_of_mem _ hc) h⟩
section
variable {many : Int} {bs : List Int} (hb : ∀ x ∈ bs, InB many x)
include hb
theorem close_in (lot : Int) : InB many (closeF many bs lot) := by
  rw [close_eq]; exact (close_fold bs _ hb (top_in many)).1
theorem th_close (lot : Int) (i : Nat) : Th (closeF many bs lot) i ↔ i < many.toNat ∧ ∀ b ∈ bs, hasF b lot = true → Th b i := by
  rw [close_eq]
  unfold closeL
  rw [(close_fold bs _ hb (top_in many)).2, th_top]
theorem close_has {lot : Int} (hl : InB many lot) : hasF (closeF many bs lot) lot = true := by
  rw [has_iff (close_in hb lot).1 hl.1]
  intro i hi
  rw [th_close hb]
  exact ⟨hl.th hi, fun b hm h => (has_iff (hb b hm).1 hl.1).mp h i hi⟩
theorem has_close {lot : Int} (hl : InB many lot) {b : Int} (hm : b ∈ bs) : hasF b (closeF many bs lot) = hasF b lot := by
  rw [Bool.eq_iff_iff, has_iff (hb b hm).1 (close_in hb lot).1, has_iff (hb b hm).1 hl.1]
  constructor
  · intro h i hi
    exact h i ((has_iff (close_in hb lot).1 hl.1).mp (close_has hb hl) i hi)
  · intro h i hi
    exact ((th_close hb lot i).mp hi).2 b hm ((has_iff (hb b hm).1 hl.1).mpr h)
theorem close_close {lot : Int} (hl : InB many lot) : closeF many bs (closeF many bs lot) = closeF many bs lot := by
  refine th_ext (close_in hb _).1 (close_in hb _).1 fun i => ?_
  rw [th_close hb, th_close hb]
  constructor
  · intro hz_
    obtain ⟨h1, h2⟩ := hz_
    exact ⟨h1, fun b hm h => h2 b hm (by rw [has_close hb hl hm]; exact h)⟩
  · intro hz_
    obtain ⟨h1, h2⟩ := hz_
    exact ⟨h1, fun b hm h => h2 b hm (by rw [has_close hb hl hm] at h; exact h)⟩
theorem hold_congr {l1 l2 : Int} (h : ∀ b ∈ bs, hasF b l1 = hasF b l2) : holdF bs l1 = holdF bs l2 := by
  unfold holdF hold
  congr 1
  refine List.filter_congr fun i hi => ?_
  exact h _ (getD_mem (List.mem_range.mp hi))
theorem hold_close {lot : Int} (hl : InB many lot) : holdF bs (closeF many bs lot) = holdF bs lot := hold_congr hb fun b hm => has_close hb hl hm
end
theorem hold_length (bs : List Int) (lot : Int) : (holdF bs lot).length = (bs.filter fun b => hasF b lot).length := by
  unfold holdF
  have go : ∀ n, n ≤ bs.length → (hold bs lot n).length = ((bs.take n).filter fun b => hasF b lot).length := by
    intro n
    induction n with
    | zero => intro _; rfl
    | succ n ih =>
      intro h
      have hn : n < bs.length := by omega
      rw [take_get hn, List.filter_append, List.length_append, ← ih (by omega)]
      cases hh : hasF (bs.getD n 0) lot with
      | true => rw [hold_yes hh, List.length_append, List.filter_cons, if_pos hh]; rfl
      | false => rw [hold_no hh, List.filter_cons, if_neg (by rw [hh]; decide)]; rfl
  have := go bs.length (Nat.le_refl _)
  rwa [List.take_length] at this
end OL
namespace OL
open PySem L2
end OL

namespace L2
open PySem PySem.Spec PyProof.Rows
section
variable {X : Cx}
theorem call_rngV : CallR X (.type "range") (fun xs H Q => ∃ n : Int, xs = [.int n] ∧ ∀ p, H p = none → Q (.ref p) (upd H p (.rng 0 n))) := by
  intro pins s σ H xs us Q I r h
  obtain ⟨n, rfl, q⟩ := h
  obtain ⟨u, rfl, ⟨t, rfl⟩⟩ := vals1 r
  refine call_range_1 ⟨.ref s.heap.objs.size, _, I.laid (o := .rng 0 n) (fun b ob e => Heap.get?_push_of_some _ e) (Nat.le_refl _) ?_, rfl, q _ I.fresh⟩
  exact ⟨_, _, _, Heap.get?_push_size _ rfl⟩
noncomputable def rangeI (n : Nat) : List Int := (List.range n).map fun (i : Nat) => (i : Int)
theorem rangeI_length (n : Nat) : (rangeI n).length = n := by unfold rangeI; rw [List.length_map, List.length_range]
theorem rangeI_get {n i : Nat} (h : i < n) : (rangeI n)[i]? = some (i : Int) := by
  unfold rangeI; rw [List.getElem?_map, List.getElem?_range h]; rfl
theorem rangeI_getD {n i : Nat} (h : i < n) : (rangeI n).getD i 0 = (i : Int) := by
  rw [List.getD_eq_getElem?_getD, rangeI_get h]; rfl
theorem vals_of_get (xs : List V) (us : List Value) (hl : xs.length = us.length) (h : ∀ (i : Nat) x u, xs[i]? = some x → us[i]? = some u → RelV x u) : Vals xs us := by
  induction xs generalizing us with
  | nil => cases us with
    | nil => exact .nil
    | cons a t => cases hl
  | cons x xs ih => cases us with
    | nil => cases hl
    | cons u us => exact .cons (h 0 x u rfl rfl) (ih us (Nat.succ.inj hl) fun i y v h1 h2 => h (i + 1) y v h1 h2)
theorem call_listRng (hc : X.calm = true) : CallR X (.type "list") (fun xs H Q => Ex2 fun (p : Addr) (n : Int) => xs = [.ref p] ∧ H p = some (.rng 0 n) ∧ 0 ≤ n ∧ n ≤ 100000 ∧ ∀ l, H l = none → Q (.ref l) (upd H l (.lst ((rangeI n.toNat).map V.int)))) := by
  intro pins s σ H xs us Q I r h
  obtain ⟨p, n, rfl, hp, n0, n1, q⟩ := h
  obtain ⟨u, rfl, ru⟩ := vals1 r
  cases (show u = Value.ref p from ru)
  obtain ⟨t1, t2, t3, e⟩ := (show ObjOk X.prog X.w H s.heap p (.rng 0 n) from I.hok p _ hp)
  have hn : Builtin.Range.rangeSize 0 n 1 = (n.toNat : Nat) := by rw [rangeSize_one]; split <;> omega
  refine call_list_range (n := n.toNat) (I.ok.hd hc) e (small_one (by omega) (by omega) (by omega) (by omega)) hn (by omega) fun h' tk acc c' hk hS hacc => ?_
  have hlen : ((rangeI n.toNat).map V.int).length = acc.toList.length := by rw [List.length_map, rangeI_length]; have := hacc.1; simp [this]
  refine ⟨.ref s.heap.objs.size, _, I.laid (o := .lst ((rangeI n.toNat).map V.int)) hk (Nat.le_refl _) ?_, rfl, q _ I.fresh⟩
  refine ⟨?_, acc.toList, c', vals_of_get _ _ hlen fun i x u h1 h2 => ?_, by simpa using hS⟩
  · rw [List.length_map, rangeI_length]
    have : (100000 : Nat) ≤ sizeLine := by decide
    omega
  · have h2' : acc[i]? = some u := by simpa using h2
    obtain ⟨t, rfl⟩ := hacc.2 i u h2'
    have hi : i < n.toNat := by
      have := (List.getElem?_eq_some_iff.mp h1).1
      rwa [List.length_map, rangeI_length] at this
    have hx := ints_get h1
    rw [rangeI_getD hi] at hx
    subst hx
    exact ⟨t, by simp⟩
end
noncomputable def Row (H : Hp) (x : V) (r : Int × Int) : Prop := ∃ p, x = .ref p ∧ H p = some (.tup [.int r.1, .int r.2])
noncomputable def Rows (H : Hp) : List V → List (Int × Int) → Prop := Paired (Row H)
noncomputable def TSame (H H' : Hp) : Prop := ∀ b xs, H b = some (.tup xs) → H' b = some (.tup xs)
theorem Same.t {H H' : Hp} (h : Same H H') : TSame H H' := fun b xs e => h b _ e
theorem tsame_upd {H : Hp} {l : Addr} {xs : List V} {o : HO} (h : H l = some (.lst xs)) : TSame H (upd H l o) := fun b ys e => by
  rw [upd_ne (ne_of e h (by intro z; cases z))]; exact e
theorem Row.same {H H' : Hp} {x : V} {r : Int × Int} (h : Row H x r) (S : TSame H H') : Row H' x r := by
  obtain ⟨p, rfl, e⟩ := h
  exact ⟨p, rfl, S _ _ e⟩
theorem Rows.same {H H' : Hp} {xs : List V} {rs : List (Int × Int)} (h : Rows H xs rs) (S : TSame H H') : Rows H' xs rs := Paired.imp' (fun _ _ z => z.same S) h
theorem Rows.length {H : Hp} {xs : List V} {rs : List (Int × Int)} (h : Rows H xs rs) : xs.length = rs.length := Paired.length h
theorem Rows.snoc {H : Hp} {xs : List V} {rs : List (Int × Int)} {x : V} {r : Int × Int} (h : Rows H xs rs) (z : Row H x r) : Rows H (xs ++ [x]) (rs ++ [r]) := Paired.snoc h z
noncomputable def dRow (r : Int × Int) : PyData := .tuple [.int r.1, .int r.2]
theorem Rows.dr {K : PySem.W.Frag} {H : Hp} {xs : List V} {rs : List (Int × Int)} (h : Rows H xs rs) : DRs K H xs (rs.map dRow) := by
  induction h with
  | nil => exact .nil
  | cons h _ ih =>
    obtain ⟨p, rfl, e⟩ := h
    exact .cons (.tup (SqT.of e) (.cons (.int _) (.cons (.int _) .nil))) ih
noncomputable def CPR (H1 : Hp) (R : Nat → List (Int × Int)) : Nat → List V → Hp → Prop := fun i ys H => Same H1 H ∧ Rows H ys (R i)
section
variable {n i : Nat} {acc : Addr} {H1 H H' : Hp} {R : Nat → List (Int × Int)} {ys : List V} {p : Addr} {r : Int × Int}
theorem cputR (hlt : i < n) (hacc : H1 acc = none) (S : Same H1 H) (h0 : H acc = some (.lst ys)) (hR : Rows H ys (R i)) (s : Same H H') (hp : H' p = some (.tup [.int r.1, .int r.2])) (e : R (i + 1) = R i ++ [r]) (hz : ys.length < sizeLine) : CPut n acc (CPR H1 R) i (.ref p) H' :=
  ⟨ys, s acc _ h0, hz, n - (i + 1), by omega, rfl, hlt, ys ++ [.ref p], upd_same, fun b o q => by
    rw [upd_ne (ne_of_none q hacc)]; exact s b o (S b o q), by
    rw [e]
    exact ((hR.same s.t).same (tsame_upd (s acc _ h0))).snoc (Row.same ⟨p, rfl, hp⟩ (tsame_upd (s acc _ h0)))⟩
theorem cskipR (hlt : i < n) (S : Same H1 H) (h0 : H acc = some (.lst ys)) (hR : Rows H ys (R i)) (s : Same H H') (e : R (i + 1) = R i) : CSkip n acc (CPR H1 R) i H' :=
  ⟨n - (i + 1), by omega, rfl, hlt, ys, s acc _ h0, S.trans s, by rw [e]; exact hR.same s.t⟩
end
section
variable {K : PySem.W.Frag} {m : Nat} {js : List Nat} {g : TG} {c : TT} {te : TE} {σ : St} {H1 : Hp} {Q : VK}
theorem comp_listR {a : Addr} {xs : List V} (hx : SqL K H1 a xs) (R : Nat → List (Int × Int)) (hR : R 0 = [])
    (turn : ∀ acc i x ys H, H1 acc = none → i < xs.length → xs[i]? = some x → Same H1 H → H acc = some (.lst ys) → Rows H ys (R i) → g x (pick m js σ) H fun σ2 H2 => Wk (pick m js σ) σ2 ∧ c σ2 H2 fun b H3 => if b = true then te σ2 H3 fun y H4 => CPut xs.length acc (CPR H1 R) i y H4 else CSkip xs.length acc (CPR H1 R) i H3)
    (hQ : ∀ acc ys H, H1 acc = none → Same H1 H → H acc = some (.lst ys) → Rows H ys (R xs.length) → Q (.ref acc) H) : tCompR m js g c te (Itl K a) σ H1 Q := by
  intro acc hacc
  refine ⟨CW xs.length acc (CPR H1 R), ⟨_, rfl, Nat.zero_le _, [], upd_same, same_new hacc _, by rw [hR]; exact .nil⟩, ?_⟩
  intro i m' H hz_
  obtain ⟨rfl, hi, ys, h0, S, hr⟩ := hz_
  have q := S.seq hx
  by_cases hlt : i < xs.length
  · refine .inr ⟨⟨xs, xs[i], q, by simp [hlt]⟩, fun x H' y => ?_⟩
    obtain ⟨e, y⟩ := y
    subst e
    exact turn acc i x ys _ hacc hlt (y xs q) S h0 hr
  · have e : i = xs.length := by omega
    subst e
    exact .inl ⟨⟨xs, q, Nat.le_refl _⟩, hQ acc ys H hacc S h0 hr⟩
end
end L2

namespace OL
open PySem L2
noncomputable def oftenV (many : Int) (bs : List Int) (least lot : Int) : V := if countF bs lot < least then .non else .int (closeF many bs lot)
noncomputable def isRow (many : Int) (bs : List Int) (least lot : Int) : Bool := decide (least ≤ countF bs lot) && (closeF many bs lot == lot)
noncomputable def rowsU (many : Int) (bs : List Int) (least : Int) (n : Nat) : List (Int × Int) := ((List.range n).filter fun (i : Nat) => isRow many bs least (i : Int)).map fun (i : Nat) => ((i : Int), countF bs (i : Int))
noncomputable def rowsF (many : Int) (bs : List Int) (least : Int) : List (Int × Int) := rowsU many bs least (2 ^ many.toNat)
theorem rowsU_yes {many : Int} {bs : List Int} {least : Int} {n : Nat} (h : isRow many bs least (n : Int) = true) : rowsU many bs least (n + 1) = rowsU many bs least n ++ [((n : Int), countF bs (n : Int))] := by
  unfold rowsU
  rw [List.range_succ, List.filter_append, List.map_append, List.filter_cons, if_pos h]; rfl
theorem rowsU_no {many : Int} {bs : List Int} {least : Int} {n : Nat} (h : isRow many bs least (n : Int) = false) : rowsU many bs least (n + 1) = rowsU many bs least n := by
  unfold rowsU
  rw [List.range_succ, List.filter_append, List.map_append, List.filter_cons, if_neg (by rw [h]; decide)]
  exact List.append_nil _
theorem rowsU_len (many : Int) (bs : List Int) (least : Int) (n : Nat) : (rowsU many bs least n).length ≤ n := by
  unfold rowsU
  rw [List.length_map]
  have h := List.length_filter_le (fun (i : Nat) => isRow many bs least (i : Int)) (List.range n)
  rw [List.length_range] at h
  exact h
theorem often_dec (many : Int) (bs : List Int) (least lot : Int) : decide (oftenV many bs least lot = .int lot) = isRow many bs least lot := by
  unfold oftenV isRow
  by_cases h : countF bs lot < least
  · rw [if_pos h]
    have : decide (least ≤ countF bs lot) = false := by simp; omega +splitDisjunctions
    rw [this]; rfl
  · rw [if_neg h, int_eq]
    have : decide (least ≤ countF bs lot) = true := by simp; omega +splitDisjunctions
    rw [this]; rfl
theorem often_scal (many : Int) (bs : List Int) (least lot x : Int) : scal (oftenV many bs least lot) (.int x) = true := by
  unfold oftenV; split <;> rfl
inductive spAll_I (vs : List V) (H : Hp) (Q : VK) : Prop
  | mk (n : Int) (e_1 : vs = [.int n]) (e_2 : 0 ≤ n) (e_3 : n ≤ 12) (e_4 : ∀ (r : Addr) (H' : Hp), Same H H' → H r = none → H' r = some (.lst ((rangeI (2 ^ n.toNat)).map V.int)) → Q (.ref r) H') : spAll_I vs H Q
noncomputable def spAll : Sp := fun vs H Q _ => spAll_I vs H Q
inductive spOften_I (K : PySem.W.Frag) (vs : List V) (H : Hp) (Q : VK) : Prop
  | mk (b : Addr) (many : Int) (bs : List Int) (least lot : Int) (e_1 : vs = [.ref b, .int least, .int lot]) (e_2 : Bk K H b many bs) (e_3 : bs.length ≤ 500) (e_4 : 0 ≤ many) (e_5 : many ≤ 64) (e_6 : ∀ H', Same H H' → Q (oftenV many bs least lot) H') : spOften_I K vs H Q
noncomputable def spOften (K : PySem.W.Frag) : Sp := fun vs H Q _ => spOften_I K vs H Q
inductive spClosed_I (K : PySem.W.Frag) (vs : List V) (H : Hp) (Q : VK) : Prop
  | mk (b : Addr) (many : Int) (bs : List Int) (least : Int) (e_1 : vs = [.ref b, .int least]) (e_2 : Bk K H b many bs) (e_3 : bs.length ≤ 500) (e_4 : 0 ≤ many) (e_5 : many ≤ 12) (e_6 : ∀ (r : Addr) (xs : List V) (H' : Hp), Same H H' → H r = none → H' r = some (.lst xs) → Rows H' xs (rowsF many bs least) → Q (.ref r) H') : spClosed_I K vs H Q
noncomputable def spClosed (K : PySem.W.Frag) : Sp := fun vs H Q _ => spClosed_I K vs H Q
theorem pow12 {n : Int} (h : n ≤ 12) : (2 : Nat) ^ n.toNat ≤ 4096 := by
  have : (2 : Nat) ^ n.toNat ≤ 2 ^ 12 := Nat.pow_le_pow_right (by decide) (by omega)
  exact this
theorem pow_cast (n : Nat) : (2 : Int) ^ n = ((2 ^ n : Nat) : Int) := by push_cast; rfl
theorem count_take {bs : List Int} {lot : Int} : (((bs.filter fun b => hasF b lot).map V.int).length : Int) = countF bs lot := by
  unfold countF; rw [hold_length, List.length_map]
theorem small4096 {n : Nat} (h : n ≤ 5000) : n < sizeLine := Nat.lt_of_le_of_lt h (by decide)
end OL
namespace L2
open PySem PySem.Spec PyProof.Rows
end L2
namespace OL
open PySem L2
end OL

namespace L2
open PySem PySem.Spec PyProof.Rows
section
variable {X : Cx}
end
section
variable {K : PySem.W.Frag} {m : Nat} {js : List Nat} {g : TG} {c : TT} {te : TE} {σ : St} {H1 : Hp} {Q : VK}
theorem cputG {n i : Nat} {acc : Addr} {Pv : Nat → List V → Hp → Prop} {H : Hp} {ys : List V} {y : V} (hlt : i < n) (h : H acc = some (.lst ys)) (hz : ys.length < sizeLine) (p : Pv (i + 1) (ys ++ [y]) (upd H acc (.lst (ys ++ [y])))) : CPut n acc Pv i y H :=
  ⟨ys, h, hz, n - (i + 1), by omega, rfl, hlt, ys ++ [y], upd_same, p⟩
end
end L2

namespace OL
open PySem L2
noncomputable def colU (bs : List Int) (lot : Int) : Nat → Int
  | 0 => 0
  | n + 1 => if hasF (bs.getD n 0) lot then colU bs lot n + 1 * 2 ^ n else colU bs lot n
end OL

namespace L2
open PySem PySem.Spec PyProof.Rows
end L2
namespace OL
open PySem L2
end OL
namespace OL
open PySem L2
end OL
namespace OL
open PySem L2
end OL

namespace L2
open PySem PySem.Spec PyProof.Rows
end L2
namespace OL
open PySem L2
noncomputable def takeB (lot : Int) (r : Int × Int) : Bool := hasF lot r.1 && !hasF lot r.2
noncomputable def ptF (rs : List (Int × Int)) (lot : Int) : Option Nat := rs.findIdx? (takeB lot)
noncomputable def unsat (rs : List (Int × Int)) (lot : Int) : Nat := (rs.filter fun r => !hasF lot r.2).length
noncomputable def sndF (rs : List (Int × Int)) (i : Nat) : Int := (rs.getD i (0, 0)).2
noncomputable def bF (rs : List (Int × Int)) : Nat → Int → Int × List Int
  | 0, lot => (lot, [])
  | n + 1, lot => match ptF rs lot with
    | none => (lot, [])
    | some i => ((bF rs n (Builtin.bitOr lot (sndF rs i))).1, ((i : Nat) : Int) :: (bF rs n (Builtin.bitOr lot (sndF rs i))).2)
noncomputable def NN (rs : List (Int × Int)) : Prop := ∀ r ∈ rs, 0 ≤ r.1 ∧ 0 ≤ r.2
section
variable {rs : List (Int × Int)} {lot : Int} {i n : Nat}
structure Run (rs : List (Int × Int)) (lot0 : Int) (m : Nat) (come : Int) (st : List Int) : Prop where
  un : unsat rs come ≤ m
  nn : 0 ≤ come
  eq : bF rs rs.length lot0 = ((bF rs m come).1, st ++ (bF rs m come).2)
  ln : st.length + m ≤ rs.length
end
end OL

namespace L2
open PySem PySem.Spec PyProof.Rows
section
variable {X : Cx}
theorem call_strD {k : Nat} (hr : Room k X.A) : CallR X (.type "str") (fun xs H Q => ∃ p d, xs = [.ref p] ∧ DR X.K H (.ref p) d ∧ d.showable = true ∧ d.hasDict = false ∧ d.depth ≤ 60 ∧ d.shown.length ≤ sizeLine ∧ Q (.str d.shown) H) := by
  intro pins s σ H xs us Q I r h
  obtain ⟨p, d, rfl, hd, h1, h2, h3, h4, q⟩ := h
  obtain ⟨u, rfl, ru⟩ := vals1 r
  cases (show u = Value.ref p from ru)
  obtain ⟨as, ra⟩ := hd.reads I ru
  exact str_of_reads ra h1 (PyData.noDict_hsm h2) hr.gd (by have := hr.un; omega) (fun _ _ e => e) (fun h' u tk hk => ⟨.str d.shown, H, I.kept hk, ⟨u, rfl⟩, q⟩) h4
end
end L2

namespace OL
open PySem L2
noncomputable def Rl (K : PySem.W.Frag) (H : Hp) (r : Addr) (x y : Int) : Prop := SqT K H r [.int x, .int y]
end OL

namespace L2
open PySem PySem.Spec PyProof.Rows
section
variable {prog : Program} {w : World} {A : Around} {R : Result → Shared → Prop} {it : Addr} {fp wr : List Addr} {n : Nat} {PP : Nat → Value → Prop} {St : Nat → Heap → Prop}
end
section
variable {X : Cx}
noncomputable def bstmax (ns : List Int) : Nat → Int
  | 0 => ns.getD 0 0
  | j + 1 => if ns.getD (j + 1) 0 > bstmax ns j then ns.getD (j + 1) 0 else bstmax ns j
end
section
variable {prog : Program} {w : World} {A : Around} {R : Result → Shared → Prop} {it : Addr} {fp wr : List Addr} {n : Nat} {PP : Nat → Value → Prop} {St : Nat → Heap → Prop}
end
section
variable {X : Cx}
noncomputable def bstmin (ns : List Int) : Nat → Int
  | 0 => ns.getD 0 0
  | j + 1 => if ns.getD (j + 1) 0 < bstmin ns j then ns.getD (j + 1) 0 else bstmin ns j
end
end L2

namespace L2
open PySem PySem.Spec PyProof.Rows
section
variable {κ : Type} [DecidableEq κ]
noncomputable def valV (kvs : List (κ × V)) (k : κ) : Option V := (kvs.find? fun kv => decide (kv.1 = k)).map (·.2)
noncomputable def putK (kvs : List (κ × V)) (k : κ) (v : V) : List (κ × V) :=
  if (kvs.any fun kv => decide (kv.1 = k)) = true then kvs.map (fun kv => if kv.1 = k then (kv.1, v) else kv) else kvs ++ [(k, v)]
theorem valV_pos {p : κ × V} {r : List (κ × V)} {k : κ} (e : p.1 = k) : valV (p :: r) k = some p.2 := by simp [valV, List.find?_cons, e]
theorem valV_neg {p : κ × V} {r : List (κ × V)} {k : κ} (e : ¬ p.1 = k) : valV (p :: r) k = valV r k := by simp [valV, List.find?_cons, e]
theorem valV_any (k : κ) : ∀ kvs : List (κ × V), (kvs.any fun kv => decide (kv.1 = k)) = (valV kvs k).isSome
  | [] => rfl
  | p :: r => by
    rw [List.any_cons]
    by_cases e : p.1 = k
    · simp only [valV_pos e, decide_eq_true e, Bool.true_or, Option.isSome_some]
    · rw [valV_neg e, decide_eq_false e, Bool.false_or]; exact valV_any k r
theorem valV_map (k j : κ) (y : V) : ∀ kvs : List (κ × V), valV (kvs.map fun kv => if kv.1 = k then (kv.1, y) else kv) j = (valV kvs j).map fun x => if j = k then y else x
  | [] => rfl
  | p :: r => by
    have ih := valV_map k j y r
    rw [List.map_cons]
    by_cases h : p.1 = k
    · rw [if_pos h]
      by_cases e : p.1 = j
      · rw [valV_pos (p := (p.1, y)) e, valV_pos e, Option.map_some, if_pos (e.symm.trans h)]
      · rw [valV_neg (p := (p.1, y)) e, valV_neg e, ih]
    · rw [if_neg h]
      by_cases e : p.1 = j
      · rw [valV_pos (p := p) e, valV_pos e, Option.map_some, if_neg (fun z => h (e.trans z))]
      · rw [valV_neg (p := p) e, valV_neg e, ih]
theorem valV_snoc (k j : κ) (y : V) : ∀ kvs : List (κ × V), valV kvs k = none → valV (kvs ++ [(k, y)]) j = if j = k then some y else valV kvs j
  | [], _ => by
    by_cases e : k = j
    · rw [if_pos e.symm]; exact valV_pos (p := (k, y)) e
    · rw [if_neg (fun z => e z.symm)]; exact valV_neg (p := (k, y)) e
  | p :: r, hn => by
    rw [List.cons_append]
    have hk : ¬ p.1 = k := fun z => by rw [valV_pos z] at hn; cases hn
    rw [valV_neg hk] at hn
    have ih := valV_snoc k j y r hn
    by_cases e : p.1 = j
    · rw [valV_pos e, valV_pos e, if_neg (fun z => hk (e.trans z))]
    · rw [valV_neg e, valV_neg e, ih]
theorem valV_put (kvs : List (κ × V)) (k j : κ) (y : V) : valV (putK kvs k y) j = if j = k then some y else valV kvs j := by
  unfold putK
  by_cases a : (kvs.any fun kv => decide (kv.1 = k)) = true
  · rw [if_pos a, valV_map]
    rw [valV_any] at a
    by_cases e : j = k
    · obtain ⟨x, hx⟩ := Option.isSome_iff_exists.mp a
      rw [if_pos e, e, hx, Option.map_some, if_pos rfl]
    · rw [if_neg e]
      cases valV kvs j with
      | none => rfl
      | some x => rw [Option.map_some, if_neg e]
  · rw [if_neg a]
    refine valV_snoc k j y kvs ?_
    rw [valV_any] at a
    cases q : valV kvs k with
    | none => rfl
    | some x => rw [q] at a; exact (a rfl).elim
theorem length_putK (kvs : List (κ × V)) (k : κ) (v : V) : (putK kvs k v).length ≤ kvs.length + 1 := by
  unfold putK
  split
  · rw [List.length_map]; omega
  · rw [List.length_append, List.length_cons, List.length_nil]; omega
theorem RelO.isSome_eq {o : Option V} {u : Option Value} (r : RelO o u) : o.isSome = u.isSome := by
  cases o with
  | none => cases u with
    | none => rfl
    | some _ => exact (show False from r).elim
  | some _ => cases u with
    | none => exact (show False from r).elim
    | some _ => rfl
theorem KV.val {kvs : List (κ × V)} {vs : List (κ × Value)} (r : KV kvs vs) (k : κ) : RelO (valV kvs k) (valueAt vs k) := by
  unfold KV at r
  induction r with
  | nil => exact True.intro
  | @cons p q ps qs h t ih =>
    obtain ⟨h1, h2⟩ := h
    by_cases e : p.1 = k
    · have e' : q.1 = k := h1.symm.trans e
      have b : valueAt (q :: qs) k = some q.2 := by simp [valueAt, List.find?_cons, e']
      rw [valV_pos e, b]; exact h2
    · have e' : ¬ q.1 = k := fun z => e (h1.trans z)
      have b : valueAt (q :: qs) k = valueAt qs k := by simp [valueAt, List.find?_cons, e']
      rw [valV_neg e, b]; exact ih
theorem KV.any {kvs : List (κ × V)} {vs : List (κ × Value)} (r : KV kvs vs) (k : κ) : (kvs.any fun kv => decide (kv.1 = k)) = vs.any fun kv => decide (kv.1 = k) := by
  unfold KV at r
  induction r with
  | nil => rfl
  | cons h t ih => rw [List.any_cons, List.any_cons, ih, h.1]
theorem KV.repl {kvs : List (κ × V)} {vs : List (κ × Value)} (r : KV kvs vs) (k : κ) {y : V} {u : Value} (ry : RelV y u) :
    KV (kvs.map fun kv => if kv.1 = k then (kv.1, y) else kv) (vs.map fun kv => if kv.1 = k then (kv.1, u) else kv) := by
  unfold KV at r ⊢
  induction r with
  | nil => exact .nil
  | @cons p q ps qs h t ih =>
    rw [List.map_cons, List.map_cons]
    refine .cons ?_ ih
    obtain ⟨h1, h2⟩ := h
    by_cases e : p.1 = k
    · rw [if_pos e, if_pos (h1.symm.trans e)]; exact ⟨h1, ry⟩
    · rw [if_neg e, if_neg (fun z => e (h1.trans z))]; exact ⟨h1, h2⟩
theorem KV.put {kvs : List (κ × V)} {vs : List (κ × Value)} (r : KV kvs vs) (k : κ) {y : V} {u : Value} (ry : RelV y u) : KV (putK kvs k y) (stored vs k u) := by
  unfold putK stored
  rw [r.any k]
  by_cases e : (vs.any fun kv => decide (kv.1 = k)) = true
  · rw [if_pos e, if_pos e]; exact r.repl k ry
  · rw [if_neg e, if_neg e]; exact Paired.snoc r ⟨rfl, ry⟩
theorem KV.keys {kvs : List (κ × V)} {vs : List (κ × Value)} (r : KV kvs vs) : kvs.map (·.1) = vs.map (·.1) := by
  unfold KV at r
  induction r with
  | nil => rfl
  | cons h t ih => rw [List.map_cons, List.map_cons, ih, h.1]
theorem KV.length {kvs : List (κ × V)} {vs : List (κ × Value)} (r : KV kvs vs) : kvs.length = vs.length := Paired.length r
end


theorem kV_is {P : Program} {w : World} {k : Key} {u : Value} (r : RelV (kV k) u) : (mixKind P w).is k u = true := by
  cases k with
  | inl i => obtain ⟨t, e⟩ := (show ∃ t, u = Value.int i t from r); subst e; exact mixKind_int P w i t
  | inr x => obtain ⟨t, e⟩ := (show ∃ t, u = Value.str x t from r); subst e; exact mixKind_str P w x t
theorem items_are {P : Program} {w : World} : ∀ {ks : List Key} {us : List Value}, Vals (ks.map kV) us → ItemsAre (mixKind P w) ks us
  | [], _, r => by rw [List.map_nil] at r; cases r; exact .nil
  | k :: ks, _, r => by
    rw [List.map_cons] at r
    cases r with
    | cons h t => exact .cons (kV_is h) (items_are t)

noncomputable abbrev KT (H : Hp) : List (List Key × V) → List (List Key × Addr × Value) → Prop := Paired fun p q => p.1 = q.1 ∧ H q.2.1 = some (.tup (p.1.map kV)) ∧ RelV p.2 q.2.2
theorem KT.val {H : Hp} {kvs : List (List Key × V)} {xs : List (List Key × Addr × Value)} (r : KT H kvs xs) (k : List Key) : RelO (valV kvs k) ((atKey xs k).map (·.2)) := by
  induction r with
  | nil => exact True.intro
  | @cons p q ps qs h t ih =>
    obtain ⟨h1, _, h2⟩ := h
    by_cases e : p.1 = k
    · have e' : q.1 = k := h1.symm.trans e
      have b : atKey (q :: qs) k = some q.2 := by simp [atKey, List.find?_cons, e']
      rw [valV_pos e, b]; exact h2
    · have e' : ¬ q.1 = k := fun z => e (h1.trans z)
      have b : atKey (q :: qs) k = atKey qs k := by simp [atKey, List.find?_cons, e']
      rw [valV_neg e, b]; exact ih
theorem KT.repl {H : Hp} {kvs : List (List Key × V)} {xs : List (List Key × Addr × Value)} (r : KT H kvs xs) (k : List Key) {y : V} {u : Value} (ry : RelV y u) :
    KT H (kvs.map fun kv => if kv.1 = k then (kv.1, y) else kv) (xs.map (putAt k u)) := by
  induction r with
  | nil => exact .nil
  | @cons p q ps qs h t ih =>
    rw [List.map_cons, List.map_cons]
    refine .cons ?_ ih
    obtain ⟨h1, h2, h3⟩ := h
    unfold putAt
    by_cases e : p.1 = k
    · rw [if_pos e, if_pos (h1.symm.trans e)]; exact ⟨h1, h2, ry⟩
    · rw [if_neg e, if_neg (fun z => e (h1.trans z))]; exact ⟨h1, h2, h3⟩
theorem KT.put {H : Hp} {kvs : List (List Key × V)} {xs : List (List Key × Addr × Value)} (r : KT H kvs xs) (k : List Key) {b : Addr} {y : V} {u : Value} (hb : H b = some (.tup (k.map kV))) (ry : RelV y u) :
    KT H (putK kvs k y) (storedH xs k b u) := by
  have e : (kvs.any fun kv => decide (kv.1 = k)) = (atKey xs k).isSome := by
    rw [valV_any, (r.val k).isSome_eq, Option.isSome_map]
  unfold putK storedH
  rw [e]
  by_cases q : (atKey xs k).isSome = true
  · rw [if_pos q, if_pos q]; exact r.repl k ry
  · rw [if_neg q, if_neg q]; exact Paired.snoc r ⟨rfl, hb, ry⟩
theorem KT.keeps {H H' : Hp} {kvs : List (List Key × V)} {xs : List (List Key × Addr × Value)} (r : KT H kvs xs) (ht : ∀ b ys, H b = some (.tup ys) → H' b = some (.tup ys)) : KT H' kvs xs :=
  Paired.mapP r fun _ _ z => ⟨z.1, ht _ _ z.2.1, z.2.2⟩

section
variable {P : Program} {w : World} {H : Hp} {h : Heap} {a : Addr}
theorem rd_of {u : HO} (ok : HOk P w H h) (e : Rd H a u) : ObjOk P w H h a u := e.ok ok
theorem dk_rd {kvs : List (Key × V)} (ok : HOk P w H h) (e : Rd H a (.dK kvs)) : kvs.length ≤ sizeLine ∧ (a == sysModules) = false ∧ ∃ vs, KV kvs vs ∧ h.DictOf (mixKind P w) a vs :=
  show ObjOk P w H h a (.dK kvs) from rd_of ok e
theorem dk_of {kvs : List (Key × V)} (ok : HOk P w H h) (e : H a = some (.dK kvs)) : kvs.length ≤ sizeLine ∧ (a == sysModules) = false ∧ ∃ vs, KV kvs vs ∧ h.DictOf (mixKind P w) a vs := dk_rd ok (.inl e)
theorem key_of {ks : List Key} (ok : HOk P w H h) (e : H a = some (.tup (ks.map kV))) : (tupleKind (mixKind P w)).is h ks a := by
  obtain ⟨_, its, r, o, h1, h2, n, h3⟩ := (show ObjOk P w H h a (.tup (ks.map kV)) from ok a _ e)
  exact ⟨o, its.toArray, n, h1, h2, h3, by simpa using items_are r⟩
theorem dt_rd {kvs : List (List Key × V)} (ok : HOk P w H h) (e : Rd H a (.dT kvs)) : kvs.length ≤ sizeLine ∧ (a == sysModules) = false ∧
    ∃ xs, KT H kvs xs ∧ h.DictOfH (tupleKind (mixKind P w)) a xs := by
  obtain ⟨z, y, xs, r, o, es, ep, h1, h2, h3, h4, h5⟩ := (show ObjOk P w H h a (.dT kvs) from rd_of ok e)
  refine ⟨z, y, xs, r, o, es, ep, h1, h2, h3, h4, fun x hx => ?_, h5⟩
  have all : ∀ {l : List (List Key × V)} {m : List (List Key × Addr × Value)}, KT H l m → ∀ x ∈ m, (tupleKind (mixKind P w)).is h x.1 x.2.1 := by
    intro l m q
    induction q with
    | nil => intro x hx; exact nomatch hx
    | @cons p q ps qs hq t ih =>
      intro x hx
      obtain e | hx := List.mem_cons.mp hx
      · subst e
        exact key_of ok (by rw [← hq.1]; exact hq.2.1)
      · exact ih x hx
  exact all r x hx
theorem dt_of {kvs : List (List Key × V)} (ok : HOk P w H h) (e : H a = some (.dT kvs)) : kvs.length ≤ sizeLine ∧ (a == sysModules) = false ∧
    ∃ xs, KT H kvs xs ∧ h.DictOfH (tupleKind (mixKind P w)) a xs := dt_rd ok (.inl e)
end

noncomputable def DGet (H : Hp) (a : Addr) (y : V) (r : Option V) : Prop :=
  (∃ kvs k, Rd H a (.dK kvs) ∧ y = kV k ∧ r = valV kvs k) ∨ ∃ kvs k b, Rd H a (.dT kvs) ∧ y = .ref b ∧ H b = some (.tup (k.map kV)) ∧ r = valV kvs k
noncomputable def DPut (H : Hp) (a : Addr) (y v : V) (H' : Hp) : Prop :=
  (∃ kvs k, H a = some (.dK kvs) ∧ y = kV k ∧ kvs.length < sizeLine ∧ H' = upd H a (.dK (putK kvs k v))) ∨
  ∃ kvs k b, H a = some (.dT kvs) ∧ y = .ref b ∧ H b = some (.tup (k.map kV)) ∧ kvs.length < sizeLine ∧ H' = upd H a (.dT (putK kvs k v))
theorem DGet.k {H : Hp} {a : Addr} {kvs : List (Key × V)} {k : Key} (e : H a = some (.dK kvs)) : DGet H a (kV k) (valV kvs k) := .inl ⟨kvs, k, .inl e, rfl, rfl⟩
theorem DPut.k {H : Hp} {a : Addr} {kvs : List (Key × V)} {k : Key} {v : V} (e : H a = some (.dK kvs)) (hl : kvs.length < sizeLine) : DPut H a (kV k) v (upd H a (.dK (putK kvs k v))) := .inl ⟨kvs, k, e, rfl, hl, rfl⟩
section
variable {X : Cx} {pins : List (Addr × Obj)} {σ : St} {H : Hp} {s : Shared} {a : Addr} {y v : V} {u r : Value} {o : Option V} {A : Around} {E : Value → Shared → Prop}

theorem Inv.big (I : Inv X pins σ H s) : sysModules < s.heap.objs.size := by
  have h : mainGlobals < s.heap.objs.size := (I.mod.glob.keeps I.bk).lt
  exact Nat.lt_trans (by decide) h

theorem d_getItem {Q : Value → Shared → Prop} (hu : A.units + 1 < cLine) (I : Inv X pins σ H s) (g : DGet H a y (some v)) (ry : RelV y u) (h : ∀ w' s', Inv X pins σ H s' → RelV v w' → Q w' s') :
    wpAny (model X.prog X.w) A (getItem (.ref a) u) Q E s := by
  obtain ⟨kvs, k, e, ey, l⟩ | ⟨kvs, k, b, e, ey, eb, l⟩ := g
  · subst ey
    obtain ⟨z, hd, vs, rel, dd⟩ := dk_rd I.hok e
    obtain ⟨w', hw, rw'⟩ := RelO.some_of (v := v) (o := valueAt vs k) (by rw [l]; exact rel.val k)
    exact wpAny_getItem_of (kV_is ry) dd.mapOf hw (h w' _ (I.tok _) rw')
  · subst ey
    cases (show u = Value.ref b from ry)
    obtain ⟨z, hd, xs, rel, dd⟩ := dt_rd I.hok e
    obtain ⟨w', hw, rw'⟩ := RelO.some_of (v := v) (o := (atKey xs k).map (·.2)) (by rw [l]; exact rel.val k)
    obtain ⟨p, hp, hp2⟩ := Option.map_eq_some_iff.mp hw
    refine wpAny_getItem_heap (tupleKind_room_in1 hu) (key_of I.hok eb) dd hp ?_
    rw [hp2]
    exact h w' _ (I.tok _) rw'
theorem d_in {Q : Value → Shared → Prop} (hu : A.units + 1 < cLine) (I : Inv X pins σ H s) (g : DGet H a y o) (ry : RelV y u) (h : ∀ s', Inv X pins σ H s' → Q (.bool o.isSome) s') :
    wpAny (model X.prog X.w) A (compareOp .In u (.ref a)) Q E s := by
  obtain ⟨kvs, k, e, ey, l⟩ | ⟨kvs, k, b, e, ey, eb, l⟩ := g
  · subst ey
    obtain ⟨z, hd, vs, rel, dd⟩ := dk_rd I.hok e
    refine wpAny_in_of (kV_is ry) hd dd.mapOf ?_
    rw [← (rel.val k).isSome_eq, ← l]
    exact h _ (I.tok _)
  · subst ey
    cases (show u = Value.ref b from ry)
    obtain ⟨z, hd, xs, rel, dd⟩ := dt_rd I.hok e
    refine wpAny_in_heap (tupleKind_room_in1 hu) (key_of I.hok eb) hd dd ?_
    have q := (rel.val k).isSome_eq
    rw [Option.isSome_map] at q
    rw [← q, ← l]
    exact h _ (I.tok _)
theorem d_notIn {Q : Value → Shared → Prop} (hu : A.units + 1 < cLine) (I : Inv X pins σ H s) (g : DGet H a y o) (ry : RelV y u) (h : ∀ s', Inv X pins σ H s' → Q (.bool (!o.isSome)) s') :
    wpAny (model X.prog X.w) A (compareOp .NotIn u (.ref a)) Q E s := by
  obtain ⟨kvs, k, e, ey, l⟩ | ⟨kvs, k, b, e, ey, eb, l⟩ := g
  · subst ey
    obtain ⟨z, hd, vs, rel, dd⟩ := dk_rd I.hok e
    refine wpAny_notIn_of (kV_is ry) hd dd.mapOf ?_
    rw [← (rel.val k).isSome_eq, ← l]
    exact h _ (I.tok _)
  · subst ey
    cases (show u = Value.ref b from ry)
    obtain ⟨z, hd, xs, rel, dd⟩ := dt_rd I.hok e
    refine wpAny_notIn_heap (tupleKind_room_in1 hu) (key_of I.hok eb) hd dd ?_
    have q := (rel.val k).isSome_eq
    rw [Option.isSome_map] at q
    rw [← q, ← l]
    exact h _ (I.tok _)
theorem d_write {h' : Heap} {t' : Nat} {ob : HO} (I : Inv X pins σ H s) (mu : Mut (H a)) (hs : Heap.SameBut a s.heap h') (he : ∃ q, h'.get? a = some q) (new : ObjOk X.prog X.w (upd H a ob) h' a ob) :
    Inv X pins σ (upd H a ob) { s with heap := h', toks := t' } :=
  I.write (x := a) (e := a) mu (.inl rfl) (fun b q hb z => (hs.2 b hb).trans z) he new
theorem dk_new {P : Program} {w : World} {H' : Hp} {h' : Heap} {kvs : List (Key × V)} {vs : List (Key × Value)} (z : kvs.length ≤ sizeLine) (hd : (a == sysModules) = false) (rel : KV kvs vs) (dd : h'.DictOf (mixKind P w) a vs) :
    ObjOk P w H' h' a (.dK kvs) := ⟨z, hd, vs, rel, dd⟩
theorem d_setItem {H' : Hp} {Q : Unit → Shared → Prop} (hu : A.units + 1 < cLine) (I : Inv X pins σ H s) (g : DPut H a y v H') (ry : RelV y u) (rv : RelV v r) (h : ∀ s', Inv X pins σ H' s' → Q () s') :
    wpAny (model X.prog X.w) A (setItem (.ref a) u r) Q E s := by
  obtain ⟨kvs, k, e, ey, l, eH⟩ | ⟨kvs, k, b, e, ey, eb, l, eH⟩ := g
  · subst ey eH
    obtain ⟨z, hd, vs, rel, dd⟩ := dk_of I.hok e
    have hz : vs.length ≤ sizeLine := by rw [← rel.length]; exact z
    have hl : (putK kvs k v).length ≤ sizeLine := by have := length_putK kvs k v; omega
    refine wpAny_setItem_pairs (hsz := hz) (kV_is ry) dd fun h' dd' hs => h _ ?_
    have he : ∃ q, h'.get? a = some q := let ⟨q, _, _, hq, _⟩ := dd'; ⟨q, hq⟩
    exact d_write I (by rw [e]; exact True.intro) hs he (dk_new hl hd (rel.put k rv) dd')
  · subst ey eH
    cases (show u = Value.ref b from ry)
    obtain ⟨z, hd, xs, rel, dd⟩ := dt_of I.hok e
    have hz : xs.length ≤ sizeLine := by rw [← Paired.length rel]; exact z
    have hl : (putK kvs k v).length ≤ sizeLine := by have := length_putK kvs k v; omega
    refine wpAny_setItem_heap (hsz := hz) (tupleKind_room_in1 hu) (key_of I.hok eb) dd fun h' dd' hs => h _ ?_
    obtain ⟨q, es, ep, hq, h2, h3, h4, _, h5⟩ := dd'
    refine d_write I (by rw [e]; exact True.intro) hs ⟨q, hq⟩ ⟨hl, hd, _, (rel.put k eb rv).keeps fun c ys ec => ?_, q, es, ep, hq, h2, h3, h4, h5⟩
    rw [upd_ne (ne_of ec e (fun z => nomatch z))]
    exact ec
end

section
variable {X : Cx} {pins : List (Addr × Obj)} {σ : St} {H : Hp} {s : Shared} {a : Addr} {kvs : List (Key × V)} {k : Key} {u : Value} {A : Around} {E : Value → Shared → Prop}
end


noncomputable def NoSl (i : Expr) : Prop := ∀ ov iv, subscripted i false ov iv = operate [ov, iv] (getItem ov iv)
theorem subD_of {prog : Program} {w : World} {A : Around} {E : Value → Shared → Prop} {s : Shared} {env : Env} {value slice : Expr} {pos : Pos} {T id : String} {Q : Value → Shared → Prop}
    (hl : typeLookup (.type T) "__getitem__" = pure (some (.builtin id))) (hs : NoSl slice)
    (h : wpAny (model prog w) A (eval value env) (fun o s₁ => wpAny (model prog w) A (eval slice env) (fun i s₂ => s₂.TypeIs o T ∧ wpAny (model prog w) A (getItem o i) Q E s₂) E s₁) E s) :
    wpAny (model prog w) A (eval (.Subscript value slice pos) env) Q E s := by
  refine Subscript_ (wpAny_mono h (fun o s₁ h₁ => wpAny_mono h₁ (fun i s₂ h₂ => ?_) fun _ _ x => x) fun _ _ x => x)
  obtain ⟨hT, h₂⟩ := h₂
  unfold subscriptTail
  refine wpAny_bind ?_
  rw [getitemInPython_of_ne hT.not_modules]
  refine wpAny_bind (wpAny_specialOf hT hl ?_)
  have fin : wpAny (model prog w) A (subscripted slice false o i) (fun r s₃ => wpAny (model prog w) A (letTemporaryGo value o r >>= fun _ => pure r) Q E s₃) E s₂ := by
    rw [hs o i]
    exact wpAny_operating (wpAny_mono h₂ (fun r s₃ h₃ => wpAny_bind (wpAny_letTemporaryGo (wpAny_pure h₃))) fun _ _ x => x)
  first
    | exact wpAny_pure (wpAny_bind fin)
    | exact wpAny_bind (wpAny_pure (wpAny_bind fin))
    | exact wpAny_bind fin

theorem dict_typeIs {X : Cx} {pins : List (Addr × Obj)} {σ : St} {H : Hp} {s : Shared} {a : Addr} {y : V} {o : Option V} (I : Inv X pins σ H s) (g : DGet H a y o) : s.TypeIs (.ref a) "dict" := by
  obtain ⟨kvs, k, e, _, _⟩ | ⟨kvs, k, b, e, _, _, _⟩ := g
  · obtain ⟨_, _, vs, _, dd⟩ := dk_rd I.hok e
    exact dd.typeIs
  · obtain ⟨_, _, xs, _, dd⟩ := dt_rd I.hok e
    exact dd.typeIs
inductive DAt (x y : V) (H : Hp) (Q : V → Prop) : Prop
  | mk (a : Addr) (v : V) (h1 : x = .ref a) (h2 : DGet H a y (some v)) (q : Q v) : DAt x y H Q
noncomputable def tDGet (td ty : TE) : TE := fun σ H Q => td σ H fun x H1 => ty σ H1 fun y H2 => DAt x y H2 fun v => Q v H2
noncomputable def tDIn (ty td : TE) : TE := fun σ H Q => ty σ H fun y H1 => td σ H1 fun x H2 => ∃ a o, x = .ref a ∧ DGet H2 a y o ∧ Q (.bl o.isSome) H2
noncomputable def tDNotIn (ty td : TE) : TE := fun σ H Q => ty σ H fun y H1 => td σ H1 fun x H2 => ∃ a o, x = .ref a ∧ DGet H2 a y o ∧ Q (.bl (!o.isSome)) H2
noncomputable def sDPut (td ty tv : TE) : TS := fun D σ H => tv σ H fun v H1 => td σ H1 fun x H2 => ty σ H2 fun y H3 => ∃ a H4, x = .ref a ∧ DPut H3 a y v H4 ∧ D.nx σ H4
section
variable {X : Cx} {o i e value : Expr} {pos pos' tpos : Pos} {td ty tv : TE}
theorem pe_dget (hu : X.A.units + 1 < cLine) (ho : PE X o td) (hi : PE X i ty) (hs : NoSl i) : PE X (.Subscript o i pos) (tDGet td ty) := by
  intro pins s σ H Q I h
  refine subD_of PySem.F.slot_dict_getitem.lookup hs (thn (ho pins s σ H _ I h) fun u s1 ⟨x, H1, I1, rx, q1⟩ => thn (hi pins s1 σ H1 _ I1 q1) fun iv s2 hm_ => ?_)
  obtain ⟨y, H2, I2, ry, a, v, ex, g, q2⟩ := hm_
  subst ex
  obtain rfl : u = Value.ref a := rx
  exact ⟨dict_typeIs I2 g, d_getItem hu I2 g ry fun w' s3 I3 rw' => ⟨v, H2, I3, rw', q2⟩⟩
theorem pc_din (hu : X.A.units + 1 < cLine) (hi : PE X i ty) (ho : PE X o td) : PC X .In i o (tDIn ty td) := by
  intro pins s σ H Q I h
  refine thn (hi pins s σ H _ I h) fun iv s1 ⟨y, H1, I1, ry, q1⟩ => thn (ho pins s1 σ H1 _ I1 q1) fun u s2 hm_ => ?_
  obtain ⟨x, H2, I2, rx, a, ov, ex, g, q2⟩ := hm_
  subst ex
  obtain rfl : u = Value.ref a := rx
  exact d_in hu I2 g ry fun s3 I3 => ⟨.bl ov.isSome, H2, I3, rfl, q2⟩
theorem pc_dnotin (hu : X.A.units + 1 < cLine) (hi : PE X i ty) (ho : PE X o td) : PC X .NotIn i o (tDNotIn ty td) := by
  intro pins s σ H Q I h
  refine thn (hi pins s σ H _ I h) fun iv s1 ⟨y, H1, I1, ry, q1⟩ => thn (ho pins s1 σ H1 _ I1 q1) fun u s2 hm_ => ?_
  obtain ⟨x, H2, I2, rx, a, ov, ex, g, q2⟩ := hm_
  subst ex
  obtain rfl : u = Value.ref a := rx
  exact d_notIn hu I2 g ry fun s3 I3 => ⟨.bl (!ov.isSome), H2, I3, rfl, q2⟩
theorem ps_dput (hu : X.A.units + 1 < cLine) (ho : PE X o td) (hi : PE X i ty) (hv : PE X value tv) (hs : swapsWith value (some (.Subscript o i pos')) pos.line X.env = pure false) :
    PS X (.Assign [.Subscript o i pos'] value pos) (sDPut td ty tv) := by
  intro pins s σ H D I h
  refine wpAny_Assign_Subscript (thn (hv pins s σ H _ I h) fun r s1 ⟨v, H1, I1, rv, q1⟩ => thn (ho pins s1 σ H1 _ I1 q1) fun u s2 ⟨x, H2, I2, rx, q2⟩ => thn (hi pins s2 σ H2 _ I2 q2) fun iv s3 hm_ => ?_) hs
  obtain ⟨y, H3, I3, ry, a, H4, ex, g, q3⟩ := hm_
  subst ex
  obtain rfl : u = Value.ref a := rx
  exact d_setItem hu I3 g ry rv fun s4 I4 => ⟨σ, H4, I4, q3⟩
end


theorem dk_empty {P : Program} {w : World} {H : Hp} (h : Heap) (hb : sysModules < h.objs.size) : ObjOk P w H (h.push { cls := .type "dict", data := .dict #[] }) h.objs.size (.dK []) :=
  ⟨Nat.zero_le _, beq_eq_false_iff_ne.mpr (Ne.symm (Nat.ne_of_lt hb)), [], .nil, Heap.DictOf.new h⟩
noncomputable def tDNewK : TE := fun _ H Q => ∀ p, H p = none → Q (.ref p) (upd H p (.dK []))
section
variable {X : Cx} {pos : Pos}
theorem pe_dnewK : PE X (.Dict [] [] pos) tDNewK := fun pins s σ H Q I h =>
  wpAny_Dict_empty ⟨.ref s.heap.objs.size, _, I.laid (a := s.heap.objs.size) (o := .dK []) (t' := s.toks) (fun _ _ q => Heap.get?_push_of_some _ q) (Nat.le_refl _) (dk_empty s.heap I.big), rfl, h _ (I.hok.fresh (Nat.le_refl _))⟩
end

noncomputable def tPairs : List (TE × TE) → St → Hp → (List (V × V) → Hp → Prop) → Prop
  | [], _, H, Q => Q [] H
  | (tk, tv) :: r, σ, H, Q => tk σ H fun x H1 => tv σ H1 fun y H2 => tPairs r σ H2 fun ps H3 => Q ((x, y) :: ps) H3
noncomputable abbrev VV : List (V × V) → List (Value × Value) → Prop := Paired fun p q => RelV p.1 q.1 ∧ RelV p.2 q.2
noncomputable def PPs (X : Cx) (pos : Pos) (keys : List (Option Expr)) (values : List Expr) (trs : List (TE × TE)) : Prop :=
  ∀ (pins : List (Addr × Obj)) (s : Shared) (σ : St) (H : Hp) (Q : List (V × V) → Hp → Prop), Inv X pins σ H s → tPairs trs σ H Q →
    wpAny (model X.prog X.w) X.A (evalPairs (pairTrees keys values X.env pos)) (fun vs s' => ∃ ps H', Inv X pins σ H' s' ∧ VV ps vs ∧ Q ps H') X.xe s
theorem pps_nil {X : Cx} {pos : Pos} : PPs X pos [] [] [] := fun pins s σ H Q I h => pairTrees_nil_walk ⟨[], H, I, .nil, h⟩
theorem pps_cons {X : Cx} {pos : Pos} {k v : Expr} {ks : List (Option Expr)} {vs : List Expr} {tk tv : TE} {trs : List (TE × TE)} (hk : PE X k tk) (hv : PE X v tv) (hr : PPs X pos ks vs trs) :
    PPs X pos (some k :: ks) (v :: vs) ((tk, tv) :: trs) := fun pins s σ H Q I h =>
  pairTrees_cons_walk (thn (hk pins s σ H _ I h) fun u s1 ⟨x, H1, I1, rx, q1⟩ => thn (hv pins s1 σ H1 _ I1 q1) fun w2 s2 ⟨y, H2, I2, ry, q2⟩ =>
    thn (hr pins s2 σ H2 _ I2 q2) fun ws s3 ⟨ps, H3, I3, rel, q3⟩ => ⟨(x, y) :: ps, H3, I3, .cons ⟨rx, ry⟩ rel, q3⟩)

noncomputable def mergeK (kvs more : List (Key × V)) : List (Key × V) := more.foldl (fun acc kv => putK acc kv.1 kv.2) kvs
theorem KV.merge : ∀ {more : List (Key × V)} {rs : List (Key × Value)} {kvs : List (Key × V)} {vs : List (Key × Value)}, KV more rs → KV kvs vs → KV (mergeK kvs more) (merged vs rs) := by
  intro more rs kvs vs r
  unfold KV at r
  induction r generalizing kvs vs with
  | nil => intro q; exact q
  | @cons p q ps qs h t ih =>
    intro r0
    have e : KV (putK kvs p.1 p.2) (stored vs q.1 q.2) := by
      have := r0.put p.1 h.2
      rw [← h.1]; exact this
    exact ih e
theorem length_mergeK : ∀ (more kvs : List (Key × V)), (mergeK kvs more).length ≤ kvs.length + more.length
  | [], kvs => by show kvs.length ≤ kvs.length + 0; omega
  | p :: r, kvs => by
    have h1 := length_mergeK r (putK kvs p.1 p.2)
    have h2 := length_putK kvs p.1 p.2
    show (mergeK (putK kvs p.1 p.2) r).length ≤ _
    rw [List.length_cons]; omega
theorem carries_of {P : Program} {w : World} : ∀ {kvs : List (Key × V)} {ws : List (Value × Value)}, VV (kvs.map fun kv => (kV kv.1, kv.2)) ws → ∃ rs, Carries (mixKind P w) ws rs ∧ KV kvs rs
  | [], _, r => by rw [List.map_nil] at r; cases r; exact ⟨[], True.intro, .nil⟩
  | p :: kvs, _, r => by
    rw [List.map_cons] at r
    cases r with
    | @cons a b as bs h t =>
      obtain ⟨rs, c, q⟩ := carries_of (P := P) (w := w) t
      obtain ⟨b1, b2⟩ := b
      exact ⟨(p.1, b2) :: rs, ⟨kV_is h.1, rfl, c⟩, .cons ⟨rfl, h.2⟩ q⟩
noncomputable def tDisp (trs : List (TE × TE)) : TE := fun σ H Q => ∀ p, H p = none → tPairs trs σ (upd H p (.dK [])) fun ps H2 => H2 p = some (.dK []) ∧ ∃ kvs : List (Key × V), ps = kvs.map (fun kv => (kV kv.1, kv.2)) ∧ kvs.length ≤ 15 ∧ Q (.ref p) (upd H2 p (.dK (mergeK [] kvs)))
theorem pe_disp {X : Cx} {pos : Pos} {keys : List (Option Expr)} {values : List Expr} {trs : List (TE × TE)} (h : PPs X pos keys values trs) (hall : keys.all (·.isSome) = true) (hl : keys.length = values.length) (h0 : keys ≠ [])
    (h15 : keys.length ≤ 15) : PE X (.Dict keys values pos) (tDisp trs) := by
  intro pins s σ H Q I q
  have hn := I.hok.fresh (Nat.le_refl s.heap.objs.size)
  have I1 := I.laid (a := s.heap.objs.size) (o := .dK []) (h' := s.heap.push { cls := .type "dict", data := .dict #[] }) (t' := s.toks) (fun _ _ q => Heap.get?_push_of_some _ q) (Nat.le_refl _) (dk_empty s.heap I.big)
  refine wpAny_Dict_walk (knd := mixKind X.prog X.w) hall hl h0 h15 (thn (h pins _ σ _ _ I1 (q _ hn)) fun ws s2 hm_ => ?_)
  obtain ⟨ps, H2, I2, rel, e, kvs, ep, lk, q2⟩ := hm_
  subst ep
  obtain ⟨rs, c, rk⟩ := carries_of (P := X.prog) (w := X.w) rel
  obtain ⟨z, hd, vs0, r0, dd⟩ := dk_of I2.hok e
  cases r0
  refine ⟨rs, c, dd, fun h' dd' hs => ⟨.ref s.heap.objs.size, _, ?_, rfl, q2⟩⟩
  have hz : (mergeK [] kvs).length ≤ sizeLine := by
    have h1 := length_mergeK kvs []
    rw [List.length_nil] at h1
    rw [sizeLine_eq]; omega
  have he : ∃ q, h'.get? s.heap.objs.size = some q := let ⟨q, _, _, hq, _⟩ := dd'; ⟨q, hq⟩
  exact d_write I2 (by rw [e]; exact True.intro) hs he (dk_new hz hd (rk.merge .nil) dd')


structure M1 (X : Cx) (o : Expr) (m : Str) (apos : Pos) (e : Expr) (cpos : Pos) : Prop where
  base : attributeBase o m X.env (eval o X.env) = eval o X.env
  few : ((backTo cpos (starEach [e] X.env)).all (fun x => !x.1) && (backToKw cpos (keywordEach [] X.env)).all (fun x => x.1.isSome)
    && decide (([e] : List Expr).length + ([] : List Keyword).length + (if ([] : List Keyword).isEmpty then 0 else 1) < 30)) = true
  line : (apos.endLine == cpos.line) = true
  trees : backTo cpos (starEach [e] X.env) = [(false, eval e X.env)]
structure M2 (X : Cx) (o : Expr) (m : Str) (apos : Pos) (e f : Expr) (cpos : Pos) : Prop where
  base : attributeBase o m X.env (eval o X.env) = eval o X.env
  few : ((backTo cpos (starEach [e, f] X.env)).all (fun x => !x.1) && (backToKw cpos (keywordEach [] X.env)).all (fun x => x.1.isSome)
    && decide (([e, f] : List Expr).length + ([] : List Keyword).length + (if ([] : List Keyword).isEmpty then 0 else 1) < 30)) = true
  line : (apos.endLine == cpos.line) = true
  trees : backTo cpos (starEach [e, f] X.env) = [(false, eval e X.env), (false, eval f X.env)]

section
variable {X : Cx} {pins : List (Addr × Obj)} {σ : St} {H : Hp} {s : Shared} {a : Addr} {y d : V} {u r : Value} {o : Option V} {A : Around} {E : Value → Shared → Prop}
end

section
variable {X : Cx} {o e f : Expr} {apos cpos : Pos} {td ty tx : TE}
end

section
variable {X : Cx} {pins : List (Addr × Obj)} {σ : St} {H : Hp} {s : Shared} {a : Addr} {kvs : List (Key × V)} {A : Around} {E : Value → Shared → Prop}
end


section
variable {X : Cx} {pins : List (Addr × Obj)} {σ : St} {H : Hp} {s : Shared} {a : Addr} {y : V} {u : Value} {A : Around} {E : Value → Shared → Prop}
end
end L2


namespace L2
open PySem PySem.Spec PyProof.Rows
section
variable {X : Cx}
theorem kV_rel {P : Program} {w : World} {k : Key} {u : Value} (h : (mixKind P w).is k u = true) : RelV (kV k) u := by
  cases k with
  | inl i => exact Value.isInt_shape (show Value.isInt i u = true from h)
  | inr x => exact Value.isStrOf_shape (show Value.isStrOf x u = true from h)
end
section
variable {K : PySem.W.Frag} {m : Nat} {js : List Nat} {g : TG} {c : TT} {te : TE} {σ : St} {H1 : Hp} {Q : VK}
end
end L2

namespace OL
open PySem L2
noncomputable def popc (n : Nat) : Nat := if h : n = 0 then 0 else n % 2 + popc (n / 2)
termination_by n
decreasing_by omega
section
variable {many : Int} {bs : List Int} (hb : ∀ x ∈ bs, InB many x)
include hb
end
end OL
namespace OL
open PySem L2
end OL

namespace OL
open PySem L2
end OL
namespace OL
open PySem L2
end OL

namespace Tim
open PySem PyProof.Rows
noncomputable def gallop' : Bool → Keyed → Array Keyed → Nat → Nat → Nat → StateT SortSt Sem (Option Nat) := sortPriv% PySem.Builtin.gallop
noncomputable def mergeLo' : Array Keyed → Array Keyed → StateT SortSt Sem (Array Keyed) := sortPriv% PySem.Builtin.mergeLo
noncomputable def mergeHi' : Array Keyed → Array Keyed → StateT SortSt Sem (Array Keyed) := sortPriv% PySem.Builtin.mergeHi
noncomputable abbrev setGal (st : SortSt) (g : Nat) : SortSt := SortSt.mk' (kindOf st) (arrOf st) (pendingOf st) g (failedOf st)
noncomputable def CmpOk (prog : Program) (w : World) (A : Around) (s : Shared) (κ : KeyKind) (kd : SortKind) : Prop :=
  ∀ (E : Value → Shared → Prop) (x y : Value) (a b : κ.α) (Q : Bool → Shared → Prop), κ.keyOf x = some a → κ.keyOf y = some b → Q (κ.blt a b) s → wpAny (model prog w) A (keyLt' kd x y) Q E s
section
variable {prog : Program} {w : World} {A : Around} {E : Value → Shared → Prop} {s : Shared} {κ : KeyKind} {kd : SortKind}
theorem lt_ok (C : CmpOk prog w A s κ kd) {st : SortSt} (hk : kindOf st = kd) {x y : Keyed} {a b : κ.α} (hx : κ.keyOf x.1 = some a) (hy : κ.keyOf y.1 = some b) {Q : Option Bool → SortSt → Prop} (h : Q (some (κ.blt a b)) st) :
    wpS (model prog w) A E s (lt' x y) Q st := by
  rw [lt'_eq]
  refine wpS_bind (wpS_get ?_)
  rw [hk]
  exact wpS_bind (wpS_lift (wpAny_attempt (C _ _ _ a b _ hx hy ⟨rfl, wpS_pure h⟩)))
theorem elem_ok {st : SortSt} {zs : Array Keyed} {i : Nat} {p : Keyed} (hp : zs[i]? = some p) {Q : Keyed → SortSt → Prop} (h : Q p st) : wpS (model prog w) A E s (elem' zs i) Q st := by
  rw [elem'_eq, hp]
  exact wpS_pure h
theorem elem_bind {β : Type} {f : Keyed → StateT SortSt Sem β} {st : SortSt} {zs : Array Keyed} {i : Nat} {p : Keyed} (hp : zs[i]? = some p) {Q : β → SortSt → Prop} (h : wpS (model prog w) A E s (f p) Q st) : wpS (model prog w) A E s (elem' zs i >>= f) Q st := wpS_bind (elem_ok hp h)
noncomputable def Good (κ : KeyKind) (zs : Array Keyed) : Prop := ∀ (i : Nat) (p : Keyed), zs[i]? = some p → ∃ a, κ.keyOf p.1 = some a
theorem Good.at {zs : Array Keyed} (g : Good κ zs) {i : Nat} (hi : i < zs.size) : ∃ p, zs[i]? = some p ∧ κ.keyOf p.1 = some (KK κ zs i) := by
  have e : zs[i]? = some zs[i] := getElem?_pos zs i hi
  obtain ⟨a, ha⟩ := g i _ e
  refine ⟨_, e, ?_⟩
  unfold KK
  rw [e, ha]
  show some a = some ((κ.keyOf zs[i].fst).getD κ.dflt)
  rw [ha]; rfl
noncomputable def bey (κ : KeyKind) (left : Bool) (kp : κ.α) (zs : Array Keyed) (i : Nat) : Bool := if left then κ.blt (KK κ zs i) kp else !κ.blt kp (KK κ zs i)
noncomputable def ahead (left : Bool) (p : Keyed) (zs : Array Keyed) (i : Nat) : StateT SortSt Sem (Option Bool) := do
  let q ← elem' zs i
  if left then lt' q p else return (← lt' p q).map (!·)
theorem ahead_ok (C : CmpOk prog w A s κ kd) {st : SortSt} (hk : kindOf st = kd) {zs : Array Keyed} (g : Good κ zs) {p : Keyed} {kp : κ.α} (hp : κ.keyOf p.1 = some kp) {i : Nat} (hi : i < zs.size) (left : Bool) {Q : Option Bool → SortSt → Prop}
    (h : Q (some (bey κ left kp zs i)) st) : wpS (model prog w) A E s (ahead left p zs i) Q st := by
  obtain ⟨q, e, hq⟩ := g.at hi
  unfold ahead
  refine elem_bind e ?_
  cases left with
  | true => exact lt_ok C hk hq hp h
  | false => exact wpS_bind (lt_ok C hk hp hq (wpS_pure h))
theorem gallop_ok (C : CmpOk prog w A s κ kd) {st : SortSt} (hk : kindOf st = kd) {zs : Array Keyed} (g : Good κ zs) {p : Keyed} {kp : κ.α} (hp : κ.keyOf p.1 = some kp) {base n hint : Nat} (hn : base + n ≤ zs.size) (hh : hint < n) (left : Bool)
    (mono : ∀ i j, i ≤ j → j < n → bey κ left kp zs (base + j) = true → bey κ left kp zs (base + i) = true) {Q : Option Nat → SortSt → Prop}
    (h : ∀ m, m ≤ n → (∀ i, i < m → bey κ left kp zs (base + i) = true) → (∀ i, m ≤ i → i < n → bey κ left kp zs (base + i) = false) → Q (some m) st) : wpS (model prog w) A E s (gallop' left p zs base n hint) Q st := by
  have B : ∀ {i : Nat} {Q : Option Bool → SortSt → Prop}, i < n → Q (some (bey κ left kp zs (base + i))) st → wpS (model prog w) A E s (ahead left p zs (base + i)) Q st := fun hi q => ahead_ok C hk g hp (by omega) left q
  have mono' : ∀ i j, i ≤ j → j < n → bey κ left kp zs (base + i) = false → bey κ left kp zs (base + j) = false := fun i j h1 h2 h3 => by
    cases c : bey κ left kp zs (base + j) with
    | false => rfl
    | true => rw [mono i j h1 h2 c] at h3; cases h3
  generalize bey κ left kp zs = by0 at *
  refine wpS_bind (B hh ?_)
  cases c0 : by0 (base + hint) with
  | true =>
    dsimp only
    first | refine wpS_pos rfl ?_ | rw [if_pos rfl]
    refine wpS_bind (wpS_mono (wpS_forRange (I := fun x c st' => st = st' ∧ ∃ l o, c = (none, l, o) ∧ x < o ∧ l < o ∧ l < n - hint ∧ by0 (base + (hint + l)) = true)
      (Q := fun c st' => st = st' ∧ ∃ l o, c = (none, l, o) ∧ l < o ∧ l < n - hint ∧ by0 (base + (hint + l)) = true ∧ (n - hint ≤ o ∨ by0 (base + (hint + o)) = false)) ?step ?fin ?init) ?post)
    case init => exact ⟨rfl, 0, 1, rfl, by omega, by omega, by omega, c0⟩
    case fin =>
      intro c st' hz_
      obtain ⟨rfl, l, o, rfl, h1, h2, h3, h4⟩ := hz_
      exact ⟨rfl, l, o, rfl, h2, h3, h4, .inl (by omega)⟩
    case step =>
      intro x c st' _ hx hz_
      obtain ⟨rfl, l, o, rfl, h1, h2, h3, h4⟩ := hz_
      dsimp only
      by_cases hge : o ≥ n - hint
      · first | refine wpS_pos hge ?_ | rw [if_pos hge]
        exact wpS_pure ⟨rfl, l, o, rfl, h2, h3, h4, .inl hge⟩
      · first | refine wpS_neg hge ?_ | rw [if_neg hge]
        refine wpS_bind (B (i := hint + o) (by omega) ?_)
        cases c1 : by0 (base + (hint + o)) with
        | false => exact wpS_pure ⟨rfl, l, o, rfl, h2, h3, h4, .inr c1⟩
        | true => exact wpS_pure ⟨rfl, o, 2 * o + 1, rfl, by omega, by omega, by omega, c1⟩
    case post =>
      intro c st' hz_
      obtain ⟨rfl, l, o, rfl, h2, h3, h4, h5⟩ := hz_
      dsimp only
      refine wpS_bind (wpS_mono (wpS_forRange (I := fun x c st' => st = st' ∧ ∃ u v, c = (none, u, v) ∧ u ≤ v ∧ v ≤ n ∧ v - u ≤ n - x ∧ (∀ i, i < u → by0 (base + i) = true) ∧ (∀ i, v ≤ i → i < n → by0 (base + i) = false))
        (Q := fun c st' => st = st' ∧ ∃ u v, c = (none, u, v) ∧ u = v ∧ v ≤ n ∧ (∀ i, i < u → by0 (base + i) = true) ∧ (∀ i, v ≤ i → i < n → by0 (base + i) = false)) ?hstep ?hfin ?hinit) ?hpost)
      case hinit => exact ⟨rfl, _, _, rfl, by omega, by omega, by omega, fun i _ => mono i (hint + l) (by omega) (by omega) h4, fun i h1 h2' => by
          obtain h5 | h5 := h5
          · omega
          · exact mono' (hint + o) i (by omega) h2' h5⟩
      case hfin =>
        intro c st' hz_
        obtain ⟨rfl, u, v, rfl, k1, k2, k3, k4, k5⟩ := hz_
        exact ⟨rfl, u, v, rfl, by omega, k2, k4, k5⟩
      case hstep =>
        intro x c st' _ hx hz_
        obtain ⟨rfl, u, v, rfl, k1, k2, k3, k4, k5⟩ := hz_
        dsimp only
        by_cases hge : u ≥ v
        · first | refine wpS_pos hge ?_ | rw [if_pos hge]
          exact wpS_pure ⟨rfl, u, v, rfl, by omega, k2, k4, k5⟩
        · first | refine wpS_neg hge ?_ | rw [if_neg hge]
          refine wpS_bind (B (i := u + (v - u) / 2) (by omega) ?_)
          cases c2 : by0 (base + (u + (v - u) / 2)) with
          | true => exact wpS_pure ⟨rfl, u + (v - u) / 2 + 1, v, rfl, by omega, k2, by omega, fun i hi => mono i (u + (v - u) / 2) (by omega) (by omega) c2, k5⟩
          | false => exact wpS_pure ⟨rfl, u, u + (v - u) / 2, rfl, by omega, by omega, by omega, k4, fun i h1 h2 => mono' (u + (v - u) / 2) i h1 h2 c2⟩
      case hpost =>
        intro c st' hz_
        obtain ⟨rfl, u, v, rfl, rfl, k2, k4, k5⟩ := hz_
        exact wpS_pure (h u k2 k4 k5)
  | false =>
    dsimp only
    first | refine wpS_neg (by simp) ?_ | rw [if_neg (by simp)]
    refine wpS_bind (wpS_mono (wpS_forRange (I := fun x c st' => st = st' ∧ ∃ l o, c = (none, l, o) ∧ x < o ∧ l < o ∧ l ≤ hint ∧ by0 (base + (hint - l)) = false)
      (Q := fun c st' => st = st' ∧ ∃ l o, c = (none, l, o) ∧ l < o ∧ l ≤ hint ∧ by0 (base + (hint - l)) = false ∧ (hint + 1 ≤ o ∨ by0 (base + (hint - o)) = true)) ?step ?fin ?init) ?post)
    case init => exact ⟨rfl, 0, 1, rfl, by omega, by omega, by omega, c0⟩
    case fin =>
      intro c st' hz_
      obtain ⟨rfl, l, o, rfl, h1, h2, h3, h4⟩ := hz_
      exact ⟨rfl, l, o, rfl, h2, h3, h4, .inl (by omega)⟩
    case step =>
      intro x c st' _ hx hz_
      obtain ⟨rfl, l, o, rfl, h1, h2, h3, h4⟩ := hz_
      dsimp only
      by_cases hge : o ≥ hint + 1
      · first | refine wpS_pos hge ?_ | rw [if_pos hge]
        exact wpS_pure ⟨rfl, l, o, rfl, h2, h3, h4, .inl hge⟩
      · first | refine wpS_neg hge ?_ | rw [if_neg hge]
        refine wpS_bind (B (i := hint - o) (by omega) ?_)
        cases c1 : by0 (base + (hint - o)) with
        | true => exact wpS_pure ⟨rfl, l, o, rfl, h2, h3, h4, .inr c1⟩
        | false => exact wpS_pure ⟨rfl, o, 2 * o + 1, rfl, by omega, by omega, by omega, c1⟩
    case post =>
      intro c st' hz_
      obtain ⟨rfl, l, o, rfl, h2, h3, h4, h5⟩ := hz_
      dsimp only
      refine wpS_bind (wpS_mono (wpS_forRange (I := fun x c st' => st = st' ∧ ∃ u v, c = (none, u, v) ∧ u ≤ v ∧ v ≤ n ∧ v - u ≤ n - x ∧ (∀ i, i < u → by0 (base + i) = true) ∧ (∀ i, v ≤ i → i < n → by0 (base + i) = false))
        (Q := fun c st' => st = st' ∧ ∃ u v, c = (none, u, v) ∧ u = v ∧ v ≤ n ∧ (∀ i, i < u → by0 (base + i) = true) ∧ (∀ i, v ≤ i → i < n → by0 (base + i) = false)) ?hstep ?hfin ?hinit) ?hpost)
      case hinit => exact ⟨rfl, _, _, rfl, by omega, by omega, by omega, fun i hi => by
          obtain h5 | h5 := h5
          · omega
          · exact mono i (hint - o) (by omega) (by omega) h5, fun i h1 h2' => mono' (hint - l) i h1 h2' h4⟩
      case hfin =>
        intro c st' hz_
        obtain ⟨rfl, u, v, rfl, k1, k2, k3, k4, k5⟩ := hz_
        exact ⟨rfl, u, v, rfl, by omega, k2, k4, k5⟩
      case hstep =>
        intro x c st' _ hx hz_
        obtain ⟨rfl, u, v, rfl, k1, k2, k3, k4, k5⟩ := hz_
        dsimp only
        by_cases hge : u ≥ v
        · first | refine wpS_pos hge ?_ | rw [if_pos hge]
          exact wpS_pure ⟨rfl, u, v, rfl, by omega, k2, k4, k5⟩
        · first | refine wpS_neg hge ?_ | rw [if_neg hge]
          refine wpS_bind (B (i := u + (v - u) / 2) (by omega) ?_)
          cases c2 : by0 (base + (u + (v - u) / 2)) with
          | true => exact wpS_pure ⟨rfl, u + (v - u) / 2 + 1, v, rfl, by omega, k2, by omega, fun i hi => mono i (u + (v - u) / 2) (by omega) (by omega) c2, k5⟩
          | false => exact wpS_pure ⟨rfl, u, u + (v - u) / 2, rfl, by omega, by omega, by omega, k4, fun i h1 h2 => mono' (u + (v - u) / 2) i h1 h2 c2⟩
      case hpost =>
        intro c st' hz_
        obtain ⟨rfl, u, v, rfl, rfl, k2, k4, k5⟩ := hz_
        exact wpS_pure (h u k2 k4 k5)
end
end Tim

namespace Tim
open PySem PyProof.Rows
section
variable {κ : KeyKind}
noncomputable def ky (κ : KeyKind) (p : Keyed) : κ.α := (κ.keyOf p.1).getD κ.dflt
noncomputable def le (κ : KeyKind) (p q : Keyed) : Prop := κ.kle (ky κ p) (ky κ q)
theorem KK_ky {zs : Array Keyed} {i : Nat} (h : i < zs.toList.length) : KK κ zs i = ky κ zs.toList[i] := by
  unfold KK
  have e : zs[i]? = some zs.toList[i] := by rw [← Array.getElem?_toList]; exact List.getElem?_eq_getElem h
  rw [e]; rfl
theorem srt_pw {zs : Array Keyed} (h : SortedToK κ zs zs.size) : zs.toList.Pairwise (le κ) := by
  rw [List.pairwise_iff_getElem]
  intro i j hi hj hij
  have q := h i j (Nat.le_of_lt hij) (by simpa using hj)
  rw [KK_ky hi, KK_ky hj] at q
  exact q
theorem pw_srt {zs : Array Keyed} (h : zs.toList.Pairwise (le κ)) : SortedToK κ zs zs.size := by
  intro i j hij hj
  have hj' : j < zs.toList.length := by simpa using hj
  have hi' : i < zs.toList.length := by omega
  rw [KK_ky hi', KK_ky hj']
  by_cases e : i = j
  · subst e; exact KeyOrd.kle_refl _
  · exact List.pairwise_iff_getElem.mp h i j hi' hj' (by omega)
theorem drop_all {L : List Keyed} {P : Keyed → Prop} {i : Nat} (h : ∀ t (ht : t < L.length), i ≤ t → P L[t]) : ∀ y ∈ L.drop i, P y := by
  intro y hy
  obtain ⟨t, ht, e⟩ := List.mem_iff_getElem.mp hy
  rw [List.getElem_drop] at e
  rw [← e]
  rw [List.length_drop] at ht
  exact h (i + t) (by omega) (by omega)
theorem take_all {L : List Keyed} {P : Keyed → Prop} {i : Nat} (h : ∀ t (ht : t < L.length), t < i → P L[t]) : ∀ y ∈ L.take i, P y := by
  intro y hy
  obtain ⟨t, ht, e⟩ := List.mem_iff_getElem.mp hy
  rw [List.getElem_take] at e
  rw [← e]
  rw [List.length_take] at ht
  exact h t (by omega) (by omega)
theorem drop_at {L : List Keyed} {i t : Nat} (ht : t < L.length) (h : i ≤ t) : L[t] ∈ L.drop i := by
  rw [List.mem_iff_getElem]
  exact ⟨t - i, by rw [List.length_drop]; omega, by rw [List.getElem_drop]; congr 1; omega⟩
theorem take_at {L : List Keyed} {i t : Nat} (ht : t < L.length) (h : t < i) : L[t] ∈ L.take i := by
  rw [List.mem_iff_getElem]
  exact ⟨t, by rw [List.length_take]; omega, by rw [List.getElem_take]⟩
structure MI (κ : KeyKind) (A B O : List Keyed) (i j : Nat) : Prop where
  perm : O.Perm (A.take i ++ B.take j)
  srt : O.Pairwise (le κ)
  la : ∀ x ∈ O, ∀ y ∈ A.drop i, le κ x y
  lb : ∀ x ∈ O, ∀ y ∈ B.drop j, le κ x y
noncomputable def Res (κ : KeyKind) (A B M : List Keyed) : Prop := M.Perm (A ++ B) ∧ M.Pairwise (le κ)
variable {A B O : List Keyed} {i j : Nat}
theorem le_refl' (p : Keyed) : le κ p p := KeyOrd.kle_refl _
theorem pw_at {L : List Keyed} (h : L.Pairwise (le κ)) {i j : Nat} (hj : j < L.length) (hij : i ≤ j) : le κ (L[i]'(by omega)) L[j] := by
  by_cases e : i = j
  · subst e; exact le_refl' _
  · exact List.pairwise_iff_getElem.mp h i j (by omega) hj (by omega)
theorem MI.stepA (M : MI κ A B O i j) (hA : A.Pairwise (le κ)) (hi : i < A.length) (h : ∀ y ∈ B.drop j, le κ A[i] y) : MI κ A B (O ++ [A[i]]) (i + 1) j := by
  refine ⟨?_, ?_, ?_, ?_⟩
  · rw [List.take_succ_eq_append_getElem hi]
    have p1 := M.perm.append_right [A[i]]
    refine p1.trans ?_
    rw [List.append_assoc, List.append_assoc]
    exact List.perm_append_comm.append_left _
  · rw [List.pairwise_append]
    refine ⟨M.srt, List.pairwise_singleton _ _, fun x hx y hy => ?_⟩
    rw [List.mem_singleton] at hy
    subst hy
    exact M.la x hx _ (drop_at hi (Nat.le_refl _))
  · intro x hx y hy
    obtain hx | hx := List.mem_append.mp hx
    · exact M.la x hx y (by rw [List.drop_eq_getElem_cons hi]; exact List.mem_cons_of_mem _ hy)
    · rw [List.mem_singleton] at hx
      subst hx
      exact drop_all (P := fun y => le κ A[i] y) (i := i + 1) (fun t ht h1 => pw_at hA ht (by omega)) y hy
  · intro x hx y hy
    obtain hx | hx := List.mem_append.mp hx
    · exact M.lb x hx y hy
    · rw [List.mem_singleton] at hx
      subst hx
      exact h y hy
theorem MI.swap (M : MI κ A B O i j) : MI κ B A O j i := ⟨M.perm.trans List.perm_append_comm, M.srt, M.lb, M.la⟩
theorem MI.stepB (M : MI κ A B O i j) (hB : B.Pairwise (le κ)) (hj : j < B.length) (h : ∀ y ∈ A.drop i, le κ B[j] y) : MI κ A B (O ++ [B[j]]) i (j + 1) := (M.swap.stepA hB hj h).swap
theorem MI.chunkA (M : MI κ A B O i j) (hA : A.Pairwise (le κ)) : ∀ k, i + k ≤ A.length → (∀ t (ht : t < A.length), i ≤ t → t < i + k → ∀ y ∈ B.drop j, le κ A[t] y) → MI κ A B (O ++ (A.drop i).take k) (i + k) j
  | 0, _, _ => by simpa using M
  | k + 1, hk, h => by
    have ih := MI.chunkA M hA k (by omega) fun t ht h1 h2 => h t ht h1 (by omega)
    have q := ih.stepA hA (by omega) (h (i + k) (by omega) (by omega) (by omega))
    have hl : k < (A.drop i).length := by rw [List.length_drop]; omega
    rw [List.take_succ_eq_append_getElem hl, ← List.append_assoc, List.getElem_drop]
    exact q
theorem MI.chunkB (M : MI κ A B O i j) (hB : B.Pairwise (le κ)) (k : Nat) (hk : j + k ≤ B.length) (h : ∀ t (ht : t < B.length), j ≤ t → t < j + k → ∀ y ∈ A.drop i, le κ B[t] y) : MI κ A B (O ++ (B.drop j).take k) i (j + k) := (M.swap.chunkA hB k hk h).swap
theorem MI.fin (M : MI κ A B O i j) {R : List Keyed} (hp : R.Perm (A.drop i ++ B.drop j)) (hs : R.Pairwise (le κ)) : Res κ A B (O ++ R) := by
  refine ⟨(M.perm.append hp).trans ?_, ?_⟩
  · have e1 : A ++ B = (A.take i ++ A.drop i) ++ (B.take j ++ B.drop j) := by rw [List.take_append_drop, List.take_append_drop]
    rw [e1]
    simp only [List.append_assoc]
    refine List.Perm.append_left _ ?_
    rw [← List.append_assoc, ← List.append_assoc (A.drop i)]
    exact List.perm_append_comm.append_right _
  · rw [List.pairwise_append]
    refine ⟨M.srt, hs, fun x hx y hy => ?_⟩
    obtain q | q := List.mem_append.mp (hp.mem_iff.mp hy)
    · exact M.la x hx y q
    · exact M.lb x hx y q
theorem MI.finAB (M : MI κ A B O i j) (hA : A.Pairwise (le κ)) (hB : B.Pairwise (le κ)) (h : ∀ x ∈ A.drop i, ∀ y ∈ B.drop j, le κ x y) : Res κ A B (O ++ A.drop i ++ B.drop j) := by
  rw [List.append_assoc]
  exact M.fin (List.Perm.refl _) (List.pairwise_append.mpr ⟨hA.sublist (List.drop_sublist _ _), hB.sublist (List.drop_sublist _ _), h⟩)
theorem MI.finBA (M : MI κ A B O i j) (hA : A.Pairwise (le κ)) (hB : B.Pairwise (le κ)) (h : ∀ x ∈ B.drop j, ∀ y ∈ A.drop i, le κ x y) : Res κ A B (O ++ B.drop j ++ A.drop i) := by
  rw [List.append_assoc]
  exact M.fin List.perm_append_comm (List.pairwise_append.mpr ⟨hB.sublist (List.drop_sublist _ _), hA.sublist (List.drop_sublist _ _), h⟩)
structure MH (κ : KeyKind) (A B R : List Keyed) (i j : Nat) : Prop where
  perm : R.Perm (A.drop i ++ B.drop j)
  srt : R.Pairwise (le κ)
  la : ∀ x ∈ A.take i, ∀ y ∈ R, le κ x y
  lb : ∀ x ∈ B.take j, ∀ y ∈ R, le κ x y
theorem MH.swap {R : List Keyed} (M : MH κ A B R i j) : MH κ B A R j i := ⟨M.perm.trans List.perm_append_comm, M.srt, M.lb, M.la⟩
theorem MH.stepA {R : List Keyed} (M : MH κ A B R (i + 1) j) (hA : A.Pairwise (le κ)) (hi : i < A.length) (h : ∀ x ∈ B.take j, le κ x A[i]) : MH κ A B (A[i] :: R) i j := by
  refine ⟨?_, ?_, ?_, ?_⟩
  · rw [List.drop_eq_getElem_cons hi, List.cons_append]
    exact M.perm.cons _
  · rw [List.pairwise_cons]
    exact ⟨fun y hy => M.la _ (take_at hi (Nat.lt_succ_self _)) y hy, M.srt⟩
  · intro x hx y hy
    obtain hy | hy := List.mem_cons.mp hy
    · subst hy
      exact take_all (P := fun x => le κ x A[i]) (i := i) (fun t ht h1 => pw_at hA hi (by omega)) x hx
    · exact M.la x (by rw [List.take_succ_eq_append_getElem hi]; exact List.mem_append_left _ hx) y hy
  · intro x hx y hy
    obtain hy | hy := List.mem_cons.mp hy
    · subst hy; exact h x hx
    · exact M.lb x hx y hy
theorem MH.stepB {R : List Keyed} (M : MH κ A B R i (j + 1)) (hB : B.Pairwise (le κ)) (hj : j < B.length) (h : ∀ x ∈ A.take i, le κ x B[j]) : MH κ A B (B[j] :: R) i j := (M.swap.stepA hB hj h).swap
theorem MH.chunkA {R : List Keyed} {m : Nat} (hA : A.Pairwise (le κ)) : ∀ k, m + k ≤ A.length → MH κ A B R (m + k) j → (∀ t (ht : t < A.length), m ≤ t → t < m + k → ∀ x ∈ B.take j, le κ x A[t]) → MH κ A B ((A.drop m).take k ++ R) m j
  | 0, _, M, _ => by simpa using M
  | k + 1, hk, M, h => by
    have q := MH.stepA (i := m + k) (by simpa [Nat.add_assoc] using M) hA (by omega) (h (m + k) (by omega) (by omega) (by omega))
    have ih := MH.chunkA hA k (by omega) q fun t ht h1 h2 => h t ht h1 (by omega)
    have hl : k < (A.drop m).length := by rw [List.length_drop]; omega
    rw [List.take_succ_eq_append_getElem hl, List.append_assoc, List.getElem_drop]
    exact ih
theorem MH.chunkB {R : List Keyed} {m : Nat} (hB : B.Pairwise (le κ)) (k : Nat) (hk : m + k ≤ B.length) (M : MH κ A B R i (m + k)) (h : ∀ t (ht : t < B.length), m ≤ t → t < m + k → ∀ x ∈ A.take i, le κ x B[t]) : MH κ A B ((B.drop m).take k ++ R) i m := (MH.chunkA hB k hk M.swap h).swap
theorem MH.fin {R S : List Keyed} (M : MH κ A B R i j) (hp : S.Perm (A.take i ++ B.take j)) (hs : S.Pairwise (le κ)) : Res κ A B (S ++ R) := by
  refine ⟨(hp.append M.perm).trans ?_, ?_⟩
  · have e1 : A ++ B = (A.take i ++ A.drop i) ++ (B.take j ++ B.drop j) := by rw [List.take_append_drop, List.take_append_drop]
    rw [e1]
    simp only [List.append_assoc]
    refine List.Perm.append_left _ ?_
    rw [← List.append_assoc, ← List.append_assoc (A.drop i)]
    exact List.perm_append_comm.append_right _
  · rw [List.pairwise_append]
    refine ⟨hs, M.srt, fun x hx y hy => ?_⟩
    obtain q | q := List.mem_append.mp (hp.mem_iff.mp hx)
    · exact M.la x q y hy
    · exact M.lb x q y hy
theorem MH.finAB {R : List Keyed} (M : MH κ A B R i j) (hA : A.Pairwise (le κ)) (hB : B.Pairwise (le κ)) (h : ∀ x ∈ A.take i, ∀ y ∈ B.take j, le κ x y) : Res κ A B (A.take i ++ B.take j ++ R) :=
  M.fin (List.Perm.refl _) (List.pairwise_append.mpr ⟨hA.sublist (List.take_sublist _ _), hB.sublist (List.take_sublist _ _), h⟩)
theorem MH.finBA {R : List Keyed} (M : MH κ A B R i j) (hA : A.Pairwise (le κ)) (hB : B.Pairwise (le κ)) (h : ∀ x ∈ B.take j, ∀ y ∈ A.take i, le κ x y) : Res κ A B (B.take j ++ A.take i ++ R) :=
  M.fin List.perm_append_comm (List.pairwise_append.mpr ⟨hB.sublist (List.take_sublist _ _), hA.sublist (List.take_sublist _ _), h⟩)
end
end Tim

namespace Tim
open PySem PyProof.Rows
section
variable {κ : KeyKind}
theorem ex_take (a : Array Keyed) (i k : Nat) : (a.extract i (i + k)).toList = (a.toList.drop i).take k := by
  rw [Array.toList_extract, List.extract_eq_take_drop]; congr 1; omega
theorem ex_drop (a : Array Keyed) (i : Nat) : (a.extract i a.size).toList = a.toList.drop i := by
  rw [Array.toList_extract, List.extract_eq_take_drop]
  rw [List.take_of_length_le]; simp
theorem ex_pre (a : Array Keyed) (n : Nat) : (a.extract 0 n).toList = a.toList.take n := by
  rw [Array.toList_extract, List.extract_eq_take_drop]; simp
theorem ex_mid (a : Array Keyed) {m n : Nat} (h : m ≤ n) : (a.extract m n).toList = (a.toList.drop m).take (n - m) := by
  rw [Array.toList_extract, List.extract_eq_take_drop]
theorem le_of {zs ys : Array Keyed} {i j : Nat} (hi : i < zs.toList.length) (hj : j < ys.toList.length) (h : κ.kle (KK κ zs i) (KK κ ys j)) : le κ zs.toList[i] ys.toList[j] := by
  rw [KK_ky hi, KK_ky hj] at h; exact h
theorem allD {zs ys : Array Keyed} {i j : Nat} (hj : j < ys.toList.length) (hs : SortedToK κ zs zs.size) (h : i < zs.size → κ.kle (KK κ ys j) (KK κ zs i)) : ∀ y ∈ zs.toList.drop i, le κ ys.toList[j] y :=
  drop_all fun t ht hit => le_of hj ht (KeyOrd.kle_trans (h (by rw [Array.length_toList] at ht; omega)) (hs i t hit (by rwa [Array.length_toList] at ht)))
theorem allT {zs ys : Array Keyed} {i j : Nat} (hj : j < ys.toList.length) (hs : SortedToK κ zs zs.size) (hiz : i ≤ zs.size) (h : 0 < i → κ.kle (KK κ zs (i - 1)) (KK κ ys j)) : ∀ x ∈ zs.toList.take i, le κ x ys.toList[j] :=
  take_all fun t ht hit => le_of ht hj (KeyOrd.kle_trans (hs t (i - 1) (by omega) (by omega)) (h (by omega)))
theorem beyF {kp : κ.α} {zs : Array Keyed} {i : Nat} (h : bey κ false kp zs i = true) : κ.kle (KK κ zs i) kp := by
  unfold bey at h; simpa [KeyOrd.kle] using h
theorem beyF' {kp : κ.α} {zs : Array Keyed} {i : Nat} (h : bey κ false kp zs i = false) : κ.klt kp (KK κ zs i) := by
  unfold bey at h; simpa [KeyOrd.klt] using h
theorem beyT {kp : κ.α} {zs : Array Keyed} {i : Nat} (h : bey κ true kp zs i = true) : κ.klt (KK κ zs i) kp := by
  unfold bey at h; simpa [KeyOrd.klt] using h
theorem beyT' {kp : κ.α} {zs : Array Keyed} {i : Nat} (h : bey κ true kp zs i = false) : κ.kle kp (KK κ zs i) := by
  unfold bey at h; simpa [KeyOrd.kle] using h
theorem bey_mono {left : Bool} {kp : κ.α} {zs : Array Keyed} {base n : Nat} (hs : ∀ i j, base ≤ i → i ≤ j → j < base + n → κ.kle (KK κ zs i) (KK κ zs j)) : ∀ i j, i ≤ j → j < n → bey κ left kp zs (base + j) = true → bey κ left kp zs (base + i) = true := by
  intro i j hij hj h
  have q := hs (base + i) (base + j) (by omega) (by omega) (by omega)
  cases left with
  | true =>
    have := KeyOrd.klt_of_kle_of_klt q (beyT h)
    unfold bey; simpa [KeyOrd.klt] using this
  | false =>
    have := KeyOrd.kle_trans q (beyF h)
    unfold bey; simpa [KeyOrd.kle] using this
theorem Good.p {zs : Array Keyed} (g : Good κ zs) {i : Nat} (hi : i < zs.toList.length) : zs[i]? = some zs.toList[i] ∧ κ.keyOf zs.toList[i].1 = some (KK κ zs i) := by
  obtain ⟨p, e, k⟩ := g.at (i := i) (by simpa using hi)
  have e' : zs.toList[i] = p := by
    rw [← Array.getElem?_toList, List.getElem?_eq_getElem hi] at e
    exact Option.some.inj e
  rw [e']; exact ⟨e, k⟩
end
section
variable {prog : Program} {w : World} {A : Around} {E : Value → Shared → Prop} {s : Shared} {κ : KeyKind} {kd : SortKind}
inductive Dn (κ : KeyKind) (a b : Array Keyed) (st : SortSt) {ρ : Type} : Option (Array Keyed) × ρ → SortSt → Prop
  | mk (g : Nat) (m : Array Keyed) (r : ρ) (h : Res κ a.toList b.toList m.toList) : Dn κ a b st (some m, r) (setGal st g)
inductive LpL (κ : KeyKind) (a b : Array Keyed) (st : SortSt) (n : Nat) {ρ : Type} : Option (Array Keyed) × Array Keyed × Nat × Nat × ρ → SortSt → Prop
  | mk (o : Array Keyed) (i j : Nat) (r : ρ) (g : Nat) (M : MI κ a.toList b.toList o.toList i j) (q : i + 1 < a.size ∧ j < b.size ∧ n ≤ i + j) : LpL κ a b st n (none, o, i, j, r) (setGal st g)
@[elab_as_elim] theorem LpL.on {κ : KeyKind} {a b : Array Keyed} {st : SortSt} {n : Nat} {ρ : Type} {P : Option (Array Keyed) × Array Keyed × Nat × Nat × ρ → SortSt → Prop} {c : Option (Array Keyed) × Array Keyed × Nat × Nat × ρ} {st' : SortSt} (h : LpL κ a b st n c st') (k : ∀ (o : Array Keyed) (i : Nat) (j : Nat) (r : ρ) (g : Nat), MI κ a.toList b.toList o.toList i j → (i + 1 < a.size ∧ j < b.size ∧ n ≤ i + j) → P (none, o, i, j, r) (setGal st g)) : P c st' := by
  cases h with
  | mk o i j r g M q => exact k o i j r g M q
@[elab_as_elim] theorem LpL.on2 {κ : KeyKind} {a b : Array Keyed} {st : SortSt} {n : Nat} {P : Option (Array Keyed) × Array Keyed × Nat × Nat × Nat × Nat → SortSt → Prop} {c : Option (Array Keyed) × Array Keyed × Nat × Nat × Nat × Nat} {st' : SortSt} (h : LpL κ a b st n c st') (k : ∀ (o : Array Keyed) (i : Nat) (j : Nat) (x : Nat) (y : Nat) (g : Nat), MI κ a.toList b.toList o.toList i j → (i + 1 < a.size ∧ j < b.size ∧ n ≤ i + j) → P (none, o, i, j, x, y) (setGal st g)) : P c st' := by
  cases h with
  | mk o i j r g M q => exact k o i j r.1 r.2 g M q
@[elab_as_elim] theorem LpL.on3 {κ : KeyKind} {a b : Array Keyed} {st : SortSt} {n : Nat} {P : Option (Array Keyed) × Array Keyed × Nat × Nat × Nat × Nat × Nat → SortSt → Prop} {c : Option (Array Keyed) × Array Keyed × Nat × Nat × Nat × Nat × Nat} {st' : SortSt} (h : LpL κ a b st n c st') (k : ∀ (o : Array Keyed) (i : Nat) (j : Nat) (x : Nat) (y : Nat) (z : Nat) (g : Nat), MI κ a.toList b.toList o.toList i j → (i + 1 < a.size ∧ j < b.size ∧ n ≤ i + j) → P (none, o, i, j, x, y, z) (setGal st g)) : P c st' := by
  cases h with
  | mk o i j r g M q => exact k o i j r.1 r.2.1 r.2.2 g M q
@[elab_as_elim] theorem Dn.on {κ : KeyKind} {a b : Array Keyed} {st : SortSt} {ρ : Type} {P : Option (Array Keyed) × ρ → SortSt → Prop} {c : Option (Array Keyed) × ρ} {st' : SortSt} (h : Dn κ a b st c st') (k : ∀ (g : Nat) (m : Array Keyed) (r : ρ), Res κ a.toList b.toList m.toList → P (some m, r) (setGal st g)) : P c st' := by
  cases h with
  | mk g m r h => exact k g m r h
theorem setGal_ok {st : SortSt} {g : Nat} {Q : Unit → SortSt → Prop} (h : Q () (setGal st g)) : wpS (model prog w) A E s ((sortPriv% PySem.Builtin.setMinGallop) g) Q st := wpS_modify h
theorem setGal_bind {β : Type} {f : Unit → StateT SortSt Sem β} {st : SortSt} {g : Nat} {Q : β → SortSt → Prop} (h : wpS (model prog w) A E s (f ()) Q (setGal st g)) : wpS (model prog w) A E s ((sortPriv% PySem.Builtin.setMinGallop) g >>= f) Q st := wpS_bind (setGal_ok h)
theorem wpS_iteK {β : Type} {c : Nat → Prop} {dc : ∀ n, Decidable (c n)} {t k : Nat → StateT SortSt Sem β} {Q : β → SortSt → Prop} {st : SortSt} (ht : ∀ n, t n = k (n - 1)) (h : ∀ n, wpS (model prog w) A E s (k n) Q st) : ∀ n, wpS (model prog w) A E s (@ite _ (c n) (dc n) (t n) (k n)) Q st := fun n => by
  rw [ht]
  split
  · exact h _
  · exact h _
set_option maxHeartbeats 4000000 in
theorem mergeLo_ok (C : CmpOk prog w A s κ kd) {st : SortSt} (hk : kindOf st = kd) {a b : Array Keyed} (ga : Good κ a) (gb : Good κ b) (sa : SortedToK κ a a.size) (sb : SortedToK κ b b.size) (na : 0 < a.size) (nb : 0 < b.size)
    (hfirst : κ.kle (KK κ b 0) (KK κ a 0)) (hlast : ∀ j, j < b.size → κ.kle (KK κ b j) (KK κ a (a.size - 1))) {Q : Array Keyed → SortSt → Prop}
    (h : ∀ m g, Res κ a.toList b.toList m.toList → Q m (setGal st g)) : wpS (model prog w) A E s (mergeLo' a b) Q st := by
  have hA := srt_pw sa
  have hB := srt_pw sb
  have lA : a.toList.length = a.size := Array.length_toList
  have lB : b.toList.length = b.size := Array.length_toList
  have dn : ∀ {o : Array Keyed} {i j : Nat}, MI κ a.toList b.toList o.toList i j → (b.size ≤ j ∨ a.size ≤ i) → Res κ a.toList b.toList (o ++ a.extract i a.size ++ b.extract j b.size).toList := fun {o i j} M hj => by
    rw [Array.toList_append, Array.toList_append, ex_drop, ex_drop]
    refine M.finAB hA hB fun x hx y hy => ?_
    obtain hj | hj := hj
    · rw [List.drop_of_length_le (by omega)] at hy; cases hy
    · rw [List.drop_of_length_le (by omega)] at hx; cases hx
  have lst : ∀ {o : Array Keyed} {i j : Nat}, MI κ a.toList b.toList o.toList i j → i + 1 = a.size → Res κ a.toList b.toList (o ++ b.extract j b.size ++ a.extract i a.size).toList := fun {o i j} M hi => by
    rw [Array.toList_append, Array.toList_append, ex_drop, ex_drop]
    refine M.finBA hA hB fun x hx => ?_
    obtain ⟨t, ht, e⟩ := List.mem_iff_getElem.mp (List.mem_of_mem_drop hx)
    rw [← e]
    exact allD (by omega) sa fun _ => by rw [show i = a.size - 1 by omega]; exact hlast t (by omega)
  have M1 : MI κ a.toList b.toList [b.toList[0]] 0 1 := by
    have M0 : MI κ a.toList b.toList [] 0 0 := ⟨by simp, List.Pairwise.nil, (fun x hx => by cases hx), (fun x hx => by cases hx)⟩
    exact M0.stepB hB (by omega) (allD (by omega) sa fun _ => hfirst)
  refine wpS_bind (wpS_lift (wpAny_rule ⟨rfl, ?_⟩))
  refine elem_bind (gb.p (i := 0) (by omega)).1 ?_
  dsimp only
  by_cases c1 : (1 == b.size) = true
  · first | refine wpS_pos c1 ?_ | rw [if_pos c1]
    have c1' : 1 = b.size := by simpa using c1
    exact wpS_pure (h _ (gallopOf st) (dn (o := #[b.toList[0]]) M1 (.inl (by omega))))
  first | refine wpS_neg c1 ?_ | rw [if_neg c1]
  have c1' : 1 ≠ b.size := by simpa using c1
  by_cases c2 : (0 + 1 == a.size) = true
  · first | refine wpS_pos c2 ?_ | rw [if_pos c2]
    have c2' : 0 + 1 = a.size := by simpa using c2
    exact wpS_pure (h _ (gallopOf st) (lst (o := #[b.toList[0]]) M1 c2'))
  first | refine wpS_neg c2 ?_ | rw [if_neg c2]
  have c2' : 0 + 1 ≠ a.size := by simpa using c2
  refine wpS_bind (wpS_get ?_)
  refine wpS_bind (wpS_mono (wpS_forRange (I := fun x c st' => LpL κ a b st (x + 1) c st')
    (Q := fun c st' => Dn κ a b st c st') ?step ?fin ?init) ?post)
  case init => exact ⟨#[b.toList[0]], 0, 1, _, gallopOf st, M1, by omega⟩
  case fin =>
    intro c st' hz_
    refine LpL.on hz_ fun o i j mg g M q => ?_; (repeat clear hz_); clear c st'
    omega
  case post =>
    intro c st' hz_
    refine Dn.on hz_ fun g m r hR => ?_; (repeat clear hz_); clear c st'
    exact wpS_pure (h m g hR)
  case step =>
    clear c1 c1' c2 c2'
    intro x c st' _ hx hz_
    refine LpL.on hz_ fun o i j mg g M q => ?_; (repeat clear hz_); clear c st'
    have hi := q.1; have hj := q.2.1; have hxo := q.2.2; clear q
    refine wpS_bind (wpS_mono (wpS_forRange (I := fun y c st' => LpL κ a b st (x + 1 + y) c st')
      (Q := fun c st' => Dn κ a b st c st' ∨ LpL κ a b st (x + 2) c st') ?s1 ?f1 ?i1) ?p1)
    case i1 => exact ⟨o, i, j, (0, 0), g, M, by omega⟩
    case f1 =>
      intro c st' hz_
      refine LpL.on2 hz_ fun o i j ac bc g M q => ?_; (repeat clear hz_); clear c st'
      omega
    case s1 =>
      intro y c st' _ hy hz_
      refine LpL.on2 hz_ fun o i j ac bc g M q => ?_; (repeat clear hz_); clear c st'
      have hi := q.1; have hj := q.2.1; have hyo := q.2.2; clear q
      dsimp only
      have pb := gb.p (i := j) (by omega)
      have pa := ga.p (i := i) (by omega)
      refine elem_bind pb.1 (elem_bind pa.1 (wpS_bind (lt_ok (st := setGal st g) C hk pb.2 pa.2 ?_)))
      cases cw : κ.blt (KK κ b j) (KK κ a i) with
      | true =>
        dsimp only
        first | refine wpS_pos rfl ?_ | rw [if_pos rfl]
        refine elem_bind pb.1 ?_
        have M2 : MI κ a.toList b.toList (o.push b.toList[j]).toList i (j + 1) := by
          rw [Array.toList_push]
          exact M.stepB hB (by omega) (allD (by omega) sa fun _ => KeyOrd.kle_of_klt cw)
        by_cases c3 : (j + 1 == b.size) = true
        · first | refine wpS_pos c3 ?_ | rw [if_pos c3]
          exact wpS_pure (.inl ⟨_, _, _, dn M2 (.inl (by have : j + 1 = b.size := (by simpa using c3); omega))⟩)
        first | refine wpS_neg c3 ?_ | rw [if_neg c3]
        have c3' : j + 1 ≠ b.size := by simpa using c3
        split
        · exact wpS_pure (.inr ⟨_, _, _, _, _, M2, by omega⟩)
        · exact wpS_pure ⟨_, _, _, _, _, M2, by omega⟩
      | false =>
        dsimp only
        first | refine wpS_neg (by simp) ?_ | rw [if_neg (by simp)]
        refine elem_bind pa.1 ?_
        have M2 : MI κ a.toList b.toList (o.push a.toList[i]).toList (i + 1) j := by
          rw [Array.toList_push]
          exact M.stepA hA (by omega) (allD (by omega) sb fun _ => cw)
        by_cases c3 : (i + 1 + 1 == a.size) = true
        · first | refine wpS_pos c3 ?_ | rw [if_pos c3]
          exact wpS_pure (.inl ⟨_, _, _, lst M2 (by simpa using c3)⟩)
        first | refine wpS_neg c3 ?_ | rw [if_neg c3]
        have c3' : i + 1 + 1 ≠ a.size := by simpa using c3
        split
        · exact wpS_pure (.inr ⟨_, _, _, _, _, M2, by omega⟩)
        · exact wpS_pure ⟨_, _, _, _, _, M2, by omega⟩
    case p1 =>
      intro c st' hz_
      refine Or.elim hz_ (fun hz_ => ?_) fun hz_ => ?_
      · refine Dn.on hz_ fun g m r hR => ?_; (repeat clear hz_); clear c st'
        exact wpS_pure ⟨g, m, _, hR⟩
      refine LpL.on2 hz_ fun o i j ac bc g M q => ?_; (repeat clear hz_); clear c st'
      have hi := q.1; have hj := q.2.1; have hxo2 := q.2.2; clear q
      refine wpS_bind (wpS_lift (wpAny_rule ⟨rfl, ?_⟩))
      refine wpS_bind (wpS_mono (wpS_forRange (I := fun y c st' => LpL κ a b st (x + 2) c st')
        (Q := fun c st' => Dn κ a b st c st' ∨ LpL κ a b st (x + 2) c st') ?s2 ?f2 ?i2) ?p2)
      case i2 => exact ⟨o, i, j, (_, _, _), g, M, hi, hj, hxo2⟩
      case f2 =>
        rintro c st' hh
        exact .inr hh
      case p2 =>
        intro c st' hz_
        refine Or.elim hz_ (fun hz_ => ?_) fun hz_ => ?_
        · refine Dn.on hz_ fun g m r hR => ?_; (repeat clear hz_); clear c st'
          exact wpS_pure ⟨g, m, _, hR⟩
        refine LpL.on3 hz_ fun o i j mg ac bc g M q => ?_; (repeat clear hz_); clear c st'
        have hi := q.1; have hj := q.2.1; have hxo3 := q.2.2; clear q
        · exact setGal_bind (wpS_pure ⟨o, i, j, _, _, M, by omega⟩)
      case s2 =>
        intro y c st' _ hy hz_
        refine LpL.on3 hz_ fun o i j mg ac bc g M q => ?_; (repeat clear hz_); clear c st'
        have hi := q.1; have hj := q.2.1; have hyo := q.2.2; clear q
        dsimp only
        have pb := gb.p (i := j) (by omega)
        revert mg
        refine wpS_iteK ?htt fun mg' => ?_
        case htt => intro n; rfl
        try dsimp only
        all_goals
          refine setGal_bind (elem_bind pb.1 (wpS_bind (gallop_ok C (by exact hk) ga pb.2 (base := i) (n := a.size - i) (hint := 0) (by omega) (by omega) false (bey_mono fun u v h1 h2 h3 => sa u v h2 (by omega)) fun k hk1 hk2 hk3 => ?_)))
          dsimp only
          have Mk : MI κ a.toList b.toList (o ++ a.extract i (i + k)).toList (i + k) j := by
            rw [Array.toList_append, ex_take]
            refine M.chunkA hA k (by omega) fun t ht h1 h2 => allD (by omega) sb fun _ => ?_
            have := beyF (hk2 (t - i) (by omega))
            rwa [show i + (t - i) = t by omega] at this
          have hb' : i + k < a.size → ∀ y ∈ a.toList.drop (i + k), le κ b.toList[j] y := fun hlt => allD (by omega) sa fun _ => KeyOrd.kle_of_klt (beyF' (hk3 k (Nat.le_refl _) (by omega)))
          by_cases ck : k > 0
          case' pos =>
            first | refine wpS_pos ck ?_ | rw [if_pos ck]
            by_cases c3 : (i + k + 1 == a.size) = true
            · first | refine wpS_pos c3 ?_ | rw [if_pos c3]
              exact wpS_pure (.inl ⟨_, _, _, lst Mk (by simpa using c3)⟩)
            first | refine wpS_neg c3 ?_ | rw [if_neg c3]
            have c3' : i + k + 1 ≠ a.size := by simpa using c3
            by_cases c4 : (i + k == a.size) = true
            · first | refine wpS_pos c4 ?_ | rw [if_pos c4]
              exact wpS_pure (.inl ⟨_, _, _, dn Mk (.inr (by have : i + k = a.size := (by simpa using c4); omega))⟩)
            first | refine wpS_neg c4 ?_ | rw [if_neg c4]
            have c4' : i + k ≠ a.size := by simpa using c4
            have M' := Mk
            have hi' : i + k + 1 < a.size := by omega
            have hxo' : x + 2 ≤ i + k + j := by omega
            have hb' := hb' (by omega)
            clear M Mk hi hyo hk1 hk2 hk3 c3 c3' c4 c4'
            generalize o ++ a.extract i (i + k) = o' at M' ⊢
            generalize i + k = i' at M' hi' hxo' hb' ⊢
          case' neg =>
            first | refine wpS_neg ck ?_ | rw [if_neg ck]
            have k0 : k = 0 := by omega
            subst k0
            have M' := M
            have hi' := hi
            have hxo' := hyo
            have hb' := hb' (by omega)
            clear M Mk hi hyo hk1 hk2 hk3
            rw [Nat.add_zero] at hb'
            generalize o = o' at M' ⊢
            generalize i = i' at M' hi' hxo' hb' ⊢
          all_goals
            refine elem_bind pb.1 ?_
            have M3 : MI κ a.toList b.toList (o'.push b.toList[j]).toList i' (j + 1) := by
              rw [Array.toList_push]
              exact M'.stepB hB (by omega) hb'
            by_cases c5 : (j + 1 == b.size) = true
            · first | refine wpS_pos c5 ?_ | rw [if_pos c5]
              exact wpS_pure (.inl ⟨_, _, _, dn M3 (.inl (by have : j + 1 = b.size := (by simpa using c5); omega))⟩)
            first | refine wpS_neg c5 ?_ | rw [if_neg c5]
            have c5' : j + 1 ≠ b.size := by simpa using c5
            have pa := ga.p (i := i') (by omega)
            refine elem_bind pa.1 (wpS_bind (gallop_ok C (by exact hk) gb pa.2 (base := j + 1) (n := b.size - (j + 1)) (hint := 0) (by omega) (by omega) true (bey_mono fun u v h1 h2 h3 => sb u v h2 (by omega)) fun k2 kk1 kk2 kk3 => ?_))
            dsimp only
            have Mk2 : MI κ a.toList b.toList (o'.push b.toList[j] ++ b.extract (j + 1) (j + 1 + k2)).toList i' (j + 1 + k2) := by
              rw [Array.toList_append, ex_take]
              refine M3.chunkB hB k2 (by omega) fun t ht h1 h2 => allD (by omega) sa fun _ => ?_
              have := KeyOrd.kle_of_klt (beyT (kk2 (t - (j + 1)) (by omega)))
              rwa [show j + 1 + (t - (j + 1)) = t by omega] at this
            have ha' : ∀ y ∈ b.toList.drop (j + 1 + k2), le κ a.toList[i'] y := by
              by_cases hz : j + 1 + k2 < b.size
              · exact allD (by omega) sb fun _ => beyT' (kk3 k2 (Nat.le_refl _) (by omega))
              · intro y hy
                rw [List.drop_of_length_le (by omega)] at hy; cases hy
            by_cases ck2 : k2 > 0
            case' pos =>
              first | refine wpS_pos ck2 ?_ | rw [if_pos ck2]
              by_cases c6 : (j + 1 + k2 == b.size) = true
              · first | refine wpS_pos c6 ?_ | rw [if_pos c6]
                exact wpS_pure (.inl ⟨_, _, _, dn Mk2 (.inl (by have : j + 1 + k2 = b.size := (by simpa using c6); omega))⟩)
              first | refine wpS_neg c6 ?_ | rw [if_neg c6]
              have c6' : j + 1 + k2 ≠ b.size := by simpa using c6
              have M4 := Mk2
              have hj' : j + 1 + k2 < b.size := by omega
              have hxo4 : x + 2 ≤ i' + (j + 1 + k2) := by omega
              clear M3 Mk2 kk1 kk2 kk3 c6 c6'
              generalize o'.push b.toList[j] ++ b.extract (j + 1) (j + 1 + k2) = o4 at M4 ⊢
              generalize j + 1 + k2 = j4 at M4 hj' hxo4 ha' ⊢
            case' neg =>
              first | refine wpS_neg ck2 ?_ | rw [if_neg ck2]
              have k0 : k2 = 0 := by omega
              subst k0
              have M4 := M3
              have hj' : j + 1 < b.size := by omega
              have hxo4 : x + 2 ≤ i' + (j + 1) := by omega
              clear M3 Mk2 kk1 kk2 kk3
              rw [Nat.add_zero] at ha'
              generalize o'.push b.toList[j] = o4 at M4 ⊢
              generalize j + 1 = j4 at M4 hj' hxo4 ha' ⊢
            all_goals
              refine elem_bind pa.1 ?_
              have M5 : MI κ a.toList b.toList (o4.push a.toList[i']).toList (i' + 1) j4 := by
                rw [Array.toList_push]
                exact M4.stepA hA (by omega) ha'
              by_cases c7 : (i' + 1 + 1 == a.size) = true
              · first | refine wpS_pos c7 ?_ | rw [if_pos c7]
                exact wpS_pure (.inl ⟨_, _, _, lst M5 (by simpa using c7)⟩)
              first | refine wpS_neg c7 ?_ | rw [if_neg c7]
              have c7' : i' + 1 + 1 ≠ a.size := by simpa using c7
              split
              · exact wpS_pure (.inr ⟨_, _, _, _, _, M5, by omega⟩)
              · exact wpS_pure ⟨_, _, _, _, _, M5, by omega⟩
end
end Tim

namespace Tim
open PySem PyProof.Rows
section
variable {κ : KeyKind} {A B R : List Keyed} {i j : Nat}
theorem MH.downA (M : MH κ A B R i j) (hA : A.Pairwise (le κ)) (h0 : 0 < i) (hi : i - 1 < A.length) (h : ∀ x ∈ B.take j, le κ x A[i - 1]) : MH κ A B (A[i - 1] :: R) (i - 1) j :=
  MH.stepA (i := i - 1) (by rw [Nat.sub_add_cancel h0]; exact M) hA hi h
theorem MH.downB (M : MH κ A B R i j) (hB : B.Pairwise (le κ)) (h0 : 0 < j) (hj : j - 1 < B.length) (h : ∀ x ∈ A.take i, le κ x B[j - 1]) : MH κ A B (B[j - 1] :: R) i (j - 1) :=
  MH.stepB (j := j - 1) (by rw [Nat.sub_add_cancel h0]; exact M) hB hj h
theorem MH.manyA (M : MH κ A B R i j) (hA : A.Pairwise (le κ)) {m : Nat} (hm : m ≤ i) (hi : i ≤ A.length) (h : ∀ t (ht : t < A.length), m ≤ t → t < i → ∀ x ∈ B.take j, le κ x A[t]) : MH κ A B ((A.drop m).take (i - m) ++ R) m j :=
  MH.chunkA hA (i - m) (by omega) (by rw [show m + (i - m) = i by omega]; exact M) fun t ht h1 h2 => h t ht h1 (by omega)
theorem MH.manyB (M : MH κ A B R i j) (hB : B.Pairwise (le κ)) {m : Nat} (hm : m ≤ j) (hj : j ≤ B.length) (h : ∀ t (ht : t < B.length), m ≤ t → t < j → ∀ x ∈ A.take i, le κ x B[t]) : MH κ A B ((B.drop m).take (j - m) ++ R) i m :=
  MH.chunkB hB (j - m) (by omega) (by rw [show m + (j - m) = j by omega]; exact M) fun t ht h1 h2 => h t ht h1 (by omega)
end
section
variable {prog : Program} {w : World} {A : Around} {E : Value → Shared → Prop} {s : Shared} {κ : KeyKind} {kd : SortKind}
inductive LpH (κ : KeyKind) (a b : Array Keyed) (st : SortSt) (n : Nat) {ρ : Type} : Option (Array Keyed) × Nat × Nat × Array Keyed × ρ → SortSt → Prop
  | mk (i j : Nat) (o : Array Keyed) (r : ρ) (g : Nat) (M : MH κ a.toList b.toList o.toList.reverse i j) (q : 0 < i ∧ 1 < j ∧ i ≤ a.size ∧ j ≤ b.size ∧ i + j + n ≤ a.size + b.size) : LpH κ a b st n (none, i, j, o, r) (setGal st g)
@[elab_as_elim] theorem LpH.on {κ : KeyKind} {a b : Array Keyed} {st : SortSt} {n : Nat} {ρ : Type} {P : Option (Array Keyed) × Nat × Nat × Array Keyed × ρ → SortSt → Prop} {c : Option (Array Keyed) × Nat × Nat × Array Keyed × ρ} {st' : SortSt} (h : LpH κ a b st n c st') (k : ∀ (i : Nat) (j : Nat) (o : Array Keyed) (r : ρ) (g : Nat), MH κ a.toList b.toList o.toList.reverse i j → (0 < i ∧ 1 < j ∧ i ≤ a.size ∧ j ≤ b.size ∧ i + j + n ≤ a.size + b.size) → P (none, i, j, o, r) (setGal st g)) : P c st' := by
  cases h with
  | mk i j o r g M q => exact k i j o r g M q
@[elab_as_elim] theorem LpH.on2 {κ : KeyKind} {a b : Array Keyed} {st : SortSt} {n : Nat} {P : Option (Array Keyed) × Nat × Nat × Array Keyed × Nat × Nat → SortSt → Prop} {c : Option (Array Keyed) × Nat × Nat × Array Keyed × Nat × Nat} {st' : SortSt} (h : LpH κ a b st n c st') (k : ∀ (i : Nat) (j : Nat) (o : Array Keyed) (x : Nat) (y : Nat) (g : Nat), MH κ a.toList b.toList o.toList.reverse i j → (0 < i ∧ 1 < j ∧ i ≤ a.size ∧ j ≤ b.size ∧ i + j + n ≤ a.size + b.size) → P (none, i, j, o, x, y) (setGal st g)) : P c st' := by
  cases h with
  | mk i j o r g M q => exact k i j o r.1 r.2 g M q
@[elab_as_elim] theorem LpH.on3 {κ : KeyKind} {a b : Array Keyed} {st : SortSt} {n : Nat} {P : Option (Array Keyed) × Nat × Nat × Array Keyed × Nat × Nat × Nat → SortSt → Prop} {c : Option (Array Keyed) × Nat × Nat × Array Keyed × Nat × Nat × Nat} {st' : SortSt} (h : LpH κ a b st n c st') (k : ∀ (i : Nat) (j : Nat) (o : Array Keyed) (x : Nat) (y : Nat) (z : Nat) (g : Nat), MH κ a.toList b.toList o.toList.reverse i j → (0 < i ∧ 1 < j ∧ i ≤ a.size ∧ j ≤ b.size ∧ i + j + n ≤ a.size + b.size) → P (none, i, j, o, x, y, z) (setGal st g)) : P c st' := by
  cases h with
  | mk i j o r g M q => exact k i j o r.1 r.2.1 r.2.2 g M q
theorem push_rev (o : Array Keyed) (p : Keyed) : (o.push p).toList.reverse = p :: o.toList.reverse := by
  rw [Array.toList_push, List.reverse_append]; rfl
theorem app_rev (o z : Array Keyed) : (o ++ z.reverse).toList.reverse = z.toList ++ o.toList.reverse := by
  rw [Array.toList_append, List.reverse_append, Array.toList_reverse, List.reverse_reverse]
set_option maxHeartbeats 4000000 in
theorem mergeHi_ok (C : CmpOk prog w A s κ kd) {st : SortSt} (hk : kindOf st = kd) {a b : Array Keyed} (ga : Good κ a) (gb : Good κ b) (sa : SortedToK κ a a.size) (sb : SortedToK κ b b.size) (na : 0 < a.size) (nb : 0 < b.size)
    (hfirst : κ.kle (KK κ b 0) (KK κ a 0)) (hlast : ∀ j, j < b.size → κ.kle (KK κ b j) (KK κ a (a.size - 1))) {Q : Array Keyed → SortSt → Prop}
    (h : ∀ m g, Res κ a.toList b.toList m.toList → Q m (setGal st g)) : wpS (model prog w) A E s (mergeHi' a b) Q st := by
  have hA := srt_pw sa
  have hB := srt_pw sb
  have lA : a.toList.length = a.size := Array.length_toList
  have lB : b.toList.length = b.size := Array.length_toList
  have dn : ∀ {o : Array Keyed} {i j : Nat}, MH κ a.toList b.toList o.toList.reverse i j → (i = 0 ∨ j = 0) → Res κ a.toList b.toList (a.extract 0 i ++ b.extract 0 j ++ o.reverse).toList := fun {o i j} M hj => by
    rw [Array.toList_append, Array.toList_append, ex_pre, ex_pre, Array.toList_reverse]
    refine M.finAB hA hB fun x hx y hy => ?_
    obtain hj | hj := hj
    · subst hj; rw [List.take_zero] at hx; cases hx
    · subst hj; rw [List.take_zero] at hy; cases hy
  have fst : ∀ {o : Array Keyed} {i j : Nat}, MH κ a.toList b.toList o.toList.reverse i j → j = 1 → Res κ a.toList b.toList (b.extract 0 j ++ a.extract 0 i ++ o.reverse).toList := fun {o i j} M hj => by
    rw [Array.toList_append, Array.toList_append, ex_pre, ex_pre, Array.toList_reverse]
    refine M.finBA hA hB fun x hx y hy => ?_
    subst hj
    obtain ⟨t, ht, e⟩ := List.mem_iff_getElem.mp hx
    rw [List.getElem_take] at e
    rw [List.length_take] at ht
    have t0 : t = 0 := by omega
    subst t0
    rw [← e]
    exact allD (i := 0) (j := 0) (by omega) sa (fun _ => hfirst) y (by rw [List.drop_zero]; exact List.mem_of_mem_take hy)
  have M1 : MH κ a.toList b.toList [a.toList[a.size - 1]] (a.size - 1) b.size := by
    have M0 : MH κ a.toList b.toList [] a.size b.size := ⟨by rw [List.drop_of_length_le (by omega), List.drop_of_length_le (by omega)]; exact List.Perm.refl _, List.Pairwise.nil, (fun x _ y hy => by cases hy), (fun x _ y hy => by cases hy)⟩
    exact M0.downA hA na (by omega) (allT (by omega) sb (Nat.le_refl _) fun _ => hlast _ (by omega))
  refine wpS_bind (wpS_lift (wpAny_rule ⟨rfl, ?_⟩))
  refine elem_bind (ga.p (i := a.size - 1) (by omega)).1 ?_
  dsimp only
  by_cases c1 : (a.size - 1 == 0) = true
  · first | refine wpS_pos c1 ?_ | rw [if_pos c1]
    exact wpS_pure (h _ (gallopOf st) (dn (o := #[a.toList[a.size - 1]]) M1 (.inl (by simpa using c1))))
  first | refine wpS_neg c1 ?_ | rw [if_neg c1]
  have c1' : a.size - 1 ≠ 0 := by simpa using c1
  by_cases c2 : (b.size == 1) = true
  · first | refine wpS_pos c2 ?_ | rw [if_pos c2]
    exact wpS_pure (h _ (gallopOf st) (fst (o := #[a.toList[a.size - 1]]) M1 (by simpa using c2)))
  first | refine wpS_neg c2 ?_ | rw [if_neg c2]
  have c2' : b.size ≠ 1 := by simpa using c2
  refine wpS_bind (wpS_get ?_)
  refine wpS_bind (wpS_mono (wpS_forRange (I := fun x c st' => LpH κ a b st (x + 1) c st')
    (Q := fun c st' => Dn κ a b st c st') ?step ?fin ?init) ?post)
  case init => exact ⟨_, _, #[a.toList[a.size - 1]], _, gallopOf st, M1, by omega⟩
  case fin =>
    intro c st' hz_
    refine LpH.on hz_ fun i j o mg g M q => ?_; (repeat clear hz_); clear c st'
    omega
  case post =>
    intro c st' hz_
    refine Dn.on hz_ fun g m r hR => ?_; (repeat clear hz_); clear c st'
    exact wpS_pure (h m g hR)
  case step =>
    clear c1 c1' c2 c2'
    intro x c st' _ hx hz_
    refine LpH.on hz_ fun i j o mg g M q => ?_; (repeat clear hz_); clear c st'
    have hi := q.1; have hj := q.2.1; have hia := q.2.2.1; have hjb := q.2.2.2.1; have hxo := q.2.2.2.2; clear q
    refine wpS_bind (wpS_mono (wpS_forRange (I := fun y c st' => LpH κ a b st (x + y + 1) c st')
      (Q := fun c st' => Dn κ a b st c st' ∨ LpH κ a b st (x + 2) c st') ?s1 ?f1 ?i1) ?p1)
    case i1 => exact ⟨i, j, o, (0, 0), g, M, by omega⟩
    case f1 =>
      intro c st' hz_
      refine LpH.on2 hz_ fun i j o ac bc g M q => ?_; (repeat clear hz_); clear c st'
      omega
    case s1 =>
      intro y c st' _ hy hz_
      refine LpH.on2 hz_ fun i j o ac bc g M q => ?_; (repeat clear hz_); clear c st'
      have hi := q.1; have hj := q.2.1; have hia := q.2.2.1; have hjb := q.2.2.2.1; have hyo := q.2.2.2.2; clear q
      dsimp only
      have pb := gb.p (i := j - 1) (by omega)
      have pa := ga.p (i := i - 1) (by omega)
      refine elem_bind pb.1 (elem_bind pa.1 (wpS_bind (lt_ok (st := setGal st g) C hk pb.2 pa.2 ?_)))
      cases cw : κ.blt (KK κ b (j - 1)) (KK κ a (i - 1)) with
      | true =>
        dsimp only
        first | refine wpS_pos rfl ?_ | rw [if_pos rfl]
        refine elem_bind pa.1 ?_
        have M2 : MH κ a.toList b.toList (o.push a.toList[i - 1]).toList.reverse (i - 1) j := by
          rw [push_rev]
          exact M.downA hA hi (by omega) (allT (by omega) sb hjb fun _ => KeyOrd.kle_of_klt cw)
        by_cases c3 : (i - 1 == 0) = true
        · first | refine wpS_pos c3 ?_ | rw [if_pos c3]
          exact wpS_pure (.inl ⟨_, _, _, dn M2 (.inl (by simpa using c3))⟩)
        first | refine wpS_neg c3 ?_ | rw [if_neg c3]
        have c3' : i - 1 ≠ 0 := by simpa using c3
        split
        · exact wpS_pure (.inr ⟨_, _, _, _, _, M2, by omega⟩)
        · exact wpS_pure ⟨_, _, _, _, _, M2, by omega⟩
      | false =>
        dsimp only
        first | refine wpS_neg (by simp) ?_ | rw [if_neg (by simp)]
        refine elem_bind pb.1 ?_
        have M2 : MH κ a.toList b.toList (o.push b.toList[j - 1]).toList.reverse i (j - 1) := by
          rw [push_rev]
          exact M.downB hB (by omega) (by omega) (allT (by omega) sa hia fun _ => cw)
        by_cases c3 : (j - 1 == 1) = true
        · first | refine wpS_pos c3 ?_ | rw [if_pos c3]
          exact wpS_pure (.inl ⟨_, _, _, fst M2 (by simpa using c3)⟩)
        first | refine wpS_neg c3 ?_ | rw [if_neg c3]
        have c3' : j - 1 ≠ 1 := by simpa using c3
        split
        · exact wpS_pure (.inr ⟨_, _, _, _, _, M2, by omega⟩)
        · exact wpS_pure ⟨_, _, _, _, _, M2, by omega⟩
    case p1 =>
      intro c st' hz_
      refine Or.elim hz_ (fun hz_ => ?_) fun hz_ => ?_
      · refine Dn.on hz_ fun g m r hR => ?_; (repeat clear hz_); clear c st'
        exact wpS_pure ⟨g, m, _, hR⟩
      refine LpH.on2 hz_ fun i j o ac bc g M q => ?_; (repeat clear hz_); clear c st'
      have hi := q.1; have hj := q.2.1; have hia := q.2.2.1; have hjb := q.2.2.2.1; have hxo2 := q.2.2.2.2; clear q
      refine wpS_bind (wpS_lift (wpAny_rule ⟨rfl, ?_⟩))
      refine wpS_bind (wpS_mono (wpS_forRange (I := fun y c st' => LpH κ a b st (x + 2) c st')
        (Q := fun c st' => Dn κ a b st c st' ∨ LpH κ a b st (x + 2) c st') ?s2 ?f2 ?i2) ?p2)
      case i2 => exact ⟨i, j, o, (_, _, _), g, M, hi, hj, hia, hjb, hxo2⟩
      case f2 =>
        rintro c st' hh
        exact .inr hh
      case p2 =>
        intro c st' hz_
        refine Or.elim hz_ (fun hz_ => ?_) fun hz_ => ?_
        · refine Dn.on hz_ fun g m r hR => ?_; (repeat clear hz_); clear c st'
          exact wpS_pure ⟨g, m, _, hR⟩
        refine LpH.on3 hz_ fun i j o mg ac bc g M q => ?_; (repeat clear hz_); clear c st'
        have hi := q.1; have hj := q.2.1; have hia := q.2.2.1; have hjb := q.2.2.2.1; have hxo3 := q.2.2.2.2; clear q
        · exact setGal_bind (wpS_pure ⟨i, j, o, _, _, M, by omega⟩)
      case s2 =>
        intro y c st' _ hy hz_
        refine LpH.on3 hz_ fun i j o mg ac bc g M q => ?_; (repeat clear hz_); clear c st'
        have hi := q.1; have hj := q.2.1; have hia := q.2.2.1; have hjb := q.2.2.2.1; have hyo := q.2.2.2.2; clear q
        have hjl : j - 1 < b.toList.length := by omega
        dsimp only
        have pb := gb.p (i := j - 1) (by omega)
        revert mg
        refine wpS_iteK ?htt fun mg' => ?_
        case htt => intro n; rfl
        try dsimp only
        all_goals
          refine setGal_bind (elem_bind pb.1 (wpS_bind (gallop_ok C (by exact hk) ga pb.2 (base := 0) (n := i) (hint := i - 1) (by omega) (by omega) false (bey_mono fun u v h1 h2 h3 => sa u v h2 (by omega)) fun k hk1 hk2 hk3 => ?_)))
          dsimp only
          have Mk : MH κ a.toList b.toList (o ++ (a.extract k i).reverse).toList.reverse k j := by
            rw [app_rev, ex_mid _ hk1]
            refine M.manyA hA hk1 (by omega) fun t ht h1 h2 => allT (by omega) sb hjb fun _ => ?_
            have := KeyOrd.kle_of_klt (beyF' (hk3 t h1 h2))
            rwa [Nat.zero_add] at this
          have hb' : ∀ x ∈ a.toList.take k, le κ x b.toList[j - 1] := allT (by omega) sa (by omega) fun h0 => by
            have := beyF (hk2 (k - 1) (by omega))
            rwa [Nat.zero_add] at this
          by_cases ck : i - k > 0
          case' pos =>
            first | refine wpS_pos ck ?_ | rw [if_pos ck]
            by_cases c3 : (k == 0) = true
            · first | refine wpS_pos c3 ?_ | rw [if_pos c3]
              exact wpS_pure (.inl ⟨_, _, _, dn Mk (.inl (by simpa using c3))⟩)
            first | refine wpS_neg c3 ?_ | rw [if_neg c3]
            have c3' : k ≠ 0 := by simpa using c3
            have M' := Mk
            have hi' : 0 < k := by omega
            have hia' : k ≤ a.size := by omega
            have hxo' : k + j + x + 2 ≤ a.size + b.size := by omega
            generalize hce : i - k = ce
            clear M Mk hi hyo hk1 hk2 hk3 c3 c3'
            generalize o ++ (a.extract k i).reverse = o' at M' ⊢
            generalize k = i' at M' hi' hxo' hb' hia' ⊢
          case' neg =>
            first | refine wpS_neg ck ?_ | rw [if_neg ck]
            have k0 : k = i := by omega
            subst k0
            have M' := M
            have hi' := hi
            have hia' := hia
            have hxo' := hyo
            generalize hce : k - k = ce
            clear M Mk hi hyo hk1 hk2 hk3
            generalize o = o' at M' ⊢
            generalize k = i' at M' hi' hxo' hb' hia' ⊢
          all_goals
            refine elem_bind pb.1 ?_
            have M3 : MH κ a.toList b.toList (o'.push b.toList[j - 1]).toList.reverse i' (j - 1) := by
              rw [push_rev]
              exact M'.downB hB (by omega) (by omega) hb'
            by_cases c5 : (j - 1 == 1) = true
            · first | refine wpS_pos c5 ?_ | rw [if_pos c5]
              exact wpS_pure (.inl ⟨_, _, _, fst M3 (by simpa using c5)⟩)
            first | refine wpS_neg c5 ?_ | rw [if_neg c5]
            have c5' : j - 1 ≠ 1 := by simpa using c5
            have pa := ga.p (i := i' - 1) (by omega)
            refine elem_bind pa.1 (wpS_bind (gallop_ok C (by exact hk) gb pa.2 (base := 0) (n := j - 1) (hint := j - 1 - 1) (by omega) (by omega) true (bey_mono fun u v h1 h2 h3 => sb u v h2 (by omega)) fun k2 kk1 kk2 kk3 => ?_))
            dsimp only
            have Mk2 : MH κ a.toList b.toList (o'.push b.toList[j - 1] ++ (b.extract k2 (j - 1)).reverse).toList.reverse i' k2 := by
              rw [app_rev, ex_mid _ kk1]
              refine M3.manyB hB kk1 (by omega) fun t ht h1 h2 => allT (by omega) sa hia' fun _ => ?_
              have := beyT' (kk3 t h1 h2)
              rwa [Nat.zero_add] at this
            have ha' : ∀ x ∈ b.toList.take k2, le κ x a.toList[i' - 1] := allT (by omega) sb (by omega) fun h0 => by
              have := KeyOrd.kle_of_klt (beyT (kk2 (k2 - 1) (by omega)))
              rwa [Nat.zero_add] at this
            by_cases ck2 : j - 1 - k2 > 0
            case' pos =>
              first | refine wpS_pos ck2 ?_ | rw [if_pos ck2]
              by_cases c6 : (k2 == 1) = true
              · first | refine wpS_pos c6 ?_ | rw [if_pos c6]
                exact wpS_pure (.inl ⟨_, _, _, fst Mk2 (by simpa using c6)⟩)
              first | refine wpS_neg c6 ?_ | rw [if_neg c6]
              by_cases c8 : (k2 == 0) = true
              · first | refine wpS_pos c8 ?_ | rw [if_pos c8]
                exact wpS_pure (.inl ⟨_, _, _, dn Mk2 (.inr (by simpa using c8))⟩)
              first | refine wpS_neg c8 ?_ | rw [if_neg c8]
              have c6' : k2 ≠ 1 := by simpa using c6
              have c8' : k2 ≠ 0 := by simpa using c8
              have M4 := Mk2
              have hj' : 1 < k2 := by omega
              have hjb' : k2 ≤ b.size := by omega
              have hxo4 : i' + k2 + x + 2 ≤ a.size + b.size := by omega
              generalize hce2 : j - 1 - k2 = ce2
              clear M3 Mk2 kk1 kk2 kk3 c6 c6' c8 c8'
              generalize o'.push b.toList[j - 1] ++ (b.extract k2 (j - 1)).reverse = o4 at M4 ⊢
              generalize k2 = j4 at M4 hj' hxo4 ha' hjb' ⊢
            case' neg =>
              first | refine wpS_neg ck2 ?_ | rw [if_neg ck2]
              have k0 : k2 = j - 1 := by omega
              subst k0
              have M4 := M3
              have hj' : 1 < j - 1 := by omega
              have hjb' : j - 1 ≤ b.size := by omega
              have hxo4 : i' + (j - 1) + x + 2 ≤ a.size + b.size := by omega
              generalize hce2 : j - 1 - (j - 1) = ce2
              clear M3 Mk2 kk1 kk2 kk3
              generalize o'.push b.toList[j - 1] = o4 at M4 ⊢
              generalize j - 1 = j4 at M4 hj' hxo4 ha' hjb' ⊢
            all_goals
              refine elem_bind pa.1 ?_
              have M5 : MH κ a.toList b.toList (o4.push a.toList[i' - 1]).toList.reverse (i' - 1) j4 := by
                rw [push_rev]
                exact M4.downA hA hi' (by omega) ha'
              by_cases c7 : (i' - 1 == 0) = true
              · first | refine wpS_pos c7 ?_ | rw [if_pos c7]
                exact wpS_pure (.inl ⟨_, _, _, dn M5 (.inl (by simpa using c7))⟩)
              first | refine wpS_neg c7 ?_ | rw [if_neg c7]
              have c7' : i' - 1 ≠ 0 := by simpa using c7
              split
              · exact wpS_pure (.inr ⟨_, _, _, _, _, M5, by omega⟩)
              · exact wpS_pure ⟨_, _, _, _, _, M5, by omega⟩
end
end Tim

namespace Tim
open PySem PyProof.Rows
section
variable {κ : KeyKind}
noncomputable def Ri (κ : KeyKind) (zs : Array Keyed) (lo hi : Nat) : Prop := ∀ u v, lo ≤ u → u ≤ v → v < hi → κ.kle (KK κ zs u) (KK κ zs v)
theorem KK_ex {zs : Array Keyed} {m n t : Nat} (hn : n ≤ zs.size) (ht : m + t < n) : KK κ (zs.extract m n) t = KK κ zs (m + t) := by
  refine KK_congr ?_
  rw [Array.getElem?_extract]
  rw [if_pos (by omega)]
theorem put_all (c : Nat) : ∀ (M : List Keyed) (n : Nat) (zs : Array Keyed), c + n + M.length ≤ zs.size → ∀ t : Nat,
    ((M.zipIdx n).foldl (fun a x => match x with | (p, j) => a.setIfInBounds (c + j) p) zs)[t]? = if c + n ≤ t ∧ t < c + n + M.length then M[t - (c + n)]? else zs[t]?
  | [], n, zs, _, t => by
    rw [List.zipIdx_nil, List.foldl_nil, if_neg (by simp only [List.length_nil]; omega)]
  | p :: r, n, zs, hz, t => by
    rw [List.length_cons] at hz
    rw [List.zipIdx_cons, List.foldl_cons]
    have ih := put_all c r (n + 1) (zs.setIfInBounds (c + n) p) (by rw [Array.size_setIfInBounds]; omega) t
    refine ih.trans ?_
    rw [Array.getElem?_setIfInBounds, List.length_cons]
    by_cases h1 : c + (n + 1) ≤ t ∧ t < c + (n + 1) + r.length
    · rw [if_pos h1, if_pos (by omega), show t - (c + n) = (t - (c + (n + 1))) + 1 by omega, List.getElem?_cons_succ]
    · first | refine wpS_neg h1 ?_ | rw [if_neg h1]
      by_cases h2 : c + n = t
      · rw [if_pos h2, if_pos (by omega), if_pos (by omega), show t - (c + n) = 0 by omega, List.getElem?_cons_zero]
      · rw [if_neg h2, if_neg (by omega)]
theorem put_list {c : Nat} {M : List Keyed} {zs : Array Keyed} (h : c + M.length ≤ zs.size) : (M.zipIdx.foldl (fun a x => match x with | (p, j) => a.setIfInBounds (c + j) p) zs).toList = zs.toList.take c ++ (M ++ zs.toList.drop (c + M.length)) := by
  apply List.ext_getElem?
  intro t
  rw [Array.getElem?_toList, put_all c M 0 zs (by omega) t]
  have lz : zs.toList.length = zs.size := Array.length_toList
  by_cases h1 : t < c
  · rw [if_neg (by omega), List.getElem?_append_left (by rw [List.length_take]; omega), List.getElem?_take_of_lt h1, Array.getElem?_toList]
  · rw [List.getElem?_append_right (by rw [List.length_take]; omega), List.length_take, Nat.min_eq_left (by omega)]
    by_cases h2 : t < c + M.length
    · rw [if_pos (by omega), List.getElem?_append_left (by omega), Nat.add_zero]
    · rw [if_neg (by omega), List.getElem?_append_right (by omega), List.getElem?_drop, Array.getElem?_toList]
      congr 1; omega
theorem split3 (L : List Keyed) (c n : Nat) : L = L.take c ++ ((L.drop c).take n ++ L.drop (c + n)) := by
  have e : (L.drop c).drop n = L.drop (c + n) := List.drop_drop
  rw [← e, List.take_append_drop, List.take_append_drop]
noncomputable abbrev Rn := Nat × Nat × Nat
noncomputable def Runs (κ : KeyKind) (zs : Array Keyed) : List Rn → Nat → Nat → Prop
  | [], a, b => a = b
  | r :: rs, a, b => r.1 = a ∧ 0 < r.2.1 ∧ Ri κ zs a (a + r.2.1) ∧ Runs κ zs rs (a + r.2.1) b
theorem Runs.le {zs : Array Keyed} : ∀ {L : List Rn} {a b : Nat}, Runs κ zs L a b → a + L.length ≤ b
  | [], a, b, h => by have h : a = b := h; simp [h]
  | r :: rs, a, b, h => by
    obtain ⟨h1, h2, h3, h4⟩ := h
    have := Runs.le h4
    rw [List.length_cons]; omega
theorem Ri.frame {zs ys : Array Keyed} {lo hi : Nat} (h : Ri κ zs lo hi) (e : ∀ k, lo ≤ k → k < hi → KK κ ys k = KK κ zs k) : Ri κ ys lo hi := fun u v h1 h2 h3 => by
  rw [e u h1 (by omega), e v (by omega) h3]; exact h u v h1 h2 h3
theorem Runs.frame {zs ys : Array Keyed} : ∀ {L : List Rn} {a b : Nat}, Runs κ zs L a b → (∀ k, a ≤ k → k < b → KK κ ys k = KK κ zs k) → Runs κ ys L a b
  | [], _, _, h, _ => h
  | r :: rs, a, b, h, e => by
    obtain ⟨h1, h2, h3, h4⟩ := h
    have q := Runs.le h4
    exact ⟨h1, h2, h3.frame fun k k1 k2 => e k k1 (by omega), h4.frame fun k k1 k2 => e k (by omega) k2⟩
theorem Runs.push {zs : Array Keyed} {n p : Nat} (hn : 0 < n) : ∀ {L : List Rn} {a b : Nat}, Runs κ zs L a b → Ri κ zs b (b + n) → Runs κ zs (L ++ [(b, n, p)]) a (b + n)
  | [], a, b, h, r => by
    have h : a = b := h
    subst h
    exact ⟨rfl, hn, r, rfl⟩
  | r :: rs, a, b, h, s => by
    obtain ⟨h1, h2, h3, h4⟩ := h
    exact ⟨h1, h2, h3, h4.push hn s⟩
theorem Runs.power {zs : Array Keyed} {f : Rn → Rn} (hf : ∀ r, (f r).1 = r.1 ∧ (f r).2.1 = r.2.1) : ∀ {L : List Rn} {a b : Nat} (i : Nat), Runs κ zs L a b → Runs κ zs (L.modify i f) a b
  | [], _, _, i, h => by simpa using h
  | r :: rs, a, b, 0, h => by
    obtain ⟨h1, h2, h3, h4⟩ := h
    rw [List.modify_zero_cons]
    obtain ⟨e1, e2⟩ := hf r
    refine ⟨e1.trans h1, by rw [e2]; exact h2, by rw [e2]; exact h3, by rw [e2]; exact h4⟩
  | r :: rs, a, b, i + 1, h => by
    obtain ⟨h1, h2, h3, h4⟩ := h
    rw [List.modify_succ_cons]
    exact ⟨h1, h2, h3, Runs.power hf i h4⟩
structure Two (κ : KeyKind) (zs : Array Keyed) (a b : Nat) (r q : Rn) : Prop where
  next : q.1 = r.1 + r.2.1
  n1 : 0 < r.2.1
  n2 : 0 < q.2.1
  s1 : Ri κ zs r.1 (r.1 + r.2.1)
  s2 : Ri κ zs q.1 (q.1 + q.2.1)
  lo : a ≤ r.1
  hi : q.1 + q.2.1 ≤ b
theorem Runs.two {zs : Array Keyed} : ∀ {L : List Rn} {a b i : Nat} {r q : Rn}, Runs κ zs L a b → L[i]? = some r → L[i + 1]? = some q → Two κ zs a b r q
  | r' :: q' :: rs, a, b, 0, r, q, h, e1, e2 => by
    obtain ⟨h1, h2, h3, g1, g2, g3, g4⟩ := h
    simp at e1 e2
    subst e1 e2
    have := g4.le
    exact ⟨by omega, h2, g2, by rw [h1]; exact h3, by rw [g1]; exact g3, by omega, by omega⟩
  | r' :: rs, a, b, i + 1, r, q, h, e1, e2 => by
    obtain ⟨h1, h2, h3, h4⟩ := h
    have T := Runs.two (i := i) h4 (by simpa using e1) (by simpa using e2)
    exact ⟨T.next, T.n1, T.n2, T.s1, T.s2, by have := T.lo; omega, T.hi⟩
  | [], _, _, _, _, _, _, e1, _ => by simp at e1
  | [_], _, _, 0, _, _, _, _, e2 => by simp at e2
theorem Runs.merge {zs ys : Array Keyed} : ∀ {L : List Rn} {a b i : Nat} {r q : Rn}, Runs κ zs L a b → L[i]? = some r → L[i + 1]? = some q → Ri κ ys r.1 (r.1 + (r.2.1 + q.2.1)) →
    (∀ k, (k < r.1 ∨ q.1 + q.2.1 ≤ k) → KK κ ys k = KK κ zs k) → Runs κ ys ((L.set i (r.1, r.2.1 + q.2.1, r.2.2)).eraseIdx (i + 1)) a b
  | r' :: q' :: rs, a, b, 0, r, q, h, e1, e2, S, F => by
    obtain ⟨h1, h2, h3, g1, g2, g3, g4⟩ := h
    simp at e1 e2
    subst e1 e2
    show Runs κ ys ((r'.1, r'.2.1 + q'.2.1, r'.2.2) :: rs) a b
    refine ⟨h1, by show 0 < r'.2.1 + q'.2.1; omega, by rw [h1] at S; exact S, ?_⟩
    show Runs κ ys rs (a + (r'.2.1 + q'.2.1)) b
    rw [← Nat.add_assoc]
    exact g4.frame fun k k1 k2 => F k (.inr (by omega))
  | r' :: rs, a, b, i + 1, r, q, h, e1, e2, S, F => by
    obtain ⟨h1, h2, h3, h4⟩ := h
    have T := Runs.two (i := i) h4 (by simpa using e1) (by simpa using e2)
    have lo := T.lo
    rw [List.set_cons_succ, List.eraseIdx_cons_succ]
    exact ⟨h1, h2, h3.frame fun k k1 k2 => F k (.inl (by omega)), h4.merge (by simpa using e1) (by simpa using e2) S F⟩
  | [], _, _, _, _, _, _, e1, _, _, _ => by simp at e1
  | [_], _, _, 0, _, _, _, _, e2, _, _ => by simp at e2
end
section
variable {prog : Program} {w : World} {A : Around} {E : Value → Shared → Prop} {s : Shared} {κ : KeyKind} {kd : SortKind}
theorem Good.ex {zs : Array Keyed} (g : Good κ zs) (m n : Nat) : Good κ (zs.extract m n) := fun i p h => by
  have hm : p ∈ (zs.extract m n).toList := by
    rw [← Array.getElem?_toList] at h; exact List.mem_of_getElem? h
  rw [Array.toList_extract, List.extract_eq_take_drop] at hm
  obtain ⟨j, hj, e⟩ := List.mem_iff_getElem.mp (List.mem_of_mem_drop (List.mem_of_mem_take hm))
  exact g j p (by rw [← Array.getElem?_toList, List.getElem?_eq_getElem hj, e])
set_option maxHeartbeats 4000000 in
theorem mergeAt_ok (C : CmpOk prog w A s κ kd) {st : SortSt} (hk : kindOf st = kd) (hf : failedOf st = none) (g0 : Good κ (arrOf st)) {i sa na pw sb nb pw2 : Nat} (e1 : (pendingOf st)[i]? = some (sa, na, pw)) (e2 : (pendingOf st)[i + 1]? = some (sb, nb, pw2))
    (hsb : sb = sa + na) (hna : 0 < na) (hnb : 0 < nb) (hz : sb + nb ≤ (arrOf st).size) (s1 : Ri κ (arrOf st) sa (sa + na)) (s2 : Ri κ (arrOf st) sb (sb + nb)) {Q : Bool → SortSt → Prop}
    (h : ∀ ys g, ys.toList.Perm (arrOf st).toList → (∀ k, (k < sa ∨ sb + nb ≤ k) → KK κ ys k = KK κ (arrOf st) k) → Ri κ ys sa (sa + (na + nb)) → Q true (SortSt.mk' kd ys (((pendingOf st).setIfInBounds i (sa, na + nb, pw)).eraseIdxIfInBounds (i + 1)) g none)) :
    wpS (model prog w) A E s (mergeAt' i) Q st := by
  subst hsb
  refine wpS_bind (wpS_get ?_)
  dsimp only
  rw [e1, e2]
  dsimp only
  refine wpS_bind (wpS_modify ?_)
  obtain ⟨kd0, zs, pend, gal, fl⟩ := st
  replace hk : kd0 = kd := hk
  replace hf : fl = none := hf
  subst hk hf
  replace g0 : Good κ zs := g0
  replace hz : sa + na + nb ≤ zs.size := hz
  replace s1 : Ri κ zs sa (sa + na) := s1
  replace s2 : Ri κ zs (sa + na) (sa + na + nb) := s2
  replace h : ∀ ys g, ys.toList.Perm zs.toList → (∀ k, (k < sa ∨ sa + na + nb ≤ k) → KK κ ys k = KK κ zs k) → Ri κ ys sa (sa + (na + nb)) → Q true (SortSt.mk' kd0 ys ((pend.setIfInBounds i (sa, na + nb, pw)).eraseIdxIfInBounds (i + 1)) g none) := h
  have lz : zs.toList.length = zs.size := Array.length_toList
  have pb := g0.p (i := sa + na) (by omega)
  refine elem_bind (zs := zs) pb.1 (wpS_bind (gallop_ok (zs := zs) C (by rfl) g0 pb.2 (base := sa) (n := na) (hint := 0) (by omega) (by omega) false (bey_mono fun u v h1 h2 h3 => s1 u v h1 h2 (by omega)) fun k k1 k2 k3 => ?_))
  dsimp only
  by_cases c1 : (na - k == 0) = true
  · first | refine wpS_pos c1 ?_ | rw [if_pos c1]
    have c1' : na - k = 0 := by simpa using c1
    refine wpS_pure (h zs _ (List.Perm.refl _) (fun _ _ => rfl) fun u v h1 h2 h3 => ?_)
    by_cases hv : v < sa + na
    · exact s1 u v h1 h2 hv
    by_cases hu : sa + na ≤ u
    · exact s2 u v hu h2 (by omega)
    have q := beyF (k2 (u - sa) (by omega))
    rw [show sa + (u - sa) = u by omega] at q
    exact KeyOrd.kle_trans q (s2 (sa + na) v (Nat.le_refl _) (by omega) (by omega))
  first | refine wpS_neg c1 ?_ | rw [if_neg c1]
  have c1' : na - k ≠ 0 := by simpa using c1
  clear c1
  obtain ⟨d, rfl⟩ : ∃ d, na = k + d := ⟨na - k, by omega⟩
  rw [Nat.add_sub_cancel_left] at c1'
  simp only [Nat.add_sub_cancel_left]
  have pl := g0.p (i := sa + k + (d) - 1) (by omega)
  refine elem_bind (zs := zs) pl.1 (wpS_bind (gallop_ok (zs := zs) C (by rfl) g0 pl.2 (base := sa + (k + d)) (n := nb) (hint := nb - 1) (by omega) (by omega) true (bey_mono fun u v h1 h2 h3 => s2 u v h1 h2 (by omega)) fun m m1 m2 m3 => ?_))
  dsimp only
  have elast : sa + k + (d) - 1 = sa + (k + d) - 1 := by omega
  rw [elast] at m2 m3
  by_cases c2 : (m == 0) = true
  · first | refine wpS_pos c2 ?_ | rw [if_pos c2]
    have c2' : m = 0 := by simpa using c2
    refine wpS_pure (h zs _ (List.Perm.refl _) (fun _ _ => rfl) fun u v h1 h2 h3 => ?_)
    by_cases hv : v < sa + (k + d)
    · exact s1 u v h1 h2 hv
    by_cases hu : sa + (k + d) ≤ u
    · exact s2 u v hu h2 (by omega)
    have q := beyT' (m3 (v - (sa + (k + d))) (by omega) (by omega))
    rw [show sa + (k + d) + (v - (sa + (k + d))) = v by omega] at q
    exact KeyOrd.kle_trans (s1 u (sa + (k + d) - 1) h1 (by omega) (by omega)) q
  first | refine wpS_neg c2 ?_ | rw [if_neg c2]
  have c2' : m ≠ 0 := by simpa using c2
  clear c2 elast
  have zx : (zs.extract (sa + k) (sa + (k + d))).size = d := by rw [Array.size_extract, Nat.min_eq_left (by omega), Nat.add_sub_add_left, Nat.add_sub_cancel_left]
  have zy : (zs.extract (sa + (k + d)) (sa + (k + d) + m)).size = m := by rw [Array.size_extract, Nat.min_eq_left (by omega), Nat.add_sub_cancel_left]
  have kx : ∀ t, t < d → KK κ (zs.extract (sa + k) (sa + (k + d))) t = KK κ zs (sa + k + t) := fun t ht => KK_ex (by omega) (by omega)
  have kyy : ∀ t, t < m → KK κ (zs.extract (sa + (k + d)) (sa + (k + d) + m)) t = KK κ zs (sa + (k + d) + t) := fun t ht => KK_ex (by omega) (by omega)
  have sx : SortedToK κ (zs.extract (sa + k) (sa + (k + d))) (zs.extract (sa + k) (sa + (k + d))).size := fun u v h1 h2 => by
    rw [zx] at h2
    rw [kx u (by omega), kx v h2]
    exact s1 _ _ (by omega) (by omega) (by omega)
  have sy : SortedToK κ (zs.extract (sa + (k + d)) (sa + (k + d) + m)) (zs.extract (sa + (k + d)) (sa + (k + d) + m)).size := fun u v h1 h2 => by
    rw [zy] at h2
    rw [kyy u (by omega), kyy v h2]
    exact s2 _ _ (by omega) (by omega) (by omega)
  have hfirst : κ.kle (KK κ (zs.extract (sa + (k + d)) (sa + (k + d) + m)) 0) (KK κ (zs.extract (sa + k) (sa + (k + d))) 0) := by
    rw [kx 0 (by omega), kyy 0 (by omega)]
    exact KeyOrd.kle_of_klt (beyF' (k3 k (Nat.le_refl _) (by omega)))
  have hlast : ∀ j, j < (zs.extract (sa + (k + d)) (sa + (k + d) + m)).size → κ.kle (KK κ (zs.extract (sa + (k + d)) (sa + (k + d) + m)) j) (KK κ (zs.extract (sa + k) (sa + (k + d))) ((zs.extract (sa + k) (sa + (k + d))).size - 1)) := fun j hj => by
    rw [zy] at hj
    rw [zx, kyy j hj, kx _ (by omega), show sa + k + (d - 1) = sa + (k + d) - 1 by omega]
    exact KeyOrd.kle_of_klt (beyT (m2 j hj))
  have fin : ∀ (mr : Array Keyed) (g : Nat), Res κ (zs.extract (sa + k) (sa + (k + d))).toList (zs.extract (sa + (k + d)) (sa + (k + d) + m)).toList mr.toList →
      Q true (SortSt.mk' kd0 (mr.toList.zipIdx.foldl (fun a x => match x with | (p, j) => a.setIfInBounds (sa + k + j) p) zs) ((pend.setIfInBounds i (sa, (k + d) + nb, pw)).eraseIdxIfInBounds (i + 1)) g none) := fun mr g hR => by
    obtain ⟨hp, hs⟩ := hR
    have lm : mr.toList.length = d + m := by
      rw [hp.length_eq, List.length_append, Array.length_toList, Array.length_toList, zx, zy]
    have exy : (zs.extract (sa + k) (sa + (k + d))).toList ++ (zs.extract (sa + (k + d)) (sa + (k + d) + m)).toList = (zs.toList.drop (sa + k)).take (d + m) := by
      rw [ex_mid _ (by omega), ex_take, List.take_add, List.drop_drop]
      congr 1
      · congr 1; omega
      · congr 2; omega
    have hput := put_all (sa + k) mr.toList 0 zs (by omega)
    have hpl := put_list (c := sa + k) (M := mr.toList) (zs := zs) (by omega)
    generalize hy : (mr.toList.zipIdx.foldl (fun a x => match x with | (p, j) => a.setIfInBounds (sa + k + j) p) zs) = ys at hput hpl ⊢
    have out : ∀ t, (t < sa + k ∨ sa + (k + d) + m ≤ t) → KK κ ys t = KK κ zs t := fun t ht => KK_congr (by rw [hput t, if_neg (by omega)])
    have mid : ∀ t, sa + k ≤ t → t < sa + (k + d) + m → ∃ u, sa + k ≤ u ∧ u < sa + (k + d) + m ∧ KK κ ys t = KK κ zs u := fun t h1 h2 => by
      have e : ys[t]? = some (mr.toList[t - (sa + k)]'(by omega)) := by
        rw [hput t, if_pos (by omega), Nat.add_zero]
        exact List.getElem?_eq_getElem (by omega)
      have hm : mr.toList[t - (sa + k)]'(by omega) ∈ (zs.toList.drop (sa + k)).take (d + m) := by
        rw [← exy]; exact hp.mem_iff.mp (List.getElem_mem _)
      obtain ⟨r, hr, er⟩ := List.mem_iff_getElem.mp hm
      rw [List.length_take, List.length_drop] at hr
      replace hr := (⟨Nat.lt_of_lt_of_le hr (Nat.min_le_left _ _), Nat.lt_of_lt_of_le hr (Nat.min_le_right _ _)⟩ : _ ∧ _)
      rw [List.getElem_take, List.getElem_drop] at er
      refine ⟨sa + k + r, by omega, by omega, KK_congr ?_⟩
      rw [e, ← er, ← Array.getElem?_toList, List.getElem?_eq_getElem (by omega)]
    refine h ys g ?_ (fun t ht => out t (by omega)) fun u v h1 h2 h3 => ?_
    · rw [hpl]
      have e3 : zs.toList = zs.toList.take (sa + k) ++ ((zs.toList.drop (sa + k)).take (d + m) ++ zs.toList.drop (sa + k + mr.toList.length)) := by
        rw [lm]; exact split3 _ _ _
      refine List.Perm.trans ?_ (List.Perm.of_eq e3.symm)
      rw [← exy]
      exact (hp.append_right _).append_left _
    · by_cases hu : u < sa + k
      · rw [out u (.inl hu)]
        have lowB : ∀ t, sa + (k + d) ≤ t → t < sa + (k + d) + nb → κ.kle (KK κ zs u) (KK κ zs t) := fun t t1 t2 => by
          have q := beyF (k2 (u - sa) (by omega))
          rw [show sa + (u - sa) = u by omega] at q
          exact KeyOrd.kle_trans q (s2 (sa + (k + d)) t (Nat.le_refl _) t1 t2)
        have low : ∀ t, u ≤ t → t < sa + (k + d) + nb → κ.kle (KK κ zs u) (KK κ zs t) := fun t t1 t2 => by
          by_cases ht : t < sa + (k + d)
          · exact s1 u t h1 t1 ht
          · exact lowB t (by omega) t2
        by_cases hv : v < sa + k ∨ sa + (k + d) + m ≤ v
        · rw [out v hv]; exact low v h2 (by omega)
        · obtain ⟨r, r1, r2, e⟩ := mid v (by omega) (by omega)
          rw [e]; exact low r (by omega) (by omega)
      by_cases hv : sa + (k + d) + m ≤ v
      · rw [out v (.inr hv)]
        have high : ∀ t, sa ≤ t → t ≤ v → κ.kle (KK κ zs t) (KK κ zs v) := fun t t1 t2 => by
          by_cases ht : t < sa + (k + d)
          · have q := beyT' (m3 (v - (sa + (k + d))) (by omega) (by omega))
            rw [show sa + (k + d) + (v - (sa + (k + d))) = v by omega] at q
            exact KeyOrd.kle_trans (s1 t (sa + (k + d) - 1) t1 (by omega) (by omega)) q
          · exact s2 t v (by omega) t2 (by omega)
        by_cases hu2 : sa + (k + d) + m ≤ u
        · rw [out u (.inr hu2)]; exact high u h1 h2
        · obtain ⟨r, r1, r2, e⟩ := mid u (by omega) (by omega)
          rw [e]; exact high r (by omega) (by omega)
      · have hs' := pw_srt (zs := mr) hs
        have lmz : mr.size = d + m := by rw [← Array.length_toList]; exact lm
        have em : ∀ t, sa + k ≤ t → t < sa + (k + d) + m → KK κ ys t = KK κ mr (t - (sa + k)) := fun t h1 h2 => KK_congr (by rw [hput t, if_pos (by omega), Nat.add_zero, Array.getElem?_toList])
        rw [em u (by omega) (by omega), em v (by omega) (by omega)]
        exact hs' _ _ (by omega) (by omega)
  by_cases c3 : d ≤ m
  · first | refine wpS_pos c3 ?_ | rw [if_pos c3]
    exact wpS_bind (mergeLo_ok C (by rfl) (g0.ex _ _) (g0.ex _ _) sx sy (by omega) (by omega) hfirst hlast fun mr g hR => wpS_bind (wpS_modify (wpS_bind (wpS_get (wpS_pure (fin mr g hR))))))
  · first | refine wpS_neg c3 ?_ | rw [if_neg c3]
    exact wpS_bind (mergeHi_ok C (by rfl) (g0.ex _ _) (g0.ex _ _) sx sy (by omega) (by omega) hfirst hlast fun mr g hR => wpS_bind (wpS_modify (wpS_bind (wpS_get (wpS_pure (fin mr g hR))))))
end
end Tim

namespace Tim
open PySem PyProof.Rows
section
variable {κ : KeyKind}
structure Fr0 (κ : KeyKind) (lo hi : Nat) (zs ys : Array Keyed) : Prop where
  perm : ys.toList.Perm zs.toList
  out : ∀ k, (k < lo ∨ hi ≤ k) → KK κ ys k = KK κ zs k
noncomputable def De (κ : KeyKind) (zs : Array Keyed) (lo hi : Nat) : Prop := ∀ u v, lo ≤ u → u ≤ v → v < hi → κ.kle (KK κ zs v) (KK κ zs u)
variable {lo hi : Nat} {zs ys : Array Keyed}
theorem Fr0.refl (zs : Array Keyed) : Fr0 κ lo hi zs zs := ⟨List.Perm.refl _, fun _ _ => rfl⟩
theorem Fr0.size (F : Fr0 κ lo hi zs ys) : ys.size = zs.size := by
  rw [← Array.length_toList, ← Array.length_toList]; exact F.perm.length_eq
theorem good_perm (g : Good κ zs) (h : ys.toList.Perm zs.toList) : Good κ ys := fun i p e => by
  have hm : p ∈ ys.toList := by rw [← Array.getElem?_toList] at e; exact List.mem_of_getElem? e
  obtain ⟨j, hj, e2⟩ := List.mem_iff_getElem.mp (h.mem_iff.mp hm)
  exact g j p (by rw [← Array.getElem?_toList, List.getElem?_eq_getElem hj, e2])
theorem Fr0.turn (F : Fr0 κ lo hi zs ys) {i j : Nat} (h1 : lo ≤ i) (h2 : j ≤ hi) (h3 : j ≤ ys.size) : Fr0 κ lo hi zs (mirror ys i j ((j - i) / 2)) := by
  refine ⟨(Array.perm_iff_toList_perm.mp (mirror_perm _ _ _ _)).trans F.perm, fun k hk => ?_⟩
  rw [KK_mirror h3, if_neg (by omega)]
  exact F.out k hk
theorem Fr0.down (F : Fr0 κ lo hi zs ys) {src d : Nat} (h1 : lo ≤ src - d) (h2 : src < hi) (h3 : src < ys.size) (h4 : d ≤ src) : Fr0 κ lo hi zs (bubble ys src d) := by
  refine ⟨(Array.perm_iff_toList_perm.mp (bubble_perm _ _ _)).trans F.perm, fun k hk => ?_⟩
  rw [KK_bubble h3 h4, if_neg (by omega), if_neg (by omega)]
  exact F.out k hk
end
section
variable {prog : Program} {w : World} {A : Around} {E : Value → Shared → Prop} {s : Shared} {κ : KeyKind} {kd : SortKind}
theorem ltAt_ok (C : CmpOk prog w A s κ kd) {st : SortSt} (hk : kindOf st = kd) {zs : Array Keyed} (g : Good κ zs) {i j : Nat} (hi : i < zs.size) (hj : j < zs.size) {Q : Option Bool → SortSt → Prop}
    (h : Q (some (κ.blt (KK κ zs i) (KK κ zs j))) (setArr st zs)) : wpS (model prog w) A E s (ltAt' i j) Q (setArr st zs) := by
  obtain ⟨p, e1, k1⟩ := g.at hi
  obtain ⟨q, e2, k2⟩ := g.at hj
  rw [ltAt'_eq]
  exact wpS_bind (wpS_get (elem_bind (zs := zs) e1 (elem_bind (zs := zs) e2 (lt_ok (st := setArr st zs) C hk k1 k2 h))))
theorem turn_ok {st : SortSt} {zs : Array Keyed} {i j : Nat} {Q : Unit → SortSt → Prop} (h : Q () (setArr st (mirror zs i j ((j - i) / 2)))) : wpS (model prog w) A E s (reverseSlice' i j) Q (setArr st zs) := wpS_reverse h
@[elab_as_elim] theorem eA {γ S : Type} {F : γ} {G : S} {R : Prop} {P : γ → S → Prop} (c : γ) (s : S) (h : G = s ∧ c = F ∧ R) (k : R → P F G) : P c s := by
  cases h with
  | intro e h => cases h with
    | intro e' r => subst e; subst e'; exact k r
@[elab_as_elim] theorem eB1 {γ S α : Type} {F : α → γ} {G : S} {R : α → Prop} {P : γ → S → Prop} (c : γ) (s : S) (h : G = s ∧ ∃ x, c = F x ∧ R x) (k : ∀ x, R x → P (F x) G) : P c s := by
  cases h with
  | intro e h => cases h with
    | intro x h => cases h with
      | intro e' r => subst e; subst e'; exact k x r
@[elab_as_elim] theorem eB2 {γ S α β : Type} {F : α → β → γ} {G : S} {R : α → β → Prop} {P : γ → S → Prop} (c : γ) (s : S) (h : G = s ∧ ∃ x y, c = F x y ∧ R x y) (k : ∀ x y, R x y → P (F x y) G) : P c s := by
  cases h with
  | intro e h => cases h with
    | intro x h => cases h with
      | intro y h => cases h with
        | intro e' r => subst e; subst e'; exact k x y r
@[elab_as_elim] theorem eC1 {γ S α : Type} {F : α → γ} {G : α → S} {R : α → Prop} {P : γ → S → Prop} (c : γ) (s : S) (h : ∃ x, c = F x ∧ G x = s ∧ R x) (k : ∀ x, R x → P (F x) (G x)) : P c s := by
  cases h with
  | intro x h => cases h with
    | intro e h => cases h with
      | intro e' r => subst e; subst e'; exact k x r
@[elab_as_elim] theorem eC2 {γ S α β : Type} {F : α → β → γ} {G : α → β → S} {R : α → β → Prop} {P : γ → S → Prop} (c : γ) (s : S) (h : ∃ x y, c = F x y ∧ G x y = s ∧ R x y) (k : ∀ x y, R x y → P (F x y) (G x y)) : P c s := by
  cases h with
  | intro x h => cases h with
    | intro y h => cases h with
      | intro e h => cases h with
        | intro e' r => subst e; subst e'; exact k x y r
@[elab_as_elim] theorem eD {γ S α β δ : Type} {F : α → β → δ → γ} {G : α → β → δ → S} {A B R : α → β → δ → Prop} {P : γ → S → Prop} (c : γ) (s : S) (h : ∃ x y z, c = F x y z ∧ A x y z ∧ B x y z ∧ G x y z = s ∧ R x y z) (k : ∀ x y z, A x y z → B x y z → R x y z → P (F x y z) (G x y z)) : P c s := by
  obtain ⟨x, y, z, e, a, b, e', r⟩ := h
  subst e; subst e'; exact k x y z a b r
@[elab_as_elim] theorem eE1 {γ α : Type} {F : α → γ} {R : α → Prop} {P : γ → Prop} (c : γ) (h : ∃ x, c = F x ∧ R x) (k : ∀ x, R x → P (F x)) : P c := by
  cases h with
  | intro x h => cases h with
    | intro e r => subst e; exact k x r
@[elab_as_elim] theorem eF {γ : Type} {F : γ} {R : Prop} {P : γ → Prop} (c : γ) (h : c = F ∧ R) (k : R → P F) : P c := by
  cases h with
  | intro e r => subst e; exact k r
set_option maxHeartbeats 4000000 in
theorem countRun_ok (C : CmpOk prog w A s κ kd) {st : SortSt} (hk : kindOf st = kd) {z0 : Array Keyed} (g0 : Good κ z0) {lo r : Nat} (hz : lo + r ≤ z0.size) (h1 : 1 ≤ r) {Q : Option Nat → SortSt → Prop}
    (h : ∀ m zs, 1 ≤ m → m ≤ r → Fr0 κ lo (lo + r) z0 zs → Ri κ zs lo (lo + m) → Q (some m) (setArr st zs)) : wpS (model prog w) A E s (countRun' lo r) Q (setArr st z0) := by
  have up : ∀ {zs : Array Keyed} {x : Nat}, Ri κ zs lo (lo + x) → 1 ≤ x → κ.kle (KK κ zs (lo + x - 1)) (KK κ zs (lo + x)) → Ri κ zs lo (lo + (x + 1)) := fun {zs x} R hx q u v a b c => by
    by_cases hv : v < lo + x
    · exact R u v a b hv
    have ev : v = lo + x := by omega
    subst ev
    by_cases hu : u = lo + x
    · subst hu; exact KeyOrd.kle_refl _
    · exact KeyOrd.kle_trans (R u (lo + x - 1) a (by omega) (by omega)) q
  have dw : ∀ {zs : Array Keyed} {x : Nat}, De κ zs lo (lo + x) → 1 ≤ x → κ.kle (KK κ zs (lo + x)) (KK κ zs (lo + x - 1)) → De κ zs lo (lo + (x + 1)) := fun {zs x} R hx q u v a b c => by
    by_cases hv : v < lo + x
    · exact R u v a b hv
    have ev : v = lo + x := by omega
    subst ev
    by_cases hu : u = lo + x
    · subst hu; exact KeyOrd.kle_refl _
    · exact KeyOrd.kle_trans q (R u (lo + x - 1) a (by omega) (by omega))
  refine wpS_bind (wpS_mono (wpS_forRange (I := fun x c st' => setArr st z0 = st' ∧ c = (none, x) ∧ Ri κ z0 lo (lo + x))
    (Q := fun c st' => setArr st z0 = st' ∧ ∃ n, c = (none, n) ∧ 1 ≤ n ∧ n ≤ r ∧ Ri κ z0 lo (lo + n) ∧ (n = r ∨ κ.klt (KK κ z0 (lo + n)) (KK κ z0 (lo + n - 1)))) ?s1 ?f1 ?i1) ?p1)
  case i1 => exact ⟨rfl, rfl, fun u v a b c => by have : u = v := (by omega); subst this; exact KeyOrd.kle_refl _⟩
  case f1 =>
    intro c st' hz_
    refine eA c st' hz_ fun R => ?_; clear hz_; clear c st'
    rw [show max 1 r = r by omega] at R ⊢
    exact ⟨rfl, r, rfl, h1, Nat.le_refl _, R, .inl rfl⟩
  case s1 =>
    intro x c st' hx1 hx hz_
    obtain ⟨rfl, rfl, R⟩ := hz_
    refine wpS_bind (ltAt_ok C hk g0 (by show lo + x < _; omega) (by show lo + x - 1 < _; omega) ?_)
    cases c0 : κ.blt (KK κ z0 (lo + x)) (KK κ z0 (lo + x - 1)) with
    | true => exact wpS_pure ⟨rfl, x, rfl, hx1, by omega, R, .inr c0⟩
    | false => exact wpS_pure ⟨rfl, rfl, up R hx1 c0⟩
  case p1 =>
    intro c st' hz_
    refine eB1 c st' hz_ fun n hz_ => ?_; have hn1 := hz_.1; have hnr := hz_.2.1; have R := hz_.2.2.1; have hor := hz_.2.2.2; (repeat clear hz_); clear c st'
    dsimp only
    by_cases c1 : (n == r) = true
    · first | refine wpS_pos c1 ?_ | rw [if_pos c1]
      exact wpS_pure (h n z0 hn1 hnr (Fr0.refl _) R)
    first | refine wpS_neg c1 ?_ | rw [if_neg c1]
    have c1' : n ≠ r := by simpa using c1
    have hlt := hor.resolve_left c1'
    by_cases c2 : n > 1
    case' pos =>
      first | refine wpS_pos c2 ?_ | rw [if_pos c2]
      refine wpS_bind (ltAt_ok C hk g0 (by omega) (by omega) ?_)
      cases c3 : κ.blt (KK κ z0 lo) (KK κ z0 (lo + n - 1)) with
      | true => exact wpS_pure (h n z0 hn1 hnr (Fr0.refl _) R)
      | false => ?_
      have same : ∀ t, lo ≤ t → t < lo + n → KK κ z0 t = KK κ z0 (lo + n - 1) := fun t a b =>
        KeyOrd.kle_antisymm (R t (lo + n - 1) a (by omega) (by omega)) (KeyOrd.kle_trans c3 (R lo t (Nat.le_refl _) a b))
      have kz : ∀ t, KK κ (mirror z0 lo (lo + n) ((lo + n - lo) / 2)) t = KK κ z0 t := KK_mirror_equal (by omega) same
      have F1 : Fr0 κ lo (lo + r) z0 (mirror z0 lo (lo + n) ((lo + n - lo) / 2)) := (Fr0.refl z0).turn (Nat.le_refl _) (by omega) (by omega)
      have D0 : De κ z0 lo (lo + n) := fun u v a b c => by rw [same u a (by omega), same v (by omega) c]; exact KeyOrd.kle_refl _
      have D1 : De κ (mirror z0 lo (lo + n) ((lo + n - lo) / 2)) lo (lo + (n + 1)) := fun u v a b c => by
        rw [kz, kz]; exact dw D0 hn1 (KeyOrd.kle_of_klt hlt) u v a b c
      refine wpS_bind (turn_ok ?_)
      generalize mirror z0 lo (lo + n) ((lo + n - lo) / 2) = z1 at F1 D1 ⊢
    case' neg =>
      first | refine wpS_neg c2 ?_ | rw [if_neg c2]
      have F1 : Fr0 κ lo (lo + r) z0 z0 := Fr0.refl _
      have n1 : n = 1 := by omega
      have D0 : De κ z0 lo (lo + n) := fun u v a b c => by
        have : u = v := by omega
        subst this; exact KeyOrd.kle_refl _
      have D1 : De κ z0 lo (lo + (n + 1)) := dw D0 hn1 (KeyOrd.kle_of_klt hlt)
      generalize hz1 : z0 = z1 at D1 ⊢
      have F1 : Fr0 κ lo (lo + r) z0 z1 := hz1 ▸ F1
    all_goals
      refine wpS_bind (wpS_lift (wpAny_rule ⟨rfl, ?_⟩))
      refine wpS_bind (wpS_mono (wpS_forRange (I := fun x c st' => ∃ zs q, c = (none, x, q) ∧ setArr st zs = st' ∧ Fr0 κ lo (lo + r) z0 zs ∧ De κ zs lo (lo + x) ∧ q + 1 ≤ x ∧ ∀ t, lo + x - (q + 1) ≤ t → t < lo + x → KK κ zs t = KK κ zs (lo + x - 1))
        (Q := fun c st' => ∃ zs m q, c = (none, m, q) ∧ n + 1 ≤ m ∧ m ≤ r ∧ setArr st zs = st' ∧ Fr0 κ lo (lo + r) z0 zs ∧ De κ zs lo (lo + m) ∧ q + 1 ≤ m ∧ ∀ t, lo + m - (q + 1) ≤ t → t < lo + m → KK κ zs t = KK κ zs (lo + m - 1)) ?s2 ?f2 ?i2) ?p2)
      case i2 => exact ⟨z1, 0, rfl, rfl, F1, D1, by omega, fun t a b => by congr 1; omega⟩
      case f2 =>
        intro c st' hz_
        refine eC2 c st' hz_ fun zs q hz_ => ?_; have F := hz_.1; have D := hz_.2.1; have hq := hz_.2.2.1; have eq := hz_.2.2.2; (repeat clear hz_); clear c st'
        rw [show max (n + 1) r = r by omega] at D hq eq ⊢
        exact ⟨zs, r, q, rfl, by omega, Nat.le_refl _, rfl, F, D, hq, eq⟩
      case s2 =>
        intro x c st' hx1 hx hz_
        obtain ⟨zs, q, rfl, rfl, F, D, hq, eq⟩ := hz_
        have hs := F.size
        have g := good_perm g0 F.perm
        refine wpS_bind (ltAt_ok C hk g (by show lo + x < _; omega) (by show lo + x - 1 < _; omega) ?_)
        cases c4 : κ.blt (KK κ zs (lo + x)) (KK κ zs (lo + x - 1)) with
        | true =>
          have D' := dw D (by omega) (KeyOrd.kle_of_klt c4)
          dsimp only
          first | refine wpS_pos rfl ?_ | rw [if_pos rfl]
          by_cases c5 : q > 0
          · first | refine wpS_pos c5 ?_ | rw [if_pos c5]
            have kz : ∀ t, KK κ (mirror zs (lo + x - (q + 1)) (lo + x) ((lo + x - (lo + x - (q + 1))) / 2)) t = KK κ zs t := KK_mirror_equal (by omega) eq
            refine wpS_bind (turn_ok (wpS_pure ⟨_, 0, rfl, rfl, F.turn (by omega) (by omega) (by omega), fun u v a b c => ?_, by omega, fun t a b => by congr 1; omega⟩))
            rw [kz, kz]; exact D' u v a b c
          · first | refine wpS_neg c5 ?_ | rw [if_neg c5]
            exact wpS_pure ⟨zs, 0, rfl, rfl, F, D', by omega, fun t a b => by congr 1; omega⟩
        | false =>
          dsimp only
          first | refine wpS_neg (by simp) ?_ | rw [if_neg (by simp)]
          refine wpS_bind (ltAt_ok C hk g (by show lo + x - 1 < _; omega) (by show lo + x < _; omega) ?_)
          cases c6 : κ.blt (KK κ zs (lo + x - 1)) (KK κ zs (lo + x)) with
          | true => exact wpS_pure ⟨zs, x, q, rfl, hx1, by omega, rfl, F, D, hq, eq⟩
          | false =>
            have ex : KK κ zs (lo + x) = KK κ zs (lo + x - 1) := KeyOrd.kle_antisymm c6 c4
            refine wpS_pure ⟨zs, q + 1, rfl, rfl, F, dw D (by omega) c6, by omega, fun t a b => ?_⟩
            rw [show lo + (x + 1) - 1 = lo + x by omega]
            by_cases et : t = lo + x
            · rw [et]
            · rw [ex]; exact eq t (by omega) (by omega)
      case p2 =>
        intro c st' hz_
        refine eD c st' hz_ fun zs m q hm1 hm2 hz_ => ?_; have F := hz_.1; have D := hz_.2.1; have hq := hz_.2.2.1; have eq := hz_.2.2.2; (repeat clear hz_); clear c st'
        have hs := F.size
        dsimp only
        by_cases c7 : q > 0
        case' pos =>
          first | refine wpS_pos c7 ?_ | rw [if_pos c7]
          have kz : ∀ t, KK κ (mirror zs (lo + m - (q + 1)) (lo + m) ((lo + m - (lo + m - (q + 1))) / 2)) t = KK κ zs t := KK_mirror_equal (by omega) eq
          have F2 : Fr0 κ lo (lo + r) z0 (mirror zs (lo + m - (q + 1)) (lo + m) ((lo + m - (lo + m - (q + 1))) / 2)) := F.turn (by omega) (by omega) (by omega)
          have D2 : De κ (mirror zs (lo + m - (q + 1)) (lo + m) ((lo + m - (lo + m - (q + 1))) / 2)) lo (lo + m) := fun u v a b c => by rw [kz, kz]; exact D u v a b c
          refine wpS_bind (turn_ok ?_)
          generalize mirror zs (lo + m - (q + 1)) (lo + m) ((lo + m - (lo + m - (q + 1))) / 2) = z2 at F2 D2 ⊢
        case' neg =>
          first | refine wpS_neg c7 ?_ | rw [if_neg c7]
          have F2 := F
          have D2 := D
          generalize zs = z2 at F2 D2 ⊢
        all_goals
          have hs2 := F2.size
          refine wpS_bind (turn_ok ?_)
          have F3 : Fr0 κ lo (lo + r) z0 (mirror z2 lo (lo + m) ((lo + m - lo) / 2)) := F2.turn (Nat.le_refl _) (by omega) (by omega)
          have R3 : Ri κ (mirror z2 lo (lo + m) ((lo + m - lo) / 2)) lo (lo + m) := fun u v a b c => by
            rw [KK_mirror (by omega), KK_mirror (by omega), if_pos (by omega), if_pos (by omega)]
            exact D2 _ _ (by omega) (Nat.sub_le_sub_left b _) (by omega)
          generalize mirror z2 lo (lo + m) ((lo + m - lo) / 2) = z3 at F3 R3 ⊢
          have hs3 := F3.size
          have g3 := good_perm g0 F3.perm
          refine wpS_bind (wpS_mono (wpS_forRange (I := fun x c st' => setArr st z3 = st' ∧ c = (none, x) ∧ Ri κ z3 lo (lo + x))
            (Q := fun c st' => setArr st z3 = st' ∧ ∃ k, c = (none, k) ∧ 1 ≤ k ∧ k ≤ r ∧ Ri κ z3 lo (lo + k)) ?s3 ?f3 ?i3) ?p3)
          case i3 => exact ⟨rfl, rfl, R3⟩
          case f3 =>
            intro c st' hz_
            refine eA c st' hz_ fun R => ?_; clear hz_; clear c st'
            rw [show max m r = r by omega] at R ⊢
            exact ⟨rfl, r, rfl, h1, Nat.le_refl _, R⟩
          case s3 =>
            intro x c st' hx1 hx hz_
            obtain ⟨rfl, rfl, R⟩ := hz_
            refine wpS_bind (ltAt_ok C hk g3 (by show lo + x < _; omega) (by show lo + x - 1 < _; omega) ?_)
            cases c0 : κ.blt (KK κ z3 (lo + x)) (KK κ z3 (lo + x - 1)) with
            | true => exact wpS_pure ⟨rfl, x, rfl, by omega, by omega, R⟩
            | false => exact wpS_pure ⟨rfl, rfl, up R (by omega) c0⟩
          case p3 =>
            intro c st' hz_
            refine eB1 c st' hz_ fun k hz_ => ?_; have k1 := hz_.1; have k2 := hz_.2.1; have R := hz_.2.2; (repeat clear hz_); clear c st'
            exact wpS_pure (h k z3 k1 k2 F3 R)
set_option maxHeartbeats 4000000 in
theorem binarySort_ok (C : CmpOk prog w A s κ kd) {st : SortSt} (hk : kindOf st = kd) {z0 : Array Keyed} (g0 : Good κ z0) {lo n ok : Nat} (hz : lo + n ≤ z0.size) (hok : ok ≤ n) (h1 : 1 ≤ ok) (R0 : Ri κ z0 lo (lo + ok)) {Q : Bool → SortSt → Prop}
    (h : ∀ zs, Fr0 κ lo (lo + n) z0 zs → Ri κ zs lo (lo + n) → Q true (setArr st zs)) : wpS (model prog w) A E s (binarySort' lo n ok) Q (setArr st z0) := by
  refine wpS_bind (wpS_mono (wpS_forRange (I := fun k c st' => ∃ zs, c = (none, ()) ∧ setArr st zs = st' ∧ Fr0 κ lo (lo + n) z0 zs ∧ Ri κ zs lo (lo + min k n))
    (Q := fun c st' => ∃ zs, c = (none, ()) ∧ setArr st zs = st' ∧ Fr0 κ lo (lo + n) z0 zs ∧ Ri κ zs lo (lo + n)) ?step ?fin ?init) ?post)
  case init => exact ⟨z0, rfl, rfl, Fr0.refl _, by rw [show min (max ok 1) n = ok by omega]; exact R0⟩
  case fin =>
    intro c st' hz_
    obtain ⟨zs, hc, hst, F, R⟩ := hz_
    rw [show min (max (max ok 1) n) n = n by omega] at R
    exact ⟨zs, hc, hst, F, R⟩
  case post =>
    intro c st' hz_
    refine eC1 c st' hz_ fun zs hz_ => ?_; have F := hz_.1; have R := hz_.2; (repeat clear hz_); clear c st'
    exact wpS_pure (h zs F R)
  case step =>
    intro k c st' hka hkn hz_
    obtain ⟨zs, rfl, rfl, F, R⟩ := hz_
    rw [show min k n = k by omega] at R
    have hs := F.size
    have g := good_perm g0 F.perm
    refine wpS_bind (wpS_mono (wpS_forRange (I := fun x c st' => setArr st zs = st' ∧ ∃ l r, c = (none, l, r) ∧ l ≤ r ∧ r ≤ k ∧ r - l ≤ k - x ∧ (∀ t, lo ≤ t → t < lo + l → κ.kle (KK κ zs t) (KK κ zs (lo + k))) ∧ (∀ t, lo + r ≤ t → t < lo + k → κ.klt (KK κ zs (lo + k)) (KK κ zs t)))
      (Q := fun c st' => setArr st zs = st' ∧ ∃ l r, c = (none, l, r) ∧ l ≤ k ∧ (∀ t, lo ≤ t → t < lo + l → κ.kle (KK κ zs t) (KK κ zs (lo + k))) ∧ (∀ t, lo + l ≤ t → t < lo + k → κ.klt (KK κ zs (lo + k)) (KK κ zs t))) ?s1 ?f1 ?i1) ?p1)
    case i1 => exact ⟨rfl, 0, k, rfl, Nat.zero_le _, Nat.le_refl _, by omega, fun t a b => by omega, fun t a b => by omega⟩
    case f1 =>
      intro c st' hz_
      refine eB2 c st' hz_ fun l r hz_ => ?_; have q1 := hz_.1; have q2 := hz_.2.1; have q3 := hz_.2.2.1; have q4 := hz_.2.2.2.1; have q5 := hz_.2.2.2.2; (repeat clear hz_); clear c st'
      have : l = r := by omega
      subst this
      exact ⟨rfl, l, l, rfl, q2, q4, q5⟩
    case s1 =>
      intro x c st' _ hx hz_
      obtain ⟨rfl, l, r, rfl, q1, q2, q3, q4, q5⟩ := hz_
      dsimp only
      by_cases hge : l ≥ r
      · first | refine wpS_pos hge ?_ | rw [if_pos hge]
        have : l = r := by omega
        subst this
        exact wpS_pure ⟨rfl, l, l, rfl, q2, q4, q5⟩
      · first | refine wpS_neg hge ?_ | rw [if_neg hge]
        refine wpS_bind (ltAt_ok C hk g (by omega) (by omega) ?_)
        cases c0 : κ.blt (KK κ zs (lo + k)) (KK κ zs (lo + (l + r) / 2)) with
        | true => exact wpS_pure ⟨rfl, l, (l + r) / 2, rfl, by omega, by omega, by omega, q4, fun t a b => KeyOrd.klt_of_klt_of_kle c0 (R _ _ (by omega) a b)⟩
        | false => exact wpS_pure ⟨rfl, (l + r) / 2 + 1, r, rfl, by omega, by omega, by omega, fun t a b => KeyOrd.kle_trans (R t (lo + (l + r) / 2) a (by omega) (by omega)) c0, q5⟩
    case p1 =>
      intro c st' hz_
      refine eB2 c st' hz_ fun l r hz_ => ?_; have q2 := hz_.1; have q4 := hz_.2.1; have q5 := hz_.2.2; (repeat clear hz_); clear c st'
      refine wpS_bind (wpS_modify (wpS_pure ⟨bubble zs (lo + k) (lo + k - (lo + l)), rfl, rfl, F.down (by omega) (by omega) (by omega) (by omega), ?_⟩))
      rw [show min (k + 1) n = k + 1 by omega]
      intro u v a b c
      rw [KK_bubble (by omega) (by omega), KK_bubble (by omega) (by omega), show lo + k - (lo + k - (lo + l)) = lo + l by omega]
      by_cases u1 : u = lo + l
      · first | refine wpS_pos u1 ?_ | rw [if_pos u1]
        by_cases v1 : v = lo + l
        · rw [if_pos v1]; exact KeyOrd.kle_refl _
        · rw [if_neg v1, if_pos (by omega)]; exact KeyOrd.kle_of_klt (q5 _ (by omega) (by omega))
      · first | refine wpS_neg u1 ?_ | rw [if_neg u1]
        by_cases u2 : lo + l < u ∧ u ≤ lo + k
        · rw [if_pos u2, if_neg (by omega), if_pos (by omega)]; exact R _ _ (by omega) (Nat.sub_le_sub_right b _) (by omega)
        · first | refine wpS_neg u2 ?_ | rw [if_neg u2]
          by_cases v1 : v = lo + l
          · rw [if_pos v1]; exact q4 _ a (by omega)
          · first | refine wpS_neg v1 ?_ | rw [if_neg v1]
            by_cases v2 : lo + l < v ∧ v ≤ lo + k
            · rw [if_pos v2]; exact R _ _ a (by omega) (by omega)
            · rw [if_neg v2]; exact R _ _ a b (by omega)
end
end Tim

namespace Tim
open PySem PyProof.Rows
theorem ite_le {c : Prop} [Decidable c] {a b n : Nat} (ha : a + 1 < n) (hb : b + 1 < n) : (if c then a else b) + 1 < n := by split <;> assumption
theorem er_list (p : Array Rn) (i : Nat) (r : Rn) (h : i + 1 < p.size) : ((p.setIfInBounds i r).eraseIdxIfInBounds (i + 1)).toList = (p.toList.set i r).eraseIdx (i + 1) := by
  unfold Array.eraseIdxIfInBounds
  rw [dif_pos (by rw [Array.size_setIfInBounds]; exact h), Array.toList_eraseIdx, Array.toList_setIfInBounds]
section
variable {prog : Program} {w : World} {A : Around} {E : Value → Shared → Prop} {s : Shared} {κ : KeyKind} {kd : SortKind}
theorem mergeRun (C : CmpOk prog w A s κ kd) {st : SortSt} (hk : kindOf st = kd) (hf : failedOf st = none) (g : Good κ (arrOf st)) {lo : Nat} (R : Runs κ (arrOf st) (pendingOf st).toList 0 lo) (hlo : lo ≤ (arrOf st).size) {i : Nat} (hi : i + 1 < (pendingOf st).size) {Q : Bool → SortSt → Prop}
    (h : ∀ st', kindOf st' = kd → failedOf st' = none → (arrOf st').toList.Perm (arrOf st).toList → (∀ k, lo ≤ k → KK κ (arrOf st') k = KK κ (arrOf st) k) → Runs κ (arrOf st') (pendingOf st').toList 0 lo → (pendingOf st').size + 1 = (pendingOf st).size → Q true st') :
    wpS (model prog w) A E s (mergeAt' i) Q st := by
  have e1 : (pendingOf st)[i]? = some (pendingOf st)[i] := getElem?_pos _ i (by omega)
  have e2 : (pendingOf st)[i + 1]? = some (pendingOf st)[i + 1] := getElem?_pos _ (i + 1) hi
  have l1 : (pendingOf st).toList[i]? = some (pendingOf st)[i] := by rw [Array.getElem?_toList]; exact e1
  have l2 : (pendingOf st).toList[i + 1]? = some (pendingOf st)[i + 1] := by rw [Array.getElem?_toList]; exact e2
  have T := R.two l1 l2
  have hhi := T.hi
  refine mergeAt_ok C hk hf g (sa := (pendingOf st)[i].1) (na := (pendingOf st)[i].2.1) (pw := (pendingOf st)[i].2.2) (sb := (pendingOf st)[i + 1].1) (nb := (pendingOf st)[i + 1].2.1) (pw2 := (pendingOf st)[i + 1].2.2) e1 e2 T.next T.n1 T.n2 (by omega) T.s1 T.s2 fun ys g' hp ho hr => ?_
  have el := er_list (pendingOf st) i ((pendingOf st)[i].1, (pendingOf st)[i].2.1 + (pendingOf st)[i + 1].2.1, (pendingOf st)[i].2.2) hi
  refine h _ rfl rfl hp (fun k hk => ho k (.inr (by omega))) ?_ ?_
  · show Runs κ ys (((pendingOf st).setIfInBounds i _).eraseIdxIfInBounds (i + 1)).toList 0 lo
    rw [el]
    exact R.merge l1 l2 hr ho
  · show (((pendingOf st).setIfInBounds i _).eraseIdxIfInBounds (i + 1)).size + 1 = _
    rw [← Array.length_toList, el, List.length_eraseIdx, List.length_set, Array.length_toList, if_pos hi]
    omega
structure On (κ : KeyKind) (kd : SortKind) (z0 : Array Keyed) (lo : Nat) (st : SortSt) : Prop where
  kind : kindOf st = kd
  fail : failedOf st = none
  perm : (arrOf st).toList.Perm z0.toList
  runs : Runs κ (arrOf st) (pendingOf st).toList 0 lo
theorem On.size {z0 : Array Keyed} {lo : Nat} {st : SortSt} (o : On κ kd z0 lo st) : (arrOf st).size = z0.size := by
  rw [← Array.length_toList, ← Array.length_toList]; exact o.perm.length_eq
set_option maxHeartbeats 4000000 in
theorem sortRuns_ok (C : CmpOk prog w A s κ kd) {st : SortSt} (hk : kindOf st = kd) (hf : failedOf st = none) (hp : pendingOf st = #[]) (g0 : Good κ (arrOf st)) {Q : Unit → SortSt → Prop}
    (h : ∀ st', (arrOf st').toList.Perm (arrOf st).toList → failedOf st' = none → Ri κ (arrOf st') 0 (arrOf st).size → Q () st') : wpS (model prog w) A E s sortRuns' Q st := by
  refine wpS_bind (wpS_get ?_)
  dsimp only
  generalize hz : arrOf st = z0 at g0 h
  have o0 : On κ kd z0 0 st := ⟨hk, hf, by rw [hz], by rw [hp]; rfl⟩
  have ez : (arrOf st).size = z0.size := by rw [hz]
  show wpS _ _ _ _ (bind _ _) Q st
  generalize (sortPriv% PySem.Builtin.minRun) (arrOf st).size (arrOf st).size 0 = mr
  refine wpS_bind (wpS_mono (wpS_forRange (I := fun x c st' => ∃ lo, c = (none, lo) ∧ On κ kd z0 lo st' ∧ lo ≤ z0.size ∧ min x z0.size ≤ lo)
    (Q := fun c st' => c = (none, z0.size) ∧ On κ kd z0 z0.size st') ?step ?fin ?init) ?post)
  case init => exact ⟨0, rfl, o0, Nat.zero_le _, by omega⟩
  case fin =>
    intro c st' hz_
    refine eE1 c hz_ fun lo hz_ => ?_; have o := hz_.1; have h1 := hz_.2.1; have h2 := hz_.2.2; (repeat clear hz_); clear c
    have : lo = z0.size := by rw [ez] at h2; omega
    subst this
    exact ⟨rfl, o⟩
  case post =>
    intro c st' hz_
    refine eF c hz_ fun o => ?_; clear hz_; clear c
    (try dsimp only)
    refine wpS_bind (wpS_mono (wpS_forRange (I := fun x c st' => c = (none, ()) ∧ On κ kd z0 z0.size st' ∧ (pendingOf st').size ≤ z0.size - x)
      (Q := fun c st' => c = (none, ()) ∧ On κ kd z0 z0.size st' ∧ (pendingOf st').size ≤ 1) ?s2 ?f2 ?i2) ?p2)
    case i2 => exact ⟨rfl, o, by have := o.runs.le; rw [Array.length_toList] at this; omega⟩
    case f2 =>
      intro c st' hz_
      refine eF c hz_ fun hz_ => ?_; have o := hz_.1; have hs := hz_.2; (repeat clear hz_); clear c
      exact ⟨rfl, o, by rw [ez] at hs; omega⟩
    case s2 =>
      intro x c st' _ hx hz_
      obtain ⟨rfl, o, hs⟩ := hz_
      refine wpS_bind (wpS_get ?_)
      (try dsimp only)
      by_cases c1 : (pendingOf st').size ≤ 1
      · first | refine wpS_pos c1 ?_ | rw [if_pos c1]
        exact wpS_pure ⟨rfl, o, c1⟩
      · first | refine wpS_neg c1 ?_ | rw [if_neg c1]
        refine wpS_bind (mergeRun C o.kind o.fail (good_perm g0 o.perm) o.runs (Nat.le_of_eq o.size.symm) (ite_le (by show (pendingOf st').size - 2 - 1 + 1 < _; omega) (by show (pendingOf st').size - 2 + 1 < _; omega)) fun st2 a1 a2 a3 a4 a5 a6 => ?_)
        exact wpS_pure ⟨rfl, ⟨a1, a2, a3.trans o.perm, a5⟩, by omega⟩
    case p2 =>
      intro c st' hz_
      refine eF c hz_ fun hz_ => ?_; have o := hz_.1; have hs := hz_.2; (repeat clear hz_); clear c
      refine wpS_pure (h st' o.perm o.fail ?_)
      have r := o.runs
      generalize hL : (pendingOf st').toList = L at r
      have hl : L.length ≤ 1 := by rw [← hL, Array.length_toList]; exact hs
      match L, r, hl with
      | [], r, _ =>
        have e : 0 = z0.size := r
        intro u v a b c
        omega
      | [q], r, _ =>
        obtain ⟨r1, r2, r3, r4⟩ := r
        have e : 0 + q.2.1 = z0.size := r4
        rw [e] at r3
        exact r3
  case step =>
    intro x c st' _ hx hz_
    obtain ⟨lo, rfl, o, hlo, hxl⟩ := hz_
    have es := o.size
    dsimp only
    by_cases c0 : lo ≥ (arrOf st).size
    · first | refine wpS_pos c0 ?_ | rw [if_pos c0]
      have : lo = z0.size := by omega
      subst this
      exact wpS_pure ⟨rfl, o⟩
    first | refine wpS_neg c0 ?_ | rw [if_neg c0]
    have g := good_perm g0 o.perm
    refine wpS_bind (countRun_ok (st := st') (z0 := arrOf st') C o.kind g (lo := lo) (r := (arrOf st).size - lo) (by omega) (by omega) fun m zs m1 m2 F R => ?_)
    dsimp only
    have hs := F.size
    have fin : ∀ (n : Nat) (zs : Array Keyed), 1 ≤ n → lo + n ≤ z0.size → zs.toList.Perm z0.toList → (∀ k, k < lo → KK κ zs k = KK κ (arrOf st') k) → Ri κ zs lo (lo + n) → On κ kd z0 lo (setArr st' zs) := fun n zs n1 n2 p e r =>
      ⟨o.kind, o.fail, p, o.runs.frame fun k _ k2 => e k k2⟩
    by_cases c1 : m < mr
    case' pos =>
      first | refine wpS_pos c1 ?_ | rw [if_pos c1]
      refine wpS_bind (wpS_lift (wpAny_rule ⟨rfl, ?_⟩))
      refine wpS_bind (binarySort_ok (st := st') (z0 := zs) C o.kind (good_perm g F.perm) (lo := lo) (n := min ((arrOf st).size - lo) mr) (ok := m) (by omega) (by omega) m1 R fun ys F2 R2 => ?_)
      first | refine wpS_neg (by simp) ?_ | rw [if_neg (by simp)]
      have n1 : 1 ≤ min ((arrOf st).size - lo) mr := by omega
      have n2 : lo + min ((arrOf st).size - lo) mr ≤ z0.size := by omega
      have o1 : On κ kd z0 lo (setArr st' ys) := fin _ ys n1 n2 (F2.perm.trans (F.perm.trans o.perm)) (fun k hk => (F2.out k (.inl hk)).trans (F.out k (.inl hk))) R2
      have R3 : Ri κ (arrOf (setArr st' ys)) lo (lo + min ((arrOf st).size - lo) mr) := R2
      generalize min ((arrOf st).size - lo) mr = n at n1 n2 R3 ⊢
      generalize setArr st' ys = s3 at o1 R3 ⊢
    case' neg =>
      first | refine wpS_neg c1 ?_ | rw [if_neg c1]
      have n1 := m1
      have n2 : lo + m ≤ z0.size := by omega
      have o1 : On κ kd z0 lo (setArr st' zs) := fin m zs n1 n2 (F.perm.trans o.perm) (fun k hk => F.out k (.inl hk)) R
      have R3 : Ri κ (arrOf (setArr st' zs)) lo (lo + m) := R
      generalize m = n at n1 n2 R3 ⊢
      generalize setArr st' zs = s3 at o1 R3 ⊢
    all_goals
      have last : ∀ s4, On κ kd z0 lo s4 → Ri κ (arrOf s4) lo (lo + n) → ∃ lo', ((none : Option Unit), lo + n) = (none, lo') ∧ On κ kd z0 lo' (setPending s4 ((pendingOf s4).push (lo, n, 0))) ∧ lo' ≤ z0.size ∧ min (x + 1) z0.size ≤ lo' := fun s4 o4 r4 =>
        ⟨lo + n, rfl, ⟨o4.kind, o4.fail, o4.perm, by
          show Runs κ (arrOf s4) ((pendingOf s4).push (lo, n, 0)).toList 0 (lo + n)
          rw [Array.toList_push]
          exact o4.runs.push n1 r4⟩, n2, by omega⟩
      refine wpS_bind (wpS_get ?_)
      cases hb : (pendingOf s3).back? with
      | none =>
        refine wpS_bind (wpS_modify (wpS_pure ?_))
        exact last s3 o1 R3
      | some q =>
        obtain ⟨q1, q2, q3⟩ := q
        refine wpS_bind (wpS_mono (wpS_forRange (I := fun x c st' => c = (none, ()) ∧ On κ kd z0 lo st' ∧ Ri κ (arrOf st') lo (lo + n))
          (Q := fun c st' => c = (none, ()) ∧ On κ kd z0 lo st' ∧ Ri κ (arrOf st') lo (lo + n)) ?s4 ?f4 ?i4) ?p4)
        case i4 => exact ⟨rfl, o1, R3⟩
        case f4 => rintro c st4 hh; exact hh
        case p4 =>
          intro c s4 hz_
          refine eF c hz_ fun hz_ => ?_; have o4 := hz_.1; have r4 := hz_.2; (repeat clear hz_); clear c
          refine wpS_bind (wpS_modify (wpS_bind (wpS_modify (wpS_pure ?_))))
          refine last (setPending s4 _) ⟨o4.kind, o4.fail, o4.perm, ?_⟩ r4
          show Runs κ (arrOf s4) (Array.modify _ _ _).toList 0 lo
          rw [Array.toList_modify]
          refine Runs.power (κ := κ) (fun r => ?_) _ o4.runs
          exact ⟨rfl, rfl⟩
        case s4 =>
          intro y c s4 _ hy hz_
          obtain ⟨rfl, o4, r4⟩ := hz_
          refine wpS_bind (wpS_get ?_)
          (try dsimp only)
          by_cases c2 : (pendingOf s4).size > 1
          · first | refine wpS_pos c2 ?_ | rw [if_pos c2]
            have ep : (pendingOf s4)[(pendingOf s4).size - 2]? = some (pendingOf s4)[(pendingOf s4).size - 2] := getElem?_pos _ _ (by omega)
            rw [ep]
            dsimp only
            split
            · exact wpS_pure ⟨rfl, o4, r4⟩
            · refine wpS_bind (mergeRun C o4.kind o4.fail (good_perm g0 o4.perm) o4.runs (by rw [o4.size]; exact hlo) (by show (pendingOf s4).size - 2 + 1 < _; omega) fun st2 a1 a2 a3 a4 a5 a6 => ?_)
              exact wpS_pure ⟨rfl, ⟨a1, a2, a3.trans o4.perm, a5⟩, r4.frame fun k k1 _ => a4 k k1⟩
          · first | refine wpS_neg c2 ?_ | rw [if_neg c2]
            exact wpS_pure ⟨rfl, o4, r4⟩
end
end Tim

namespace Tim
open PySem PyProof.Rows PySem.W
noncomputable def lev (κ : KeyKind) (x y : Value) : Prop := κ.kle ((κ.keyOf x).getD κ.dflt) ((κ.keyOf y).getD κ.dflt)
structure Sorts (prog : Program) (w : World) (s : Shared) (κ : KeyKind) (kd : SortKind) (vs : List Value) : Prop where
  cmp : ∀ A, CmpOk prog w A s κ kd
  kind : 2 ≤ vs.length → ∀ (A : Around) (E : Value → Shared → Prop) (Q : SortKind → Shared → Prop), Q kd s → wpAny (model prog w) A (keyKind' vs.toArray) Q E s
  keys : ∀ v ∈ vs, ∃ a, κ.keyOf v = some a
section
variable {prog : Program} {w : World} {A : Around} {E : Value → Shared → Prop} {s : Shared}
theorem pairs_good {κ : KeyKind} {vs : List Value} (h : ∀ v ∈ vs, ∃ a, κ.keyOf v = some a) : Good κ (pairsOf vs) := fun i p e => by
  rw [← Array.getElem?_toList, pairsOf_toList] at e
  obtain ⟨e1, e2⟩ := mem_zip_self (List.mem_of_getElem? e)
  exact h _ e2
theorem pairs_out {κ : KeyKind} {vs : List Value} {zs : Array Keyed} (hp : zs.toList.Perm (pairsOf vs).toList) (hs : Ri κ zs 0 (pairsOf vs).size) : (zs.map (·.2)).toList.Perm vs ∧ (zs.map (·.2)).toList.Pairwise (lev κ) := by
  have e1 : (pairsOf vs).toList.map (·.2) = vs := by
    rw [pairsOf_toList]
    exact List.map_snd_zip (Nat.le_refl _)
  have hsz : zs.size = (pairsOf vs).size := by rw [← Array.length_toList, ← Array.length_toList]; exact hp.length_eq
  rw [Array.toList_map]
  refine ⟨by have := hp.map (·.2); rwa [e1] at this, ?_⟩
  rw [List.pairwise_map]
  have pw : zs.toList.Pairwise (le κ) := srt_pw fun i j hij hj => hs i j (Nat.zero_le _) hij (by omega)
  refine pw.imp_of_mem fun {x y} hx hy hxy => ?_
  have ex : x.1 = x.2 := (mem_zip_self (by rw [← pairsOf_toList]; exact hp.mem_iff.mp hx)).1
  have ey : y.1 = y.2 := (mem_zip_self (by rw [← pairsOf_toList]; exact hp.mem_iff.mp hy)).1
  unfold lev
  rw [← ex, ← ey]
  exact hxy
noncomputable def midHeap (h : Heap) (a : Addr) (vs : List Value) : Heap := ((h.update a (Obj.mapSeq fun _ => #[])).push (seqObj "tuple" vs.toArray 0)).push (seqObj "list" #[] 0)
theorem sort_any {κ : KeyKind} {kd : SortKind} {a : Addr} {vs : List Value} {n : Nat} {P : Fin → Shared → Prop} (ho : s.heap.get? a = some (seqObj "list" vs.toArray n)) (hz : vs.length ≤ sizeLine)
    (S : Sorts prog w { s with heap := midHeap s.heap a vs } κ kd vs)
    (h : ∀ out : Array Value, out.toList.Perm vs → out.toList.Pairwise (lev κ) → P (.done (.ret .none)) { s with heap := sortedHeap s.heap a vs out }) :
    wpAny (model prog w) A (Builtin.«list.sort» ⟨[.ref a], []⟩) P E s := by
  rw [list_sort_plain]
  have ha : a < s.heap.objs.size := Heap.lt_size ho
  have hz' : vs.toArray.size ≤ sizeLine := by simpa using hz
  refine wpAny_bind (listItems_at ho rfl (wpAny_bind (listUpdate_at ho rfl ?_ hz' (Nat.zero_le _))))
  obtain ⟨e1, ho1⟩ : ∃ e1, (s.heap.update a (Obj.mapSeq fun _ => #[])).get? a = some (seqObj "list" #[] e1) := ⟨_, get?_update_seq ho (fun _ => #[])⟩
  refine wpAny_bind (seqEpoch_at ho1 rfl (wpAny_bind (wpAny_newTuple ?_ (by simpa using hz))))
  refine wpAny_bind (wpAny_newList ?_ (Nat.zero_le _))
  refine wpAny_holding ?_
  have ho6 : (midHeap s.heap a vs).get? a = some (seqObj "list" #[] e1) := by
    unfold midHeap
    rw [Heap.get?_push_ne _ _ _ (by rw [size_push', Heap.size_update]; exact Nat.ne_of_lt (Nat.lt_succ_of_lt ha)), Heap.get?_push_ne _ _ _ (by rw [Heap.size_update]; exact Nat.ne_of_lt ha)]
    exact ho1
  show wpAny (model prog w) A _ P E { s with heap := midHeap s.heap a vs }
  dsimp only
  have fin : ∀ zs : Array Keyed, zs.toList.Perm (pairsOf vs).toList → Ri κ zs 0 (pairsOf vs).size → P (.done (.ret .none)) { s with heap := sortedHeap s.heap a vs (zs.map (·.2)) } := fun zs hp hs => by
    obtain ⟨q1, q2⟩ := pairs_out hp hs
    exact h _ q1 q2
  have oz : ∀ zs : Array Keyed, zs.toList.Perm (pairsOf vs).toList → (zs.map (·.2)).size ≤ sizeLine + 1 := fun zs hp => by
    rw [Array.size_map, ← Array.length_toList, hp.length_eq, Array.length_toList, pairsOf_size]; omega
  by_cases h2 : vs.toArray.size < 2
  · rw [if_pos h2, if_pos h2]
    refine wpAny_bind (wpAny_pure ?_)
    rw [StateT.run_pure]
    refine wpAny_bind (wpAny_pure ?_)
    dsimp only
    refine wpAny_bind (seqEpoch_at ho6 rfl (wpAny_bind (listUpdate_at ho6 rfl ?_ (Nat.zero_le _) (oz (pairsOf vs) (List.Perm.refl _)))))
    simp only [bne_self_eq_false, Bool.false_eq_true, if_false]
    refine wpAny_pure (fin (pairsOf vs) (List.Perm.refl _) fun u v _ a b => ?_)
    have hv : vs.toArray.size = vs.length := List.size_toArray ..
    have e : u = v := by rw [pairsOf_size] at b; omega
    subst e; exact KeyOrd.kle_refl _
  · rw [if_neg h2, if_neg h2]
    have h2' : 2 ≤ vs.length := by
      have hv : vs.toArray.size = vs.length := List.size_toArray ..
      omega
    refine wpAny_bind (S.kind h2' A _ _ ?_)
    refine wpAny_bind (wpAny_mono (sortRuns_ok (st := SortSt.mk' kd (pairsOf vs) #[] 7 none) (Q := fun _ st' => (arrOf st').toList.Perm (pairsOf vs).toList ∧ failedOf st' = none ∧ Ri κ (arrOf st') 0 (pairsOf vs).size) (S.cmp A) rfl rfl rfl (pairs_good S.keys) fun st' a1 a2 a3 => ⟨a1, a2, a3⟩) ?_ fun _ _ e => e)
    rintro ⟨⟨⟩, st'⟩ s' ⟨rfl, hp, hf, hs⟩
    dsimp only
    refine wpAny_bind (seqEpoch_at ho6 rfl (wpAny_bind (listUpdate_at ho6 rfl ?_ (Nat.zero_le _) (oz _ hp))))
    rw [hf]
    simp only [bne_self_eq_false, Bool.false_eq_true, if_false]
    exact wpAny_pure (fin _ hp hs)
@[reducible] noncomputable def intK : KeyKind where
  α := Int
  blt a b := decide (a < b)
  irrefl a := by simp
  trans a b c h1 h2 := by simp only [decide_eq_true_eq] at *; omega
  negTrans a b c h := by simp only [decide_eq_true_eq] at *; omega
  total a b h1 h2 := by simp only [decide_eq_false_iff_not] at *; omega
  keyOf v := match v with | .int x _ => some x | _ => none
  dflt := 0
theorem ints_sorts {vs : List Value} {ns : List Int} (hi : IntsAre vs ns) : Sorts prog w s intK oneType' vs := by
  refine ⟨fun A E x y a b Q hx hy q => ?_, fun h2 A E Q q => ?_, fun v hv => ?_⟩
  · cases x <;> simp only [intK, reduceCtorEq, Option.some.injEq] at hx
    cases y <;> simp only [intK, reduceCtorEq, Option.some.injEq] at hy
    cases hx; cases hy
    rw [keyLt'_oneType]
    exact oneLt_int q
  · match vs, hi, h2 with
    | v₁ :: v₂ :: rest, hi, _ =>
      rw [keyKind_ints hi]
      exact wpAny_pure q
  · obtain ⟨n, t, e⟩ := hi.all v hv
    subst e; exact ⟨n, rfl⟩
noncomputable def intOf : Value → Option Int
  | .int n _ => some n
  | _ => none
noncomputable def decT (h : Heap) (v : Value) : Option (List Int) := match v with
  | .ref a => match h.get? a with
    | some o => match o.data with
      | .seq xs _ => xs.toList.mapM intOf
      | _ => none
    | none => none
  | _ => none
@[reducible] noncomputable def tupK (h : Heap) : KeyKind where
  α := List Int
  blt a b := decide (a < b)
  irrefl a := by simpa using List.lt_irrefl a
  trans a b c h1 h2 := by simp only [decide_eq_true_eq] at *; exact List.lt_trans h1 h2
  negTrans a b c h := by
    simp only [decide_eq_true_eq] at *
    by_cases hab : a < b
    · exact .inl hab
    · exact .inr (List.lt_of_le_of_lt (List.not_lt.mp hab) h)
  total a b h1 h2 := by simp only [decide_eq_false_iff_not] at *; exact List.le_antisymm (List.not_lt.mp h2) (List.not_lt.mp h1)
  keyOf v := decT h v
  dflt := []
end
end Tim

namespace PySem
open Sem (wp)
theorem F.lk_list_keys : typeLookup (.type "list") "keys" = pure none := by rw [typeLookup_type, builtinLookup_eq_fast]; kernel_rfl
section
variable {prog : Program} {w : World} {A : Around} {E : Value → Shared → Prop} {s : Shared} {a : Addr}
theorem keys_none {xs : Array Value} {k : Nat} {Q : Option Value → Shared → Prop} (hx : s.heap.get? a = some { cls := .type "list", data := .seq xs k }) (hA : A.handled = none)
    (h : ∀ h' tk, (∀ b u, s.heap.get? b = some u → h'.get? b = some u) → Q none { s with heap := h', toks := tk }) : wpAny (model prog w) A (getAttr? (.ref a) "keys") Q E s := by
  obtain ⟨hp, g, d, tk, os⟩ := s
  have hT : ∀ tk', (⟨hp, g, d, tk', os⟩ : Shared).TypeIs (.ref a) "list" := fun _ => ⟨_, hx, rfl⟩
  have q1 := sub_AttributeError
  have q3 := F.slot_list_getattribute.lookup
  have q4 := F.slot_list_getattribute.bind (.ref a)
  have q5 := am_list_getattr_none
  have q6 := F.lk_list_keys
  unfold getAttr? getAttrBy? getAttrBy
  repeat (any_goals (first
    | assumption
    | exact hT _
    | ((with_reducible show wpAny _ _ (call (Value.builtin "list.__getattribute__") _ _) _ _ _)
       refine call_meets F.slot_list_getattribute (hT _) am_entry_list_getattribute (F.args_list_getattribute_2 _ _) (meets_getattribute_miss_list a xs k #[] "keys" _ q6 (by decide) (by decide)) ⟨hx, hA, fun h' tk' e hx' => ?_⟩)
    | wp_step))
  obtain ⟨t1, u1, he⟩ := hx'.there
  show wpAny (model prog w) A (getattributeRaised (Value.ref a) _ _ _ _ _ _) _ _ _
  unfold getattributeRaised
  repeat (any_goals (first | assumption | wp_step))
  exact h _ _ fun b u hb => hx'.keeps b u hb
end
end PySem

namespace PySem
open PyProof.Rows
theorem F.entry_upd_loop : entryFor table "dict.update.loop" = some Builtin.«dict.update.loop» := entryFor_of_tree (by kernel_rfl)
theorem F.plain_upd_loop : plainId "dict.update.loop" = true := by decide +kernel
section
variable {prog : Program} {w : World} {K : Type} [DecidableEq K] {knd : KeyKind prog w K} {A : Around} {R : Result → Shared → Prop}
theorem upd_loop {d it l : Addr} {items : List Value} {kvs : List (K × Value)} {res : Value} (hA : A.handled = none) (hdi : d ≠ it) (hdl : d ≠ l) (hil : it ≠ l) (hlen : kvs.length = items.length) (hz : items.length ≤ sizeLine) :
    ∀ (m i : Nat) (t : Tok) (s : Shared), items.length - i = m → i ≤ items.length → s.heap.IsListIter it l i → s.heap.IsList l items.toArray → s.heap.DictOf knd d (merged [] (kvs.take i)) →
      (∀ (j : Nat) (v : Value), items[j]? = some v → ∃ (a : Addr) (key u : Value) (k : K), v = .ref a ∧ a ≠ d ∧ a ≠ it ∧ IsTup s.heap a #[key, u] ∧ kvs[j]? = some (k, u) ∧ knd.is k key = true) →
      (∀ h' tk, (∀ b o, b ≠ d → b ≠ it → s.heap.get? b = some o → h'.get? b = some o) → h'.DictOf knd d (merged [] kvs) → R (.ok (.ret res)) { s with heap := h', toks := tk }) →
      codeAny (model prog w) A (.builtin "dict.update.loop" ⟨[.ref d, .ref it, .int i t, res], []⟩) R s := by
  intro m
  induction m with
  | zero =>
    intro i t s hm hi hit hl hd hp hR
    refine codeAny_builtin F.entry_upd_loop ?_
    rw [Around.under_plainId F.plain_upd_loop _]
    show wpAny _ A.in1 (pyNext (.ref it) >>= _) _ _ s
    refine wpAny_bind (wpAny_pyNext_list_end hA hit hl (by simp; omega) fun h' eb => ?_)
    have e : kvs.take i = kvs := List.take_of_length_le (by omega)
    rw [e] at hd
    show wpAny _ A.in1 (ret res) _ _ _
    refine wpAny_pure (hR h' s.toks (fun b o _ h2 e => eb b o h2 e) ?_)
    obtain ⟨o, es, ep, ho, rest⟩ := hd
    exact ⟨o, es, ep, eb d o hdi ho, rest⟩
  | succ m ih =>
    intro i t s hm hi hit hl hd hp hR
    have hlt : i < items.length := by omega
    obtain ⟨a, key, u, k, e1, had, hai, ⟨o, ho, hc, n, hdat⟩, ek, hk⟩ := hp i items[i] (List.getElem?_eq_getElem hlt)
    refine codeAny_builtin F.entry_upd_loop ?_
    rw [Around.under_plainId F.plain_upd_loop _]
    show wpAny _ A.in1 (pyNext (.ref it) >>= _) _ _ s
    refine wpAny_bind (wpAny_pyNext_list_item hit hl (x := .ref a) (by rw [← e1]; simp [hlt]) fun h1 hit1 sb1 => ?_)
    have ho1 : h1.get? a = some o := sb1.extBut a o hai ho
    show wpAny _ A.in1 (holding [Value.ref a] _ >>= _) _ _ _
    refine wpAny_bind (wpAny_holding ?_)
    have hd1 : h1.DictOf knd d (merged [] (kvs.take i)) := by
      obtain ⟨o', es, ep, ho', rest⟩ := hd
      exact ⟨o', es, ep, sb1.extBut d o' hdi ho', rest⟩
    refine wpAny_bind (wpAny_tryCatch ?_)
    unfold Builtin.Dict.pairItems
    refine wpAny_bind (wpAny_typeOf (T := "tuple") ⟨o, ho1, hc⟩ ?_)
    rw [if_pos (by decide)]
    refine wpAny_bind (wpAny_seqItems ho1 hdat (wpAny_pure ?_))
    have hl1 := merged_length_le ([] : List (K × Value)) (kvs.take i)
    rw [List.length_take] at hl1
    show wpAny _ A.in1 (holding [key, u] (dictSet d key u)) _ _ _
    refine wpAny_holding (wpAny_dictSet_pairs hk hd1 (fun h2 hd2 sb2 => ?_) (by simp only [List.length_nil] at hl1; omega))
    rw [← merged_take_succ [] kvs i (k, u) ek] at hd2
    refine wpAny_pure ⟨plainId_quiet F.plain_upd_loop _, ih (i + 1) 0 _ (by omega) hlt ?_ ?_ hd2 ?_ ?_⟩
    · obtain ⟨oi, hoi, r⟩ := hit1
      exact ⟨oi, sb2.extBut it oi (fun z => hdi z.symm) hoi, r⟩
    · obtain ⟨ol, hol, r⟩ := hl
      exact ⟨ol, sb2.extBut l ol (fun z => hdl z.symm) (sb1.extBut l ol (fun z => hil z.symm) hol), r⟩
    · intro j v hv
      obtain ⟨a', key', u', k', q1, q2, q3, ⟨o', qo, qc, qn, qd⟩, q5, q6⟩ := hp j v hv
      exact ⟨a', key', u', k', q1, q2, q3, ⟨o', sb2.extBut a' o' q2 (sb1.extBut a' o' q3 qo), qc, qn, qd⟩, q5, q6⟩
    · intro h' tk hk' hd'
      exact hR h' tk (fun b o' b1 b2 e => hk' b o' b1 b2 (sb2.extBut b o' b1 (sb1.extBut b o' b2 e))) hd'
theorem dict_pairs {s : Shared} {E : Value → Shared → Prop} {l : Addr} {items : List Value} {n : Nat} {kvs : List (K × Value)} {Q : Value → Shared → Prop} (hA : A.handled = none) (hl : s.heap.get? l = some { cls := .type "list", data := .seq items.toArray n }) (hlen : kvs.length = items.length) (hz : items.length ≤ sizeLine)
    (hp : ∀ (j : Nat) (v : Value), items[j]? = some v → ∃ (a : Addr) (key u : Value) (k : K), v = .ref a ∧ IsTup s.heap a #[key, u] ∧ kvs[j]? = some (k, u) ∧ knd.is k key = true)
    (h : ∀ h' tk, (∀ b o, s.heap.get? b = some o → h'.get? b = some o) → h'.DictOf knd s.heap.objs.size (merged [] kvs) → Q (.ref s.heap.objs.size) { s with heap := h', toks := tk }) :
    wpAny (model prog w) A (call (.type "dict") [.ref l]) Q E s := by
  refine callType_codes (Q₁ := fun obj s₁ => obj = .ref s.heap.objs.size ∧ s₁ = { s with heap := s.heap.push { cls := .type "dict", data := .dict #[] } }) F.kt_called_dict (F.kt_typeCall_dict_1 _) F.entry_dict_init (kt_code_dict_new _ ⟨rfl, rfl⟩) ?_
  intro obj s₁ hz_
  obtain ⟨rfl, rfl⟩ := hz_
  have hnew : (s.heap.push { cls := .type "dict", data := .dict #[] }).DictOf knd s.heap.objs.size [] := Heap.DictOf.new s.heap
  have old : ∀ b o, s.heap.get? b = some o → (s.heap.push { cls := .type "dict", data := .dict #[] }).get? b = some o := fun b o e => Heap.get?_push_of_some _ e
  have hlt : l < s.heap.objs.size := Heap.lt_size hl
  refine ⟨hnew.typeIs, F.args_dict_init_2 _ _, ?_⟩
  unfold Builtin.«dict.__init__»
  refine wpAny_bind ?_
  unfold Builtin.Dict.selfAndRest
  refine wpAny_bind (wpAny_notOrdered_dict hnew.typeIs ?_)
  show wpAny _ _ (pure (s.heap.objs.size, [Value.ref l])) _ _ _
  refine wpAny_pure ?_
  show wpAny _ _ (Builtin.Dict.updateFrom "dict.__init__" s.heap.objs.size (.ref l) [] .none) _ _ _
  unfold Builtin.Dict.updateFrom
  refine wpAny_bind (wpAny_typeOf (T := "list") ⟨_, old _ _ hl, rfl⟩ ?_)
  rw [if_pos (by decide)]
  refine wpAny_bind (keys_none (old _ _ hl) hA fun h1 tk1 k1 => ?_)
  simp only [Option.isNone_none, if_true]
  refine wpAny_bind (wpAny_rule ?_)
  have hl1 : h1.get? l = some { cls := .type "list", data := .seq items.toArray n } := k1 _ _ (old _ _ hl)
  have hd1 : h1.DictOf knd s.heap.objs.size [] := by
    obtain ⟨o', es, ep, ho', rest⟩ := hnew
    exact ⟨o', es, ep, k1 _ _ ho', rest⟩
  have hdl : s.heap.objs.size < h1.objs.size := by
    obtain ⟨o', es, ep, ho', rest⟩ := hd1
    exact Heap.lt_size ho'
  refine wpAny_bind (wpAny_pyIter_list ⟨_, hl1, rfl, _, rfl⟩ ?_)
  have hd2 : (h1.push { cls := .type "list_iterator", data := .fields #[.ref l, .int 0 0] }).DictOf knd s.heap.objs.size [] := hd1.push _
  refine wpAny_pure ⟨plainId_quiet F.plain_upd_loop _, ?_⟩
  have kk : ∀ b o, s.heap.get? b = some o → (h1.push { cls := .type "list_iterator", data := .fields #[.ref l, .int 0 0] }).get? b = some o := fun b o e => Heap.get?_push_of_some _ (k1 b o (old b o e))
  have go : ∀ {R : Result → Shared → Prop}, (∀ h' tk, (∀ b o, s.heap.get? b = some o → h'.get? b = some o) → h'.DictOf knd s.heap.objs.size (merged [] kvs) → R (.ok (.ret .none)) { s with heap := h', toks := tk }) →
      codeAny (model prog w) A.in1 (.builtin "dict.update.loop" ⟨[.ref s.heap.objs.size, .ref h1.objs.size, .int (0 : Nat) 0, .none], []⟩) R { s with heap := h1.push { cls := .type "list_iterator", data := .fields #[.ref l, .int 0 0] }, toks := tk1 } := fun {R} hR => by
    refine upd_loop (A := A.in1) (knd := knd) (l := l) (items := items) (kvs := kvs) hA (Nat.ne_of_lt hdl) (Nat.ne_of_gt hlt) (Nat.ne_of_gt (Nat.lt_trans hlt hdl)) hlen hz items.length 0 0 _ rfl (Nat.zero_le _) ⟨_, Heap.get?_push_size _ rfl, rfl, rfl⟩ ⟨_, kk _ _ hl, rfl, _, rfl⟩ ?_ (fun j v hv => ?_) fun h' tk hk' hd' => ?_
    · simpa [merged] using hd2
    · obtain ⟨a, key, u, k, q1, ⟨o', qo, qc, qn, qd⟩, q5, q6⟩ := hp j v hv
      have ha := Heap.lt_size qo
      exact ⟨a, key, u, k, q1, Nat.ne_of_lt ha, Nat.ne_of_lt (Nat.lt_trans ha hdl), ⟨o', kk _ _ qo, qc, qn, qd⟩, q5, q6⟩
    · refine hR h' tk (fun b o e => ?_) hd'
      have hb := Heap.lt_size e
      exact hk' b o (Nat.ne_of_lt hb) (Nat.ne_of_lt (Nat.lt_trans hb hdl)) (kk b o e)
  exact go fun h' tk hk' hd' => ⟨rfl, h h' tk hk' hd'⟩
end
end PySem

namespace L2
open PySem PySem.Spec PyProof.Rows
noncomputable def tabR (rs : List (Int × Int)) : List (Key × V) := rs.map fun r => (.inl r.1, .int r.2)
theorem tabR_len (rs : List (Int × Int)) : (tabR rs).length = rs.length := by unfold tabR; rw [List.length_map]
section
variable {X : Cx}
theorem tab_of {pins : List (Addr × Obj)} {σ : St} {H : Hp} {s : Shared} (I : Inv X pins σ H s) : ∀ {ys : List V} {rs : List (Int × Int)} {its : List Value}, Rows H ys rs → Vals ys its →
    ∃ kvs : List (Key × Value), kvs.length = its.length ∧ KV (tabR rs) kvs ∧ ∀ (j : Nat) (v : Value), its[j]? = some v → ∃ (a : Addr) (key u : Value) (k : Key), v = .ref a ∧ IsTup s.heap a #[key, u] ∧ kvs[j]? = some (k, u) ∧ (mixKind X.prog X.w).is k key = true
  | _, _, _, .nil, .nil => ⟨[], rfl, .nil, (fun j v h => by simp at h)⟩
  | _, row :: _, _, .cons r0 p0, .cons v0 rv => by
    obtain ⟨kvs, e1, e2, e3⟩ := tab_of I p0 rv
    obtain ⟨a, rfl, ha⟩ := r0
    obtain ⟨_, it2, rv2, ht⟩ := (show ObjOk X.prog X.w H s.heap a (.tup [.int row.1, .int row.2]) from I.hok a _ ha)
    obtain ⟨k1, k2, rfl, hk1, hk2⟩ := Vals.two rv2
    obtain ⟨t1, rfl⟩ := hk1
    refine ⟨(.inl row.1, k2) :: kvs, by rw [List.length_cons, List.length_cons, e1], .cons ⟨rfl, hk2⟩ e2, fun j v hv => ?_⟩
    cases j with
    | zero =>
      simp only [List.getElem?_cons_zero, Option.some.injEq] at hv
      subst hv
      cases v0
      exact ⟨a, .int row.1 t1, k2, .inl row.1, rfl, ht, rfl, intKind_is X.prog X.w row.1 t1⟩
    | succ j =>
      simp only [List.getElem?_cons_succ] at hv ⊢
      exact e3 j v hv
theorem call_dictR (hc : X.calm = true) : CallR X (.type "dict") (fun xs H Q => Ex3 fun (p : Addr) (ys : List V) (rs : List (Int × Int)) => xs = [.ref p] ∧ H p = some (.lst ys) ∧ Rows H ys rs ∧ (rs.map Prod.fst).Nodup ∧ ∀ d, H d = none → Q (.ref d) (upd H d (.dK (tabR rs)))) := by
  intro pins s σ H xs us Q I r h
  obtain ⟨p, ys, rs, rfl, hp, hrs, hnd, q⟩ := h
  obtain ⟨u, rfl, ru⟩ := vals1 r
  cases (show u = Value.ref p from ru)
  obtain ⟨hz, its, n, rv, hget⟩ := (show ObjOk X.prog X.w H s.heap p (.lst ys) from I.hok p _ hp)
  have hlen := rv.length
  have hlr := hrs.length
  obtain ⟨kvs, e1, e2, e3⟩ := tab_of I hrs rv
  have hk : kvs.map (·.1) = (rs.map Prod.fst).map Sum.inl := by
    have := e2.keys
    rw [← this]
    unfold tabR
    rw [List.map_map, List.map_map]; rfl
  have nd : (kvs.map (·.1)).Nodup := by
    rw [hk]
    exact List.Pairwise.map (R := (· ≠ ·)) (S := (· ≠ ·)) _ (fun a b h e => h (Sum.inl.inj e)) hnd
  refine dict_pairs (knd := mixKind X.prog X.w) (I.ok.hd hc) hget e1 (by omega) e3 fun h' tk keep dd => ?_
  rw [merged_nil_of_nodup _ nd] at dd
  have hb := I.big
  refine ⟨.ref s.heap.objs.size, _, I.laid (t' := tk) keep (Nat.le_refl _) (dk_new (by rw [tabR_len]; omega) ?_ e2 dd), rfl, q _ (I.hok.fresh (Nat.le_refl _))⟩
  simpa using Nat.ne_of_gt hb
end
end L2

namespace OL
open PySem L2
noncomputable def sz (x : Nat) : Nat := (List.range 12).countP fun t => x.testBit t
section
variable {many : Int} {bs : List Int} (hb : ∀ x ∈ bs, InB many x)
include hb
end
end OL

namespace OL
open PySem L2
theorem big5 {n : Nat} (h : n ≤ 65000) : n < sizeLine := Nat.lt_of_le_of_lt h (by decide)
end OL

namespace OL
open PySem L2
noncomputable def b12 (n : Nat) (t : Int) : Bool := Builtin.bitAnd ((n : Int) / 2 ^ t.toNat) 1 == 1
end OL

namespace L2
open PySem PySem.Spec PyProof.Rows
section
variable {X : Cx}
noncomputable def rSortD : List V → Hp → VK → Prop := fun xs H Q => Ex2 fun (d : Addr) (rs : List (Int × Int)) => xs = [.ref d] ∧ H d = some (.dK (tabR rs)) ∧ ∀ (l : Addr) (ns : List Int), H l = none → ns.Perm (rs.map Prod.fst) → ns.Pairwise (· ≤ ·) → Q (.ref l) (upd H l (.lst (ns.map V.int)))
theorem call_sortD (hc : X.calm = true) : CallR X (.builtin "sorted") rSortD := by
  intro pins s σ H xs us Q I r h
  obtain ⟨d, rs, rfl, hd, q⟩ := h
  obtain ⟨u, rfl, ru⟩ := vals1 r
  cases (show u = Value.ref d from ru)
  obtain ⟨hz, lo, vs, rel, dd⟩ := dk_of I.hok hd
  obtain ⟨ep, hat⟩ := dd.dictAt
  have hlen := rel.length
  rw [tabR_len] at hz hlen
  refine Calls.call_function_entry kind_sorted plain_sorted entry_sorted (args_sorted1 _) ?_
  unfold Builtin.«sorted»
  refine wpAny_bind (m := checkCount "sorted" 1 1 _) (wpAny_pure ?_)
  refine wpAny_bind (PySem.W.kdu_collect (PySem.W.kdl_dict (knd := mixKind X.prog X.w) (kvs := vs) (ep := ep) lo) (I.ok.hd hc) hat (by omega) fun h1 tk acc keep hacc => ?_)
  have hal : acc.toList.length = rs.length := by rw [Array.length_toList, hlen]; exact hacc.1
  have hi : IntsAre acc.toList (rs.map Prod.fst) := by
    refine intsAre_of (vals_of_get _ _ (by simp [hal]) fun i x v hx hv => ?_)
    obtain ⟨k, y, hy, hk⟩ := hacc.2 i v (by rw [← Array.getElem?_toList]; exact hv)
    have ek : ((tabR rs).map (·.1))[i]? = some k := by rw [rel.keys, List.getElem?_map, hy]; rfl
    unfold tabR at ek
    rw [List.map_map, List.getElem?_map] at ek
    rw [List.getElem?_map, List.getElem?_map] at hx
    cases er : rs[i]? with
    | none => rw [er] at ek; cases ek
    | some r =>
      rw [er] at ek hx
      cases hx
      have ek : (Sum.inl r.1 : Key) = k := Option.some.inj ek
      rw [← ek] at hk
      exact kV_rel hk
  refine wpAny_bind (wpAny_newList ?_ (by omega))
  have hoL : (h1.push (seqObj "list" acc.toList.toArray 0)).get? h1.objs.size = some (seqObj "list" acc.toList.toArray 0) := Heap.get?_push_size _ rfl
  refine wpAny_bind (wpAny_holding (wpAny_call_entry slot_list_sort ⟨_, hoL, rfl⟩ entry_list_sort (Tim.sort_any hoL (by omega) (Tim.ints_sorts hi) fun out p1 p2 => ⟨_, rfl, ?_⟩) (args_list_sort _)))
  refine wpAny_pure ⟨_, rfl, ?_⟩
  have hnum := hi.nums
  have ho : IntsAre out.toList (out.toList.map numOf) := intsAre_map _ fun v hv => hi.all v (p1.mem_iff.mp hv)
  have pm : (out.toList.map numOf).Perm (rs.map Prod.fst) := by rw [← hnum]; exact p1.map numOf
  have pw : (out.toList.map numOf).Pairwise (· ≤ ·) := by
    rw [List.pairwise_map]
    refine p2.imp_of_mem fun {x y} hx hy hxy => ?_
    obtain ⟨a, t, rfl⟩ := hi.all x (p1.mem_iff.mp hx)
    obtain ⟨b, t', rfl⟩ := hi.all y (p1.mem_iff.mp hy)
    have : decide (b < a) = false := hxy
    simp only [decide_eq_false_iff_not] at this
    show a ≤ b
    omega
  obtain ⟨e, he⟩ := sortedHeap_at (out := out) hoL
  have hl2 := pm.length_eq
  have I1 : Inv X pins σ H { s with heap := h1, toks := tk } := I.kept (t' := tk) keep
  refine ⟨.ref h1.objs.size, _, I1.laid (t' := tk) (fun b o hb1 => ?_) (Nat.le_refl _) (show ObjOk X.prog X.w _ _ _ (.lst ((out.toList.map numOf).map V.int)) from ⟨?_, out.toList, e, vals_ints ho, ?_⟩), rfl, q _ _ (I1.hok.fresh (Nat.le_refl _)) pm pw⟩
  · have hlt := Heap.lt_size hb1
    rw [sortedHeap_old (Nat.ne_of_lt hlt) (by rw [size_push']; exact Nat.lt_succ_of_lt hlt)]
    exact Heap.get?_push_of_some _ hb1
  · rw [List.length_map, hl2, List.length_map]; omega
  · rw [Array.toArray_toList]; exact he
end
end L2

namespace L2
open PySem PySem.Spec PyProof.Rows

theorem cellsFrom_app : ∀ (names : List (Str × NameKind)) (n : Nat) (acc : List (Str × Addr)), cellsFrom n names acc = cellsFrom n names [] ++ acc
  | [], _, _ => rfl
  | (name, kind) :: r, n, acc => by
    unfold cellsFrom
    split
    · rw [cellsFrom_app r (n + 1) ((name, n) :: acc), cellsFrom_app r (n + 1) [(name, n)], List.append_assoc]; rfl
    · exact cellsFrom_app r n acc
theorem cellsFrom_mem : ∀ (names : List (Str × NameKind)) (n : Nat) (acc : List (Str × Addr)) {x : Str} {c : Addr}, (x, c) ∈ cellsFrom n names acc → (x, NameKind.cell) ∈ names ∨ (x, c) ∈ acc
  | [], _, _, _, _, h => .inr h
  | (name, kind) :: r, n, acc, x, c, h => by
    unfold cellsFrom at h
    split at h
    · rename_i hk
      obtain z | z := cellsFrom_mem r (n + 1) _ h
      · exact .inl (List.mem_cons_of_mem _ z)
      · obtain e | z := List.mem_cons.mp z
        · cases e
          have : kind = .cell := by simpa using hk
          subst this
          exact .inl List.mem_cons_self
        · exact .inr z
    · obtain z | z := cellsFrom_mem r n _ h
      · exact .inl (List.mem_cons_of_mem _ z)
      · exact .inr z

theorem lookup_app {l1 l2 : List (Str × Addr)} {x : Str} : (l1 ++ l2).lookup x = match l1.lookup x with | some c => some c | none => l2.lookup x := by
  induction l1 with
  | nil => rfl
  | cons p r ih =>
    obtain ⟨n, c⟩ := p
    rw [List.cons_append, List.lookup_cons, List.lookup_cons]
    cases x == n with
    | true => rfl
    | false => exact ih

theorem wpAny_newFunctionEnv_comp {M : Model} {A : Around} {E : Value → Shared → Prop} {s : Shared} {scope : Scope} {globals : Addr} {cl : List (Str × Addr)} {qual : Str} {env : Env} {Q : Env → Shared → Prop}
    (hQ : Q (newEnv scope s.heap.objs.size globals (cellsFrom (s.heap.objs.size + 1) scope.names cl) qual none .none (some env) builtinsNs) { s with heap := pushCells (s.heap.push { cls := .type "dict", data := .dict #[] }) scope.names }) :
    wpAny M A (newFunctionEnv scope globals cl [] qual none .none (some env)) Q E s := by
  simp only [newFunctionEnv, Option.isSome_some, if_true]
  refine wpAny_bind (wpAny_alloc ?_)
  refine wpAny_bind (wpAny_layCells _ (fun name kind cells => by cases hkc : kind == NameKind.cell <;> simp [hkc]) _ _ _ _ ?_)
  rw [show ({ s with heap := s.heap.push { cls := .type "dict", data := .dict #[] } } : Shared).heap.objs.size = s.heap.objs.size + 1 from Heap.size_push ..]
  refine wpAny_bind ?_
  rw [List.forIn_nil]
  exact wpAny_pure (wpAny_pure hQ)

noncomputable def RelSc (a b : Scope) : Prop := a = b ∨ ∃ env, a = relabel b env
theorem relabel_kept {scope : Scope} {env : Env} {x : Str} (h : scope.names.lookup x = some .cell ∨ scope.names.lookup x = some .free) : (relabel scope env).names.lookup x = some .cell ∨ (relabel scope env).names.lookup x = some .free := by
  have go : ∀ names : List (Str × NameKind), (names.lookup x = some .cell ∨ names.lookup x = some .free) → (names.map fun (n, k) => if (k == NameKind.free && env.scope.kind == .function && env.kindOf n == some .cell) then (n, NameKind.cell) else (n, k)).lookup x = some .cell ∨
      (names.map fun (n, k) => if (k == NameKind.free && env.scope.kind == .function && env.kindOf n == some .cell) then (n, NameKind.cell) else (n, k)).lookup x = some .free := by
    intro names
    induction names with
    | nil => intro h; rcases h with h | h <;> cases h
    | cons p r ih =>
      obtain ⟨n, k⟩ := p
      intro h
      rw [List.lookup_cons] at h
      rw [List.map_cons]
      by_cases hc : (k == NameKind.free && env.scope.kind == .function && env.kindOf n == some .cell) = true
      · simp only [hc, if_true]
        rw [List.lookup_cons]
        cases hx : x == n with
        | true => exact .inl rfl
        | false => rw [hx] at h; exact ih h
      · have hc' : (k == NameKind.free && env.scope.kind == .function && env.kindOf n == some .cell) = false := by simpa using hc
        simp only [hc', Bool.false_eq_true, if_false]
        rw [List.lookup_cons]
        cases hx : x == n with
        | true => rw [hx] at h; exact h
        | false => rw [hx] at h; exact ih h
  exact go _ h

noncomputable def Cx.compC (X : Cx) (scope : Scope) (own : List Str) (js : List Nat) (cl : List (Str × Addr)) (s : Shared) (H : Hp) (C : Addr) (fp : List Addr) : Cx :=
  { prog := X.prog, w := X.w, K := X.K, mg := X.mg, base := X.base, A := X.A, N := own ++ js.map (fun j => X.N.getD j ""), s₀ := s, H₀ := H, env := compEnvC scope cl C X.env, outer := X.stack, stack := X.stack, ex := fp,
    fn := fun x => scope.names.lookup x == some .cell, calm := X.calm, pn := [], xe := fun _ _ => False }
structure CompScopeCN (sc : Scope) (N : List Str) (scope : Scope) (js : List Nat) : Prop where
  kind : scope.kind = .function
  cell : ∀ x ∈ scope.names, x.2 = .cell → scope.names.lookup x.1 = some .cell
  names : ∀ x ∈ scope.names, x.2 = .local → scope.names.lookup x.1 = some .local
  free : ∀ x ∈ scope.names, x.2 = .free → sc.names.lookup x.1 = some .cell ∨ sc.names.lookup x.1 = some .free
  js : ∀ j ∈ js, scope.names.lookup (N.getD j "") ≠ some .local ∧ scope.names.lookup (N.getD j "") ≠ some .cell
structure CompScopeC (X : Cx) (scope : Scope) (own : List Str) (js : List Nat) : Prop where
  kind : scope.kind = .function
  cell : ∀ x ∈ scope.names, x.2 = .cell → scope.names.lookup x.1 = some .cell
  names : ∀ x ∈ scope.names, x.2 = .local → scope.names.lookup x.1 = some .local
  free : ∀ x ∈ scope.names, x.2 = .free → X.env.kindOf x.1 = some .cell ∨ X.env.kindOf x.1 = some .free
  js : ∀ j ∈ js, scope.names.lookup (X.N.getD j "") ≠ some .local ∧ scope.names.lookup (X.N.getD j "") ≠ some .cell

section
variable {X : Cx} {scope : Scope} {own : List Str} {js : List Nat}
theorem CompScopeCN.cs {sc : Scope} {N : List Str} (S : CompScopeCN sc N scope js) (h1 : RelSc X.env.scope sc) (h2 : X.N = N) : CompScopeC X scope own js := by
  subst h2
  refine ⟨S.kind, S.cell, S.names, fun x hx hf => ?_, S.js⟩
  have := S.free x hx hf
  obtain e | ⟨env, e⟩ := h1
  · show X.env.scope.names.lookup _ = _ ∨ X.env.scope.names.lookup _ = _
    rw [e]; exact this
  · show X.env.scope.names.lookup _ = _ ∨ X.env.scope.names.lookup _ = _
    rw [e]; exact relabel_kept this

structure CellsIn (X : Cx) (scope : Scope) (cl : List (Str × Addr)) (C : Addr) (h1 : Heap) : Prop where
  what : ∀ x c, cl.lookup x = some c → (X.env.cells.lookup x = some c ∧ (x, NameKind.cell) ∉ scope.names) ∨ (@LT.lt Nat _ C c ∧ h1.IsCell c none ∧ (x, NameKind.cell) ∈ scope.names)
  inj : ∀ x y c, (x, NameKind.cell) ∈ scope.names → (y, NameKind.cell) ∈ scope.names → cl.lookup x = some c → cl.lookup y = some c → x = y
  has : ∀ n, (n, NameKind.free) ∈ scope.names ∨ (n, NameKind.cell) ∈ scope.names → ∃ c, cl.lookup n = some c

theorem cells_in {cl0 : List (Str × Addr)} {h : Heap} {C : Addr} (S : CompScopeC X scope own js) (hcl : ∀ x c, cl0.lookup x = some c → X.env.cells.lookup x = some c) (hcl2 : ∀ n, (n, NameKind.free) ∈ scope.names → ∃ c, cl0.lookup n = some c)
    (hC : @Eq Nat h.objs.size (C + 1)) : CellsIn X scope (cellsFrom (C + 1) scope.names cl0) C (pushCells h scope.names) := by
  have ok := cellsFrom_ok scope.names h (C + 1) [] ⟨fun _ _ hm => (nomatch hm), List.Pairwise.nil⟩ (Nat.le_of_eq hC.symm)
  rw [hC] at ok
  have cases2 : ∀ x c, (cellsFrom (C + 1) scope.names cl0).lookup x = some c → ((cellsFrom (C + 1) scope.names []).lookup x = some c) ∨ ((cellsFrom (C + 1) scope.names []).lookup x = none ∧ cl0.lookup x = some c) := fun x c e => by
    rw [cellsFrom_app, lookup_app] at e
    cases q : (cellsFrom (C + 1) scope.names []).lookup x with
    | some c' => rw [q] at e; exact .inl e
    | none => rw [q] at e; exact .inr ⟨rfl, e⟩
  have newMem : ∀ x c, (cellsFrom (C + 1) scope.names []).lookup x = some c → (x, NameKind.cell) ∈ scope.names := fun x c e => (cellsFrom_mem _ _ _ (PySem.mem_of_lookup e)).elim id fun z => nomatch z
  have newHas : ∀ x, (x, NameKind.cell) ∈ scope.names → ∃ c, (cellsFrom (C + 1) scope.names []).lookup x = some c := fun x hx => Option.isSome_iff_exists.mp (PySem.W.cellsFrom_some scope.names _ [] (.inl (S.cell _ hx rfl)))
  refine ⟨fun x c e => ?_, fun x y c hx hy e1 e2 => ?_, fun n hn => ?_⟩
  · obtain q | ⟨q, e⟩ := cases2 x c e
    · obtain ⟨z1, z2⟩ := ok.empty x c (PySem.mem_of_lookup q)
      exact .inr ⟨z2, z1, newMem x c q⟩
    · refine .inl ⟨hcl x c e, fun hm => ?_⟩
      obtain ⟨c', e'⟩ := newHas x hm
      rw [q] at e'; cases e'
  · have g : ∀ x, (x, NameKind.cell) ∈ scope.names → (cellsFrom (C + 1) scope.names cl0).lookup x = some c → (cellsFrom (C + 1) scope.names []).lookup x = some c := fun x hm e => by
      obtain q | ⟨q, e⟩ := cases2 x c e
      · exact q
      · obtain ⟨c', e'⟩ := newHas x hm
        rw [q] at e'; cases e'
    exact name_of_addr ok.apart (PySem.mem_of_lookup (g x hx e1)) (PySem.mem_of_lookup (g y hy e2))
  · rw [cellsFrom_app, lookup_app]
    cases q : (cellsFrom (C + 1) scope.names []).lookup n with
    | some c' => exact ⟨c', rfl⟩
    | none =>
      obtain hn | hn := hn
      · exact hcl2 n hn
      · obtain ⟨c', e'⟩ := newHas n hn
        rw [q] at e'; cases e'

theorem comp_startC {pins : List (Addr × Obj)} {σ : St} {H : Hp} {s : Shared} {cl : List (Str × Addr)} {fp : List Addr} {h1 : Heap} {C : Addr} {m : Str → Option Value} {t1 : Nat} (S : CompScopeC X scope own js) (I : Inv X pins σ H s)
    (hf : ∀ b ∈ fp, FpOk X pins H b ∧ b < s.heap.objs.size)
    (CI : CellsIn X scope cl C h1)
    (hC : @Eq Nat C (s.heap.objs.size + 1)) (hns : h1.Ns C m) (hk : ∀ b o, s.heap.get? b = some o → h1.get? b = some o) (hn : h1.get? s.heap.objs.size = some { cls := .type "list", dict := none, data := .seq ([] : List Value).toArray }) :
    Inv (X.compC scope own js cl s H C fp) [] (pick own.length js σ) (upd H s.heap.objs.size (.lst [])) { s with heap := h1, toks := t1 } := by
  have below : ∀ b, b < s.heap.objs.size → b ≠ C ∧ b ≠ s.heap.objs.size := fun b hb => ⟨Nat.ne_of_lt (Nat.lt_of_lt_of_eq (Nat.lt_succ_of_lt hb) hC.symm), Nat.ne_of_lt hb⟩
  have kinds : ∀ x, ((X.compC scope own js cl s H C fp).env.kindOf x = some .cell ∨ (X.compC scope own js cl s H C fp).env.kindOf x = some .free) → (x, NameKind.free) ∈ scope.names ∨ (x, NameKind.cell) ∈ scope.names := fun x hx => by
    have hx : (relabel scope X.env).names.lookup x = some .cell ∨ (relabel scope X.env).names.lookup x = some .free := hx
    obtain hx | hx := hx
    · obtain ⟨k, q1, q2⟩ := relabel_lookup hx
      obtain q2 | ⟨q2, _⟩ := q2
      · subst q2; exact .inr (PySem.mem_of_lookup q1)
      · exact .inl (q2 ▸ PySem.mem_of_lookup q1)
    · obtain ⟨k, q1, q2⟩ := relabel_lookup hx
      obtain q2 | ⟨_, q2⟩ := q2
      · exact .inl (q2 ▸ PySem.mem_of_lookup q1)
      · cases q2
  have hCle : s.heap.objs.size ≤ C := Nat.le_of_lt (Nat.lt_of_lt_of_eq (Nat.lt_succ_self _) hC.symm)
  have hCne : C ≠ s.heap.objs.size := Nat.ne_of_gt (Nat.lt_of_lt_of_eq (Nat.lt_succ_self _) hC.symm)
  have accn : H s.heap.objs.size = none := I.hok.fresh (Nat.le_refl _)
  have oldLt : ∀ x c, X.env.cells.lookup x = some c → c < s.heap.objs.size := fun x c e => by
    obtain ⟨v, z⟩ := I.cell x c e
    exact z.lt
  have inj : ∀ x y c, cl.lookup x = some c → cl.lookup y = some c → x = y := fun x y c e1 e2 => by
    rcases CI.what x c e1 with ⟨a1, _⟩ | ⟨a1, _, a3⟩ <;> rcases CI.what y c e2 with ⟨b1, _⟩ | ⟨b1, _, b3⟩
    · exact I.ok.inj x y c a1 b1
    · exact absurd (Nat.lt_of_lt_of_le (oldLt x c a1) hCle) (Nat.lt_asymm b1)
    · exact absurd (Nat.lt_of_lt_of_le (oldLt y c b1) hCle) (Nat.lt_asymm a1)
    · exact CI.inj x y c a3 b3 e1 e2
  have cne : ∀ x c b, cl.lookup x = some c → b < s.heap.objs.size → (∀ x c, X.env.cells.lookup x = some c → c ≠ b) → c ≠ b := fun x c b e lt h => by
    obtain ⟨a1, _⟩ | ⟨a1, _⟩ := CI.what x c e
    · exact h x c a1
    · exact Nat.ne_of_gt (Nat.lt_trans (Nat.lt_of_lt_of_le lt hCle) a1)
  refine ⟨⟨I.ok.mod, S.kind, I.ok.glob, I.ok.blt, hCle, inj, fun x hx => CI.has x (kinds x hx), fun x c hfn e => ?_, I.ok.hd, I.ok.frames, .inl rfl, fun b hb => ?_, I.bs, Nat.le_trans I.ok.bsz I.sz, fun b o e hb => ?_, fun b hb => ?_, I.stack, I.stkFree⟩,
    rfl, I.bare, ?_, ⟨m, hns, fun i x v e1 e2 e3 => ?_⟩, fun x c e => ?_, ?_, fun x c e => ?_, fun p hp => absurd (show p ∈ ([] : List (Addr × Obj)) from hp) (by simp), ?_, ?_⟩
  · have hfn : (scope.names.lookup x == some .cell) = true := hfn
    have hm := PySem.mem_of_lookup (eq_of_beq hfn)
    obtain ⟨_, a1⟩ | ⟨a1, _⟩ := CI.what x c e
    · exact absurd hm a1
    · exact Nat.le_of_lt (Nat.lt_of_le_of_lt hCle a1)
  · obtain ⟨⟨f0, f1, f2, f3, f4, f5⟩, lt⟩ := hf b hb
    exact ⟨(below b lt).1, fun x c e => cne x c b e lt f4⟩
  · obtain ⟨⟨f0, f1, f2, f3, f4, f5⟩, lt⟩ := hf b hb
    obtain z | z := f3
    · exact I.ok.noex b o e z
    · exact Nat.lt_irrefl _ (Nat.lt_of_lt_of_le (Heap.lt_size e) (Nat.le_trans I.ok.bsz z))
  · obtain ⟨⟨f0, f1, f2, f3, f4, f5⟩, lt⟩ := hf b hb
    exact fun z => (List.mem_cons.mp (I.stkSub b z)).elim f1 f2
  · exact Un.laid hk (Nat.le_refl _) accn
  · have hi : ¬ i < own.length := fun hi => by
      unfold pick at e2
      rw [List.getElem?_append_left (by simpa using hi), List.getElem?_replicate] at e2
      split at e2 <;> cases e2
    unfold pick at e2
    rw [List.getElem?_append_right (by simpa using hi), List.length_replicate] at e2
    have e1 : (own ++ js.map (fun j => X.N.getD j ""))[i]? = some x := e1
    rw [List.getElem?_append_right (by omega)] at e1
    rw [List.getElem?_map] at e1 e2
    cases ej : js[i - own.length]? with
    | none => rw [ej] at e1; cases e1
    | some j =>
      rw [ej] at e1 e2
      have e1 : X.N.getD j "" = x := Option.some.inj e1
      have e2 : (σ[j]?).join = some v := Option.some.inj e2
      have e2' : σ[j]? = some (some v) := by
        cases q : σ[j]? with
        | none => rw [q] at e2; cases e2
        | some o => rw [q] at e2; have : o = some v := e2; rw [this]
      have hj : j < X.N.length := by
        have := (List.getElem?_eq_some_iff.mp e2').1
        rw [I.len] at this; exact this
      have e1' : X.N[j]? = some x := by
        rw [← e1, List.getD_eq_getElem?_getD, List.getElem?_eq_getElem hj]; rfl
      have e3 : Vis (relabel scope X.env) x := e3
      have notl : ¬ (x, NameKind.cell) ∈ scope.names := fun hm => (S.js j (List.mem_of_getElem? ej)).2 (by rw [e1]; exact S.cell _ hm rfl)
      have hfr : (x, NameKind.free) ∈ scope.names := by
        obtain e3 | e3 | e3 := e3
        · obtain ⟨k, q1, q2⟩ := relabel_lookup e3
          obtain q2 | ⟨_, q2⟩ := q2
          · subst q2
            exact absurd (e1 ▸ q1) (S.js j (List.mem_of_getElem? ej)).1
          · cases q2
        · exact (kinds x (.inl e3)).elim id fun z => absurd z notl
        · exact (kinds x (.inr e3)).elim id fun z => absurd z notl
      have hkind := S.free _ hfr rfl
      obtain ⟨m0, hn0, hl0⟩ := I.loc
      have hv : Vis X.env.scope x := by
        obtain z | z := hkind
        · exact .inr (.inl z)
        · exact .inr (.inr z)
      obtain ⟨u, r, lk⟩ := hl0 j x v e1' e2' hv
      refine ⟨u, r, ?_⟩
      obtain ⟨z, _⟩ | ⟨_, c, ec, hc⟩ := lk
      · rcases hkind with q | q <;> (rw [z] at q; cases q)
      · obtain ⟨c', ec'⟩ := CI.has x (.inl hfr)
        have : c' = c := by
          obtain ⟨a1, _⟩ | ⟨_, _, a3⟩ := CI.what x c' ec'
          · rw [ec] at a1; cases a1; rfl
          · exact absurd a3 notl
        subst this
        refine .inr ⟨?_, c', ec', ?_⟩
        · obtain e3 | e3 | e3 := e3
          · obtain ⟨k, q1, q2⟩ := relabel_lookup e3
            obtain q2 | ⟨_, q2⟩ := q2
            · subst q2
              exact absurd (e1 ▸ q1) (S.js j (List.mem_of_getElem? ej)).1
            · cases q2
          · exact .inl e3
          · exact .inr e3
        · obtain ⟨oc, hoc, hd⟩ := hc
          exact ⟨oc, hk _ _ hoc, hd⟩
  · obtain ⟨a1, _⟩ | ⟨_, a2, _⟩ := CI.what x c e
    · obtain ⟨v, oc, hoc, hd⟩ := I.cell x c a1
      exact ⟨v, oc, hk _ _ hoc, hd⟩
    · exact ⟨none, a2⟩
  · show upd H s.heap.objs.size (.lst []) C = none
    rw [upd_ne hCne]
    exact I.hok.fresh hCle
  · obtain ⟨a1, _⟩ | ⟨a1, a2, _⟩ := CI.what x c e
    · rw [upd_ne (below c (oldLt x c a1)).2]
      exact I.freeC x c a1
    · rw [upd_ne (Nat.ne_of_gt (Nat.lt_of_le_of_lt hCle a1))]
      exact I.hok.fresh (Nat.le_of_lt (Nat.lt_of_le_of_lt hCle a1))
  · refine I.hok.laid hk (Nat.le_refl _) ⟨by show 0 ≤ sizeLine; exact Nat.zero_le _, [], 0, .nil, ?_⟩
    exact hn
  · unfold pick
    show _ = (own ++ js.map (fun j => X.N.getD j "")).length
    rw [List.length_append, List.length_append, List.length_replicate, List.length_map, List.length_map]
end

section
variable {X : Cx} {scope : Scope} {own : List Str} {js : List Nat} {tg iter elt : Expr} {ifs : List Expr} {pos : Pos} {wi : TI} {g : TG} {c : TT} {te : TE}
theorem comp_leaveC {pins : List (Addr × Obj)} {σ σ' : St} {H H' : Hp} {s s' : Shared} {cl : List (Str × Addr)} {fp : List Addr} {C : Addr} (I : Inv X pins σ H s) (hf : ∀ b ∈ fp, FpOk X pins H b)
    (J : Inv (X.compC scope own js cl s H C fp) [] σ' H' s') : Inv X pins σ H' s' :=
  I.call' (ch := fp) J.os J.base J.hok J.bare fun b hb => by
    obtain ⟨f0, f1, f2, f3, f4, f5⟩ := hf b hb
    exact ⟨f3, f1, f4, f5⟩

theorem comp_coreC {pins : List (Addr × Obj)} {σ : St} {H : Hp} {s : Shared} {cl0 : List (Str × Addr)} {fp : List Addr} {it : Addr} {tn : Nat → Heap → Prop} {J : It} {Q : VK} {E : Value → Shared → Prop} {RR : Value → Addr → Result → Shared → Prop}
    (hc : X.calm = true) (S : CompScopeC X scope own js) (I : Inv X pins σ H s) (T : Turn X.prog X.w X.K tg J fp it tn) (t0 : tn 0 s.heap) (hf : ∀ b ∈ fp, FpOk X pins H b)
    (hcl : ∀ x c, cl0.lookup x = some c → X.env.cells.lookup x = some c) (hcl2 : ∀ n, (n, NameKind.free) ∈ scope.names → ∃ c, cl0.lookup n = some c)
    (hg : ∀ cl s H C fp, PG (X.compC scope own js cl s H C fp) tg g) (hi : ∀ cl s H C fp, PIfs (X.compC scope own js cl s H C fp) ifs c) (he : ∀ cl s H C fp, PE (X.compC scope own js cl s H C fp) elt te)
    (q : tCompR own.length js g c te J σ H Q)
    (hRR : ∀ acc C cl H' s', s.heap.objs.size ≤ C → Inv (X.compC scope own js cl s H C fp) [] (pick own.length js σ) H' s' → Q (.ref acc) H' → RR (.ref acc) C (.ok .next) s') :
    wpAny (model X.prog X.w) X.A (newList []) (fun acc s3 => wpAny (model X.prog X.w) X.A (newFunctionEnv scope X.env.globals cl0 [] X.env.qual none .none (some X.env)) (fun cenv s4 =>
      codeAny (model X.prog X.w) X.A (.compStart (.ListComp elt [⟨tg, iter, ifs, 0⟩] scope pos) 0 (.ref it) acc { cenv with scope := relabel scope X.env }) (RR acc cenv.locals) s4) E s3) E s := by
  refine wpAny_newObj_type (wpAny_newFunctionEnv_comp ?_)
  dsimp only
  generalize hH2 : s.heap.push { cls := .type "list", dict := none, data := .seq ([] : List Value).toArray } = H2
  have hC : @Eq Nat H2.objs.size (s.heap.objs.size + 1) := by rw [← hH2, Heap.size_push]
  have hDC : s.heap.objs.size ≠ H2.objs.size := by rw [hC]; exact Nat.ne_of_lt (Nat.lt_succ_self _)
  have hCle : s.heap.objs.size ≤ H2.objs.size := by rw [hC]; exact Nat.le_succ _
  have CI := cells_in (h := H2.push { cls := .type "dict", data := .dict #[] }) (C := H2.objs.size) S hcl hcl2 (by rw [Heap.size_push])
  have hns1 : (pushCells (H2.push { cls := .type "dict", data := .dict #[] }) scope.names).Ns H2.objs.size fun _ => none := (Heap.Ns.new H2 (.type "dict")).keeps (pushCells_keeps _ _)
  have old2 : ∀ b o, H2.get? b = some o → (pushCells (H2.push { cls := .type "dict", data := .dict #[] }) scope.names).get? b = some o := fun b o e => pushCells_keeps _ _ b o (Heap.get?_push_of_some _ e)
  generalize hh1 : pushCells (H2.push { cls := .type "dict", data := .dict #[] }) scope.names = h1 at CI hns1 old2 ⊢
  generalize hcl' : cellsFrom (H2.objs.size + 1) scope.names cl0 = cl at CI ⊢
  have old : ∀ b o, s.heap.get? b = some o → h1.get? b = some o := fun b o e => old2 b o (hH2 ▸ Heap.get?_push_of_some _ e)
  have hacc : h1.get? s.heap.objs.size = some { cls := .type "list", dict := none, data := .seq ([] : List Value).toArray } := old2 _ _ (hH2 ▸ Heap.get?_push_size _ rfl)
  have hfl : ∀ b ∈ fp, FpOk X pins H b ∧ b < s.heap.objs.size := fun b hb => ⟨hf b hb, by
    obtain ⟨o, e, _⟩ := T.obj 0 s.heap t0 b hb
    exact Heap.lt_size e⟩
  obtain ⟨W, ⟨m0, w0⟩, turn⟩ := q s.heap.objs.size (I.hok.fresh (Nat.le_refl _))
  have I1 := comp_startC (t1 := s.toks) S I hfl CI hC hns1 old hacc
  have t1 : tn 0 h1 := T.keep 0 s.heap h1 t0 fun b _ o e => old b o e
  have stat : ∀ {pins' : List (Addr × Obj)} {H' : Hp}, (∀ b ∈ fp, H' b = none) → (∀ p ∈ pins', p.1 ∉ fp) → ∀ b ∈ fp, FpOk (X.compC scope own js cl s H H2.objs.size fp) pins' H' b := fun hn hp b hb => by
    obtain ⟨⟨f0, f1, f2, f3, f4, f5⟩, lt⟩ := hfl b hb
    refine ⟨hn b hb, Nat.ne_of_lt (Nat.lt_of_lt_of_le lt hCle), fun z => (List.mem_cons.mp (I.stkSub b z)).elim f1 f2, .inl hb, fun x c e => ?_, fun p hp' z => hp p hp' (z ▸ hb)⟩
    obtain ⟨a1, _⟩ | ⟨a1, _⟩ := CI.what x c e
    · exact f4 x c a1
    · exact Nat.ne_of_gt (Nat.lt_trans (Nat.lt_of_lt_of_le lt hCle) a1)
  have fr0 : ∀ b ∈ fp, (upd H s.heap.objs.size (.lst [])) b = none := fun b hb => by
    obtain ⟨⟨f0, _⟩, lt⟩ := hfl b hb
    rw [upd_ne (Nat.ne_of_lt lt)]; exact f0
  have loop : ∀ s3 : Shared, s3 = { s with heap := h1 } →
      codeAny (model X.prog X.w) X.A (.compLoop (.ListComp elt [⟨tg, iter, ifs, 0⟩] scope pos) 0 (.ref it) (.ref s.heap.objs.size) (compEnvC scope cl H2.objs.size X.env)) (RR (.ref s.heap.objs.size) H2.objs.size) s3 := by
    rintro s3 rfl
    refine compLoop_any (fun n s' => ∃ i H', Inv (X.compC scope own js cl s H H2.objs.size fp) [] (pick own.length js σ) H' s' ∧ tn i s'.heap ∧ (∀ b ∈ fp, H' b = none) ∧ W i n H') ?_ m0 ⟨0, _, I1, t1, fr0, w0⟩
    intro n s4 hz_
    obtain ⟨i, H4, I4, st4, fr4, w4⟩ := hz_
    have noP : ∀ p ∈ ([] : List (Addr × Obj)), p.1 ∉ fp := fun p hp => nomatch hp
    obtain ⟨stop, qn⟩ | ⟨go, step⟩ := turn i n H4 w4
    · refine thn (T.done (X.compC scope own js cl s H H2.objs.size fp) rfl rfl rfl hc i [] s4 _ H4 (fun _ _ => False) I4 (stat fr4 noP) st4 stop) fun r s5 hm_ => ?_
      obtain ⟨hr, I5⟩ := hm_
      subst hr
      exact hRR _ _ _ H4 s5 hCle I5 qn
    · refine thn (T.item (X.compC scope own js cl s H H2.objs.size fp) rfl rfl rfl hc i [] s4 _ H4 (fun _ _ => False) I4 (stat fr4 noP) st4 go) fun r s5 hm_ => ?_
      obtain ⟨u, hr, h5⟩ := hm_
      subst hr
      refine thn h5 fun _ s6 hm_ => ?_
      obtain ⟨x, H6, I6, r6, y6, st6, fr6⟩ := hm_
      have I6' := I6.pinned (stat fr6 noP) (T.obj _ _ st6)
      have again : ∀ {σ7 : St} {H7 : Hp} {s7 : Shared} {m' : Nat}, Wk (pick own.length js σ) σ7 → Inv (X.compC scope own js cl s H H2.objs.size fp) ([] ++ pinsAt fp s6.heap) σ7 H7 s7 → m' < n → W (i + 1) m' H7 →
          ∃ m, m < n ∧ ∃ i H', Inv (X.compC scope own js cl s H H2.objs.size fp) [] (pick own.length js σ) H' s7 ∧ tn i s7.heap ∧ (∀ b ∈ fp, H' b = none) ∧ W i m H' := fun {σ7 H7 s7 m'} wk I7 hm w7 => by
        refine ⟨m', hm, i + 1, H7, (I7.unpinned).weak wk.1 wk.2, T.keep _ _ _ st6 fun b hb o e => (I7.pin (b, o) (List.mem_append_right _ (List.mem_append_right _ (mem_pinsAt hb e)))).1, fun b hb => ?_, w7⟩
        obtain ⟨o, e, d⟩ := T.obj _ _ st6 b hb
        exact (I7.pin (b, o) (List.mem_append_right _ (List.mem_append_right _ (mem_pinsAt hb e)))).2.1
      refine thn (hg cl s H H2.objs.size fp _ s6 _ H6 x u _ I6' r6 (step x H6 y6)) fun _ s7 hm_ => ?_
      obtain ⟨σ7, H7, I7, wk7, q7⟩ := hm_
      refine thn (hi cl s H H2.objs.size fp _ s7 σ7 H7 _ I7 q7) fun ok s8 hm_ => ?_
      obtain ⟨H8, I8, q8⟩ := hm_
      cases ok with
      | false =>
        obtain ⟨m', hm, w8⟩ := (show ∃ m', m' < n ∧ W (i + 1) m' H8 from by simpa using q8)
        exact again wk7 I8 hm w8
      | true =>
        have q8 : te σ7 H8 fun y H4 => ∃ ys, H4 s.heap.objs.size = some (.lst ys) ∧ ys.length < sizeLine ∧ ∃ m', m' < n ∧ W (i + 1) m' (upd H4 s.heap.objs.size (.lst (ys ++ [y]))) := by simpa using q8
        refine thn (he cl s H H2.objs.size fp _ s8 σ7 H8 _ I8 q8) fun yv s9 hm_ => ?_
        obtain ⟨y, H9, I9, r9, ys, hy, hz, m', hm, w9⟩ := hm_
        refine thn (mt_append (X := X.compC scope own js cl s H H2.objs.size fp) _ s9 σ7 H9 (.ref s.heap.objs.size) [y] (.ref s.heap.objs.size) [yv] (fun _ H' => W (i + 1) m' H') I9 rfl (.cons r9 .nil) ⟨_, ys, y, rfl, rfl, hy, hz, w9⟩) fun _ s10 hm_ => ?_
        obtain ⟨_, H10, I10, _, w10⟩ := hm_
        exact again wk7 I10 hm w10
  exact codeAny_compStart_list (loop _ rfl) (T.self X.A 0 _ _ _ t1 (loop _ rfl))

theorem pe_compC {sc : Scope} {N : List Str} (own : List Str) (js : List Nat) (hsc : RelSc X.env.scope sc) (hNN : X.N = N) (S0 : CompScopeCN sc N scope js) (hc : X.calm = true) (hit : PI X tg iter wi)
    (hg : ∀ cl s H C fp, PG (X.compC scope own js cl s H C fp) tg g) (hi : ∀ cl s H C fp, PIfs (X.compC scope own js cl s H C fp) ifs c) (he : ∀ cl s H C fp, PE (X.compC scope own js cl s H C fp) elt te)
    (hs : ∀ x, foldedSetIterable iter X.env x = pure x := by intro _; rfl) : PE X (.ListComp elt [⟨tg, iter, ifs, 0⟩] scope pos) (tComp own.length js wi g c te) := by
  intro pins s σ H Q I h
  have S : CompScopeC X scope own js := S0.cs hsc hNN
  obtain ⟨cl, hcl0, hcl, hcl2⟩ := closure_ok (env := X.env) (scope := scope) fun n hn => I.ok.has n (S.free _ hn rfl)
  rw [eval_ListComp]
  refine wpAny_comprehension_free (use := none) rfl hs hcl0 S.kind S.names (thn (hit pins s σ H _ I h) fun xv s1 h1 => thn h1 fun itv s2 h2 => ?_)
  obtain ⟨it, fp, tn, J, H2, e, I2, T, st2, f2, q2⟩ := h2
  subst e
  refine comp_coreC (RR := fun acc C => compPost (model X.prog X.w) X.A X.xe none (EP X pins σ Q) acc C) hc S I2 T st2 f2 hcl hcl2 hg hi he q2 fun acc C cl' H' s' hC J' q' => ?_
  obtain ⟨m, hn, _⟩ := J'.loc
  exact ⟨m, hn, fun h' hs' => ⟨.ref acc, H', comp_gone I2 hC (comp_leaveC I2 f2 J') J'.free hs', rfl, q'⟩⟩

theorem ps_setCompC {i : Nat} {x : Str} {pos' spos : Pos} (hN : X.N.Nodup) (hi0 : X.N[i]? = some x) (hx : X.env.scope.names.lookup x = some .local) {sc : Scope} {N : List Str} (own : List Str) (js : List Nat) (hsc : RelSc X.env.scope sc) (hNN : X.N = N) (S0 : CompScopeCN sc N scope js) (hc : X.calm = true) (hit : PI X tg iter wi)
    (hg : ∀ cl s H C fp, PG (X.compC scope own js cl s H C fp) tg g) (hi : ∀ cl s H C fp, PIfs (X.compC scope own js cl s H C fp) ifs c) (he : ∀ cl s H C fp, PE (X.compC scope own js cl s H C fp) elt te)
    (hsw : swapsWith (.ListComp elt [⟨tg, iter, ifs, 0⟩] scope pos) (some (.Name x pos')) spos.line X.env = pure true)
    (hs : ∀ x, foldedSetIterable iter X.env x = pure x := by intro _; rfl) : PS X (.Assign [.Name x pos'] (.ListComp elt [⟨tg, iter, ifs, 0⟩] scope pos) spos) (tAsg (tComp own.length js wi g c te) (gName i)) := by
  intro pins s σ H D I h
  have S : CompScopeC X scope own js := S0.cs hsc hNN
  obtain ⟨cl, hcl0, hcl, hcl2⟩ := closure_ok (env := X.env) (scope := scope) fun n hn => I.ok.has n (S.free _ hn rfl)
  rw [exec_Assign_Name_used _ _ _ _ hsw]
  refine wpAny_bind (wpAny_standAt (wpAny_bind ?_))
  show wpAny _ X.A (do let _ ← comprehension (.ListComp elt [⟨tg, iter, ifs, 0⟩] scope pos) scope X.env _ (newList []) false (eval iter X.env) (some (assign (.Name x pos') X.env))) _ _ s
  refine wpAny_bind (wpAny_mono (wpAny_comprehension_free (use := some (assign (.Name x pos') X.env)) (Q := fun _ s' => SP X pins D .next s') rfl hs hcl0 S.kind S.names
    (thn (hit pins s σ H _ I h) fun xv s1 h1 => thn h1 fun itv s2 h2 => ?_)) (fun _ s' hq => wpAny_pure (wpAny_pure hq)) fun _ _ e => e)
  obtain ⟨it, fp, tn, J, H2, e, I2, T, st2, f2, q2⟩ := h2
  subst e
  refine comp_coreC (RR := fun acc C => compPost (model X.prog X.w) X.A X.xe (some (assign (.Name x pos') X.env)) (fun _ s' => SP X pins D .next s') acc C) hc S I2 T st2 f2 hcl hcl2 hg hi he q2 fun acc C cl' H' s' hC J' q' => ?_
  obtain ⟨m, hn, _⟩ := J'.loc
  have I3 := comp_leaveC I2 f2 J'
  show wpAny _ X.A (assign (.Name x pos') X.env (.ref acc)) _ _ _
  refine wpAny_assign_Name (store_ok2 I3 hN hi0 (.inl hx) (v := .ref acc) rfl (fun s4 I4 hsb => ?_) (.inr hx))
  obtain ⟨a, sb, ha⟩ := hsb
  have hCa : C ≠ a := by
    obtain ha | ha := ha
    · rw [ha]; exact Nat.ne_of_gt (Nat.lt_of_lt_of_le I2.lt hC)
    · obtain ⟨v, z⟩ := I2.cell x a ha
      exact Nat.ne_of_gt (Nat.lt_of_lt_of_le z.lt hC)
  refine ⟨m, hn.sameBut sb hCa, fun h' hs' => ⟨_, H', comp_gone I2 hC I4 J'.free hs', q'⟩⟩
end
end L2

namespace OL
open PySem L2
structure LeastOf (ns T : List Int) : Prop where
  rise : T.Pairwise (· < ·)
  mem : ∀ x, x ∈ T ↔ x ∈ ns ∧ ∀ y ∈ ns, hasF x y = true → y = x
  len : T.length ≤ ns.length
  below : ∀ y ∈ ns, ∃ t ∈ T, hasF y t = true
theorem rise_ext {l1 l2 : List Int} (h1 : l1.Pairwise (· < ·)) (h2 : l2.Pairwise (· < ·)) (h : ∀ x, x ∈ l1 ↔ x ∈ l2) : l1 = l2 := by
  have n1 : l1.Nodup := h1.imp fun {a b} z => Int.ne_of_lt z
  have n2 : l2.Nodup := h2.imp fun {a b} z => Int.ne_of_lt z
  have p : l1.Perm l2 := (List.perm_ext_iff_of_nodup n1 n2).mpr h
  exact List.Perm.eq_of_pairwise (le := (· < ·)) (fun a b _ _ h3 h4 => absurd h3 (Int.lt_asymm h4)) h1 h2 p
theorem powC (many : Int) : ((2 ^ many.toNat : Nat) : Int) = 2 ^ many.toNat := by push_cast; rfl
end OL

namespace OL
open PySem L2
noncomputable def LookE (t : TE) (σ : St) (H : Hp) (v : V) : Prop := ∀ Q : VK, (∀ H', Same H H' → Q v H') → t σ H Q
theorem LookE.pure {t : TE} {σ : St} {H : Hp} {v : V} (h : ∀ Q : VK, Q v H → t σ H Q) : LookE t σ H v := fun Q q => h Q (q H (Same.refl H))
noncomputable def CTurn (m : Nat) (js : List Nat) (g : TG) (c : TT) (te : TE) (σ : St) (v : V) (H2 : Hp) (b : Bool) (R : Hp → V → Prop) : Prop :=
  ∀ (PUT : V → Hp → Prop) (SKIP : Hp → Prop), (b = true → ∀ y H', Same H2 H' → R H' y → PUT y H') → (b = false → ∀ H', Same H2 H' → SKIP H') →
    g v (pick m js σ) H2 fun σ2 H3 => Wk (pick m js σ) σ2 ∧ c σ2 H3 fun k H4 => if k = true then te σ2 H4 fun y H5 => PUT y H5 else SKIP H4
section
variable {K : PySem.W.Frag} {m : Nat} {js : List Nat} {g : TG} {c : TT} {te : TE} {σ : St} {H1 : Hp} {Q : VK} {α : Type}
theorem paired_take {F : V → α → Prop} {xs : List V} {as : List α} (h : Paired F xs as) {i : Nat} {v : V} (hv : xs[i]? = some v) : ∃ x, as[i]? = some x ∧ F v x := by
  induction h generalizing i with
  | nil => simp at hv
  | cons z r ih =>
    cases i with
    | zero => simp at hv; subst hv; exact ⟨_, rfl, z⟩
    | succ i => simpa using ih (by simpa using hv)
theorem take_at {as : List α} {i : Nat} {x : α} (h : as[i]? = some x) : as.take (i + 1) = as.take i ++ [x] := by
  obtain ⟨hi, e⟩ := List.getElem?_eq_some_iff.mp h
  rw [← e]; exact List.take_succ_eq_append_getElem hi
theorem filt_len {p : α → Bool} {as : List α} {i : Nat} : ((as.take i).filter p).length ≤ as.length := Nat.le_trans (List.length_filter_le _ _) (by rw [List.length_take]; exact Nat.min_le_right _ _)
theorem filt_yes {p : α → Bool} {as : List α} {i : Nat} {x : α} (h : as[i]? = some x) (c : p x = true) : (as.take (i + 1)).filter p = (as.take i).filter p ++ [x] := by
  rw [take_at h, List.filter_append, List.filter_cons, if_pos c]; rfl
theorem filt_no {p : α → Bool} {as : List α} {i : Nat} {x : α} (h : as[i]? = some x) (c : p x = false) : (as.take (i + 1)).filter p = (as.take i).filter p := by
  rw [take_at h, List.filter_append, List.filter_cons, if_neg (by rw [c]; decide)]; simp
theorem compA_list {a : Addr} {xs : List V} {as : List α} {Re : V → α → Prop} (hx : SqL K H1 a xs) (hp : Paired Re xs as) (p : α → Bool) (Rl : Hp → V → α → Prop) (hst : ∀ H H' y x, TSame H H' → Rl H y x → Rl H' y x) (hz : as.length ≤ 65000)
    (turn : ∀ x v H2, x ∈ as → Re v x → Same H1 H2 → CTurn m js g c te σ v H2 (p x) fun H' y => Rl H' y x)
    (hQ : ∀ acc ys H', H1 acc = none → Same H1 H' → H' acc = some (.lst ys) → Paired (Rl H') ys (as.filter p) → Q (.ref acc) H') : tCompR m js g c te (Itl K a) σ H1 Q := by
  intro acc hacc
  have hl := Paired.length hp
  refine ⟨CW xs.length acc (fun i ys H => Same H1 H ∧ Paired (Rl H) ys ((as.take i).filter p)), ⟨_, rfl, Nat.zero_le _, [], upd_same, same_new hacc _, .nil⟩, ?_⟩
  intro i m' H hz_
  obtain ⟨rfl, hi, ys, h0, S, hR⟩ := hz_
  have q := S.seq hx
  by_cases hlt : i < xs.length
  · refine .inr ⟨⟨xs, xs[i], q, by simp [hlt]⟩, fun v H' y => ?_⟩
    obtain ⟨e, y⟩ := y
    subst e
    obtain ⟨x, hxa, hre⟩ := paired_take hp (y xs q)
    have hyl := Paired.length hR
    have hfl : ((as.take i).filter p).length ≤ as.length := filt_len
    refine turn x v _ (List.mem_of_getElem? hxa) hre S _ _ (fun cc y' H5 s r => ?_) (fun cc H4 s => ?_)
    · refine ⟨ys, s acc _ h0, big5 (by omega), xs.length - (i + 1), by omega, rfl, hlt, ys ++ [y'], upd_same, fun b o z => ?_, ?_⟩
      · rw [upd_ne (ne_of_none z hacc)]; exact s b o (S b o z)
      · have ts : TSame H5 (upd H5 acc (.lst (ys ++ [y']))) := tsame_upd (s acc _ h0)
        rw [filt_yes hxa cc]
        exact Paired.snoc (Paired.imp' (fun _ _ z => hst _ _ _ _ ts (hst _ _ _ _ s.t z)) hR) (hst _ _ _ _ ts r)
    · refine ⟨xs.length - (i + 1), by omega, rfl, hlt, ys, s acc _ h0, S.trans s, ?_⟩
      rw [filt_no hxa cc]
      exact Paired.imp' (fun _ _ z => hst _ _ _ _ s.t z) hR
  · have e : i = xs.length := by omega
    subst e
    rw [hl, List.take_length] at hR
    exact .inl ⟨⟨xs, q, Nat.le_refl _⟩, hQ acc ys H hacc S h0 hR⟩
theorem compA_tup {a : Addr} {xs : List V} {as : List α} {Re : V → α → Prop} (hx : SqT K H1 a xs) (hp : Paired Re xs as) (p : α → Bool) (Rl : Hp → V → α → Prop) (hst : ∀ H H' y x, TSame H H' → Rl H y x → Rl H' y x) (hz : as.length ≤ 65000)
    (turn : ∀ x v H2, x ∈ as → Re v x → Same H1 H2 → CTurn m js g c te σ v H2 (p x) fun H' y => Rl H' y x)
    (hQ : ∀ acc ys H', H1 acc = none → Same H1 H' → H' acc = some (.lst ys) → Paired (Rl H') ys (as.filter p) → Q (.ref acc) H') : tCompR m js g c te (Itt K a) σ H1 Q := by
  intro acc hacc
  have hl := Paired.length hp
  refine ⟨CW xs.length acc (fun i ys H => Same H1 H ∧ Paired (Rl H) ys ((as.take i).filter p)), ⟨_, rfl, Nat.zero_le _, [], upd_same, same_new hacc _, .nil⟩, ?_⟩
  intro i m' H hz_
  obtain ⟨rfl, hi, ys, h0, S, hR⟩ := hz_
  have q := S.tup hx
  by_cases hlt : i < xs.length
  · refine .inr ⟨⟨xs, xs[i], q, by simp [hlt]⟩, fun v H' y => ?_⟩
    obtain ⟨e, y⟩ := y
    subst e
    obtain ⟨x, hxa, hre⟩ := paired_take hp (y xs q)
    have hyl := Paired.length hR
    have hfl : ((as.take i).filter p).length ≤ as.length := filt_len
    refine turn x v _ (List.mem_of_getElem? hxa) hre S _ _ (fun cc y' H5 s r => ?_) (fun cc H4 s => ?_)
    · refine ⟨ys, s acc _ h0, big5 (by omega), xs.length - (i + 1), by omega, rfl, hlt, ys ++ [y'], upd_same, fun b o z => ?_, ?_⟩
      · rw [upd_ne (ne_of_none z hacc)]; exact s b o (S b o z)
      · have ts : TSame H5 (upd H5 acc (.lst (ys ++ [y']))) := tsame_upd (s acc _ h0)
        rw [filt_yes hxa cc]
        exact Paired.snoc (Paired.imp' (fun _ _ z => hst _ _ _ _ ts (hst _ _ _ _ s.t z)) hR) (hst _ _ _ _ ts r)
    · refine ⟨xs.length - (i + 1), by omega, rfl, hlt, ys, s acc _ h0, S.trans s, ?_⟩
      rw [filt_no hxa cc]
      exact Paired.imp' (fun _ _ z => hst _ _ _ _ s.t z) hR
  · have e : i = xs.length := by omega
    subst e
    rw [hl, List.take_length] at hR
    exact .inl ⟨⟨xs, q, Nat.le_refl _⟩, hQ acc ys H hacc S h0 hR⟩
theorem paired_map {β : Type} {f : β → V} {ys : List V} {as : List β} (h : Paired (fun y x => y = f x) ys as) : ys = as.map f := by
  induction h with
  | nil => rfl
  | cons h _ ih => rw [h, ih]; rfl
theorem paired_ints : ∀ ns : List Int, Paired (fun v (n : Int) => v = V.int n) (ns.map V.int) ns
  | [] => .nil
  | n :: r => .cons rfl (paired_ints r)
theorem row_st {r : α → Int × Int} : ∀ (H H' : Hp) (y : V) (x : α), TSame H H' → Row H y (r x) → Row H' y (r x) := fun _ _ _ _ t z => z.same t
theorem rows_of {r : α → Int × Int} {H : Hp} {ys : List V} {as : List α} (h : Paired (fun y x => Row H y (r x)) ys as) : Rows H ys (as.map r) := by
  induction h with
  | nil => exact .nil
  | cons h _ ih => exact .cons h ih
theorem compR_list {a : Addr} {ns : List Int} (hx : SqL K H1 a (ns.map V.int)) (p : Int → Bool) (r : Int → Int × Int) (hz : ns.length ≤ 65000)
    (turn : ∀ x H2, x ∈ ns → Same H1 H2 → CTurn m js g c te σ (.int x) H2 (p x) fun H' y => Row H' y (r x))
    (hQ : ∀ acc ys H', H1 acc = none → Same H1 H' → H' acc = some (.lst ys) → Rows H' ys ((ns.filter p).map r) → Q (.ref acc) H') : tCompR m js g c te (Itl K a) σ H1 Q :=
  compA_list hx (paired_ints ns) p (fun H y x => Row H y (r x)) row_st hz (fun x v H2 hm e S => e ▸ turn x H2 hm S) fun acc ys H' h0 S h1 hp => hQ acc ys H' h0 S h1 (rows_of hp)
theorem compR_rows {a : Addr} {xs : List V} {rs : List (Int × Int)} (hx : SqL K H1 a xs) (hr : Rows H1 xs rs) (p : Int × Int → Bool) (f : Int × Int → Int × Int) (hz : rs.length ≤ 65000)
    (turn : ∀ r t H2, r ∈ rs → H2 t = some (.tup [.int r.1, .int r.2]) → Same H1 H2 → CTurn m js g c te σ (.ref t) H2 (p r) fun H' y => Row H' y (f r))
    (hQ : ∀ acc ys H', H1 acc = none → Same H1 H' → H' acc = some (.lst ys) → Rows H' ys ((rs.filter p).map f) → Q (.ref acc) H') : tCompR m js g c te (Itl K a) σ H1 Q :=
  compA_list hx hr p (fun H y x => Row H y (f x)) row_st hz (fun x v H2 hm e S => by obtain ⟨t, rfl, ht⟩ := e; exact turn x t H2 hm (S _ _ ht) S) fun acc ys H' h0 S h1 hp => hQ acc ys H' h0 S h1 (rows_of hp)
end
theorem turn_pick {js : List Nat} {c : TT} {te : TE} {σ : St} {v y : V} {H2 : Hp} {b : Bool} {R : Hp → V → Prop} (hc : LookT c ((pick 1 js σ).set 0 (some v)) H2 b) (he : b = true → ∀ H3, Same H2 H3 → LookE te ((pick 1 js σ).set 0 (some v)) H3 y) (hR : b = true → ∀ H3, Same H2 H3 → R H3 y) : CTurn 1 js (gName 0) c te σ v H2 b R := by
  intro PUT SKIP h1 h2
  refine ⟨(Wk.refl _).set (by decide), hc _ fun H3 S3 => ?_⟩
  cases b with
  | true => exact iteT (he rfl H3 S3 _ fun H4 S4 => h1 rfl _ _ (S3.trans S4) (hR rfl _ (S3.trans S4)))
  | false => exact iteF (h2 rfl _ S3)
theorem look_yes {σ : St} {H : Hp} : LookT tYes σ H true := .pure fun Q h => h
theorem filter_true {α : Type} (l : List α) : l.filter (fun _ => true) = l := by simp
end OL

namespace OL
open PySem L2
structure Sho (d : PyData) (n k : Nat) : Prop where
  show' : d.showable = true
  nodict : d.hasDict = false
  short : d.leavesShort 13 = true
  bulk : d.bulk ≤ n
  depth : d.depth ≤ k
  lay : d.canLay0 = true
structure ShoAll (ds : List PyData) (n k : Nat) : Prop where
  show' : PyData.showableAll ds = true
  nodict : PyData.hasDictAll ds = false
  short : PyData.leavesShortAll 13 ds = true
  bulk : PyData.bulkAll ds ≤ n
  depth : PyData.depthAll ds ≤ k
  lay : PyData.canLayAll0 ds = true
theorem Sho.int {i : Int} (h : i.natAbs < 10 ^ 12) : Sho (.int i) 0 0 := by
  refine ⟨?_, rfl, ?_, Nat.le_refl _, Nat.le_refl _, rfl⟩
  · show decide (i.natAbs.log2 < 1920) = true
    refine decide_eq_true ?_
    by_cases e : i.natAbs = 0
    · rw [e]; decide
    · rw [Nat.log2_lt e]
      exact Nat.lt_trans h (Nat.lt_of_lt_of_le (by decide : 10 ^ 12 < 2 ^ 40) (Nat.pow_le_pow_right (by decide) (by decide)))
  · show decide ((PyData.int i).shown.length ≤ 13) = true
    exact decide_eq_true (PyData.shown_int_le h)
theorem ShoAll.nil : ShoAll [] 0 0 := ⟨rfl, rfl, rfl, Nat.le_refl _, Nat.le_refl _, rfl⟩
theorem ShoAll.cons {d : PyData} {ds : List PyData} {n m k j : Nat} (h : Sho d n k) (t : ShoAll ds m j) : ShoAll (d :: ds) (n + 1 + m) (max k j) := by
  refine ⟨?_, ?_, ?_, ?_, ?_, ?_⟩
  · show (d.showable && PyData.showableAll ds) = true
    rw [h.show', t.show']; rfl
  · show (d.hasDict || PyData.hasDictAll ds) = false
    rw [h.nodict, t.nodict]; rfl
  · show (d.leavesShort 13 && PyData.leavesShortAll 13 ds) = true
    rw [h.short, t.short]; rfl
  · show d.bulk + 1 + PyData.bulkAll ds ≤ _
    have := h.bulk; have := t.bulk; omega
  · show max d.depth (PyData.depthAll ds) ≤ _
    have := h.depth; have := t.depth; omega
  · show (d.canLay0 && PyData.canLayAll0 ds) = true
    rw [h.lay, t.lay]; rfl
theorem Sho.list {ds : List PyData} {n k : Nat} (h : ShoAll ds n k) : Sho (.list ds) n (k + 1) := by
  refine ⟨h.show', h.nodict, h.short, h.bulk, ?_, h.lay⟩
  show PyData.depthAll ds + 1 ≤ _
  have := h.depth; omega
theorem Sho.tuple {ds : List PyData} {n k : Nat} (h : ShoAll ds n k) : Sho (.tuple ds) n (k + 1) := by
  refine ⟨h.show', h.nodict, h.short, h.bulk, ?_, h.lay⟩
  show PyData.depthAll ds + 1 ≤ _
  have := h.depth; omega
theorem Sho.mono {d : PyData} {n k n' k' : Nat} (h : Sho d n k) (h1 : n ≤ n') (h2 : k ≤ k') : Sho d n' k' := ⟨h.show', h.nodict, h.short, Nat.le_trans h.bulk h1, Nat.le_trans h.depth h2, h.lay⟩
theorem ShoAll.mono {d : List PyData} {n k n' k' : Nat} (h : ShoAll d n k) (h1 : n ≤ n') (h2 : k ≤ k') : ShoAll d n' k' := ⟨h.show', h.nodict, h.short, Nat.le_trans h.bulk h1, Nat.le_trans h.depth h2, h.lay⟩
theorem ShoAll.map {α : Type} {f : α → PyData} {n k : Nat} : ∀ {as : List α}, (∀ x ∈ as, Sho (f x) n k) → ShoAll (as.map f) ((n + 1) * as.length) k
  | [], _ => ⟨rfl, rfl, rfl, Nat.zero_le _, Nat.zero_le _, rfl⟩
  | a :: as, h => by
    have h1 := ShoAll.cons (h a List.mem_cons_self) (ShoAll.map (as := as) fun x hx => h x (List.mem_cons_of_mem _ hx))
    refine h1.mono ?_ (by omega)
    rw [List.length_cons, Nat.mul_add]; omega
theorem Sho.ints {ns : List Int} (h : ∀ x ∈ ns, 0 ≤ x ∧ x < 1000000000000) : Sho (.list (ns.map PyData.int)) ns.length 1 := by
  refine (Sho.list (ShoAll.map (n := 0) (k := 0) fun x hx => Sho.int ?_)).mono (by omega) (Nat.le_refl _)
  have := h x hx
  have e : (10 : Nat) ^ 12 = 1000000000000 := by decide
  omega
theorem Sho.rows {rs : List (Int × Int)} (h : ∀ r ∈ rs, (0 ≤ r.1 ∧ r.1 < 1000000000000) ∧ 0 ≤ r.2 ∧ r.2 < 1000000000000) : Sho (.list (rs.map dRow)) (3 * rs.length) 2 := by
  refine (Sho.list (ShoAll.map (n := 2) (k := 1) fun r hr => ?_))
  have := h r hr
  have e : (10 : Nat) ^ 12 = 1000000000000 := by decide
  exact (Sho.tuple (ShoAll.cons (Sho.int (by omega)) (ShoAll.cons (Sho.int (by omega)) .nil))).mono (by decide) (by decide)
theorem Sho.fits {d : PyData} {n k : Nat} (h : Sho d n k) (hn : n ≤ 1000000) : d.shown.length ≤ sizeLine := PyData.shown_fits_bulk (B := 13) (by decide) (by decide) h.short (Nat.le_trans h.bulk (Nat.le_trans hn (by decide)))
theorem ne_str {d : PyData} {H : Hp} {Q : Bool → Hp → Prop} (q : Q false H) : rNe (.str d.shown) (.str d.shown) H fun x H' => IsBl x fun k => Q k H' := by
  refine ⟨rfl, _, rfl, ?_⟩
  rw [show decide (V.str d.shown = V.str d.shown) = true from decide_eq_true rfl]; exact q
theorem ne_data {K : PySem.W.Frag} {H : Hp} {x y : V} {d : PyData} {Q : Bool → Hp → Prop} (hx : DR K H x d) (hy : DR K H y d) (hs : PySem.SeqAt.shaped d = true) (he : PyData.eqv d d = true) (q : Q false H) : rEqD K true x y H fun v H' => IsBl v fun k => Q k H' := by
  refine ⟨d, d, hx, hy, hs, hs, _, rfl, ?_⟩
  rw [he]; exact q
theorem eq_data {K : PySem.W.Frag} {H : Hp} {x y : V} {d : PyData} {Q : VK} (hx : DR K H x d) (hy : DR K H y d) (hs : PySem.SeqAt.shaped d = true) (he : PyData.eqv d d = true) (q : Q (.bl true) H) : rEqD K false x y H Q := by
  refine ⟨d, d, hx, hy, hs, hs, ?_⟩
  rw [he]; exact q
theorem eq_ints {K : PySem.W.Frag} {H : Hp} {a b : Addr} {ns ms : List Int} {Q : VK} (ha : SqL K H a (ns.map V.int)) (hb : SqL K H b (ms.map V.int)) (q : Q (.bl (decide (ns = ms))) H) : rEqD K false (.ref a) (.ref b) H Q := by
  refine ⟨_, _, .lst ha (DRs.ints _), .lst hb (DRs.ints _), shaped_ints _, shaped_ints _, ?_⟩
  have e : PyData.eqv (.list (ns.map PyData.int)) (.list (ms.map PyData.int)) = decide (ns = ms) := eqv_ints ns ms
  rw [e]; exact q
theorem ne_ints {K : PySem.W.Frag} {H : Hp} {a b : Addr} {ns ms : List Int} {Q : VK} (ha : SqL K H a (ns.map V.int)) (hb : SqL K H b (ms.map V.int)) (q : Q (.bl (!decide (ns = ms))) H) : rEqD K true (.ref a) (.ref b) H Q := by
  refine ⟨_, _, .lst ha (DRs.ints _), .lst hb (DRs.ints _), shaped_ints _, shaped_ints _, ?_⟩
  have e : PyData.eqv (.list (ns.map PyData.int)) (.list (ms.map PyData.int)) = decide (ns = ms) := eqv_ints ns ms
  rw [e]; exact q
theorem nil_len : ([] : List V).length ≤ sizeLine := by show 0 ≤ sizeLine; decide
end OL

namespace L2
open PySem PySem.Spec PyProof.Rows
section
variable {K : PySem.W.Frag} {m : Nat} {js : List Nat} {g : TG} {c : TT} {te : TE} {σ : St} {H1 : Hp} {Q : VK}
theorem comp_listG {a : Addr} {xs : List V} (Pv : Addr → Nat → List V → Hp → Prop) (hS : ∀ acc i ys H, H1 acc = none → Pv acc i ys H → SqL K H a xs) (h0 : ∀ acc, H1 acc = none → Pv acc 0 [] (upd H1 acc (.lst [])))
    (turn : ∀ acc i x ys H, H1 acc = none → i < xs.length → xs[i]? = some x → H acc = some (.lst ys) → Pv acc i ys H → g x (pick m js σ) H fun σ2 H2 => Wk (pick m js σ) σ2 ∧ c σ2 H2 fun b H3 => if b = true then te σ2 H3 fun y H4 => CPut xs.length acc (Pv acc) i y H4 else CSkip xs.length acc (Pv acc) i H3)
    (hQ : ∀ acc ys H, H1 acc = none → H acc = some (.lst ys) → Pv acc xs.length ys H → Q (.ref acc) H) : tCompR m js g c te (Itl K a) σ H1 Q := by
  intro acc hacc
  refine ⟨CW xs.length acc (Pv acc), ⟨_, rfl, Nat.zero_le _, [], upd_same, h0 acc hacc⟩, ?_⟩
  intro i m' H hz_
  obtain ⟨rfl, hi, ys, hy, p⟩ := hz_
  have q := hS acc i ys H hacc p
  by_cases hlt : i < xs.length
  · refine .inr ⟨⟨xs, xs[i], q, by simp [hlt]⟩, fun x H' y => ?_⟩
    obtain ⟨e, y⟩ := y
    subst e
    exact turn acc i x ys _ hacc hlt (y xs q) hy p
  · have e : i = xs.length := by omega
    subst e
    exact .inl ⟨⟨xs, q, Nat.le_refl _⟩, hQ acc ys H hacc hy p⟩
end
end L2

namespace L2
open PySem PySem.Spec PyProof.Rows
section
variable {X : Cx}
end
end L2

namespace L2
open PySem PySem.Spec PyProof.Rows
section
variable {X : Cx}
noncomputable def LstI (H : Hp) (x : V) (r : List Int) : Prop := ∃ l, x = .ref l ∧ H l = some (.lst (r.map V.int))
end
end L2

namespace OL
open PySem L2
open Builtin.Int (intBits)
noncomputable def subB : List Int → List Int → Bool
  | _, [] => true
  | [], _ :: _ => false
  | v :: vs, l :: ls => if hasF v l then subB vs ls else subB vs (l :: ls)
noncomputable def fpN (vs row : List Int) : Nat → List Int
  | 0 => []
  | n + 1 => if (fpN vs row n).length < row.length ∧ hasF (vs.getD n 0) (row.getD (fpN vs row n).length 0) = true then fpN vs row n ++ [(n : Int)] else fpN vs row n
noncomputable def VR (m : Nat) (row : List Int) : Prop := ∀ l ∈ row, 0 < l ∧ l < 2 ^ m
noncomputable def wtR (row : List Int) : Nat := (row.map fun l => popc l.toNat).sum
noncomputable def growF (m : Nat) (row : List Int) : List (List Int) := ((List.range m).map fun (t : Nat) => row ++ [(2 : Int) ^ t]) ++ match row.getLast? with
  | none => []
  | some x => (List.range (m - intBits x)).map fun (i : Nat) => row.dropLast ++ [x + 2 ^ (intBits x + i)]
structure IsS (m w : Nat) (rows : List (List Int)) : Prop where
  nd : rows.Nodup
  mem : ∀ r, r ∈ rows ↔ VR m r ∧ wtR r = w
  ord : rows.Pairwise fun a b => ¬ b < a
noncomputable def lvlR (m : Nat) : Nat → List (List Int)
  | 0 => [[]]
  | n + 1 => (lvlR m n).flatMap (growF m)
noncomputable def srt (m w : Nat) : List (List Int) := (lvlR m w).mergeSort fun a b => decide (¬ b < a)
end OL

namespace OL
open PySem L2
noncomputable def PlD (n : Nat) (d : PyData) : Prop := PyData.canLay0 d = true ∧ PyData.depth d ≤ n ∧ PyData.eqv d d = true
theorem PlD.int (i : Int) : PlD 0 (.int i) := ⟨rfl, Nat.le_refl _, by show (i == i) = true; simp⟩
theorem PlD.bl (b : Bool) : PlD 0 (.bool b) := ⟨rfl, Nat.le_refl _, by cases b <;> rfl⟩
theorem plAll {n : Nat} : ∀ {ds : List PyData}, (∀ d ∈ ds, PlD n d) → PyData.canLayAll0 ds = true ∧ PyData.depthAll ds ≤ n ∧ PyData.eqvAll ds ds = true
  | [], _ => ⟨rfl, Nat.zero_le _, rfl⟩
  | d :: ds, h => by
    obtain ⟨a, b, c⟩ := plAll fun e he => h e (List.mem_cons_of_mem _ he)
    obtain ⟨a', b', c'⟩ := h d List.mem_cons_self
    refine ⟨?_, ?_, ?_⟩
    · show (PyData.canLay0 d && PyData.canLayAll0 ds) = true
      rw [a, a']; rfl
    · show max (PyData.depth d) (PyData.depthAll ds) ≤ n
      omega
    · show (PyData.eqv d d && PyData.eqvAll ds ds) = true
      rw [c, c']; rfl
theorem PlD.list {n : Nat} {ds : List PyData} (h : ∀ d ∈ ds, PlD n d) : PlD (n + 1) (.list ds) := by
  obtain ⟨a, b, c⟩ := plAll h
  exact ⟨a, Nat.succ_le_succ b, c⟩
theorem PlD.tuple {n : Nat} {ds : List PyData} (h : ∀ d ∈ ds, PlD n d) : PlD (n + 1) (.tuple ds) := by
  obtain ⟨a, b, c⟩ := plAll h
  exact ⟨a, Nat.succ_le_succ b, c⟩
theorem PlD.shaped {n : Nat} {d : PyData} (h : PlD n d) (hn : n ≤ 64) : PySem.SeqAt.shaped d = true := by
  unfold PySem.SeqAt.shaped
  rw [h.1]
  have : PyData.depth d ≤ 64 := Nat.le_trans h.2.1 hn
  simp [this]
theorem PlD.ints (ns : List Int) : PlD 1 (.list (ns.map PyData.int)) := .list fun d hd => by
  obtain ⟨i, _, rfl⟩ := List.mem_map.mp hd
  exact .int i
theorem ne_pl {K : PySem.W.Frag} {H : Hp} {x y : V} {d : PyData} {n : Nat} {Q : Bool → Hp → Prop} (hx : DR K H x d) (hy : DR K H y d) (hs : PlD n d) (hn : n ≤ 64) (q : Q false H) : rEqD K true x y H fun v H' => IsBl v fun k => Q k H' := ne_data hx hy (hs.shaped hn) hs.2.2 q
theorem paired_mem {α : Type} {F G : V → α → Prop} {xs : List V} {as : List α} (h : ∀ x a, x ∈ xs → F x a → G x a) (p : Paired F xs as) : Paired G xs as := by
  induction p with
  | nil => exact .nil
  | cons a _ ih => exact .cons (h _ _ List.mem_cons_self a) (ih fun x y hx => h x y (List.mem_cons_of_mem _ hx))
end OL

namespace OL
open PySem L2
theorem Sho.four {d : PyData} {n k : Nat} {Q : Prop} (h : Sho d n k) (hn : n ≤ 1000000) (hk : k ≤ 60) (q : Q) : d.showable = true ∧ d.hasDict = false ∧ d.depth ≤ 60 ∧ d.shown.length ≤ sizeLine ∧ Q := ⟨h.show', h.nodict, Nat.le_trans h.depth hk, h.fits hn, q⟩
end OL

namespace OL
open PySem L2
theorem count_pos {bs : List Int} {lot : Int} : 0 < countF bs lot ↔ ∃ b ∈ bs, hasF b lot = true := by
  unfold countF
  rw [hold_length]
  constructor
  · intro h
    have : 0 < (bs.filter fun b => hasF b lot).length := by omega
    obtain ⟨b, hb⟩ := List.exists_mem_of_length_pos this
    exact ⟨b, (List.mem_filter.mp hb).1, (List.mem_filter.mp hb).2⟩
  · intro hz_
    obtain ⟨b, h1, h2⟩ := hz_
    have := List.length_pos_of_mem (List.mem_filter.mpr ⟨h1, h2⟩ : b ∈ bs.filter fun b => hasF b lot)
    omega
end OL

namespace OL
open PySem L2
section
variable {K : PySem.W.Frag} {m : Nat} {js : List Nat} {g : TG} {c : TT} {te : TE} {σ : St} {H1 : Hp} {Q : VK} {α : Type}
noncomputable def LstG (H1 : Hp) (acc : Addr) (H : Hp) (y : V) (r : List Int) : Prop := ∃ l, y = .ref l ∧ l ≠ acc ∧ H1 l = none ∧ H l = some (.lst (r.map V.int))
theorem LstG.st {acc : Addr} {H H' : Hp} {y : V} {r : List Int} (S : SameB acc H H') (h : LstG H1 acc H y r) : LstG H1 acc H' y r := by obtain ⟨l, e, a, n, h1⟩ := h; exact ⟨l, e, a, n, S _ _ a h1⟩
theorem paired_mapF {β γ : Type} {F : V → γ → Prop} {f : β → γ} {ys : List V} {as : List β} (h : Paired (fun y x => F y (f x)) ys as) : Paired F ys (as.map f) := by
  induction h with
  | nil => exact .nil
  | cons a _ ih => exact .cons a ih
theorem turn_is {js : List Nat} {c : TT} {te : TE} {σ : St} {v : V} {H2 : Hp} {b : Bool} {R : Hp → V → Prop} (hc : LookT c ((pick 1 js σ).set 0 (some v)) H2 b) (he : b = true → ∀ H3, Same H2 H3 → ∀ Q : VK, (∀ y H', Same H2 H' → R H' y → Q y H') → te ((pick 1 js σ).set 0 (some v)) H3 Q) : CTurn 1 js (gName 0) c te σ v H2 b R := by
  intro PUT SKIP h1 h2
  refine ⟨(Wk.refl _).set (by decide), hc _ fun H3 S3 => ?_⟩
  cases b with
  | true => exact iteT (he rfl H3 S3 _ fun y H' S r => h1 rfl _ _ S r)
  | false => exact iteF (h2 rfl _ S3)
theorem last_at {r : List Int} (x : Int) : atI ((r ++ [x]).map V.int) (-1) = some (.int x) := by
  unfold atI ixN
  simp only [List.map_append, List.map_cons, List.map_nil, List.length_append, List.length_map, List.length_cons, List.length_nil]
  rw [if_neg (by omega), if_pos (by omega)]
  show (List.map V.int r ++ [V.int x])[(-1 + ((r.length + (0 + 1) : Nat) : Int)).toNat]? = _
  rw [show (-1 + ((r.length + (0 + 1) : Nat) : Int)).toNat = r.length by omega, List.getElem?_append_right (by rw [List.length_map]; exact Nat.le_refl _), List.length_map, Nat.sub_self]
  rfl
theorem list_ofK {X : Cx} (K : PySem.W.Frag) (hK : X.K = K) : CallR X (.type "list") (fun xs H Q => ∃ p ys, xs = [.ref p] ∧ (SqL K H p ys ∨ SqT K H p ys) ∧ ∀ l, H l = none → Q (.ref l) (upd H l (.lst ys))) := by subst hK; exact call_list_of
end
end OL

namespace L2
open PySem PySem.Spec PyProof.Rows
noncomputable def RowT (H : Hp) (x : V) (r : List Int) : Prop := ∃ p, x = .ref p ∧ H p = some (.tup (r.map V.int))
noncomputable abbrev RowsT (H : Hp) (xs : List V) (rs : List (List Int)) : Prop := Paired (RowT H) xs rs
theorem RowT.same {H H' : Hp} {x : V} {r : List Int} (h : RowT H x r) (S : TSame H H') : RowT H' x r := by
  obtain ⟨p, e, hp⟩ := h; exact ⟨p, e, S _ _ hp⟩
theorem RowsT.same {H H' : Hp} {xs : List V} {rs : List (List Int)} (h : RowsT H xs rs) (S : TSame H H') : RowsT H' xs rs := Paired.imp' (fun _ _ z => z.same S) h
noncomputable def dRowT (r : List Int) : PyData := .tuple (r.map PyData.int)
theorem RowsT.dr {K : PySem.W.Frag} {H : Hp} {xs : List V} {rs : List (List Int)} (h : RowsT H xs rs) : DRs K H xs (rs.map dRowT) := by
  induction h with
  | nil => exact .nil
  | cons h _ ih =>
    obtain ⟨p, e, hp⟩ := h
    subst e; exact .cons (.tup (SqT.of hp) (DRs.ints _)) ih
end L2
namespace OL
open PySem L2
section
variable {many : Int} {bs : List Int} (hb : ∀ x ∈ bs, InB many x)
include hb
end
end OL

namespace OL
open PySem L2
section
variable {many : Int} {bs : List Int} {least : Int} (hb : ∀ x ∈ bs, InB many x)
include hb
end
theorem mem_rowsF {many : Int} {bs : List Int} {least : Int} {r : Int × Int} : r ∈ rowsF many bs least ↔ InB many r.1 ∧ least ≤ countF bs r.1 ∧ closeF many bs r.1 = r.1 ∧ r.2 = countF bs r.1 := by
  unfold rowsF rowsU
  rw [List.mem_map]
  have hc := powC many
  constructor
  · intro hz_
    obtain ⟨i, hi, rfl⟩ := hz_
    obtain ⟨h1, h2⟩ := List.mem_filter.mp hi
    have h1 := List.mem_range.mp h1
    unfold isRow at h2
    rw [Bool.and_eq_true] at h2
    exact ⟨⟨Int.natCast_nonneg _, by show (i : Int) < _; omega⟩, of_decide_eq_true h2.1, by simpa using h2.2, rfl⟩
  · intro hz_
    obtain ⟨h1, h2, h3, h4⟩ := hz_
    have e : ((r.1.toNat : Nat) : Int) = r.1 := Int.toNat_of_nonneg h1.1
    refine ⟨r.1.toNat, List.mem_filter.mpr ⟨List.mem_range.mpr (by have := h1.2; omega), ?_⟩, ?_⟩
    · unfold isRow
      rw [e, Bool.and_eq_true]
      exact ⟨decide_eq_true h2, by rw [h3]; simp⟩
    · rw [e, ← h4]
theorem count_close {many : Int} {bs : List Int} (hb : ∀ x ∈ bs, InB many x) {lot : Int} (hl : InB many lot) : countF bs (closeF many bs lot) = countF bs lot := by
  unfold countF
  rw [hold_close hb hl]
theorem rowsF_len (many : Int) (bs : List Int) (least : Int) : (rowsF many bs least).length ≤ 2 ^ many.toNat := by
  unfold rowsF rowsU
  rw [List.length_map]
  exact Nat.le_trans (List.length_filter_le _ _) (by simp)
end OL

namespace OL
open PySem L2
section
variable {many : Int} {bs : List Int}
variable (hb : ∀ x ∈ bs, InB many x)
include hb
end
noncomputable def needF (rs : List (Int × Int)) (t : Int) : Int → List Int → List Int
  | _, [] => []
  | c, p :: ps => if hasF c t = true then [] else p :: needF rs t (Builtin.bitOr c (sndF rs p.toNat)) ps
noncomputable def goF (rs : List (Int × Int)) (t : Int) : Int → List Int → Int
  | c, [] => c
  | c, p :: ps => if hasF c t = true then c else goF rs t (Builtin.bitOr c (sndF rs p.toNat)) ps
noncomputable def showF (rs : List (Int × Int)) (t : Int) : Int → List Int → Bool
  | c, [] => hasF c t
  | c, p :: ps => if (decide (p < 0) || (decide ((rs.length : Int) ≤ p) || !hasF c (rs.getD p.toNat (0, 0)).1)) = true then false else showF rs t (Builtin.bitOr c (sndF rs p.toNat)) ps
section
variable {rs : List (Int × Int)} {t : Int}
variable (hr : NN rs) (ht : 0 ≤ t)
include hr ht
end
end OL
namespace OL
open PySem L2
theorem InB.andL {many x y : Int} (hx : InB many x) (hy : 0 ≤ y) : InB many (Builtin.bitAnd x y) := InB.of_th (and_nn hx.1 hy) fun i z => hx.th ((th_and hx.1 hy i).mp z).1
end OL

namespace L2
open PySem PySem.Spec PyProof.Rows
structure Mfn (P : Program) (w : World) (K : PySem.W.Frag) (mg : Str → Option Value) (base : Heap) (k : Nat) (C : Addr) (m : Str) (ps : List Str) (sp : Sp) : Prop where
  ex : ∃ f fd, FnOk P w K mg base CX0 k f fd ps sp ∧ Binds K fd ps [] ∧ Meth K C m f
structure Ifn (P : Program) (w : World) (K : PySem.W.Frag) (mg : Str → Option Value) (base : Heap) (k : Nat) (C : Addr) (ps : List Str) (sp : Sp) : Prop where
  ex : ∃ f fd j, j + 1 ≤ k ∧ FnOk P w K mg base CX0 j f fd ps sp ∧ Binds K fd ps [] ∧ Mk K C f
section
variable {P : Program} {w : World} {K : PySem.W.Frag} {mg : Str → Option Value} {base : Heap} {C : Addr}
theorem Mfn.mono {j k : Nat} {m : Str} {ps : List Str} {sp : Sp} (D : Mfn P w K mg base j C m ps sp) (h : j ≤ k) : Mfn P w K mg base k C m ps sp := by
  obtain ⟨f, fd, F, b, me⟩ := D.ex
  exact ⟨f, fd, F.mono h, b, me⟩
theorem Ifn.mono {j k : Nat} {ps : List Str} {sp : Sp} (D : Ifn P w K mg base j C ps sp) (h : j ≤ k) : Ifn P w K mg base k C ps sp := by
  obtain ⟨f, fd, i, hi, F, b, me⟩ := D.ex
  exact ⟨f, fd, i, Nat.le_trans hi h, F, b, me⟩
theorem Mfn.of {k : Nat} {x qual : Str} {st : Stmt} {f : Addr} {fd : FuncData} {N ps : List Str} {sp : Sp} {m : Str} (F : Fun K x qual st f fd) (b : Binds K fd ps []) (me : Meth K C m f) (S : FnScope N ps (defScope st)) (len : ∀ vs H Q E, sp vs H Q E → vs.length = ps.length)
    (hbody : ∀ (cdv : Value) (A : Around) (outer : List Env) (s : Shared) (H : Hp) (vs : List V) (Q : VK) (E : XK), Room k (A.deeper (envOfC qual (defScope st) s.heap.objs.size f cdv)) → sp vs H Q E →
      ∃ t, PSs (cxOf CX0 P w K mg base N qual (defScope st) f cdv A outer s H E).nox (defBody st) t ∧ t { nx := fun _ H' => Q .non H', rt := Q } (start N vs) H) : Mfn P w K mg base (k + 1) C m ps sp :=
  ⟨f, fd, F.ok S len hbody, b, me⟩
theorem Ifn.of {k : Nat} {x qual : Str} {st : Stmt} {f : Addr} {fd : FuncData} {N ps : List Str} {sp : Sp} (F : Fun K x qual st f fd) (b : Binds K fd ps []) (me : Mk K C f) (S : FnScope N ps (defScope st)) (len : ∀ vs H Q E, sp vs H Q E → vs.length = ps.length)
    (hbody : ∀ (cdv : Value) (A : Around) (outer : List Env) (s : Shared) (H : Hp) (vs : List V) (Q : VK) (E : XK), Room k (A.deeper (envOfC qual (defScope st) s.heap.objs.size f cdv)) → sp vs H Q E →
      ∃ t, PSs (cxOf CX0 P w K mg base N qual (defScope st) f cdv A outer s H E).nox (defBody st) t ∧ t { nx := fun _ H' => Q .non H', rt := Q } (start N vs) H) : Ifn P w K mg base (k + 2) C ps sp :=
  ⟨f, fd, k + 1, Nat.le_refl _, F.ok S len hbody, b, me⟩
end
section
variable {X : Cx} {k j : Nat} {C : Addr} {m x : Str} {ps : List Str} {sp : Sp} {o e : Expr} {es : List Expr} {ta : TE} {t : TA} {p pos apos : Pos}
theorem pe_mdef {pl : Sem Bool} (c : Cls X.K C) (he : PE X o ta) (D : Mfn X.prog X.w X.K X.mg X.base k C m ps sp) (hr : Room j X.A) (hj : k ≤ j) (ha : PA X (e :: es) t)
    (hst : starEach (e :: es) X.env = (false, eval e X.env) :: starEach es X.env := by rfl) (hpl : (backTo pos (starEach es X.env)).any (·.1) = false := by rfl)
    (ht : eval (.Call (.Attribute o m apos) (e :: es) [] pos) X.env = (do
      let ov ← eval o X.env
      standAt apos.atName
      let (f, first) ← holding [ov] (getMethod ov m pl)
      callWith pos f first (backTo pos (starEach (e :: es) X.env)) (backToKw pos (keywordEach [] X.env))) := by rfl) :
    PE X (.Call (.Attribute o m apos) (e :: es) [] pos) (tMeth C m sp [] E0 ta t) := by
  obtain ⟨f, fd, F, b, me⟩ := D.ex
  exact pe_meth (pl := pl) he c me F (hr.mono hj) b .nil pass0 ha hst hpl ht
theorem pe_mdef0 {pl : Sem Bool} (c : Cls X.K C) (he : PE X o ta) (D : Mfn X.prog X.w X.K X.mg X.base k C m ps sp) (hr : Room j X.A) (hj : k ≤ j)
    (ht : eval (.Call (.Attribute o m apos) [] [] pos) X.env = (do
      let ov ← eval o X.env
      standAt apos.atName
      let (f, first) ← holding [ov] (getMethod ov m pl)
      callWith pos f first (backTo pos (starEach [] X.env)) (backToKw pos (keywordEach [] X.env))) := by rfl) :
    PE X (.Call (.Attribute o m apos) [] [] pos) (tMeth C m sp [] E0 ta tNil) := by
  obtain ⟨f, fd, F, b, me⟩ := D.ex
  exact pe_meth0 (pl := pl) he c me F (hr.mono hj) b .nil pass0 ht
theorem pe_mk (hm : X.mg x = some (.ref C)) (D : Ifn X.prog X.w X.K X.mg X.base k C ps sp) (hr : Room j X.A) (hj : k ≤ j) (hg : Gl X x) (ha : PA X (e :: es) t)
    (hdb : (x == ("__debug__" : Str)) = false := by decide) (he : starEach (e :: es) X.env = (false, eval e X.env) :: starEach es X.env := by rfl) (hpl : (backTo pos (starEach es X.env)).any (·.1) = false := by rfl) :
    PE X (.Call (.Name x p) (e :: es) [] pos) (tMake C sp [] E0 t) := by
  obtain ⟨f, fd, i, hi, F, b, me⟩ := D.ex
  exact pe_make me F (hr.mono (Nat.le_trans hi hj)) hg hm b .nil pass0 ha hdb he hpl
end
end L2

namespace OL
open PySem L2
structure Kls (K : PySem.W.Frag) (mg : Str → Option Value) (C : Addr) : Prop where
  cl : Cls K C
  n_many : NoAttr K C "many"
  n_least : NoAttr K C "least"
  n_most : NoAttr K C "most"
  n_kept : NoAttr K C "kept"
  n_told_ahead : NoAttr K C "told_ahead"
  n_told_now : NoAttr K C "told_now"
  mgC : mg "Keeper" = some (.ref C)
theorem ne_many_least : ((("many" : Str) = "least")) = False := eq_false (by decide +kernel)
theorem ne_many_most : ((("many" : Str) = "most")) = False := eq_false (by decide +kernel)
theorem ne_many_kept : ((("many" : Str) = "kept")) = False := eq_false (by decide +kernel)
theorem ne_many_told_ahead : ((("many" : Str) = "told_ahead")) = False := eq_false (by decide +kernel)
theorem ne_many_told_now : ((("many" : Str) = "told_now")) = False := eq_false (by decide +kernel)
theorem ne_least_many : ((("least" : Str) = "many")) = False := eq_false (by decide +kernel)
theorem ne_least_most : ((("least" : Str) = "most")) = False := eq_false (by decide +kernel)
theorem ne_least_kept : ((("least" : Str) = "kept")) = False := eq_false (by decide +kernel)
theorem ne_least_told_ahead : ((("least" : Str) = "told_ahead")) = False := eq_false (by decide +kernel)
theorem ne_least_told_now : ((("least" : Str) = "told_now")) = False := eq_false (by decide +kernel)
theorem ne_most_many : ((("most" : Str) = "many")) = False := eq_false (by decide +kernel)
theorem ne_most_least : ((("most" : Str) = "least")) = False := eq_false (by decide +kernel)
theorem ne_most_kept : ((("most" : Str) = "kept")) = False := eq_false (by decide +kernel)
theorem ne_most_told_ahead : ((("most" : Str) = "told_ahead")) = False := eq_false (by decide +kernel)
theorem ne_most_told_now : ((("most" : Str) = "told_now")) = False := eq_false (by decide +kernel)
theorem ne_kept_many : ((("kept" : Str) = "many")) = False := eq_false (by decide +kernel)
theorem ne_kept_least : ((("kept" : Str) = "least")) = False := eq_false (by decide +kernel)
theorem ne_kept_most : ((("kept" : Str) = "most")) = False := eq_false (by decide +kernel)
theorem ne_kept_told_ahead : ((("kept" : Str) = "told_ahead")) = False := eq_false (by decide +kernel)
theorem ne_kept_told_now : ((("kept" : Str) = "told_now")) = False := eq_false (by decide +kernel)
theorem ne_told_ahead_many : ((("told_ahead" : Str) = "many")) = False := eq_false (by decide +kernel)
theorem ne_told_ahead_least : ((("told_ahead" : Str) = "least")) = False := eq_false (by decide +kernel)
theorem ne_told_ahead_most : ((("told_ahead" : Str) = "most")) = False := eq_false (by decide +kernel)
theorem ne_told_ahead_kept : ((("told_ahead" : Str) = "kept")) = False := eq_false (by decide +kernel)
theorem ne_told_ahead_told_now : ((("told_ahead" : Str) = "told_now")) = False := eq_false (by decide +kernel)
theorem ne_told_now_many : ((("told_now" : Str) = "many")) = False := eq_false (by decide +kernel)
theorem ne_told_now_least : ((("told_now" : Str) = "least")) = False := eq_false (by decide +kernel)
theorem ne_told_now_most : ((("told_now" : Str) = "most")) = False := eq_false (by decide +kernel)
theorem ne_told_now_kept : ((("told_now" : Str) = "kept")) = False := eq_false (by decide +kernel)
theorem ne_told_now_told_ahead : ((("told_now" : Str) = "told_ahead")) = False := eq_false (by decide +kernel)
theorem ne_changes_many : ((("changes" : Str) = "many")) = False := eq_false (by decide +kernel)
theorem ne_changes_least : ((("changes" : Str) = "least")) = False := eq_false (by decide +kernel)
theorem ne_changes_most : ((("changes" : Str) = "most")) = False := eq_false (by decide +kernel)
theorem ne_changes_kept : ((("changes" : Str) = "kept")) = False := eq_false (by decide +kernel)
theorem ne_changes_told_ahead : ((("changes" : Str) = "told_ahead")) = False := eq_false (by decide +kernel)
theorem ne_changes_told_now : ((("changes" : Str) = "told_now")) = False := eq_false (by decide +kernel)
theorem ne_come_many : ((("come" : Str) = "many")) = False := eq_false (by decide +kernel)
theorem ne_come_least : ((("come" : Str) = "least")) = False := eq_false (by decide +kernel)
theorem ne_come_most : ((("come" : Str) = "most")) = False := eq_false (by decide +kernel)
theorem ne_come_kept : ((("come" : Str) = "kept")) = False := eq_false (by decide +kernel)
theorem ne_come_told_ahead : ((("come" : Str) = "told_ahead")) = False := eq_false (by decide +kernel)
theorem ne_come_told_now : ((("come" : Str) = "told_now")) = False := eq_false (by decide +kernel)
theorem ne_go_many : ((("go" : Str) = "many")) = False := eq_false (by decide +kernel)
theorem ne_go_least : ((("go" : Str) = "least")) = False := eq_false (by decide +kernel)
theorem ne_go_most : ((("go" : Str) = "most")) = False := eq_false (by decide +kernel)
theorem ne_go_kept : ((("go" : Str) = "kept")) = False := eq_false (by decide +kernel)
theorem ne_go_told_ahead : ((("go" : Str) = "told_ahead")) = False := eq_false (by decide +kernel)
theorem ne_go_told_now : ((("go" : Str) = "told_now")) = False := eq_false (by decide +kernel)
theorem ne_need_many : ((("need" : Str) = "many")) = False := eq_false (by decide +kernel)
theorem ne_need_least : ((("need" : Str) = "least")) = False := eq_false (by decide +kernel)
theorem ne_need_most : ((("need" : Str) = "most")) = False := eq_false (by decide +kernel)
theorem ne_need_kept : ((("need" : Str) = "kept")) = False := eq_false (by decide +kernel)
theorem ne_need_told_ahead : ((("need" : Str) = "told_ahead")) = False := eq_false (by decide +kernel)
theorem ne_need_told_now : ((("need" : Str) = "told_now")) = False := eq_false (by decide +kernel)
theorem ne_days_many : ((("days" : Str) = "many")) = False := eq_false (by decide +kernel)
theorem ne_days_least : ((("days" : Str) = "least")) = False := eq_false (by decide +kernel)
theorem ne_days_most : ((("days" : Str) = "most")) = False := eq_false (by decide +kernel)
theorem ne_days_kept : ((("days" : Str) = "kept")) = False := eq_false (by decide +kernel)
theorem ne_days_told_ahead : ((("days" : Str) = "told_ahead")) = False := eq_false (by decide +kernel)
theorem ne_days_told_now : ((("days" : Str) = "told_now")) = False := eq_false (by decide +kernel)
theorem ne_closed_many : ((("closed" : Str) = "many")) = False := eq_false (by decide +kernel)
theorem ne_closed_least : ((("closed" : Str) = "least")) = False := eq_false (by decide +kernel)
theorem ne_closed_most : ((("closed" : Str) = "most")) = False := eq_false (by decide +kernel)
theorem ne_closed_kept : ((("closed" : Str) = "kept")) = False := eq_false (by decide +kernel)
theorem ne_closed_told_ahead : ((("closed" : Str) = "told_ahead")) = False := eq_false (by decide +kernel)
theorem ne_closed_told_now : ((("closed" : Str) = "told_now")) = False := eq_false (by decide +kernel)
theorem ne_count_many : ((("count" : Str) = "many")) = False := eq_false (by decide +kernel)
theorem ne_count_least : ((("count" : Str) = "least")) = False := eq_false (by decide +kernel)
theorem ne_count_most : ((("count" : Str) = "most")) = False := eq_false (by decide +kernel)
theorem ne_count_kept : ((("count" : Str) = "kept")) = False := eq_false (by decide +kernel)
theorem ne_count_told_ahead : ((("count" : Str) = "told_ahead")) = False := eq_false (by decide +kernel)
theorem ne_count_told_now : ((("count" : Str) = "told_now")) = False := eq_false (by decide +kernel)
theorem ne_book_many : ((("book" : Str) = "many")) = False := eq_false (by decide +kernel)
theorem ne_book_least : ((("book" : Str) = "least")) = False := eq_false (by decide +kernel)
theorem ne_book_most : ((("book" : Str) = "most")) = False := eq_false (by decide +kernel)
theorem ne_book_kept : ((("book" : Str) = "kept")) = False := eq_false (by decide +kernel)
theorem ne_book_told_ahead : ((("book" : Str) = "told_ahead")) = False := eq_false (by decide +kernel)
theorem ne_book_told_now : ((("book" : Str) = "told_now")) = False := eq_false (by decide +kernel)
theorem ne_tell_anew_many : ((("tell_anew" : Str) = "many")) = False := eq_false (by decide +kernel)
theorem ne_tell_anew_least : ((("tell_anew" : Str) = "least")) = False := eq_false (by decide +kernel)
theorem ne_tell_anew_most : ((("tell_anew" : Str) = "most")) = False := eq_false (by decide +kernel)
theorem ne_tell_anew_kept : ((("tell_anew" : Str) = "kept")) = False := eq_false (by decide +kernel)
theorem ne_tell_anew_told_ahead : ((("tell_anew" : Str) = "told_ahead")) = False := eq_false (by decide +kernel)
theorem ne_tell_anew_told_now : ((("tell_anew" : Str) = "told_now")) = False := eq_false (by decide +kernel)
noncomputable def fl (many least most : Int) (kp ah nw : Addr) : List (Str × V) := putF "told_now" (.ref nw) (putF "told_ahead" (.ref ah) (putF "kept" (.ref kp) (putF "most" (.int most) (putF "least" (.int least) (putF "many" (.int many) [])))))
section
variable {many least most : Int} {kp ah nw : Addr}
theorem fl_eq : fl many least most kp ah nw = ([("many", V.int many), ("least", V.int least), ("most", V.int most), ("kept", V.ref kp), ("told_ahead", V.ref ah), ("told_now", V.ref nw)] : List (Str × V)) := by
  simp only [fl, putF, ne_many_least, ne_many_most, ne_many_kept, ne_many_told_ahead, ne_many_told_now, ne_least_most, ne_least_kept, ne_least_told_ahead, ne_least_told_now, ne_most_kept, ne_most_told_ahead, ne_most_told_now, ne_kept_told_ahead, ne_kept_told_now, ne_told_ahead_told_now, if_false]
theorem fl_many : (fl many least most kp ah nw).lookup ("many" : Str) = some (.int many) := by
  simp only [fl, lookup_putF, ne_many_least, ne_many_most, ne_many_kept, ne_many_told_ahead, ne_many_told_now, if_false, if_true]
theorem fl_least : (fl many least most kp ah nw).lookup ("least" : Str) = some (.int least) := by
  simp only [fl, lookup_putF, ne_least_many, ne_least_most, ne_least_kept, ne_least_told_ahead, ne_least_told_now, if_false, if_true]
theorem fl_most : (fl many least most kp ah nw).lookup ("most" : Str) = some (.int most) := by
  simp only [fl, lookup_putF, ne_most_many, ne_most_least, ne_most_kept, ne_most_told_ahead, ne_most_told_now, if_false, if_true]
theorem fl_kept : (fl many least most kp ah nw).lookup ("kept" : Str) = some (.ref kp) := by
  simp only [fl, lookup_putF, ne_kept_many, ne_kept_least, ne_kept_most, ne_kept_told_ahead, ne_kept_told_now, if_false, if_true]
theorem fl_told_ahead : (fl many least most kp ah nw).lookup ("told_ahead" : Str) = some (.ref ah) := by
  simp only [fl, lookup_putF, ne_told_ahead_many, ne_told_ahead_least, ne_told_ahead_most, ne_told_ahead_kept, ne_told_ahead_told_now, if_false, if_true]
theorem fl_told_now : (fl many least most kp ah nw).lookup ("told_now" : Str) = some (.ref nw) := by
  simp only [fl, lookup_putF, ne_told_now_many, ne_told_now_least, ne_told_now_most, ne_told_now_kept, ne_told_now_told_ahead, if_false, if_true]
theorem fl_no_changes : (fl many least most kp ah nw).lookup ("changes" : Str) = none := by
  simp only [fl, lookup_putF, ne_changes_many, ne_changes_least, ne_changes_most, ne_changes_kept, ne_changes_told_ahead, ne_changes_told_now, if_false]
  rfl
theorem fl_no_come : (fl many least most kp ah nw).lookup ("come" : Str) = none := by
  simp only [fl, lookup_putF, ne_come_many, ne_come_least, ne_come_most, ne_come_kept, ne_come_told_ahead, ne_come_told_now, if_false]
  rfl
theorem fl_no_go : (fl many least most kp ah nw).lookup ("go" : Str) = none := by
  simp only [fl, lookup_putF, ne_go_many, ne_go_least, ne_go_most, ne_go_kept, ne_go_told_ahead, ne_go_told_now, if_false]
  rfl
theorem fl_no_need : (fl many least most kp ah nw).lookup ("need" : Str) = none := by
  simp only [fl, lookup_putF, ne_need_many, ne_need_least, ne_need_most, ne_need_kept, ne_need_told_ahead, ne_need_told_now, if_false]
  rfl
theorem fl_no_days : (fl many least most kp ah nw).lookup ("days" : Str) = none := by
  simp only [fl, lookup_putF, ne_days_many, ne_days_least, ne_days_most, ne_days_kept, ne_days_told_ahead, ne_days_told_now, if_false]
  rfl
theorem fl_no_closed : (fl many least most kp ah nw).lookup ("closed" : Str) = none := by
  simp only [fl, lookup_putF, ne_closed_many, ne_closed_least, ne_closed_most, ne_closed_kept, ne_closed_told_ahead, ne_closed_told_now, if_false]
  rfl
theorem fl_no_count : (fl many least most kp ah nw).lookup ("count" : Str) = none := by
  simp only [fl, lookup_putF, ne_count_many, ne_count_least, ne_count_most, ne_count_kept, ne_count_told_ahead, ne_count_told_now, if_false]
  rfl
theorem fl_no_book : (fl many least most kp ah nw).lookup ("book" : Str) = none := by
  simp only [fl, lookup_putF, ne_book_many, ne_book_least, ne_book_most, ne_book_kept, ne_book_told_ahead, ne_book_told_now, if_false]
  rfl
theorem fl_no_tell_anew : (fl many least most kp ah nw).lookup ("tell_anew" : Str) = none := by
  simp only [fl, lookup_putF, ne_tell_anew_many, ne_tell_anew_least, ne_tell_anew_most, ne_tell_anew_kept, ne_tell_anew_told_ahead, ne_tell_anew_told_now, if_false]
  rfl
theorem fl_len : (fl many least most kp ah nw).length < 1000 := by rw [fl_eq]; show 6 < 1000; decide
theorem fl_put_least (v : Int) : putF "least" (.int v) (fl many least most kp ah nw) = fl many v most kp ah nw := by
  rw [fl_eq, fl_eq]
  simp only [putF, ne_many_least, if_false, if_true]
theorem fl_put_ahead (v : Addr) : putF "told_ahead" (.ref v) (fl many least most kp ah nw) = fl many least most kp v nw := by
  rw [fl_eq, fl_eq]
  simp only [putF, ne_many_told_ahead, ne_least_told_ahead, ne_most_told_ahead, ne_kept_told_ahead, if_false, if_true]
theorem fl_put_now (v : Addr) : putF "told_now" (.ref v) (fl many least most kp ah nw) = fl many least most kp ah v := by
  rw [fl_eq, fl_eq]
  simp only [putF, ne_many_told_now, ne_least_told_now, ne_most_told_now, ne_kept_told_now, ne_told_ahead_told_now, if_false, if_true]
end
structure KeepW (C : Addr) (H : Hp) (p kp : Addr) (many least : Int) (D : List (List Int)) : Prop where
  ob : ∃ dx ah nw, H p = some (.ins C dx (fl many least 4 kp ah nw))
  ds : ∃ us, H kp = some (.lst us) ∧ Paired (LstI H) us D
structure KeepAt (C : Addr) (H : Hp) (p kp : Addr) (many least : Int) (D : List (List Int)) : Prop where
  ob : ∃ dx ah nw ws, H p = some (.ins C dx (fl many least 4 kp ah nw)) ∧ H nw = some (.lst ws) ∧ Rows H ws (rowsF many D.flatten least)
  ds : ∃ us, H kp = some (.lst us) ∧ Paired (LstI H) us D
theorem lsts_same {H H' : Hp} {us : List V} {D : List (List Int)} (S : Same H H') (h : Paired (LstI H) us D) : Paired (LstI H') us D := Paired.imp' (fun _ _ z => by obtain ⟨l, e, w⟩ := z; exact ⟨l, e, S _ _ w⟩) h
noncomputable def Fr2 (p q : Addr) (H H' : Hp) : Prop := ∀ b o, H b = some o → b ≠ p → b ≠ q → H' b = some o
noncomputable def Fr1 (p : Addr) (H H' : Hp) : Prop := ∀ b o, H b = some o → b ≠ p → H' b = some o
theorem Fr1.refl (p : Addr) (H : Hp) : Fr1 p H H := fun _ _ e _ => e
theorem Fr1.put {p : Addr} {H H1 : Hp} {x : HO} (F : Fr1 p H H1) : Fr1 p H (upd H1 p x) := fun b o e n => by rw [upd_ne n]; exact F b o e n
theorem Fr1.same {p : Addr} {H H1 H2 : Hp} (F : Fr1 p H H1) (S : Same H1 H2) : Fr1 p H H2 := fun b o e n => S _ _ (F b o e n)
theorem Fr1.trans {p : Addr} {H H1 H2 : Hp} (F : Fr1 p H H1) (S : Fr1 p H1 H2) : Fr1 p H H2 := fun b o e n => S _ _ (F b o e n) n
theorem Fr1.free {p x : Addr} {H H1 : Hp} {o : HO} (F : Fr1 p H H1) (hp : H1 p = some o) (h : H1 x = none) : H x = none := by
  cases e : H x with
  | none => rfl
  | some u =>
    by_cases c : x = p
    · rw [c, hp] at h; cases h
    · rw [F _ _ e c] at h; cases h
theorem Fr1.fr {p q : Addr} {H H' : Hp} (S : Fr1 p H H') : Fr2 p q H H' := fun b o e n _ => S b o e n
theorem putk {H : Hp} {p b : Addr} {x : HO} {o : Option HO} (n : b ≠ p) (h : H b = o) : upd H p x b = o := by rw [upd_ne n]; exact h
theorem lsts_fr {p q : Addr} {H H' : Hp} {us : List V} {D : List (List Int)} (S : Fr2 p q H H') (np : ∀ l, V.ref l ∈ us → l ≠ p ∧ l ≠ q) (h : Paired (LstI H) us D) : Paired (LstI H') us D := by
  induction h with
  | nil => exact .nil
  | cons z t ih =>
    obtain ⟨l, rfl, e⟩ := z
    exact .cons ⟨l, rfl, S _ _ e (np l (.head _)).1 (np l (.head _)).2⟩ (ih fun l hl => np l (.tail _ hl))
theorem lsts_mem {H : Hp} {us : List V} {D : List (List Int)} {l : Addr} (h : Paired (LstI H) us D) (hl : V.ref l ∈ us) : ∃ d : List Int, H l = some (.lst (d.map V.int)) := by
  induction h with
  | nil => cases hl
  | cons z t ih =>
    obtain ⟨l', rfl, e⟩ := z
    cases hl with
    | head => exact ⟨_, e⟩
    | tail _ hl => exact ih hl
theorem kept_ne {H : Hp} {us : List V} {D : List (List Int)} {kp l : Addr} (hk : H kp = some (.lst us)) (h : Paired (LstI H) us D) (hl : V.ref l ∈ us) : l ≠ kp := fun z => by
  obtain ⟨d, e⟩ := lsts_mem h hl
  rw [z, hk] at e
  injection e with e
  injection e with e
  rw [e] at hl
  obtain ⟨x, _, hx⟩ := List.mem_map.mp hl
  cases hx
theorem lst_ne_ins {H : Hp} {p l C dx : Addr} {fs : List (Str × V)} {xs : List V} (hp : H p = some (.ins C dx fs)) (hl : H l = some (.lst xs)) : l ≠ p := fun z => by rw [z, hp] at hl; cases hl
theorem paired_drop1 {α β : Type} {R : α → β → Prop} {xs : List α} {ys : List β} (h : Paired R xs ys) : Paired R (xs.drop 1) (ys.drop 1) := by
  cases h with
  | nil => exact .nil
  | cons _ t => exact t
theorem tyL {K : PySem.W.Frag} {H : Hp} {p : Addr} {xs : List V} (h : H p = some (.lst xs)) : tyV K "list" (.ref p) H := .inl ⟨rfl, _, SqL.of h⟩
theorem seq0 (u : V) (us : List V) : seqIndex? 0 (u :: us).length = some 0 := by
  unfold seqIndex?
  simp
theorem same_put {H H' : Hp} {l : Addr} {x : HO} (S : Same H H') (hl : H l = none) : Same H (upd H' l x) := fun b o e => by rw [upd_ne (ne_of_none e hl)]; exact S b o e
theorem lsts_fr1 {p C dx : Addr} {fs : List (Str × V)} {H H' : Hp} {us : List V} {D : List (List Int)} (hp : H p = some (.ins C dx fs)) (F : Fr1 p H H') (h : Paired (LstI H) us D) : Paired (LstI H') us D := Paired.imp' (fun _ _ z => by obtain ⟨l, e, w⟩ := z; exact ⟨l, e, F _ _ w (lst_ne_ins hp w)⟩) h
theorem rows_fr1 {p C dx : Addr} {fs : List (Str × V)} {H H' : Hp} {us : List V} {rs : List (Int × Int)} (hp : H p = some (.ins C dx fs)) (F : Fr1 p H H') (h : Rows H us rs) : Rows H' us rs := Paired.imp' (fun _ _ z => by obtain ⟨l, e, w⟩ := z; exact ⟨l, e, F _ _ w fun z => by rw [z, hp] at w; cases w⟩) h
theorem rows_fr2 {p q C dx : Addr} {fs : List (Str × V)} {xs : List V} {H H' : Hp} {us : List V} {rs : List (Int × Int)} (hp : H p = some (.ins C dx fs)) (hq : H q = some (.lst xs)) (F : Fr2 p q H H') (h : Rows H us rs) : Rows H' us rs := Paired.imp' (fun _ _ z => by obtain ⟨l, e, w⟩ := z; exact ⟨l, e, F _ _ w (fun z => by rw [z, hp] at w; cases w) (fun z => by rw [z, hq] at w; cases w)⟩) h
theorem flat_take {D : List (List Int)} {i : Nat} {d : List Int} (h : D[i]? = some d) : (D.take (i + 1)).flatten = (D.take i).flatten ++ d := by
  rw [List.take_add_one, h, List.flatten_append]; simp
inductive spDay31_I (vs : List V) (H : Hp) (Q : VK) : Prop
  | mk (c many : Int) (e_1 : vs = [.int c, .int many]) (e_2 : 1 ≤ many) (e_3 : many ≤ 12) (e_4 : ∀ (r : Addr) (ds : List Int) (H' : Hp), Same H H' → H r = none → H' r = some (.lst (ds.map V.int)) → ds.length ≤ 5 → (∀ x ∈ ds, InB many x) → Q (.ref r) H') : spDay31_I vs H Q
noncomputable def spDay31 : Sp := fun vs H Q _ => spDay31_I vs H Q
theorem rows_nil {many least : Int} (h : 1 ≤ least) : rowsF many [] least = [] := by
  unfold rowsF rowsU
  have : (List.range (2 ^ many.toNat)).filter (fun (i : Nat) => isRow many [] least (i : Int)) = [] := by
    rw [List.filter_eq_nil_iff]
    intro i _
    unfold isRow
    have : countF [] (i : Int) = 0 := rfl
    rw [this, decide_eq_false (by omega)]
    simp
  rw [this]; rfl
theorem take_snoc {α : Type} {D : List α} {i : Nat} {d : α} (h : D[i]? = some d) : D.take (i + 1) = D.take i ++ [d] := by rw [List.take_add_one, h]; rfl
theorem cutI_sub {ds : List Int} {lo hi : Option Int} {x : Int} (h : x ∈ cutI ds lo hi) : x ∈ ds := List.mem_of_mem_drop (List.mem_of_mem_take h)
end OL

namespace L2
open PySem
end L2
namespace OL
open PySem L2
theorem InB.nat {many x : Int} (h : InB many x) : x.toNat < 2 ^ many.toNat := by
  have h1 := h.1
  have h2 := h.2
  rw [pow_cast] at h2
  omega
section
variable {many : Int} {bs : List Int} (hb : ∀ x ∈ bs, InB many x)
include hb
end
end OL

namespace OL
open PySem L2
noncomputable def CrOf (many : Int) (bs ks : List Int) : Prop := ∀ x, x ∈ ks ↔ InB many x ∧ closeF many bs x = x ∧ 0 < countF bs x
theorem and_self_in {many b : Int} (h : InB many b) : Builtin.bitAnd b b = b := th_ext (h.and h).1 h.1 fun i => by rw [th_and h.1 h.1]; exact ⟨fun z => z.1, fun z => ⟨z, z⟩⟩
theorem closed_of {many : Int} {bs : List Int} (hb : ∀ x ∈ bs, InB many x) {x : Int} (hx : InB many x) (h : ∀ i, i < many.toNat → (∀ b ∈ bs, hasF b x = true → Th b i) → Th x i) : closeF many bs x = x := by
  refine th_ext (close_in hb x).1 hx.1 fun i => ?_
  rw [th_close hb]
  exact ⟨fun z => h i z.1 z.2, fun z => ⟨hx.th z, fun b hm hh => (has_iff (hb b hm).1 hx.1).mp hh i z⟩⟩
theorem closed_to {many : Int} {bs : List Int} (hb : ∀ x ∈ bs, InB many x) {x : Int} (hc : closeF many bs x = x) {i : Nat} (hi : i < many.toNat) (h : ∀ b ∈ bs, hasF b x = true → Th b i) : Th x i := by
  rw [← hc, th_close hb]; exact ⟨hi, h⟩
theorem CrOf.nil (many : Int) : CrOf many [] [] := fun x => ⟨fun h => (nomatch h), fun h => absurd h.2.2 (by show ¬ (0 : Int) < 0; decide)⟩
theorem CrOf.step {many : Int} {bs ks ks2 : List Int} {b : Int} (hb : ∀ x ∈ bs, InB many x) (hbb : InB many b) (h : CrOf many bs ks) (hm : ∀ x, x ∈ ks2 ↔ x ∈ ks ∨ ∃ l ∈ ks ++ [b], x = Builtin.bitAnd l b) : CrOf many (bs ++ [b]) ks2 := by
  have hb2 : ∀ x ∈ bs ++ [b], InB many x := fun x hx => by
    obtain z | z := List.mem_append.mp hx
    · exact hb x z
    · rw [List.mem_singleton.mp z]; exact hbb
  have bin : b ∈ bs ++ [b] := List.mem_append_right _ (.head _)
  have sub : ∀ {c}, c ∈ bs → c ∈ bs ++ [b] := fun z => List.mem_append_left _ z
  intro x
  rw [hm x]
  constructor
  · intro hz_
    obtain (hx | ⟨l, hl, rfl⟩) := hz_
    · obtain ⟨xi, xc, xn⟩ := (h x).mp hx
      refine ⟨xi, closed_of hb2 xi fun i hi hh => closed_to hb xc hi fun c hc => hh c (sub hc), ?_⟩
      obtain ⟨c, hc, z⟩ := count_pos.mp xn
      exact count_pos.mpr ⟨c, sub hc, z⟩
    · have li : InB many l := by
        obtain z | z := List.mem_append.mp hl
        · exact ((h l).mp z).1
        · rw [List.mem_singleton.mp z]; exact hbb
      have xi := li.and hbb
      have hxb : hasF b (Builtin.bitAnd l b) = true := (has_iff hbb.1 xi.1).mpr fun i z => ((th_and li.1 hbb.1 i).mp z).2
      refine ⟨xi, closed_of hb2 xi fun i hi hh => (th_and li.1 hbb.1 i).mpr ⟨?_, hh b bin hxb⟩, count_pos.mpr ⟨b, bin, hxb⟩⟩
      obtain z | z := List.mem_append.mp hl
      · refine closed_to hb ((h l).mp z).2.1 hi fun c hc hcl => hh c (sub hc) ?_
        exact (has_iff (hb c hc).1 xi.1).mpr fun j zj => (has_iff (hb c hc).1 li.1).mp hcl j ((th_and li.1 hbb.1 j).mp zj).1
      · rw [List.mem_singleton.mp z]; exact hh b bin hxb
  · intro hz_
    obtain ⟨xi, xc, xn⟩ := hz_
    by_cases c : hasF b x = true
    · refine .inr ?_
      by_cases c0 : 0 < countF bs x
      · have yi := close_in hb x (many := many)
        refine ⟨closeF many bs x, List.mem_append_left _ ((h _).mpr ⟨yi, close_close hb xi, by rw [count_close hb xi]; exact c0⟩), ?_⟩
        refine th_ext xi.1 (yi.and hbb).1 fun i => ?_
        rw [th_and yi.1 hbb.1, th_close hb]
        constructor
        · intro z
          exact ⟨⟨xi.th z, fun d hd hh => (has_iff (hb d hd).1 xi.1).mp hh i z⟩, (has_iff hbb.1 xi.1).mp c i z⟩
        · intro hz_
          obtain ⟨⟨z1, z2⟩, z3⟩ := hz_
          refine closed_to hb2 xc z1 fun d hd hh => ?_
          obtain w | w := List.mem_append.mp hd
          · exact z2 d w hh
          · rw [List.mem_singleton.mp w]; exact z3
      · refine ⟨b, List.mem_append_right _ (.head _), ?_⟩
        rw [and_self_in hbb]
        refine th_ext xi.1 hbb.1 fun i => ⟨fun z => (has_iff hbb.1 xi.1).mp c i z, fun z => closed_to hb2 xc (hbb.th z) fun d hd hh => ?_⟩
        obtain w | w := List.mem_append.mp hd
        · exact absurd (count_pos.mpr ⟨d, w, hh⟩) c0
        · rw [List.mem_singleton.mp w]; exact z
    · refine .inl ((h x).mpr ⟨xi, closed_of hb xi fun i hi hh => closed_to hb2 xc hi fun d hd hdx => ?_, ?_⟩)
      · obtain w | w := List.mem_append.mp hd
        · exact hh d w hdx
        · rw [List.mem_singleton.mp w] at hdx; exact absurd hdx c
      · obtain ⟨d, hd, z⟩ := count_pos.mp xn
        obtain w | w := List.mem_append.mp hd
        · exact count_pos.mpr ⟨d, w, z⟩
        · rw [List.mem_singleton.mp w] at z; exact absurd z c
theorem rowsF_rise31 (many : Int) (bs : List Int) (least : Int) : ((rowsF many bs least).map Prod.fst).Pairwise (· < ·) := by
  unfold rowsF rowsU
  rw [List.map_map]
  refine List.pairwise_map.mpr (List.Pairwise.imp (fun {a b} (z : a < b) => ?_) (List.pairwise_lt_range.filter _))
  show (a : Int) < (b : Int)
  omega
theorem cross_rows {many : Int} {bs ks sk : List Int} {least : Int} (l1 : 1 ≤ least) (h : CrOf many bs ks) (hp : ∀ x, x ∈ sk ↔ x ∈ ks) (hs : sk.Pairwise (· < ·)) : (sk.map fun x => (x, countF bs x)).filter (fun r => decide (least ≤ r.2)) = rowsF many bs least := by
  have e1 : rowsF many bs least = ((rowsF many bs least).map Prod.fst).map fun x => (x, countF bs x) := by
    rw [List.map_map]
    conv => lhs; rw [← List.map_id (rowsF many bs least)]
    refine List.map_congr_left fun r hr => ?_
    show r = (r.1, countF bs r.1)
    rw [← (mem_rowsF.mp hr).2.2.2]
  rw [e1, List.filter_map]
  congr 1
  refine rise_ext (hs.filter _) (rowsF_rise31 many bs least) fun x => ?_
  rw [List.mem_filter, hp, h x]
  constructor
  · intro hz_
    obtain ⟨⟨a, b, c⟩, d⟩ := hz_
    exact List.mem_map.mpr ⟨(x, countF bs x), mem_rowsF.mpr ⟨a, of_decide_eq_true d, b, rfl⟩, rfl⟩
  · intro z
    obtain ⟨r, hr, rfl⟩ := List.mem_map.mp z
    obtain ⟨a, b, c, d⟩ := mem_rowsF.mp hr
    exact ⟨⟨a, c, by omega⟩, decide_eq_true b⟩
end OL

namespace OL
open PySem L2
theorem putK_len {kvs : List (Key × V)} {k : Key} {v : V} : (putK kvs k v).length ≤ kvs.length + 1 := by
  unfold putK
  split
  · rw [List.length_map]; omega
  · rw [List.length_append]; show _ + 1 ≤ _; omega
end OL

namespace L2
open PySem PySem.Spec PyProof.Rows
section
variable {X : Cx}
noncomputable def KeysO (v d : Addr) : HO := .ext fun h => PySem.W.KdlKeysView h v d
noncomputable def rKeys : V → List V → Hp → VK → Prop := fun x vs H Q => ∃ d kvs, x = .ref d ∧ vs = [] ∧ H d = some (.dK kvs) ∧ ∀ v, H v = none → Q (.ref v) (upd H v (KeysO v d))
theorem mt_keys : MtM X "dict.keys" rKeys := by
  intro pins s σ H x vs v us Q I rx rv h
  obtain ⟨d, kvs, rfl, rfl, hd, q⟩ := h
  cases rx
  have hus := rv.zero
  subst hus
  obtain ⟨hz, lo, ws, rel, dd⟩ := dk_of I.hok hd
  refine call_meetsIn PySem.F.slot_dict_keys dd.typeIs PySem.F.entry_dict_keys (PySem.F.args_dict_keys_1 _) (PySem.W.kdl_meets_keys (mixKind X.prog X.w) d lo) ⟨⟨ws, dd⟩, ?_⟩
  have e : (s.heap.push { cls := .type "dict_keys", data := .fields #[.ref d] }).get? s.heap.objs.size = some { cls := .type "dict_keys", data := .fields #[.ref d] } := Heap.get?_push_size _ rfl
  refine ⟨.ref s.heap.objs.size, _, I.laid (t' := s.toks) (o := KeysO s.heap.objs.size d) (fun b ob q => Heap.get?_push_of_some _ q) (Nat.le_refl _) ?_, rfl, q _ (I.hok.fresh (Nat.le_refl _))⟩
  exact ⟨⟨_, e, rfl, rfl⟩, ⟨_, e⟩, fun h1 h2 hv k => by obtain ⟨o, ho, z⟩ := hv; exact ⟨o, k o ho, z⟩⟩
theorem keys_vals {P : Program} {w : World} {kvs : List (Key × V)} {ws : List (Key × Value)} {acc : Array Value} (rel : KV kvs ws) (ha : ItemsOf (fun i v => ∃ k x, ws[i]? = some (k, x) ∧ (mixKind P w).is k v = true) acc ws.length) : Vals (kvs.map fun p => kV p.1) acc.toList := by
  have hal : acc.toList.length = kvs.length := by rw [Array.length_toList, rel.length]; exact ha.1
  refine vals_of_get _ _ (by simp [hal]) fun i x v hx hv => ?_
  obtain ⟨k, y, hy, hk⟩ := ha.2 i v (by rw [← Array.getElem?_toList]; exact hv)
  have ek : (kvs.map (·.1))[i]? = some k := by rw [rel.keys, List.getElem?_map, hy]; rfl
  rw [List.getElem?_map] at ek hx
  cases er : kvs[i]? with
  | none => rw [er] at ek; cases ek
  | some r =>
    rw [er] at ek hx
    cases hx
    have ek : r.1 = k := Option.some.inj ek
    rw [← ek] at hk
    exact kV_rel hk
noncomputable def rListKeys : List V → Hp → VK → Prop := fun xs H Q => Ex3 fun (v d : Addr) (kvs : List (Key × V)) => xs = [.ref v] ∧ H v = some (KeysO v d) ∧ H d = some (.dK kvs) ∧ ∀ l, H l = none → Q (.ref l) (upd H l (.lst (kvs.map fun p => kV p.1)))
theorem call_listKeys (hc : X.calm = true) : CallR X (.type "list") rListKeys := by
  intro pins s σ H xs us Q I r h
  obtain ⟨v, d, kvs, rfl, hv, hd, q⟩ := h
  obtain ⟨u, rfl, ru⟩ := vals1 r
  cases (show u = Value.ref v from ru)
  obtain ⟨hz, lo, ws, rel, dd⟩ := dk_of I.hok hd
  obtain ⟨ep, hat⟩ := dd.dictAt
  have hlen := rel.length
  obtain ⟨hvw, _, _⟩ : ObjOk X.prog X.w H s.heap v (KeysO v d) := I.hok _ _ hv
  refine PySem.W.kdl_call (PySem.W.kdl_keys (knd := mixKind X.prog X.w) (kvs := ws) (ep := ep)) (I.ok.hd hc) ⟨hvw, hat⟩ (by omega) fun h1 tk acc c keep hl hacc => ?_
  refine ⟨.ref s.heap.objs.size, _, I.laid (t' := tk) (o := .lst (kvs.map fun p => kV p.1)) keep (Nat.le_refl _) ?_, rfl, q _ (I.hok.fresh (Nat.le_refl _))⟩
  exact ⟨by rw [List.length_map]; exact hz, acc.toList, c, keys_vals rel hacc, by rw [Array.toArray_toList]; exact hl⟩
noncomputable def rSortK : List V → Hp → VK → Prop := fun xs H Q => Ex3 fun (v d : Addr) (rs : List (Int × V)) => xs = [.ref v] ∧ H v = some (KeysO v d) ∧ H d = some (.dK (rs.map fun r => (.inl r.1, r.2))) ∧ ∀ (l : Addr) (ns : List Int), H l = none → ns.Perm (rs.map Prod.fst) → ns.Pairwise (· ≤ ·) → Q (.ref l) (upd H l (.lst (ns.map V.int)))
theorem call_sortK (hc : X.calm = true) : CallR X (.builtin "sorted") rSortK := by
  intro pins s σ H xs us Q I r h
  obtain ⟨v, d, rs, rfl, hv, hd, q⟩ := h
  obtain ⟨u, rfl, ru⟩ := vals1 r
  cases (show u = Value.ref v from ru)
  obtain ⟨hz, lo, vs, rel, dd⟩ := dk_of I.hok hd
  obtain ⟨ep, hat⟩ := dd.dictAt
  have hlen := rel.length
  obtain ⟨hvw, _, _⟩ : ObjOk X.prog X.w H s.heap v (KeysO v d) := I.hok _ _ hv
  rw [List.length_map] at hz hlen
  refine Calls.call_function_entry kind_sorted plain_sorted entry_sorted (args_sorted1 _) ?_
  unfold Builtin.«sorted»
  refine wpAny_bind (m := checkCount "sorted" 1 1 _) (wpAny_pure ?_)
  refine wpAny_bind (PySem.W.kdu_collect (PySem.W.kdl_keys (knd := mixKind X.prog X.w) (kvs := vs) (ep := ep)) (I.ok.hd hc) ⟨hvw, hat⟩ (by omega) fun h1 tk acc keep hacc => ?_)
  have hi : IntsAre acc.toList (rs.map Prod.fst) := by
    refine intsAre_of ?_
    have := keys_vals rel hacc
    rw [List.map_map] at this ⊢
    exact this
  refine wpAny_bind (wpAny_newList ?_ (by have := hi.length; rw [List.length_map] at this; omega))
  have hoL : (h1.push (seqObj "list" acc.toList.toArray 0)).get? h1.objs.size = some (seqObj "list" acc.toList.toArray 0) := Heap.get?_push_size _ rfl
  refine wpAny_bind (wpAny_holding (wpAny_call_entry slot_list_sort ⟨_, hoL, rfl⟩ entry_list_sort (Tim.sort_any hoL (by have := hi.length; rw [List.length_map] at this; omega) (Tim.ints_sorts hi) fun out p1 p2 => ⟨_, rfl, ?_⟩) (args_list_sort _)))
  refine wpAny_pure ⟨_, rfl, ?_⟩
  have hnum := hi.nums
  have ho : IntsAre out.toList (out.toList.map numOf) := intsAre_map _ fun v hv => hi.all v (p1.mem_iff.mp hv)
  have pm : (out.toList.map numOf).Perm (rs.map Prod.fst) := by rw [← hnum]; exact p1.map numOf
  have pw : (out.toList.map numOf).Pairwise (· ≤ ·) := by
    rw [List.pairwise_map]
    refine p2.imp_of_mem fun {x y} hx hy hxy => ?_
    obtain ⟨a, t, rfl⟩ := hi.all x (p1.mem_iff.mp hx)
    obtain ⟨b, t', rfl⟩ := hi.all y (p1.mem_iff.mp hy)
    have : decide (b < a) = false := hxy
    simp only [decide_eq_false_iff_not] at this
    show a ≤ b
    omega
  obtain ⟨e, he⟩ := sortedHeap_at (out := out) hoL
  have hl2 := pm.length_eq
  have I1 : Inv X pins σ H { s with heap := h1, toks := tk } := I.kept (t' := tk) keep
  refine ⟨.ref h1.objs.size, _, I1.laid (t' := tk) (fun b o hb1 => ?_) (Nat.le_refl _) (show ObjOk X.prog X.w _ _ _ (.lst ((out.toList.map numOf).map V.int)) from ⟨?_, out.toList, e, vals_ints ho, ?_⟩), rfl, q _ _ (I1.hok.fresh (Nat.le_refl _)) pm pw⟩
  · have hlt := Heap.lt_size hb1
    rw [sortedHeap_old (Nat.ne_of_lt hlt) (by rw [size_push']; exact Nat.lt_succ_of_lt hlt)]
    exact Heap.get?_push_of_some _ hb1
  · rw [List.length_map, hl2, List.length_map]; omega
  · rw [Array.toArray_toList]; exact he
end
end L2

namespace OL
open PySem L2
theorem Fr1.fr' {p q : Addr} {H H' : Hp} (S : Fr1 q H H') : Fr2 p q H H' := fun b o e _ n => S b o e n
noncomputable def cnt2 (rs : List (Int × Int)) (k : Int) : Option Int := (rs.find? fun r => r.1 == k).map Prod.snd
theorem cnt_in {rs : List (Int × Int)} (hn : (rs.map Prod.fst).Nodup) {r : Int × Int} (hr : r ∈ rs) : cnt2 rs r.1 = some r.2 := by
  induction rs with
  | nil => cases hr
  | cons a t ih =>
    rw [List.map_cons, List.nodup_cons] at hn
    unfold cnt2
    rw [List.find?_cons]
    by_cases c : a.1 = r.1
    · rw [show (a.1 == r.1) = true by rw [c]; exact beq_self_eq_true _]
      obtain z | z := List.mem_cons.mp hr
      · rw [z]; rfl
      · exact absurd (List.mem_map.mpr ⟨r, z, c.symm⟩) hn.1
    · rw [show (a.1 == r.1) = false by rw [beq_eq_false_iff_ne]; exact c]
      obtain z | z := List.mem_cons.mp hr
      · exact absurd (by rw [z]) c
      · exact ih hn.2 z
noncomputable def cameF (A B : List (Int × Int)) : List (Int × Int) := B.filter fun r => !(cnt2 A r.1).isSome
noncomputable def movP (A : List (Int × Int)) (r : Int × Int) : Bool := (cnt2 A r.1).isSome && !((cnt2 A r.1).getD 0 == r.2)
noncomputable def movF (A B : List (Int × Int)) : List (List Int) := (B.filter (movP A)).map fun r => [r.1, (cnt2 A r.1).getD 0, r.2]
noncomputable def dCh (A B : List (Int × Int)) : PyData := .tuple [.list ((cameF A B).map dRow), .list ((cameF B A).map dRow), .list ((movF A B).map dRowT)]
theorem pl_dRow (r : Int × Int) : PlD 1 (dRow r) := .tuple fun d hd => by
  obtain z | z := List.mem_cons.mp hd
  · rw [z]; exact .int _
  · rw [List.mem_singleton.mp z]; exact .int _
theorem pl_rowsL (rs : List (Int × Int)) : PlD 2 (.list (rs.map dRow)) := .list fun d hd => by
  obtain ⟨q, _, rfl⟩ := List.mem_map.mp hd
  exact pl_dRow q
theorem pl_rowsTL (rs : List (List Int)) : PlD 2 (.list (rs.map dRowT)) := .list fun d hd => by
  obtain ⟨q, _, rfl⟩ := List.mem_map.mp hd
  exact .tuple fun d hd => by
    obtain ⟨i, _, rfl⟩ := List.mem_map.mp hd
    exact .int i
theorem pl_dCh (A B : List (Int × Int)) : PlD 3 (dCh A B) := .tuple fun d hd => by
  obtain z | hd := List.mem_cons.mp hd
  · rw [z]; exact pl_rowsL _
  obtain z | hd := List.mem_cons.mp hd
  · rw [z]; exact pl_rowsL _
  · rw [List.mem_singleton.mp hd]; exact pl_rowsTL _
theorem mov_lots {A B : List (Int × Int)} (hn : (B.map Prod.fst).Nodup) : ((B.map Prod.fst).filter fun x => (cnt2 A x).isSome && !((cnt2 A x).getD 0 == (cnt2 B x).getD 0)).map (fun x => [x, (cnt2 A x).getD 0, (cnt2 B x).getD 0]) = movF A B := by
  unfold movF
  rw [List.filter_map, List.map_map]
  have e : B.filter ((fun x => (cnt2 A x).isSome && !((cnt2 A x).getD 0 == (cnt2 B x).getD 0)) ∘ Prod.fst) = B.filter (movP A) := List.filter_congr fun r hr => by
    show ((cnt2 A r.1).isSome && !((cnt2 A r.1).getD 0 == (cnt2 B r.1).getD 0)) = movP A r
    rw [cnt_in hn hr]; rfl
  rw [e]
  refine List.map_congr_left fun r hr => ?_
  show [r.1, (cnt2 A r.1).getD 0, (cnt2 B r.1).getD 0] = _
  rw [cnt_in hn (List.mem_filter.mp hr).1]; rfl
structure Kp (C : Addr) (H : Hp) (p kp : Addr) (many least most : Int) (D : List (List Int)) (A B : List (Int × Int)) : Prop where
  ob : ∃ dx ah nw us vs, H p = some (.ins C dx (fl many least most kp ah nw)) ∧ H ah = some (.lst us) ∧ Rows H us A ∧ H nw = some (.lst vs) ∧ Rows H vs B ∧ nw ≠ kp
  ds : ∃ us, H kp = some (.lst us) ∧ Paired (LstI H) us D
structure KpW (C : Addr) (H : Hp) (p kp : Addr) (many least most : Int) (D : List (List Int)) (B : List (Int × Int)) : Prop where
  ob : ∃ dx ah nw vs, H p = some (.ins C dx (fl many least most kp ah nw)) ∧ H nw = some (.lst vs) ∧ Rows H vs B
  ds : ∃ us, H kp = some (.lst us) ∧ Paired (LstI H) us D
theorem Kp.w {C : Addr} {H : Hp} {p kp : Addr} {many least most : Int} {D : List (List Int)} {A B : List (Int × Int)} (h : Kp C H p kp many least most D A B) : KpW C H p kp many least most D B := by
  obtain ⟨⟨dx, ah, nw, us, vs, a, _, _, b, c, _⟩, d⟩ := h
  exact ⟨⟨dx, ah, nw, vs, a, b, c⟩, d⟩
theorem Kp.same {C : Addr} {H H' : Hp} {p kp : Addr} {many least most : Int} {D : List (List Int)} {A B : List (Int × Int)} (S : Same H H') (h : Kp C H p kp many least most D A B) : Kp C H' p kp many least most D A B := by
  obtain ⟨⟨dx, ah, nw, us, vs, a, a1, a2, b, c, n⟩, vk, d, e⟩ := h
  exact ⟨⟨dx, ah, nw, us, vs, S _ _ a, S _ _ a1, a2.same S.t, S _ _ b, c.same S.t, n⟩, vk, S _ _ d, lsts_same S e⟩
noncomputable def RowsAt (H : Hp) (a : Addr) (rs : List (Int × Int)) : Prop := ∃ xs, H a = some (.lst xs) ∧ Rows H xs rs ∧ (rs.map Prod.fst).Pairwise (· < ·) ∧ rs.length ≤ 4096
theorem RowsAt.same {H H' : Hp} {a : Addr} {rs : List (Int × Int)} (S : Same H H') (h : RowsAt H a rs) : RowsAt H' a rs := by
  obtain ⟨xs, b, c, d⟩ := h
  exact ⟨xs, S _ _ b, c.same S.t, d⟩
theorem rise_nodup {l : List Int} (h : l.Pairwise (· < ·)) : l.Nodup := h.imp fun {a b} z => Int.ne_of_lt z
inductive sp2Counts_I (vs : List V) (H : Hp) (Q : VK) : Prop
  | mk (a : Addr) (rs : List (Int × Int)) (e_1 : vs = [.ref a]) (e_2 : RowsAt H a rs) (e_3 : ∀ (d : Addr) (kvs : List (Key × V)) (H' : Hp), Same H H' → H d = none → H' d = some (.dK kvs) → (∀ k, valV kvs (.inl k) = (cnt2 rs k).map V.int) → Q (.ref d) H') : sp2Counts_I vs H Q
noncomputable def sp2Counts : Sp := fun vs H Q _ => sp2Counts_I vs H Q
inductive sp2Chg_I (K : PySem.W.Frag) (vs : List V) (H : Hp) (Q : VK) : Prop
  | mk (a b : Addr) (A B : List (Int × Int)) (e_1 : vs = [.ref a, .ref b]) (e_2 : RowsAt H a A) (e_3 : RowsAt H b B) (e_4 : ∀ (t : Addr) (H' : Hp), Same H H' → DR K H' (.ref t) (dCh A B) → Q (.ref t) H') : sp2Chg_I K vs H Q
noncomputable def sp2Chg (K : PySem.W.Frag) : Sp := fun vs H Q _ => sp2Chg_I K vs H Q
end OL

namespace L2
open PySem PySem.Spec PyProof.Rows

noncomputable def DK (h h' : Heap) : Prop := ∀ (b : Addr) (o : Obj), h.objs[b]? = some o → ∃ o' : Obj, h'.objs[b]? = some o' ∧ o'.dict = o.dict
theorem DK.refl (h : Heap) : DK h h := fun _ o e => ⟨o, e, rfl⟩
theorem DK.trans {h1 h2 h3 : Heap} (a : DK h1 h2) (b : DK h2 h3) : DK h1 h3 := fun c o e => by
  obtain ⟨o1, e1, d1⟩ := a c o e
  obtain ⟨o2, e2, d2⟩ := b c o1 e1
  exact ⟨o2, e2, d2.trans d1⟩
theorem get_objs {h : Heap} {b : Addr} {o : Obj} (e : h.get? b = some o) : h.objs[b]? = some o := by
  unfold Heap.get? at e
  cases q : h.objs[b]? with
  | none => rw [q] at e; cases e
  | some u =>
    rw [q] at e
    obtain ⟨c, d, dt, sl⟩ := u
    cases dt <;> first | (cases e; done) | exact e
theorem DK.get {h h' : Heap} {b : Addr} {o o' : Obj} (k : DK h h') (e : h.get? b = some o) (e' : h'.get? b = some o') : o'.dict = o.dict := by
  obtain ⟨o1, h1, d⟩ := k b o (get_objs e)
  rw [get_objs e'] at h1
  cases h1
  exact d
theorem DK.push {h : Heap} {o : Obj} : DK h (h.push o) := fun b u e => by
  refine ⟨u, ?_, rfl⟩
  have lt := (Array.getElem?_eq_some_iff.mp e).1
  show (h.objs.push o)[b]? = some u
  rw [Array.getElem?_push_lt lt]
  exact (Array.getElem?_eq_some_iff.mp e).2 ▸ rfl
theorem DK.update {h : Heap} {a : Addr} {f : Obj → Obj} (hf : ∀ o, (f o).dict = o.dict) : DK h (h.update a f) := fun b u e => by
  have q : (h.update a f).objs[b]? = if a = b then h.objs[b]?.map f else h.objs[b]? := Array.getElem?_modify
  rw [q, e]
  by_cases c : a = b
  · rw [if_pos c]; exact ⟨_, rfl, hf u⟩
  · rw [if_neg c]; exact ⟨_, rfl, rfl⟩
noncomputable def KD {α : Type} : Sem α → Prop
  | .pure _ => True
  | .raise _ => True
  | .unsupported _ => True
  | .finish _ => True
  | .rule _ k => KD (k ())
  | .at _ k => KD (k ())
  | .load _ _ k => ∀ o, KD (k o)
  | .update _ _ f k => (∀ o, (f o).dict = o.dict) ∧ KD (k ())
  | .alloc _ k => ∀ a, KD (k a)
  | .loadIfAlive _ k => ∀ o, KD (k o)
  | .point _ k => KD (k ())
  | .register _ _ => True
  | .fresh k => ∀ t, KD (k t)
  | .ask k => ∀ x, KD (k x)
  | .choose _ _ k => ∀ n, KD (k n)
  | .os _ _ k => ∀ r, KD (k r)
  | .call _ _ _ _ _ => False
  | .handled _ k => ∀ v, KD (k v)
  | .newGen _ k => ∀ n, KD (k n)
  | .genState _ k => ∀ x, KD (k x)
  | .resume _ _ _ _ => False
  | .yield _ _ _ _ => True
  | .stack k => ∀ l, KD (k l)
  | .fork _ _ => True
  | .thread k => ∀ n, KD (k n)
  | .await _ _ _ _ _ => True
theorem KD.bind {α β : Type} {t : Sem α} {f : α → Sem β} (h : KD t) (hf : ∀ a, KD (f a)) : KD (t.bind f) := by
  induction t with
  | pure a => exact hf a
  | raise e => trivial
  | unsupported w => trivial
  | finish e => trivial
  | rule g k ih => exact ih () h
  | «at» p k ih => exact ih () h
  | load a p k ih => exact fun o => ih o (h o)
  | update a p g k ih => exact ⟨h.1, ih () h.2⟩
  | alloc o k ih => exact fun a => ih a (h a)
  | loadIfAlive a k ih => exact fun o => ih o (h o)
  | point l k ih => exact ih () h
  | register a k ih => trivial
  | fresh k ih => exact fun t => ih t (h t)
  | ask k ih => exact fun x => ih x (h x)
  | choose s n k ih => exact fun n => ih n (h n)
  | os q l k ih => exact fun r => ih r (h r)
  | call c hh g l k ih => exact h.elim
  | handled o k ih => exact fun v => ih v (h v)
  | newGen c k ih => exact fun n => ih n (h n)
  | genState g k ih => exact fun x => ih x (h x)
  | resume g r l k ih => exact h.elim
  | yield v g l k ih => trivial
  | stack k ih => exact fun l => ih l (h l)
  | fork c k ih => trivial
  | thread k ih => exact fun n => ih n (h n)
  | await a t d l k ih => trivial
theorem kd_wp {α : Type} {M : Model} {Γ : PySem.Ctx} {E : Value → Pos → Shared → Prop} {t : Sem α} (k : KD t) : ∀ {Q : α → Pos → Shared → Prop} {p : Pos} {s : Shared}, Sem.wp M Γ t Q E p s → Sem.wp M Γ t (fun a p' s' => Q a p' s' ∧ DK s.heap s'.heap) E p s := by
  have go : ∀ (t : Sem α), KD t → ∀ {Q : α → Pos → Shared → Prop} {p : Pos} {s : Shared} (h0 : Heap), DK h0 s.heap → Sem.wp M Γ t Q E p s → Sem.wp M Γ t (fun a p' s' => Q a p' s' ∧ DK h0 s'.heap) E p s := by
    intro t
    induction t with
    | pure a => intro _ Q p s h0 d h; rw [Sem.wp] at h ⊢; exact ⟨h, d⟩
    | raise e => intro _ Q p s h0 d h; rw [Sem.wp] at h ⊢; exact h
    | unsupported w => intro _ Q p s h0 d h; rw [Sem.wp] at h; exact h.elim
    | finish e => intro _ Q p s h0 d h; rw [Sem.wp] at h; exact h.elim
    | rule g k ih => intro K Q p s h0 d h; rw [Sem.wp] at h ⊢; exact ih () K h0 d h
    | «at» p' k ih => intro K Q p s h0 d h; rw [Sem.wp] at h ⊢; exact ih () K h0 d h
    | load a p' k ih => intro K Q p s h0 d h; rw [Sem.wp] at h ⊢; obtain ⟨o, e, q⟩ := h; exact ⟨o, e, ih o (K o) h0 d q⟩
    | update a p' g k ih => intro K Q p s h0 d h; rw [Sem.wp] at h ⊢; exact ⟨h.1, ih () K.2 h0 (d.trans (.update K.1)) h.2⟩
    | alloc o k ih => intro K Q p s h0 d h; rw [Sem.wp] at h ⊢; exact ih _ (K _) h0 (d.trans .push) h
    | loadIfAlive a k ih => intro K Q p s h0 d h; rw [Sem.wp] at h ⊢; exact ih _ (K _) h0 d h
    | point l k ih => intro K Q p s h0 d h; rw [Sem.wp] at h ⊢; exact ih () K h0 d h
    | register a k ih => intro K Q p s h0 d h; rw [Sem.wp] at h; exact h.elim
    | fresh k ih => intro K Q p s h0 d h; rw [Sem.wp] at h ⊢; exact ih _ (K _) h0 d h
    | ask k ih => intro K Q p s h0 d h; rw [Sem.wp] at h ⊢; exact ih _ (K _) h0 d h
    | choose s' n k ih => intro K Q p s h0 d h; rw [Sem.wp] at h ⊢; exact ⟨h.1, ih _ (K _) h0 d h.2⟩
    | os q l k ih => intro K Q p s h0 d h; rw [Sem.wp] at h ⊢; exact ih _ (K _) h0 d h
    | call c hh g l k ih => intro K; exact K.elim
    | handled o k ih => intro K Q p s h0 d h; rw [Sem.wp] at h ⊢; exact ih _ (K _) h0 d h
    | newGen c k ih => intro K Q p s h0 d h; rw [Sem.wp] at h ⊢; exact ih _ (K _) h0 d h
    | genState g k ih => intro K Q p s h0 d h; rw [Sem.wp] at h ⊢; obtain ⟨o, e, q⟩ := h; exact ⟨o, e, ih _ (K _) h0 d q⟩
    | resume g r l k ih => intro K; exact K.elim
    | yield v g l k ih => intro K Q p s h0 d h; rw [Sem.wp] at h; exact h.elim
    | stack k ih => intro K Q p s h0 d h; rw [Sem.wp] at h ⊢; exact ih _ (K _) h0 d h
    | fork c k ih => intro K Q p s h0 d h; rw [Sem.wp] at h; exact h.elim
    | thread k ih => intro K Q p s h0 d h; rw [Sem.wp] at h ⊢; exact ih _ (K _) h0 d h
    | await a t d' l k ih => intro K Q p s h0 d h; rw [Sem.wp] at h; exact h.elim
  exact fun {Q p s} h => go t k _ (.refl _) h
theorem kd_any {α : Type} {M : Model} {A : Around} {E : Value → Shared → Prop} {t : Sem α} {Q : α → Shared → Prop} {s : Shared} (k : KD t) (h : wpAny M A t Q E s) : wpAny M A t (fun a s' => Q a s' ∧ DK s.heap s'.heap) E s :=
  fun Γ p i => kd_wp k (h Γ p i)
theorem kd_pure {α : Type} {a : α} : KD (pure a : Sem α) := trivial
theorem kd_b {α β : Type} {t : Sem α} {f : α → Sem β} (h : KD t) (hf : ∀ a, KD (f a)) : KD (t >>= f) := KD.bind h hf
theorem kd_load {a : Addr} : KD (load a) := fun _ => trivial
theorem kd_upd {a : Addr} {f : Obj → Obj} (hf : ∀ o, (f o).dict = o.dict) : KD (update a f) := ⟨hf, trivial⟩
theorem mapFields_dict (g : Array Value → Array Value) (o : Obj) : (Obj.mapFields g o).dict = o.dict := by
  obtain ⟨c, d, dt, sl⟩ := o; cases dt <;> rfl
theorem kd_fieldsOf {v : Value} : KD (fieldsOf v) := by
  cases v <;> first | trivial | (refine kd_b kd_load fun o => ?_; obtain ⟨c, d, dt, sl⟩ := o; cases dt <;> trivial)
theorem kd_field {v : Value} {i : Nat} : KD (field v i) := by
  refine kd_b kd_fieldsOf fun vs => ?_
  show KD (match vs[i]? with | some x => pure x | none => unsupported "internal:no-such-field")
  cases vs[i]? <;> trivial
theorem kd_setField {v : Value} {i : Nat} {x : Value} : KD (setField v i x) := by
  cases v <;> first | trivial | skip
  refine kd_b kd_load fun o => ?_
  obtain ⟨c, d, dt, sl⟩ := o
  cases dt <;> first | trivial | skip
  rename_i vs
  show KD (if i < vs.size then update _ (Obj.mapFields (·.setIfInBounds i x)) else unsupported "internal:no-such-field")
  split
  · exact kd_upd (mapFields_dict _)
  · trivial
theorem kd_setFlight {v : Value} {f : Option Addr} : KD (setFlight v f) := by
  refine kd_b kd_field fun tb => ?_
  show KD (if (tb != .none) = true then setField tb 3 (f.elim .none fun f => rawInt f) else pure ())
  split
  · exact kd_setField
  · trivial
theorem kd_stack {α : Type} {k : List (Code × Pos) → Sem α} (h : ∀ l, KD (k l)) : KD (stack >>= k) := kd_b (fun _ => trivial) h
theorem kd_frameEnvs : KD frameEnvs := kd_stack fun _ => trivial
theorem kd_isImport {env : Env} {l : List Env} : KD (behindIsImport env l) := by
  unfold behindIsImport
  split
  · trivial
  · split
    · trivial
    · exact kd_b kd_field fun _ => trivial
theorem kd_back {env : Env} {i : Bool} {l : List Env} : KD (keptBack env i l) := by
  cases l with
  | nil =>
    show KD (if (env.scope.isGenerator || env.scope.isCoroutine) = true then pure Value.none else do
      let q ← underTheClaimsCaller
      pure (if q = true then Value.notImplemented else Value.none))
    split
    · trivial
    · exact kd_b (kd_stack fun _ => kd_pure) fun _ => kd_pure
  | cons c r => trivial
theorem kd_ready : ∀ l : List Env, KD (readyFrames l)
  | [] => trivial
  | env :: outer => by
    unfold readyFrames
    cases env.frame with
    | none => trivial
    | some f =>
      refine kd_b kd_load fun o => ?_
      split
      · trivial
      · exact kd_b kd_isImport fun _ => kd_b kd_back fun _ => kd_b (kd_upd fun _ => rfl) fun _ => kd_ready outer
theorem kd_frameOf {env : Env} : KD (frameOf env) := by
  refine kd_b kd_frameEnvs fun l => kd_b ?_ fun o => ?_
  · cases l.dropWhile (·.frame != env.frame) with
    | nil => trivial
    | cons e r => exact kd_b (kd_ready _) fun _ => trivial
  · cases o <;> trivial
theorem kd_place {f : Addr} {b : Bool} : KD (entryPlaceOf f b) := by
  refine kd_stack fun l => ?_
  split <;> trivial
theorem kd_newFields (vs : List Value) : KD (newFields "traceback" vs) := by
  unfold newFields newObj
  dsimp only
  have as : ∀ d, KD (newObjAsIs (.type "traceback") d) := fun d => kd_b (fun _ => kd_pure) fun _ => kd_pure
  split
  · trivial
  · exact as _
theorem kd_note {e : Value} {env : Env} : KD (noteFrame e env) := by
  unfold noteFrame
  cases env.frame with
  | none => trivial
  | some f =>
    refine kd_b kd_field fun hd => ?_
    have last : KD (do setField e 1 (← EntryCells.newEntry hd (← frameOf env) .none (rawInt f) .none (← entryPlaceOf f (hd != .none)))) := by
      refine kd_b kd_frameOf fun _ => kd_b kd_place fun _ => kd_b ?_ fun _ => kd_setField
      exact kd_newFields _
    dsimp only
    split
    · refine kd_b kd_field fun x => ?_
      split
      · trivial
      · exact kd_b kd_setField fun _ => last
    · exact last
theorem kd_leaving {e : Value} {env : Env} : KD (leaving env e) := kd_b kd_note fun _ => kd_setFlight
end L2

namespace L2
open PySem PySem.Spec PyProof.Rows

noncomputable def ExcAt (C a : Addr) (h : Heap) : Prop := ∃ o, h.get? a = some o ∧ o.cls = .ref C ∧ o.dict = none ∧ PySem.W.notCls o = true
noncomputable def excO (C a : Addr) : HO := .ext (ExcAt C a)
theorem excO_ok {P : Program} {w : World} {H : Hp} {h : Heap} {C a : Addr} (e : ExcAt C a h) : ObjOk P w H h a (excO C a) :=
  ⟨e, let ⟨o, ho, _⟩ := e; ⟨o, ho⟩, fun h1 h2 ⟨o, ho, hc⟩ k => ⟨o, k o ho, hc⟩⟩
theorem exc_on {h h' B : Heap} {l : List Env} {C a : Addr} {a0 : Value} (e : ExcAt C a h) (f : Heap.FlyingW B l a (.ref C) a0 h') (k : DK h h') : ExcAt C a h' := by
  obtain ⟨o, h1, h2, h3, h4⟩ := e
  obtain ⟨oe, vs, g1, g2, g3, _⟩ := f.first
  exact ⟨oe, g1, g2, (k.get h1 g1).trans h3, by unfold PySem.W.notCls; rw [g3]⟩
theorem ObjOk.get {P : Program} {w : World} {H : Hp} {h : Heap} {a : Addr} {o : HO} (x : ObjOk P w H h a o) : ∃ u, h.get? a = some u := by
  cases o with
  | lst xs => obtain ⟨_, _, _, _, e⟩ := x; exact ⟨_, e⟩
  | tup xs => obtain ⟨_, _, _, ob, e, _⟩ := x; exact ⟨_, e⟩
  | dK kvs => obtain ⟨_, _, _, _, o, _, _, e, _⟩ := x; exact ⟨_, e⟩
  | dT kvs => obtain ⟨_, _, _, _, o, _, _, e, _⟩ := x; exact ⟨_, e⟩
  | set S n => obtain ⟨o, _, _, _, e, _⟩ := x; exact ⟨_, e⟩
  | ins C dx fs => obtain ⟨_, _, _, e, _⟩ := x; exact ⟨_, e⟩
  | own y => exact x
  | xd fs => obtain ⟨_, ⟨_, _, _, e, _⟩, _⟩ := x; exact ⟨_, e⟩
  | rng lo hi => obtain ⟨_, _, _, e⟩ := x; exact ⟨_, e⟩
  | frz ob u => obtain ⟨e, _⟩ := x; exact ⟨_, e⟩
  | tbl ps => exact ⟨_, (show h.get? a = some _ from x)⟩
  | met f y => exact ⟨_, (show h.get? a = some _ from x)⟩
  | ext φ => obtain ⟨_, e, _⟩ := x; exact e

structure FlyD (P : Program) (w : World) (l : List Env) (H : Hp) (h B : Heap) (a C : Addr) (H' : Hp) (h1 : Heap) : Prop where
  un : Un (frs l) [] H H' h h1
  hok : HOk P w H' h1
  stays : B.StaysIn h1
  trk : ∀ b u, H' b = some u → b ≠ a → ∃ o, B.get? b = some o
  old : ∀ b o, h.get? b = some o → H b = none → b ∉ frs l → B.get? b = some o
  older : ∀ b o, h.get? b = some o → b ∉ frs l → ∃ o', B.get? b = some o'
  exc : H' a = some (excO C a)
  new : h.get? a = none

section
variable {P : Program} {w : World} {l : List Env} {H H' : Hp} {h h1 h2 B : Heap} {a C : Addr}
theorem nin {b : Addr} : b ∉ ([] : List Addr) := fun z => by cases z
theorem FlyD.move (D : FlyD P w l H h B a C H' h1) (k : B.StaysIn h2) (th : ExcAt C a h2) (sm : h1.UpToSlots h2) (fr : h1.FunFrames B l) : FlyD P w l H h B a C H' h2 := by
  have slot : ∀ b o, h.get? b = some o → H b = none → b ∈ frs l → ∃ sl, h2.get? b = some { o with slots := sl } := fun b o q n hb => by
    obtain ⟨sl, e⟩ := D.un.slot b o q n hb nin
    obtain ⟨_, o', ho', nf⟩ := fr.mem hb
    rw [e] at ho'
    cases ho'
    obtain ⟨sl2, e2⟩ := sm _ _ e nf
    exact ⟨sl2, e2⟩
  refine ⟨⟨fun b o q n hb _ => k _ _ (D.old b o q n hb), fun b o q n hb _ => slot b o q n hb, D.un.free, fun b o q _ => ?_, D.un.tups, D.un.frzs, D.un.tbls⟩, fun b u e => ?_, k, D.trk, D.old, D.older, D.exc, D.new⟩
  · by_cases hb : b ∈ frs l
    · obtain ⟨_, o', ho', nf⟩ := fr.mem hb
      obtain ⟨sl, e⟩ := sm _ _ ho' nf
      exact ⟨_, e⟩
    · obtain ⟨o', e⟩ := D.older b o q hb
      exact ⟨o', k _ _ e⟩
  · by_cases hb : b = a
    · subst hb
      rw [D.exc] at e
      cases e
      exact excO_ok th
    · refine (D.hok b u e).stay (fun c v hc q => ?_) (fun _ z => z) fun _ _ z => z
      obtain ⟨o, ho⟩ : ∃ o, B.get? c = some o := by
        obtain rfl | hc := hc
        · exact D.trk c u e hb
        · exact D.trk c _ hc fun z => by rw [z, D.exc] at hc; cases hc
      have := D.stays _ _ ho
      rw [q] at this
      cases this
      exact k _ _ ho
end

section
variable {X : Cx} {pins : List (Addr × Obj)} {σ : St} {H H' : Hp} {s : Shared} {h h1 B : Heap} {a C : Addr} {vs : List Value}
theorem FlyD.up (I : Inv X pins σ H s) (hx : X.ex = []) (D : FlyD X.prog X.w X.stack H s.heap B a C H' h1) : FlyD X.prog X.w X.outer X.H₀ X.s₀.heap B a C H' h1 := by
  have nx : ∀ {b : Addr}, b ∉ X.ex := fun {b} z => by rw [hx] at z; cases z
  have out : ∀ {b : Addr} {o : Obj}, X.s₀.heap.get? b = some o → b ∉ frs X.outer → b ∉ frs X.stack := fun {b o} q n z => by
    obtain e | e := List.mem_cons.mp (I.stkSub b z)
    · exact absurd (Nat.lt_of_lt_of_le (Heap.lt_size q) (e ▸ I.ok.above)) (Nat.lt_irrefl _)
    · exact n e
  have kp := fun b o q n hb => I.base.keep b o q n hb (nx (b := b))
  have fe := fun b o q n => I.base.free b o q n (nx (b := b))
  refine ⟨⟨fun b o q n hb _ => D.un.keep b o (kp b o q n hb) (fe b o q n) (out q hb) nin, fun b o q n hb _ => ?_, fun b o q n _ => ?_, fun b o q _ => ?_, fun b xs q => D.un.tups _ _ (I.base.tups _ _ q), fun b o u q => D.un.frzs _ _ _ (I.base.frzs _ _ _ q), fun b ps q => ?_⟩,
    D.hok, D.stays, D.trk, fun b o q n hb => D.old b o (kp b o q n hb) (fe b o q n) (out q hb), fun b o q hb => ?_, D.exc, ?_⟩
  · obtain ⟨sl, e⟩ := I.base.slot b o q n hb nx
    obtain ⟨sl2, e2⟩ := D.un.any e (fe b o q n) nin
    exact ⟨sl2, e2⟩
  · obtain ⟨o', e⟩ := I.base.there b o q nx
    exact D.un.free b o' e (fe b o q n) nin
  · obtain ⟨o', e⟩ := I.base.there b o q nx
    exact D.un.there b o' e nin
  · obtain ⟨m1, e1⟩ := I.base.tbls b ps q
    obtain ⟨m2, e2⟩ := D.un.tbls b _ e1
    exact ⟨m1 ++ m2, by rw [e2, Array.append_assoc]⟩
  · obtain ⟨o', e⟩ := I.base.there b o q nx
    exact D.older b o' e (out q hb)
  · cases q : X.s₀.heap.get? a with
    | none => rfl
    | some o =>
      obtain ⟨o', e⟩ := I.base.there a o q nx
      rw [D.new] at e; cases e

noncomputable abbrev noFr (X : Cx) (h : Heap) : Heap := PySem.W.hideAll h (frs X.stack)
theorem frames_on {B h' : Heap} : ∀ {l : List Env}, h.FunFrames X.base l → (∀ b ∈ frs l, B.get? b = none) → (∀ b o, h.get? b = some o → h'.get? b = some o) → h'.FunFrames B l
  | [], _, _, _ => trivial
  | env :: r, ⟨k, ⟨L, o, hf, _, ho, nf⟩, hr⟩, hn, kp => ⟨k, ⟨L, o, hf, hn L (by unfold frs; rw [List.filterMap_cons, hf]; exact List.mem_cons_self), kp _ _ ho, nf⟩,
      frames_on hr (fun b hb => hn b (by unfold frs; rw [List.filterMap_cons, hf]; exact List.mem_cons_of_mem _ hb)) kp⟩
theorem FlyD.first (I : Inv X pins σ H s) (m : Heap.MadeExcOf s.heap h1 a (.ref C) vs) : FlyD X.prog X.w X.stack H s.heap (noFr X s.heap) a C (upd H a (excO C a)) h1 ∧ h1.FunFrames (noFr X s.heap) X.stack ∧ (noFr X s.heap).get? a = none := by
  have hn : H a = none := by
    cases q : H a with
    | none => rfl
    | some u =>
      obtain ⟨o, e⟩ := (I.hok a u q).get
      rw [m.new] at e; cases e
  have na : ∀ {b : Addr} {o : Obj}, s.heap.get? b = some o → b ≠ a := fun {b o} q z => by rw [z, m.new] at q; cases q
  have hide : ∀ b o, s.heap.get? b = some o → b ∉ frs X.stack → (noFr X s.heap).get? b = some o := fun b o q n => PySem.W.hideAll_get _ q n
  have un : Un (frs X.stack) [] H (upd H a (excO C a)) s.heap h1 := ⟨fun b o q _ _ _ => m.keeps b o q, fun b o q _ _ _ => ⟨o.slots, m.keeps b o q⟩, fun b o q n _ => by rw [upd_ne (na q)]; exact n, fun b o q _ => ⟨o, m.keeps b o q⟩,
    fun b xs q => by rw [upd_ne (ne_of_none q hn)]; exact q, fun b o u q => by rw [upd_ne (ne_of_none q hn)]; exact q, fun b ps q => ⟨#[], by rw [upd_ne (ne_of_none q hn), q]; simp⟩⟩
  obtain ⟨t, ht, _⟩ := m.there
  refine ⟨⟨un, fun b u e => ?_, fun b o q => m.keeps _ _ (PySem.W.of_hideAll _ q), fun b u e hb => ?_, fun b o q _ hb => hide b o q hb, fun b o q hb => ⟨o, hide b o q hb⟩, upd_same, m.new⟩,
    frames_on I.stack (fun b hb => PySem.W.hideAll_none _ hb) m.keeps, ?_⟩
  · by_cases hb : b = a
    · subst hb
      rw [upd_same] at e
      cases e
      exact excO_ok ⟨_, ht, rfl, rfl, rfl⟩
    · rw [upd_ne hb] at e
      exact (I.hok b u e).stay (fun c v _ q => m.keeps c v q) (fun c q => by rw [upd_ne (ne_of_none q hn)]; exact q) fun c xs q => by rw [upd_ne (ne_of_none q hn)]; exact q
  · rw [upd_ne hb] at e
    obtain ⟨o, ho⟩ := (I.hok b u e).get
    exact ⟨o, hide b o ho fun z => by rw [I.stkFree b z] at e; cases e⟩
  · cases q : (noFr X s.heap).get? a with
    | none => rfl
    | some o => exact absurd rfl (na (PySem.W.of_hideAll _ q))
theorem FlyD.land {s' : Shared} (I : Inv X pins σ H s) (D : FlyD X.prog X.w X.stack H s.heap B a C H' s'.heap) (ho : s'.os = s.os) (hg : AllBare s'.gens) : Inv X pins σ H' s' :=
  I.call' ho D.un D.hok hg fun b z => absurd z nin
end

noncomputable def CXN (P : Program) (w : World) : CXT := fun l H s E e s' => Ex5 fun (a C : Addr) (H' : Hp) (B : Heap) (a0 : Value) => e = .ref a ∧ s'.os = s.os ∧ AllBare s'.gens ∧ FlyD P w l H s.heap B a C H' s'.heap ∧ Heap.FlyingW B l a (.ref C) a0 s'.heap ∧ E (.ref C) (some a) H'

section
variable {P : Program} {w : World} {K : PySem.W.Frag} {mg : Str → Option Value} {base : Heap} {N : List Str} {qual : Str} {scope : Scope} {f : Addr} {cd : Value} {A : Around} {outer : List Env} {s₀ : Shared} {H₀ : Hp} {E : XK}
theorem raiseN {pins : List (Addr × Obj)} {σ : St} {H : Hp} {s : Shared} {h' : Heap} {a C : Addr} {vs : List Value} (I : Inv (cxOf (CXN P w) P w K mg base N qual scope f cd A outer s₀ H₀ E) pins σ H s)
    (m : Heap.MadeExcOf s.heap h' a (.ref C) vs) (q : E (.ref C) (some a) (upd H a (excO C a))) : (cxOf (CXN P w) P w K mg base N qual scope f cd A outer s₀ H₀ E).xe (.ref a) { s with heap := h' } := by
  obtain ⟨D, fr, hn⟩ := FlyD.first I m
  obtain ⟨t, ht, _⟩ := m.there
  show wpAny (model P w) _ (leaving _ (.ref a)) _ _ { s with heap := h' }
  have e : ExcAt C a h' := ⟨_, ht, rfl, rfl, rfl⟩
  refine wpAny_mono (kd_any kd_leaving (wpAny_leaving_firstW (base := noFr (cxOf (CXN P w) P w K mg base N qual scope f cd A outer s₀ H₀ E) s.heap) (Q := fun _ s2 => ∃ h2, s2 = { s with heap := h2 } ∧ Heap.LeftW (noFr (cxOf (CXN P w) P w K mg base N qual scope f cd A outer s₀ H₀ E) s.heap) (_ :: outer) a (.ref C) _ h' h2) I.ok.frames fr rfl ht D.stays hn rfl rfl rfl fun h2 L => ⟨h2, rfl, L⟩)) ?_ fun _ _ z => z
  intro _ s2 hz_
  obtain ⟨⟨h2, rfl, k1, k2, k3, k4⟩, dk⟩ := hz_
  have fl : Heap.FlyingW _ outer a (.ref C) _ h2 := ⟨k1, hn, k2.2.2, k3⟩
  exact ⟨a, C, _, _, _, rfl, I.os, I.bare, (FlyD.up I rfl D).move k1 (exc_on e fl dk) (fun b o h n => k4 b o h n) fr.2.2, fl, q⟩
end
end L2

namespace L2
open PySem PySem.Spec PyProof.Rows

abbrev bmVE : List Value := [.type "ValueError", .type "Exception", .type "BaseException", .type "object"]
structure XCls (K : PySem.W.Frag) (x : Str) (C : Addr) : Prop where
  at_ : PySem.W.nsIn K mainGlobals x = some (some (.ref C))
  ex : PySem.W.excIn K C bmVE "ValueError.__new__" = true
theorem nsFind_none {es : Array DictEntry} {x : Str} (h : ∀ e ∈ es, e.key.isStr x = false) : nsFind es x = none := by
  unfold nsFind findBy
  rw [Option.map_eq_none_iff, Array.find?_eq_none]
  intro e he
  show ¬ e.key.isStr x = true
  rw [h e he]
  decide
theorem XCls.own {K : PySem.W.Frag} {mg : Str → Option Value} {h : Heap} {x : Str} {C : Addr} (c : XCls K x C) (X : K.In h) (M : Mod K mg h) : OwnCls x C bmVE "ValueError.__new__" mg h := by
  obtain ⟨e, q⟩ := c
  obtain ⟨mb, b1, b2⟩ := M.blt
  obtain ⟨o, es, ep, ho, hd, hk, hm⟩ := id M.glob
  refine PySem.W.own_of_in (p := default) (loose := es.toList.filterMap fun e => match e.key with | .str y _ => some y | _ => none) X ⟨M.glob, b1, M.nolimit, b2, fun y _ hy _ _ _ => ?_⟩ e q
  rw [← hm y]
  refine nsFind_none fun e he => ?_
  obtain ⟨n, t, hn⟩ := hk e he
  rw [hn]
  cases z : (Value.str n t).isStr y with
  | false => rfl
  | true =>
    refine absurd (List.mem_filterMap.mpr ⟨e, Array.mem_toList_iff.mpr he, ?_⟩) hy
    rw [hn]
    have : n = y := by
      unfold Value.isStr at z
      exact beq_iff_eq.mp z
    rw [this]

section
variable {P : Program} {w : World} {K : PySem.W.Frag} {mg : Str → Option Value} {base : Heap} {N : List Str} {qual : Str} {scope : Scope} {f : Addr} {cd : Value} {A : Around} {outer : List Env} {s₀ : Shared} {H₀ : Hp} {E : XK}
noncomputable def tRaise (C : Addr) (E : XK) (t : TA) : TS := fun _ σ H => t σ H fun vs H1 => vs.length ≤ sizeLine ∧ ∀ a, H1 a = none → E (.ref C) (some a) (upd H1 a (excO C a))
theorem ps_raise {x : Str} {C : Addr} {np cpos pos : Pos} {e : Expr} {es : List Expr} {t : TA} {k : Nat} (hC : XCls K x C) (hr : Room k (A.deeper (envOfC qual scope s₀.heap.objs.size f cd)))
    (ha : PA (cxOf (CXN P w) P w K mg base N qual scope f cd A outer s₀ H₀ E) (e :: es) t) (hg : Gl (cxOf (CXN P w) P w K mg base N qual scope f cd A outer s₀ H₀ E) x) (hd : (x == ("__debug__" : Str)) = false := by decide)
    (he : starEach (e :: es) (envOfC qual scope s₀.heap.objs.size f cd) = (false, eval e (envOfC qual scope s₀.heap.objs.size f cd)) :: starEach es (envOfC qual scope s₀.heap.objs.size f cd) := by rfl)
    (hpl : (backTo cpos (starEach es (envOfC qual scope s₀.heap.objs.size f cd))).any (·.1) = false := by rfl) :
    PS (cxOf (CXN P w) P w K mg base N qual scope f cd A outer s₀ H₀ E) (.Raise (some (.Call (.Name x np) (e :: es) [] cpos)) none pos) (tRaise C E t) := by
  intro pins s σ H D I h
  have own := hC.own I.ok.mod.kin I.ok.mod
  obtain ⟨tl, Nn, nm, q, bs, hdct, sn, sub, ab, col, dd, k0, k1, k2, k3, k5, mN, hC1, hN, hni, T⟩ := own.obj
  refine wpAny_Raise_call_subT (C := C) (nm := nm) (q := q) (N := Nn) (bs := bs) (bm := tl) (hdct := hdct) (sn := sn) (sub := sub) (ab := ab) (col := col) (dd := dd) (k0 := k0) (k1 := k1) (k2 := k2) (k3 := k3) (k5 := k5)
    PySem.F.excBase_ValueError (mN := mN) (T.hasType PySem.F.excBase_ValueError.hasBase) hr.hd (by rw [show starEach (e :: es) (cxOf (CXN P w) P w K mg base N qual scope f cd A outer s₀ H₀ E).env = _ from he]; show (false || (backTo cpos (starEach es (envOfC qual scope s₀.heap.objs.size f cd))).any (·.1)) = false; rw [hpl]; rfl) hni (ld_glob I hg own.bound ⟨rfl, ?_⟩ hd)
  have hp := ha cpos pins s σ H _ I h
  rw [show starEach (e :: es) (cxOf (CXN P w) P w K mg base N qual scope f cd A outer s₀ H₀ E).env = _ from he] at hp ⊢
  refine Calls.evalArgs_plain (thn hp fun us s2 ⟨vs, H1, I1, r, z, q⟩ => ⟨rfl, by rw [← r.length]; exact z, I1.bk _ _ hC1, hN.keeps I1.bk, T.keeps I1.bk, fun h' a m => ?_⟩)
  refine raiseN I1 m (q a ?_)
  cases z : H1 a with
  | none => rfl
  | some u =>
    obtain ⟨o, ho⟩ := (I1.hok a u z).get
    rw [m.new] at ho; cases ho
end

structure DfnN (P : Program) (w : World) (K : PySem.W.Frag) (mg : Str → Option Value) (base : Heap) (k : Nat) (x : Str) (ps : List Str) (sp : Sp) : Prop where
  ex : ∃ f fd, FnOk P w K mg base (CXN P w) k f fd ps sp ∧ Binds K fd ps [] ∧ PySem.W.keepIn K (.ref f) = true ∧ mg x = some (.ref f)
section
variable {P : Program} {w : World} {K : PySem.W.Frag} {mg : Str → Option Value} {base : Heap}
end
theorem PS.nox {X : Cx} {st : Stmt} {t : TS} (h : PS X.nox st t) : PS X st t := fun pins s σ H D I hw =>
  wpAny_mono (h pins s σ H D (I.wish _) hw) (fun _ _ q => q.unwish) fun _ _ z => False.elim z
noncomputable def Thrown (X : Cx) (pins : List (Addr × Obj)) (Ex : St → XK) (e : Value) (s' : Shared) : Prop := ∃ σ H s E, Inv X pins σ H s ∧ CXN X.prog X.w X.stack H s E e s' ∧ ∀ c o H', E c o H' → Ex σ c o H'
noncomputable abbrev TX := Ends → (St → XK) → St → Hp → Prop
noncomputable def PSx (X : Cx) (st : Stmt) (t : TX) : Prop :=
  ∀ (pins : List (Addr × Obj)) (s : Shared) (σ : St) (H : Hp) (D : Ends) (Ex : St → XK), Inv X pins σ H s → t D Ex σ H → wpAny (model X.prog X.w) X.A (exec st X.env) (SP X pins D) (Thrown X pins Ex) s
section
variable {X : Cx} {pins : List (Addr × Obj)} {σ : St} {H : Hp} {s : Shared} {k j : Nat} {x n : Str} {ps : List Str} {sp : Sp} {e : Expr} {es : List Expr} {t : TA} {p pos pos' : Pos} {Q : VK} {us : List Value} {vs : List V}
theorem run_fnx {f : Addr} {fd : FuncData} {E : XK} {Ex : St → XK} (F : FnOk X.prog X.w X.K X.mg X.base (CXN X.prog X.w) k f fd ps sp) (hr : Room k X.A) (hb : Binds X.K fd ps []) (hE : ∀ c o H', E c o H' → Ex σ c o H')
    (I : Inv X pins σ H s) (r : Vals vs us) (h : sp vs H Q E) : wpAny (model X.prog X.w) X.A (call (.ref f) us) (EP X pins σ Q) (Thrown X pins Ex) s := by
  have hl : (us ++ []).length = ps.length := by rw [List.append_nil, ← r.length]; exact F.len _ _ _ _ h
  refine wpAny_call (codeAny_mono (F.run X.A X.stack s H ⟨us, []⟩ (us ++ []) vs Q E hr I.env0 (hb s us I.kIn hl) (by rw [List.append_nil]; exact r) h) fun r s' hq => ?_)
  cases r with
  | error e => exact ⟨σ, H, s, E, I, hq, hE⟩
  | ok fl =>
    cases fl with
    | ret u => exact I.after hq
    | next => exact False.elim hq
    | brk => exact False.elim hq
    | cont => exact False.elim hq
end

noncomputable abbrev Cx.caught (X : Cx) (a : Addr) : Cx := { X with A := X.A.mark (some (.ref a)), calm := false, xe := fun _ _ => False }
section
variable {X : Cx} {pins : List (Addr × Obj)} {σ σ' : St} {H : Hp} {s : Shared} {a : Addr}
theorem Inv.caught (I : Inv X pins σ H s) (a : Addr) : Inv (X.caught a) pins σ H s :=
  ⟨⟨I.ok.mod, I.ok.kind, I.ok.glob, I.ok.blt, I.ok.above, I.ok.inj, I.ok.has, I.ok.cab, fun z => (by cases z), I.ok.frames, I.ok.stk, I.ok.exf, I.ok.bs, I.ok.bsz, I.ok.noex, I.ok.exfs, I.ok.funs, I.ok.frf⟩, I.os, I.bare, I.base, I.loc, I.cell, I.free, I.freeC, I.pin, I.hok, I.len⟩
theorem Inv.uncaught (hc : X.A.handled = none) (J : X.Ok) (I : Inv (X.caught a) pins σ H s) : Inv X pins σ H s :=
  ⟨J, I.os, I.bare, I.base, I.loc, I.cell, I.free, I.freeC, I.pin, I.hok, I.len⟩
theorem Inv.relocal {h' : Heap} {m' : Str → Option Value} {t' : Nat} (I : Inv X pins σ H s) (hs : Heap.SameBut X.env.locals s.heap h') (hn : h'.Ns X.env.locals m')
    (hl : ∀ (i : Nat) (y : Str) (v : V), X.N[i]? = some y → σ'[i]? = some (some v) → Vis X.env.scope y → ∃ u, RelV v u ∧ Look X.env h' m' y u) (len : σ'.length = σ.length) :
    Inv X pins σ' H { s with heap := h', toks := t' } := by
  have lt : ∀ {b : Addr} {o : Obj}, X.s₀.heap.get? b = some o → b ≠ X.env.locals := fun {b o} e => Nat.ne_of_lt (Nat.lt_of_lt_of_le (Heap.lt_size e) I.ok.above)
  have tr : ∀ {b : Addr} {u : HO}, H b = some u → b ≠ X.env.locals := fun {b u} e z => by rw [z, I.free] at e; cases e
  refine ⟨I.ok, I.os, I.bare, ⟨fun b o e n hb hx => (hs.2 b (lt e)).trans (I.base.keep b o e n hb hx), fun b o e n hb hx => ?_, I.base.free, fun b o e hx => ?_, I.base.tups, I.base.frzs, I.base.tbls⟩, ⟨m', hn, hl⟩, fun y c e => ?_, I.free, I.freeC, fun p hp => ?_, fun b u e => ?_, len.trans I.len⟩
  · obtain ⟨sl, e1⟩ := I.base.slot b o e n hb hx
    exact ⟨sl, (hs.2 b (lt e)).trans e1⟩
  · obtain ⟨o', e1⟩ := I.base.there b o e hx
    exact ⟨o', (hs.2 b (lt e)).trans e1⟩
  · obtain ⟨v, z⟩ := I.cell y c e
    exact ⟨v, z.sameBut hs (I.cne y c e)⟩
  · obtain ⟨e, n, ne, nf, d⟩ := I.pin p hp
    exact ⟨(hs.2 p.1 ne).trans e, n, ne, nf, d⟩
  · refine (I.hok b u e).stay (fun c w hc q => (hs.2 c ?_).trans q) (fun _ q => q) fun _ _ q => q
    obtain rfl | hc := hc
    · exact tr e
    · exact tr hc
theorem name_goes {A : Around} {E : Value → Shared → Prop} {Q : Unit → Shared → Prop} {i : Nat} {n : Str} {pos : Pos} (I : Inv X pins σ H s) (hN : X.N.Nodup) (hi : X.N[i]? = some n) (hl : X.env.kindOf n = some .local)
    (h : ∀ s', Inv X pins (σ.set i none) H s' → Q () s') : wpAny (model X.prog X.w) A (do bindName X.env n .none; unbindBehindTheSuite X.env n pos) Q E s := by
  obtain ⟨m, hn, hl'⟩ := id I.loc
  refine wpAny_nameGoes_keeps hl hn (by rw [I.ok.kind]; rfl) fun h' v hn' hs => h _ (I.relocal hs hn' (fun j y w e1 e2 e3 => ?_) (by rw [List.length_set]))
  by_cases hj : j = i
  · subst hj
    rw [List.getElem?_set] at e2
    split at e2
    · split at e2 <;> cases e2
    · rename_i z; exact absurd rfl z
  · rw [List.getElem?_set_ne (Ne.symm hj)] at e2
    obtain ⟨u, r, q⟩ := hl' j y w e1 e2 e3
    refine ⟨u, r, ?_⟩
    have hy : y ≠ n := fun z => hj (nodup_ix hN e1 (z ▸ hi))
    obtain ⟨k1, q⟩ | ⟨k1, c, e, q⟩ := q
    · exact .inl ⟨k1, (if_neg hy).trans q⟩
    · exact .inr ⟨k1, c, e, q.sameBut hs (I.cne y c e)⟩
end

noncomputable def tTry (K : PySem.W.Frag) (cC : Addr) (i : Nat) (tx : TX) (ts : TS) : TS := fun D σ H =>
  tx D (fun σ1 c o H1 => ∃ C a, c = .ref C ∧ o = some a ∧ PySem.W.exmOne K (.ref C) (.ref cC) = some true ∧
    ts { nx := fun σ2 H2 => D.nx (σ2.set i none) H2, rt := D.rt, bk := fun σ2 H2 => D.bk (σ2.set i none) H2, ct := fun σ2 H2 => D.ct (σ2.set i none) H2 } (σ1.set i (some (.ref a))) H1) σ H
theorem ps_try {X : Cx} {i k : Nat} {n cn : Str} {cC : Addr} {st b₀ : Stmt} {suite : List Stmt} {np hpos pos : Pos} {tx : TX} {ts : TS} (hr : Room k X.A) (hk : X.stack = X.env :: X.outer) (hf : X.env.frame = some X.env.locals) (hN : X.N.Nodup) (hi : X.N[i]? = some n)
    (hl : X.env.scope.names.lookup n = some .local) (hl' : X.env.kindOf n = some .local) (hg : Gl X cn) (hm : X.mg cn = some (.ref cC)) (hx : PSx X st tx) (hs : ∀ a, PSs (X.caught a) (b₀ :: suite) ts) (hd : (cn == ("__debug__" : Str)) = false := by decide) :
    PS X (.Try [st] [.ExceptHandler (some (.Name cn np)) (some n) (b₀ :: suite) hpos] [] [] pos) (tTry X.K cC i tx ts) := by
  intro pins s σ H D I h
  refine wpAny_Try_except (wpAny_execs_cons (wpAny_mono (hx pins s σ H D _ I h) (fun fl s1 q => ?_) fun e s1 q => ?_))
  · cases fl with
    | next => exact wpAny_execs_nil (wpAny_execs_nil q)
    | brk => exact q
    | cont => exact q
    | ret u => exact q
  obtain ⟨σ1, H1, s0, E, I1, ⟨a, C, H2, B, a0, rfl, os, bare, Dd, fl, hq⟩, hE⟩ := q
  obtain ⟨C', a', e1, e2, hsub, hts⟩ := hE _ _ _ hq
  cases e1; cases e2
  have hfr : X.A.frames = some (X.env :: X.outer) := by rw [I.ok.frames, hk]
  rw [hk] at fl
  have ex : ExcAt C a s1.heap := (Dd.hok a _ Dd.exc).1
  refine wpAny_mono (kd_any kd_note (wpAny_looks_onW (Q := fun _ s2 => ∃ h2, s2 = { s1 with heap := h2 } ∧ Heap.HeldW B (X.env :: X.outer) a (.ref C) a0 X.env.locals h2 ∧ s1.heap.UpToSlots h2) hfr hf fl fun h2 hh sm1 => ⟨h2, rfl, hh, sm1⟩)) ?_ fun _ _ z => z
  intro _ s2 hz_
  obtain ⟨⟨h2, rfl, hh, sm1⟩, dk1⟩ := hz_
  refine wpAny_mono (kd_any kd_setFlight (wpAny_landsW (s := { s1 with heap := h2 }) (Q := fun _ s2 => ∃ h3, s2 = { s1 with heap := h3 } ∧ Heap.FlyingW B (X.env :: X.outer) a (.ref C) a0 h3 ∧ h2.UpToSlots h3) hh fun h3 fl3 sm2 => ⟨h3, rfl, fl3, sm2⟩)) ?_ fun _ _ z => z
  intro _ s2 hz_
  obtain ⟨⟨h3, rfl, fl3, sm2⟩, dk2⟩ := hz_
  have mv : ∀ {h' : Heap}, Heap.FlyingW B (X.env :: X.outer) a (.ref C) a0 h' → s1.heap.UpToSlots h' → DK s1.heap h' → Inv X pins σ1 H2 { s1 with heap := h' } := fun {h'} f sm dk =>
    FlyD.land I1 (Dd.move f.1 (exc_on ex f dk) sm (by rw [hk]; exact fl.2.2.1)) os bare
  have I3 := mv fl3 (sm1.trans sm2) (dk1.trans dk2)
  refine wpAny_handleBy_cons (codeAny_handlers_test (ld_glob (X := X.caught a) (I3.caught a) hg hm ?_ hd)) (by intro q; cases q)
  obtain ⟨ob, q1, q2⟩ := fl3.there
  have LT : PySem.W.Looks (model X.prog X.w) h3 (typeOf (.ref a)) (.ref C) := by
    rw [← q2]
    exact (PySem.W.Looks.ld q1).andThen .now
  refine (PySem.W.exm_one (I3.kIn) LT hsub).here ?_
  refine codeAny_handlers_suite_as ?_
  refine wpAny_mono (kd_any kd_setFlight (lands_againW (s := { s1 with heap := h3 }) (Q := fun _ s2 => ∃ h4, s2 = { s1 with heap := h4 } ∧ Heap.FlyingW B (X.env :: X.outer) a (.ref C) a0 h4 ∧ h3.UpToSlots h4) fl3 fun h4 fl4 sm3 => ⟨h4, rfl, fl4, sm3⟩)) ?_ fun _ _ z => z
  intro _ s4 hz_
  obtain ⟨⟨h4, rfl, fl4, sm3⟩, dk3⟩ := hz_
  have I4 := mv fl4 ((sm1.trans sm2).trans sm3) ((dk1.trans dk2).trans dk3)
  refine store_ok2 (X := X.caught a) (I4.caught a) hN hi (.inl hl) (show RelV (.ref a) (.ref a) from rfl) (fun s5 I5 _ => ?_) (.inr hl)
  refine wpAny_mono (hs a pins s5 _ H2 _ I5 hts) (fun fl s6 q => ?_) fun _ _ z => False.elim z
  cases fl with
  | next =>
    obtain ⟨σ', H', J, q⟩ := q
    exact name_goes (J.uncaught hr.hd I.ok) hN hi hl' fun s7 J7 => ⟨_, H', J7, q⟩
  | brk =>
    obtain ⟨σ', H', J, q⟩ := q
    exact name_goes (J.uncaught hr.hd I.ok) hN hi hl' fun s7 J7 => ⟨_, H', J7, q⟩
  | cont =>
    obtain ⟨σ', H', J, q⟩ := q
    exact name_goes (J.uncaught hr.hd I.ok) hN hi hl' fun s7 J7 => ⟨_, H', J7, q⟩
  | ret u =>
    obtain ⟨v, σ', H', J, r, q⟩ := q
    exact name_goes (J.uncaught hr.hd I.ok) hN hi hl' fun s7 J7 => ⟨v, _, H', J7, r, q⟩

section
open PySem.Calls PyProof.Rows
theorem ga_check {M : Model} {A : Around} {x C : Addr} {ox : Obj} {od : Option Obj} {K : PySem.W.Frag} {nameV : Value} {E : Value → Shared → Prop} {s : Shared} {Q : Unit → Shared → Prop} (X : K.In s.heap) (I : PySem.W.InstAt s.heap x ox C od) (hb : PySem.W.mroIn K C (.type "BaseException") = some true) (q : Q () s) :
    wpAny M A (checkBuiltinCall "BaseException.__getattribute__" ⟨[.ref x, nameV], []⟩) Q E s := by
  obtain ⟨hh, g, d, t, os⟩ := s
  have hk : builtinKind "BaseException.__getattribute__" = some .slot := by decide +kernel
  have hsplit : splitId "BaseException.__getattribute__" = some ("BaseException", "__getattribute__") := by decide +kernel
  have ha := F.args_bexc_ga (.ref x) nameV
  have L0 := I.type (M := M)
  have L1 := PySem.W.looks_mroIn (M := M) X hb
  have LI : PySem.W.Looks M hh (isInstance (.ref x) (.type "BaseException")) true := L0.andThen L1
  simp only [checkBuiltinCall, hk, hsplit]
  refine wpAny_bind ?_
  refine LI.at ?_
  repeat (first | assumption | wp_step)
theorem exc_class {prog : Program} {w : World} {A : Around} {x C : Addr} {ox : Obj} {od : Option Obj} {K : PySem.W.Frag} {E : Value → Shared → Prop} {s : Shared} {Q : Option Value → Shared → Prop} (X : K.In s.heap) (I : PySem.W.InstAt s.heap x ox C od)
    (hga : PySem.W.findIn K (.ref C) "__getattribute__" = some (some (.builtin "BaseException.__getattribute__"))) (hgt : PySem.W.findIn K (.ref C) "__getattr__" = some none) (hb : PySem.W.mroIn K C (.type "BaseException") = some true) (hm : PySem.W.mroIn K C (.type "object") = some true)
    (hf : PySem.W.findObj K C od "__class__" = some (.bind (.builtin "getset_descriptor.__get__") (.builtin "object.__class__"))) (q : Q (some (.ref C)) { s with toks := s.toks + 1 }) :
    wpAny (model prog w) A (getAttr? (.ref x) "__class__") Q E s := by
  obtain ⟨hh, g, d, t, os⟩ := s
  have L0 := I.type (M := model prog w)
  have L1 := PySem.W.looks_findIn (M := model prog w) X hga
  have L2 := PySem.W.looks_findIn (M := model prog w) X hgt
  have L3 := PySem.W.looks_find (M := model prog w) X I hf
  unfold getAttr? getAttrBy? getAttrBy
  refine wpAny_bind (wpAny_mkText (wpAny_bind (wpAny_attempt (wpAny_holding (wpAny_bind (L0.at (wpAny_bind (L1.at ?_))))))))
  have e : (onTheHeap (Value.ref C) && Value.builtin "BaseException.__getattribute__" == Value.builtin "object.__getattribute__") = false := by rw [show (Value.builtin "BaseException.__getattribute__" == Value.builtin "object.__getattribute__") = false by decide +kernel]; rfl
  simp only [e, Bool.false_eq_true, if_false]
  unfold getAttrByItsOwn hookBefore
  simp only [onTheHeap, if_true]
  refine wpAny_bind (L2.at ?_)
  refine wpAny_bind (wpAny_attempt (wpAny_holding ?_))
  unfold callGetattribute boundAndCalled
  simp only [Bool.false_and, Bool.false_eq_true, if_false]
  rw [F.excAttr_ValueError.ga.bind (.ref x)]
  refine wpAny_bind (wpAny_pure ?_)
  refine wpAny_call (codeAny_call_builtin F.excAttr_ValueError.ga.plain F.entry_bexc_ga (ga_check (s := ⟨hh, g, d, t + 1, os⟩) X I hb ?_))
  unfold Builtin.«object.__getattribute__»
  refine wpAny_bind (wpAny_pure ?_)
  refine wpAny_bind (wpAny_pure ?_)
  refine wpAny_bind (L0.at (wpAny_bind (L3.at ?_)))
  show wpAny _ _ (holding [_] (call _ [_, .ref x, .ref C]) >>= ret) _ _ _
  refine wpAny_bind (wpAny_holding (wpAny_call (PySem.W.class_get (s := ⟨hh, g, d, t + 1, os⟩) X I hm ?_)))
  refine wpAny_pure ?_
  exact PySem.W.handed_on rfl (wpAny_pure q)
end
structure XAsk (K : PySem.W.Frag) (C : Addr) : Prop where
  hd : PySem.W.hasDictIn K C = true
  ga : PySem.W.findIn K (.ref C) "__getattribute__" = some (some (.builtin "BaseException.__getattribute__"))
  gt : PySem.W.findIn K (.ref C) "__getattr__" = some none
  hb : PySem.W.mroIn K C (.type "BaseException") = some true
  ha : PySem.W.findIn K (.ref C) "__class__" = some (some (.builtin "object.__class__"))
  hn : PySem.W.specialIn K (.builtin "object.__class__") "__get__" = some (some (.builtin "getset_descriptor.__get__"))
  ht : PySem.W.takesIn K (.builtin "object.__class__") = some true
  hm : PySem.W.mroIn K C (.type "object") = some true
section
variable {K : PySem.W.Frag} {C a : Addr}
theorem XAsk.obj (k : XAsk K C) : ∃ cd sl d c, K.lookup C = some ⟨c, d, .cls cd, sl⟩ := by
  have h := k.hd
  unfold PySem.W.hasDictIn PySem.W.clsIn at h
  split at h
  · rename_i c d cd sl q; exact ⟨cd, sl, d, c, q⟩
  · cases h
theorem XAsk.find (k : XAsk K C) : PySem.W.findObj K C none "__class__" = some (.bind (.builtin "getset_descriptor.__get__") (.builtin "object.__class__")) := by
  obtain ⟨cd, sl, d, c, q⟩ := k.obj
  have hc : PySem.W.clsIn K C = some cd := by unfold PySem.W.clsIn; rw [q]
  unfold PySem.W.findObj
  rw [hc, k.ha]
  simp [k.hn, k.ht]
theorem kitx_exc (k : XAsk K C) : PySem.W.KitX K (.ref a) (.ref C) (ExcAt C a) where
  ty := fun M h _ ⟨o, h1, h2, _⟩ => h2 ▸ (PySem.W.Looks.ld h1).andThen .now
  it := fun M h X _ => by
    obtain ⟨cd, sl, d, c, q⟩ := k.obj
    refine fun A Q E s kp z => wpAny_bind (wpAny_loadPart (kp _ _ (X _ _ q)) (wpAny_pure z))
  ne := fun h tp dd its n sl X htp => by
    obtain ⟨cd, sl', d, c, q⟩ := k.obj
    cases z : ((Value.ref C : Value) == .ref tp) with
    | false => rfl
    | true =>
      cases (beq_iff_eq.mp z)
      have := X _ _ q
      rw [htp] at this
      cases this
  ca := fun {_ _ _ _ _ s} X ⟨o, h1, h2, h3, h4⟩ q => by
    have J : PySem.W.InstAt s.heap a o C none := ⟨h1, h2, h4, by rw [h3]; trivial⟩
    exact exc_class X J k.ga k.gt k.hb k.hm k.find q
end
noncomputable def rIsX (K : PySem.W.Frag) : List V → Hp → VK → Prop := fun xs H Q => ∃ x c cv b, xs = [x, c] ∧ ((∃ D, c = .ref D ∧ cv = .ref D) ∨ ∃ T, c = .ty T ∧ cv = .type T) ∧
  ((x = .non ∧ PySem.W.kitOne K (.type "NoneType") cv = some b) ∨ ∃ a C, x = .ref a ∧ H a = some (excO C a) ∧ XAsk K C ∧ PySem.W.kitOne K (.ref C) cv = some b) ∧ Q (.bl b) H
theorem call_isX {X : Cx} : CallR X (.builtin "isinstance") (rIsX X.K) := by
  intro pins s σ H xs us Q I r h
  obtain ⟨x, c, cv, b, rfl, hc, hx, q⟩ := h
  obtain ⟨u, w', rfl, r1, r2⟩ := vals2 r
  have ew : w' = cv := by
    obtain ⟨D, rfl, rfl⟩ | ⟨T, rfl, rfl⟩ := hc
    · exact r2
    · exact r2
  subst ew
  obtain ⟨rfl, e⟩ | ⟨a, C, rfl, ha, ask, e⟩ := hx
  · cases (show u = Value.none from r1)
    exact PySem.W.kia_one PySem.W.kitx_none I.kIn True.intro e (fun z => nomatch z) fun tk => ⟨.bl b, H, I.tok _, rfl, q⟩
  · cases (show u = Value.ref a from r1)
    have x : ExcAt C a s.heap := (I.hok a _ ha).1
    exact PySem.W.kia_one (kitx_exc ask) I.kIn x e (fun z => nomatch z) fun tk => ⟨.bl b, H, I.tok _, rfl, q⟩
structure XIs (K : PySem.W.Frag) (C : Addr) (no yes : List Value) : Prop where
  ask : XAsk K C
  non : ∀ v ∈ no ++ yes, PySem.W.kitOne K (.type "NoneType") v = some false
  no : ∀ v ∈ no, PySem.W.kitOne K (.ref C) v = some false
  yes : ∀ v ∈ yes, PySem.W.kitOne K (.ref C) v = some true
end L2

namespace OL.K30
open PySem L2 OL
noncomputable def DO3 (many : Int) (D : List (List Int)) : Prop := D.length ≤ 7 ∧ ∀ d ∈ D, d.length ≤ 40 ∧ ∀ x ∈ d, InB many x
theorem flat_le {n : Nat} : ∀ {L : List (List Int)}, (∀ d ∈ L, d.length ≤ n) → L.flatten.length ≤ n * L.length
  | [], _ => Nat.zero_le _
  | a :: L, h => by
    have h1 := h a List.mem_cons_self
    have h2 := flat_le fun d hd => h d (List.mem_cons_of_mem _ hd)
    rw [List.flatten_cons, List.length_append, List.length_cons, Nat.mul_succ]
    omega
theorem DO3.flat {many : Int} {D : List (List Int)} (h : DO3 many D) : D.flatten.length ≤ 280 ∧ ∀ x ∈ D.flatten, InB many x := by
  refine ⟨?_, fun x hx => ?_⟩
  · have h1 := flat_le (L := D) fun d hd => (h.2 d hd).1
    have := h.1
    omega
  · obtain ⟨d, hd, hm⟩ := List.mem_flatten.mp hx
    exact (h.2 d hd).2 x hm
theorem DO3.sub {many : Int} {D D' : List (List Int)} (h : DO3 many D) (l : D'.length ≤ D.length) (s : ∀ d ∈ D', d ∈ D) : DO3 many D' := ⟨Nat.le_trans l h.1, fun d hd => h.2 d (s d hd)⟩
theorem DO3.take {many : Int} {D : List (List Int)} (h : DO3 many D) (i : Nat) : DO3 many (D.take i) := h.sub (by rw [List.length_take]; omega) fun _ z => List.mem_of_mem_take z
theorem DO3.drop {many : Int} {D : List (List Int)} (h : DO3 many D) (i : Nat) : DO3 many (D.drop i) := h.sub (by rw [List.length_drop]; omega) fun _ z => List.mem_of_mem_drop z
theorem DO3.snoc {many : Int} {D : List (List Int)} {day : List Int} (h : DO3 many D) (h6 : D.length ≤ 6) (h5 : day.length ≤ 40) (hi : ∀ x ∈ day, InB many x) : DO3 many (D ++ [day]) := by
  refine ⟨by rw [List.length_append]; show _ + 1 ≤ 7; omega, fun d hd => ?_⟩
  obtain z | z := List.mem_append.mp hd
  · exact h.2 d z
  · rw [List.mem_singleton.mp z]; exact ⟨h5, hi⟩
noncomputable def comeD (most : Int) (D : List (List Int)) (day : List Int) : List (List Int) := if most < (D.length : Int) + 1 then (D ++ [day]).drop 1 else D ++ [day]
structure KpZ (Z : Addr → Prop) (C : Addr) (H : Hp) (p kp : Addr) (many least most : Int) (D : List (List Int)) (A B : List (Int × Int)) : Prop where
  ob : ∃ dx ah nw us vs, H p = some (.ins C dx (fl many least most kp ah nw)) ∧ H ah = some (.lst us) ∧ Rows H us A ∧ H nw = some (.lst vs) ∧ Rows H vs B ∧ nw ≠ kp ∧ ¬Z ah ∧ ¬Z nw
  ds : ∃ us, H kp = some (.lst us) ∧ Paired (LstI H) us D ∧ ∀ l, V.ref l ∈ us → ¬Z l
structure KpWZ (Z : Addr → Prop) (C : Addr) (H : Hp) (p kp : Addr) (many least most : Int) (D : List (List Int)) (B : List (Int × Int)) : Prop where
  ob : ∃ dx ah nw vs, H p = some (.ins C dx (fl many least most kp ah nw)) ∧ H nw = some (.lst vs) ∧ Rows H vs B ∧ ¬Z nw
  ds : ∃ us, H kp = some (.lst us) ∧ Paired (LstI H) us D ∧ ∀ l, V.ref l ∈ us → ¬Z l
section
variable {Z Z' : Addr → Prop} {C : Addr} {H H' : Hp} {p kp : Addr} {many least most : Int} {D : List (List Int)} {A B : List (Int × Int)}
theorem KpZ.k (h : KpZ Z C H p kp many least most D A B) : Kp C H p kp many least most D A B := by
  obtain ⟨⟨dx, ah, nw, us, vs, a, b, c, d, e, f, _⟩, ws, g, i, _⟩ := h
  exact ⟨⟨dx, ah, nw, us, vs, a, b, c, d, e, f⟩, ws, g, i⟩
theorem _root_.OL.Kp.z0 (h : Kp C H p kp many least most D A B) : KpZ (fun _ => False) C H p kp many least most D A B := by
  obtain ⟨⟨dx, ah, nw, us, vs, a, b, c, d, e, f⟩, ws, g, i⟩ := h
  exact ⟨⟨dx, ah, nw, us, vs, a, b, c, d, e, f, id, id⟩, ws, g, i, fun _ _ => id⟩
theorem KpZ.same (S : Same H H') (h : KpZ Z C H p kp many least most D A B) : KpZ Z C H' p kp many least most D A B := by
  obtain ⟨⟨dx, ah, nw, us, vs, a, a1, a2, b, c, n⟩, vk, d, e, f⟩ := h
  exact ⟨⟨dx, ah, nw, us, vs, S _ _ a, S _ _ a1, a2.same S.t, S _ _ b, c.same S.t, n⟩, vk, S _ _ d, lsts_same S e, f⟩
theorem KpZ.sub (z : ∀ b, Z' b → (∃ o, H b = some o) → Z b) (h : KpZ Z C H p kp many least most D A B) : KpZ Z' C H p kp many least most D A B := by
  obtain ⟨⟨dx, ah, nw, us, vs, a, a1, a2, b, c, n, n1, n2⟩, vk, d, e, f⟩ := h
  exact ⟨⟨dx, ah, nw, us, vs, a, a1, a2, b, c, n, fun q => n1 (z _ q ⟨_, a1⟩), fun q => n2 (z _ q ⟨_, b⟩)⟩, vk, d, e, fun l hl q => f l hl (z _ q (by obtain ⟨y, hy⟩ := lsts_mem e hl; exact ⟨_, hy⟩))⟩
end
inductive sp3Book_I (C : Addr) (vs : List V) (H : Hp) (Q : VK) : Prop
  | mk (p kp : Addr) (many least most : Int) (D : List (List Int)) (B : List (Int × Int)) (e_1 : vs = [.ref p]) (e_2 : KpW C H p kp many least most D B) (e_3 : DO3 many D) (e_4 : ∀ (b l : Addr) (H' : Hp), Same H H' → H b = none → H l = none → H' b = some (.tup [.int many, .ref l]) → H' l = some (.lst (D.flatten.map V.int)) → Q (.ref b) H') : sp3Book_I C vs H Q
noncomputable def sp3Book (C : Addr) : Sp := fun vs H Q _ => sp3Book_I C vs H Q
inductive sp3Tell_I (C : Addr) (vs : List V) (H : Hp) (Q : VK) : Prop
  | mk (p kp : Addr) (many least most : Int) (D : List (List Int)) (B : List (Int × Int)) (Z : Addr → Prop) (e_1 : vs = [.ref p]) (e_2 : KpWZ Z C H p kp many least most D B) (e_3 : (∀ z, Z z → ∃ o, H z = some o)) (e_4 : DO3 many D) (e_5 : 0 ≤ many) (e_6 : many ≤ 12) (e_7 : ∀ H', KpZ Z C H' p kp many least most D B (rowsF many D.flatten least) → Fr1 p H H' → Q .non H') : sp3Tell_I C vs H Q
noncomputable def sp3Tell (C : Addr) : Sp := fun vs H Q _ => sp3Tell_I C vs H Q
inductive sp3Come_I (K : PySem.W.Frag) (C : Addr) (vs : List V) (H : Hp) (Q : VK) : Prop
  | mk (p kp d : Addr) (many least most : Int) (D : List (List Int)) (A B : List (Int × Int)) (day : List Int) (Z : Addr → Prop) (e_1 : vs = [.ref p, .ref d]) (e_2 : KpZ Z C H p kp many least most D A B) (e_3 : (∀ z, Z z → ∃ o, H z = some o)) (e_4 : SqL K H d (day.map V.int)) (e_5 : DO3 many D) (e_6 : D.length ≤ 6) (e_7 : day.length ≤ 40) (e_8 : (∀ x ∈ day, InB many x)) (e_9 : 0 ≤ many) (e_10 : many ≤ 12) (e_11 : ∀ H', KpZ Z C H' p kp many least most (comeD most D day) B (rowsF many (comeD most D day).flatten least) → Fr2 p kp H H' → Q .non H') : sp3Come_I K C vs H Q
noncomputable def sp3Come (K : PySem.W.Frag) (C : Addr) : Sp := fun vs H Q _ => sp3Come_I K C vs H Q
inductive sp3Days_I (C : Addr) (vs : List V) (H : Hp) (Q : VK) : Prop
  | mk (p kp : Addr) (many least most : Int) (D : List (List Int)) (A B : List (Int × Int)) (e_1 : vs = [.ref p]) (e_2 : Kp C H p kp many least most D A B) (e_3 : DO3 many D) (e_4 : ∀ (t : Addr) (ws : List V) (H' : Hp), Same H H' → H t = none → H' t = some (.lst ws) → Paired (LstI H') ws D → (∀ b, V.ref b ∈ ws → H b = none) → (ws.Nodup) → Q (.ref t) H') : sp3Days_I C vs H Q
noncomputable def sp3Days (C : Addr) : Sp := fun vs H Q _ => sp3Days_I C vs H Q
inductive sp3Count_I (C : Addr) (vs : List V) (H : Hp) (Q : VK) : Prop
  | mk (p kp : Addr) (many least most lot : Int) (D : List (List Int)) (A B : List (Int × Int)) (e_1 : vs = [.ref p, .int lot]) (e_2 : Kp C H p kp many least most D A B) (e_3 : DO3 many D) (e_4 : ∀ H', Same H H' → Q (.int (countF D.flatten lot)) H') : sp3Count_I C vs H Q
noncomputable def sp3Count (C : Addr) : Sp := fun vs H Q _ => sp3Count_I C vs H Q
inductive sp3Closed_I (C : Addr) (vs : List V) (H : Hp) (Q : VK) : Prop
  | mk (p kp : Addr) (many least most : Int) (D : List (List Int)) (A B : List (Int × Int)) (e_1 : vs = [.ref p]) (e_2 : Kp C H p kp many least most D A B) (e_3 : ∀ (t : Addr) (ws : List V) (H' : Hp), Same H H' → H t = none → H' t = some (.lst ws) → Rows H' ws B → Q (.ref t) H') : sp3Closed_I C vs H Q
noncomputable def sp3Closed (C : Addr) : Sp := fun vs H Q _ => sp3Closed_I C vs H Q
inductive sp3NotIn_I (vs : List V) (H : Hp) (Q : VK) : Prop
  | mk (a b : Addr) (rs os : List (Int × Int)) (e_1 : vs = [.ref a, .ref b]) (e_2 : RowsAt H a rs) (e_3 : RowsAt H b os) (e_4 : ∀ (t : Addr) (zs : List V) (H' : Hp), Same H H' → H t = none → H' t = some (.lst zs) → Rows H' zs (cameF os rs) → Q (.ref t) H') : sp3NotIn_I vs H Q
noncomputable def sp3NotIn : Sp := fun vs H Q _ => sp3NotIn_I vs H Q
inductive sp3Moved_I (vs : List V) (H : Hp) (Q : VK) : Prop
  | mk (a b : Addr) (A B : List (Int × Int)) (e_1 : vs = [.ref a, .ref b]) (e_2 : RowsAt H a A) (e_3 : RowsAt H b B) (e_4 : ∀ (t : Addr) (zs : List V) (H' : Hp), Same H H' → H t = none → H' t = some (.lst zs) → RowsT H' zs (movF A B) → Q (.ref t) H') : sp3Moved_I vs H Q
noncomputable def sp3Moved : Sp := fun vs H Q _ => sp3Moved_I vs H Q
inductive sp3Changes_I (K : PySem.W.Frag) (C : Addr) (vs : List V) (H : Hp) (Q : VK) : Prop
  | mk (p kp : Addr) (many least most : Int) (D : List (List Int)) (A B : List (Int × Int)) (e_1 : vs = [.ref p]) (e_2 : Kp C H p kp many least most D A B) (e_3 : (A.map Prod.fst).Pairwise (· < ·)) (e_4 : A.length ≤ 4096) (e_5 : (B.map Prod.fst).Pairwise (· < ·)) (e_6 : B.length ≤ 4096) (e_7 : ∀ (t c w m : Addr) (xs ys zs : List V) (H' : Hp), Same H H' → H c = none → H w = none → H m = none → c ≠ w → c ≠ m → w ≠ m → H' t = some (.tup [.ref c, .ref w, .ref m]) → H' c = some (.lst xs) → Rows H' xs (cameF A B) → H' w = some (.lst ys) → Rows H' ys (cameF B A) → H' m = some (.lst zs) → RowsT H' zs (movF A B) → Q (.ref t) H') : sp3Changes_I K C vs H Q
noncomputable def sp3Changes (K : PySem.W.Frag) (C : Addr) : Sp := fun vs H Q _ => sp3Changes_I K C vs H Q
inductive sp3Go_I (C cN : Addr) (vs : List V) (H : Hp) (Q : VK) (E : XK) : Prop
  | mk (p kp : Addr) (many least most : Int) (D : List (List Int)) (A B : List (Int × Int)) (Z : Addr → Prop) (e_1 : vs = [.ref p]) (e_2 : KpZ Z C H p kp many least most D A B) (e_3 : (∀ z, Z z → ∃ o, H z = some o)) (e_4 : DO3 many D) (e_5 : 0 ≤ many) (e_6 : many ≤ 12) (e_7 : (D = [] → ∀ (a : Addr) (H' : Hp), Same H H' → H a = none → H' a = some (excO cN a) → E (.ref cN) (some a) H')) (e_8 : (D ≠ [] → ∀ H', KpZ Z C H' p kp many least most (D.drop 1) B (rowsF many (D.drop 1).flatten least) → Fr2 p kp H H' → Q .non H')) : sp3Go_I C cN vs H Q E
noncomputable def sp3Go (C cN : Addr) : Sp := fun vs H Q E => sp3Go_I C cN vs H Q E
inductive sp3Need_I (C cL : Addr) (vs : List V) (H : Hp) (Q : VK) (E : XK) : Prop
  | mk (p kp : Addr) (many least most ne : Int) (D : List (List Int)) (A B : List (Int × Int)) (Z : Addr → Prop) (e_1 : vs = [.ref p, .int ne]) (e_2 : KpZ Z C H p kp many least most D A B) (e_3 : (∀ z, Z z → ∃ o, H z = some o)) (e_4 : DO3 many D) (e_5 : 0 ≤ many) (e_6 : many ≤ 12) (e_7 : (ne < 1 → ∀ (a : Addr) (H' : Hp), Same H H' → H a = none → H' a = some (excO cL a) → E (.ref cL) (some a) H')) (e_8 : (1 ≤ ne → ∀ H', KpZ Z C H' p kp many ne most D B (rowsF many D.flatten ne) → Fr1 p H H' → Q .non H')) : sp3Need_I C cL vs H Q E
noncomputable def sp3Need (C cL : Addr) : Sp := fun vs H Q E => sp3Need_I C cL vs H Q E
inductive sp3Init_I (C : Addr) (vs : List V) (H : Hp) (Q : VK) : Prop
  | mk (p dx : Addr) (many least most : Int) (e_1 : vs = [.ref p, .int many, .int least, .int most]) (e_2 : H p = some (.ins C dx [])) (e_3 : ∀ (kp : Addr) (H' : Hp), H kp = none → KpZ (fun z => z = kp ∨ ∃ o, H z = some o) C H' p kp many least most [] [] [] → Fr1 p H H' → Q .non H') : sp3Init_I C vs H Q
noncomputable def sp3Init (C : Addr) : Sp := fun vs H Q _ => sp3Init_I C vs H Q
inductive spRows30_I (vs : List V) (H : Hp) (Q : VK) : Prop
  | mk (dl : Addr) (many least : Int) (D : List (List Int)) (us : List V) (e_1 : vs = [.int many, .ref dl, .int least]) (e_2 : H dl = some (.lst us)) (e_3 : Paired (LstI H) us D) (e_4 : DO3 many D) (e_5 : 0 ≤ many) (e_6 : many ≤ 12) (e_7 : 1 ≤ least) (e_8 : ∀ (t : Addr) (ws : List V) (H' : Hp), Same H H' → H t = none → H' t = some (.lst ws) → Rows H' ws (rowsF many D.flatten least) → Q (.ref t) H') : spRows30_I vs H Q
noncomputable def spRows30 : Sp := fun vs H Q _ => spRows30_I vs H Q
inductive spRef30_I (C : Addr) (vs : List V) (H : Hp) (Q : VK) : Prop
  | mk (p kp : Addr) (many least most : Int) (D : List (List Int)) (A B : List (Int × Int)) (v : V) (e_1 : vs = [.ref p, v]) (e_2 : Kp C H p kp many least most D A B) (e_3 : DO3 many D) (e_4 : 0 ≤ many) (e_5 : many ≤ 12) (e_6 : ((v = .non ∧ D = [] ∧ ∀ (r : Addr) (H' : Hp), Same H H' → H r = none → H' r = some (.lst [.bl true, .bl false, .bl true]) → Q (.ref r) H') ∨ (∃ ne : Int, v = .int ne ∧ ne < 1 ∧ ∀ (r : Addr) (H' : Hp), Same H H' → H r = none → H' r = some (.lst [.bl false, .bl true, .bl true]) → Q (.ref r) H'))) : spRef30_I C vs H Q
noncomputable def spRef30 (C : Addr) : Sp := fun vs H Q _ => spRef30_I C vs H Q
inductive spWhole1_I (vs : List V) (H : Hp) (Q : VK) : Prop
  | mk (i : Int) (e_1 : vs = [.int i]) (e_2 : Q (.bl true) H) : spWhole1_I vs H Q
noncomputable def spWhole1 : Sp := fun vs H Q _ => spWhole1_I vs H Q
noncomputable def mdl (many least most : Int) (dl al nl : Addr) : List (Key × V) := [(.inr "many", .int many), (.inr "least", .int least), (.inr "most", .int most), (.inr "days", .ref dl), (.inr "ahead", .ref al), (.inr "now", .ref nl)]
section
variable {many least most : Int} {dl al nl : Addr}
theorem md_many : valV (mdl many least most dl al nl) (.inr "many") = some (.int many) := rfl
theorem md_least : valV (mdl many least most dl al nl) (.inr "least") = some (.int least) := rfl
theorem md_most : valV (mdl many least most dl al nl) (.inr "most") = some (.int most) := rfl
theorem md_days : valV (mdl many least most dl al nl) (.inr "days") = some (.ref dl) := rfl
theorem md_ahead : valV (mdl many least most dl al nl) (.inr "ahead") = some (.ref al) := rfl
theorem md_now : valV (mdl many least most dl al nl) (.inr "now") = some (.ref nl) := rfl
end
theorem md_get {H : Hp} {md : Addr} {kvs : List (Key × V)} {x : Str} {v : V} (h : H md = some (.dK kvs)) (e : valV kvs (.inr x) = some v) : DGet H md (.str x) (some v) := e ▸ DGet.k (k := .inr x) h
noncomputable def dDays (D : List (List Int)) : PyData := .list (D.map fun d => .list (d.map PyData.int))
theorem days_dr {K : PySem.W.Frag} {H : Hp} {us : List V} {D : List (List Int)} (h : Paired (LstI H) us D) : DRs K H us (D.map fun d => .list (d.map PyData.int)) := by
  induction h with
  | nil => exact .nil
  | cons h _ ih =>
    obtain ⟨l, e, h⟩ := h
    subst e; exact .cons (.lst (SqL.of h) (DRs.ints _)) ih
theorem pl_days (D : List (List Int)) : PlD 2 (dDays D) := .list fun d hd => by
  obtain ⟨q, _, rfl⟩ := List.mem_map.mp hd
  exact .ints q
structure MdAt (H : Hp) (md dl : Addr) (many least most : Int) (D : List (List Int)) (A B : List (Int × Int)) : Prop where
  at_ : ∃ al nl, H md = some (.dK (mdl many least most dl al nl)) ∧ RowsAt H al A ∧ RowsAt H nl B
  ds : ∃ us, H dl = some (.lst us) ∧ Paired (LstI H) us D
structure StOk (many least most : Int) (D : List (List Int)) (A B : List (Int × Int)) : Prop where
  m1 : 1 ≤ many
  m8 : many ≤ 8
  l1 : 1 ≤ least
  l5 : least ≤ 5
  s1 : 1 ≤ most
  s6 : most ≤ 6
  len : (D.length : Int) ≤ most
  days : DO3 many D
  now : B = rowsF many D.flatten least
  up : (A.map Prod.fst).Pairwise (· < ·)
  few : A.length ≤ 4096
  sm : ∀ r ∈ A, (0 ≤ r.1 ∧ r.1 < 1000000000000) ∧ 0 ≤ r.2 ∧ r.2 < 1000000000000
theorem rowsF_sm {many least : Int} {bs : List Int} (m8 : many ≤ 12) (h : bs.length ≤ 280) : ∀ r ∈ rowsF many bs least, (0 ≤ r.1 ∧ r.1 < 1000000000000) ∧ 0 ≤ r.2 ∧ r.2 < 1000000000000 := fun r hr => by
  obtain ⟨⟨i0, i1⟩, _, _, hc⟩ := mem_rowsF.mp hr
  have h2 : (2 : Int) ^ many.toNat ≤ 2 ^ 12 := by
    have := Nat.pow_le_pow_right (n := 2) (by decide) (show many.toNat ≤ 12 by omega)
    exact_mod_cast this
  have h3 : (holdF bs r.1).length ≤ bs.length := hold_len bs r.1 bs.length
  have h4 : r.2 = ((holdF bs r.1).length : Int) := hc
  have e12 : (2 : Int) ^ 12 = 4096 := by decide
  refine ⟨⟨i0, ?_⟩, ?_, ?_⟩ <;> omega
noncomputable def App (H0 H : Hp) (qs : List (List Int × Addr)) (i : Nat) : Prop := (∀ b o, b ∉ qs.map Prod.snd → H0 b = some o → H b = some o) ∧ ∀ j q, qs[j]? = some q → H q.2 = some (.lst ((if j < i then q.1 ++ [1] else q.1).map V.int))
theorem App.zero {H : Hp} {qs : List (List Int × Addr)} (h : ∀ q ∈ qs, H q.2 = some (.lst (q.1.map V.int))) : App H H qs 0 := ⟨fun _ _ _ e => e, fun j q hq => by rw [if_neg (Nat.not_lt_zero _)]; exact h q (List.mem_of_getElem? hq)⟩
theorem App.step {H0 H : Hp} {qs : List (List Int × Addr)} {i : Nat} (h : App H0 H qs i) (nd : (qs.map Prod.snd).Nodup) {q : List Int × Addr} (hq : qs[i]? = some q) : App H0 (upd H q.2 (.lst (q.1.map V.int ++ [.int 1]))) qs (i + 1) := by
  refine ⟨fun b o n e => ?_, fun j r hr => ?_⟩
  · rw [upd_ne fun z => n (by rw [z]; exact List.mem_map.mpr ⟨q, List.mem_of_getElem? hq, rfl⟩)]
    exact h.1 b o n e
  · by_cases c : j = i
    · subst c
      rw [hq] at hr
      cases hr
      rw [upd_same, if_pos (Nat.lt_succ_self _), List.map_append]; rfl
    · have ne : r.2 ≠ q.2 := fun z => by
        have e1 : (qs.map Prod.snd)[j]? = some r.2 := by rw [List.getElem?_map, hr]; rfl
        have e2 : (qs.map Prod.snd)[i]? = some q.2 := by rw [List.getElem?_map, hq]; rfl
        obtain ⟨a1, b1⟩ := List.getElem?_eq_some_iff.mp e1
        obtain ⟨a2, b2⟩ := List.getElem?_eq_some_iff.mp e2
        exact c ((List.getElem_inj nd).mp (b1.trans (z.trans b2.symm)))
      rw [upd_ne ne, h.2 j r hr]
      by_cases d : j < i
      · rw [if_pos d, if_pos (by omega)]
      · rw [if_neg d, if_neg (by omega)]
theorem own_all {H : Hp} : ∀ {qs : List (List Int × Addr)}, (∀ q ∈ qs, H q.2 = some (.lst ((q.1 ++ [1]).map V.int))) → Paired (LstI H) (qs.map fun q => V.ref q.2) ((qs.map Prod.fst).map fun d => d ++ [1])
  | [], _ => .nil
  | a :: _, h => .cons ⟨_, rfl, h a List.mem_cons_self⟩ (own_all fun q hq => h q (List.mem_cons_of_mem _ hq))
theorem App.full {H0 H : Hp} {qs : List (List Int × Addr)} (h : App H0 H qs qs.length) : Paired (LstI H) (qs.map fun q => V.ref q.2) ((qs.map Prod.fst).map fun d => d ++ [1]) := own_all fun q hq => by
  obtain ⟨i, hi, e⟩ := List.mem_iff_getElem.mp hq
  have z := h.2 i q (by rw [List.getElem?_eq_getElem hi, e])
  rwa [if_pos hi] at z
theorem days_qs {H : Hp} : ∀ {ws : List V} {D : List (List Int)}, Paired (LstI H) ws D → ∃ qs : List (List Int × Addr), ws = (qs.map fun q => V.ref q.2) ∧ D = qs.map Prod.fst ∧ ∀ q ∈ qs, H q.2 = some (.lst (q.1.map V.int))
  | _, _, .nil => ⟨[], rfl, rfl, fun _ h => nomatch h⟩
  | _, _, .cons ⟨l, e, h⟩ t => by
    obtain ⟨qs, e1, e2, h2⟩ := days_qs t
    subst e; subst e1; subst e2
    refine ⟨(_, l) :: qs, rfl, rfl, fun q hq => ?_⟩
    obtain z | z := List.mem_cons.mp hq
    · rw [z]; exact h
    · exact h2 q z
theorem refs_nodup {qs : List (List Int × Addr)} (h : (qs.map fun q => V.ref q.2).Nodup) : (qs.map Prod.snd).Nodup := by
  have e : (qs.map fun q => V.ref q.2) = (qs.map Prod.snd).map V.ref := by rw [List.map_map]; rfl
  rw [e] at h
  exact List.Pairwise.of_map V.ref (fun a b z e => z (by rw [e])) h
inductive spIs30_I (C : Addr) (vs : List V) (H : Hp) (Q : VK) : Prop
  | mk (p kp md dl : Addr) (many least most c : Int) (D : List (List Int)) (A B : List (Int × Int)) (e_1 : vs = [.ref p, .ref md, .int c]) (e_2 : Kp C H p kp many least most D A B) (e_3 : MdAt H md dl many least most D A B) (e_4 : StOk many least most D A B) (e_5 : ∀ H', Same H H' → Q (.bl true) H') : spIs30_I C vs H Q
noncomputable def spIs30 (C : Addr) : Sp := fun vs H Q _ => spIs30_I C vs H Q
structure MdZ (Z : Addr → Prop) (H : Hp) (md dl : Addr) (many least most : Int) (D : List (List Int)) (A B : List (Int × Int)) : Prop where
  at_ : ∃ al nl, H md = some (.dK (mdl many least most dl al nl)) ∧ RowsAt H al A ∧ RowsAt H nl B ∧ ¬Z al ∧ ¬Z nl
  ds : ∃ us, H dl = some (.lst us) ∧ Paired (LstI H) us D ∧ ∀ l, V.ref l ∈ us → ¬Z l
section
variable {Z Z' : Addr → Prop} {C : Addr} {H H' : Hp} {p kp md dl : Addr} {many least most : Int} {D : List (List Int)} {A B : List (Int × Int)}
theorem MdZ.k (h : MdZ Z H md dl many least most D A B) : MdAt H md dl many least most D A B := by
  obtain ⟨⟨al, nl, a, b, c, _⟩, us, d, e, _⟩ := h
  exact ⟨⟨al, nl, a, b, c⟩, us, d, e⟩
theorem MdZ.same (S : Same H H') (h : MdZ Z H md dl many least most D A B) : MdZ Z H' md dl many least most D A B := by
  obtain ⟨⟨al, nl, a, b, c, d⟩, us, e, f, g⟩ := h
  exact ⟨⟨al, nl, S _ _ a, b.same S, c.same S, d⟩, us, S _ _ e, lsts_same S f, g⟩
noncomputable def Off (Z : Addr → Prop) (H : Hp) (b : Addr) : Prop := (∀ xs, H b ≠ some (.tup xs)) ∧ ((∃ xs, H b = some (.lst xs)) → Z b)
theorem Off.lst {b : Addr} {xs : List V} (h : H b = some (.lst xs)) (z : Z b) : Off Z H b := ⟨fun ys e => (by rw [h] at e; cases e), fun _ => z⟩
theorem Off.dK {b : Addr} {xs : List (Key × V)} (h : H b = some (.dK xs)) : Off Z H b := ⟨fun ys e => (by rw [h] at e; cases e), fun ⟨_, e⟩ => (by rw [h] at e; cases e)⟩
theorem Off.ins {b d : Addr} {fs : List (Str × V)} (h : H b = some (.ins C d fs)) : Off Z H b := ⟨fun ys e => (by rw [h] at e; cases e), fun ⟨_, e⟩ => (by rw [h] at e; cases e)⟩
theorem rows_off {W : Addr → Prop} (F : ∀ b o, H b = some o → ¬W b → H' b = some o) (w : ∀ b, W b → Off Z H b) {us : List V} {rs : List (Int × Int)} (h : Rows H us rs) : Rows H' us rs := Paired.imp' (fun _ _ z => by obtain ⟨l, e, q⟩ := z; exact ⟨l, e, F _ _ q fun z => (w _ z).1 _ q⟩) h
theorem lst_off {W : Addr → Prop} (F : ∀ b o, H b = some o → ¬W b → H' b = some o) (w : ∀ b, W b → Off Z H b) {a : Addr} {xs : List V} (n : ¬Z a) (h : H a = some (.lst xs)) : H' a = some (.lst xs) := F _ _ h fun z => n ((w _ z).2 ⟨_, h⟩)
theorem days_off {W : Addr → Prop} (F : ∀ b o, H b = some o → ¬W b → H' b = some o) (w : ∀ b, W b → Off Z H b) {us : List V} (n : ∀ l, V.ref l ∈ us → ¬Z l) (h : Paired (LstI H) us D) : Paired (LstI H') us D := by
  induction h with
  | nil => exact .nil
  | cons r t ih =>
    obtain ⟨l, e, q⟩ := r
    subst e
    exact .cons ⟨l, rfl, lst_off F w (n l (.head _)) q⟩ (ih fun l hl => n l (.tail _ hl))
theorem rowsAt_off {W : Addr → Prop} (F : ∀ b o, H b = some o → ¬W b → H' b = some o) (w : ∀ b, W b → Off Z H b) {a : Addr} {rs : List (Int × Int)} (n : ¬Z a) (h : RowsAt H a rs) : RowsAt H' a rs := by
  obtain ⟨ys, b, c, d⟩ := h
  exact ⟨ys, lst_off F w n b, rows_off F w c, d⟩
theorem KpZ.off {W : Addr → Prop} (F : ∀ b o, H b = some o → ¬W b → H' b = some o) (w : ∀ b, W b → Off Z H b) (np : ¬W p) (nk : ¬W kp) (h : KpZ Z C H p kp many least most D A B) : KpZ Z C H' p kp many least most D A B := by
  obtain ⟨⟨dx, ah, nw, us, vs, a, a1, a2, b, c, n, n1, n2⟩, vk, d, e, f⟩ := h
  exact ⟨⟨dx, ah, nw, us, vs, F _ _ a np, lst_off F w n1 a1, rows_off F w a2, lst_off F w n2 b, rows_off F w c, n, n1, n2⟩, vk, F _ _ d nk, days_off F w f e, f⟩
theorem MdZ.off {W : Addr → Prop} (F : ∀ b o, H b = some o → ¬W b → H' b = some o) (w : ∀ b, W b → Off Z H b) (np : ¬W md) (nk : ¬W dl) (h : MdZ Z H md dl many least most D A B) : MdZ Z H' md dl many least most D A B := by
  obtain ⟨⟨al, nl, a, b, c, d1, d2⟩, us, e, f, g⟩ := h
  exact ⟨⟨al, nl, F _ _ a np, rowsAt_off F w d1 b, rowsAt_off F w d2 c, d1, d2⟩, us, F _ _ e nk, days_off F w g f, g⟩
end
theorem eqv_nil (D : List (List Int)) : PyData.eqv (dDays D) (.list []) = decide (D = []) := by
  cases D with
  | nil => rfl
  | cons a t => rw [decide_eq_false (by simp)]; rfl
theorem md_put_ahead {many least most : Int} {dl al nl x : Addr} : putK (mdl many least most dl al nl) (.inr "ahead") (.ref x) = mdl many least most dl x nl := rfl
theorem md_put_now {many least most : Int} {dl al nl x : Addr} : putK (mdl many least most dl al nl) (.inr "now") (.ref x) = mdl many least most dl al x := rfl
theorem md_put_least {many least most x : Int} {dl al nl : Addr} : putK (mdl many least most dl al nl) (.inr "least") (.int x) = mdl many x most dl al nl := rfl
theorem seq_ifW {c : TT} {t u v : TS} {D : Ends} {σ : St} {H : Hp} {b : Bool} {W : Hp → Prop} (h : ∀ Q : Bool → Hp → Prop, (∀ H', W H' → Q b H') → c σ H Q) (k : ∀ H', W H' → if b = true then t { D with nx := v D } σ H' else u { D with nx := v D } σ H') : tSeq (tIfS c t u) v D σ H := h _ k
theorem one_ifW {c : TT} {t u : TS} {D : Ends} {σ : St} {H : Hp} {b : Bool} {W : Hp → Prop} (h : ∀ Q : Bool → Hp → Prop, (∀ H', W H' → Q b H') → c σ H Q) (k : ∀ H', W H' → if b = true then t D σ H' else u D σ H') : tIfS c t u D σ H := h _ k
noncomputable def Fr4 (p q r s : Addr) (H H' : Hp) : Prop := ∀ b o, H b = some o → b ≠ p → b ≠ q → b ≠ r → b ≠ s → H' b = some o
theorem Fr4.refl (p q r s : Addr) (H : Hp) : Fr4 p q r s H H := fun _ _ e _ _ _ _ => e
theorem Fr4.trans {p q r s : Addr} {H H1 H2 : Hp} (F : Fr4 p q r s H H1) (G : Fr4 p q r s H1 H2) : Fr4 p q r s H H2 := fun b o e a b' c d => G _ _ (F _ _ e a b' c d) a b' c d
theorem Fr4.same {p q r s : Addr} {H H1 H2 : Hp} (F : Fr4 p q r s H H1) (S : Same H1 H2) : Fr4 p q r s H H2 := fun b o e a b' c d => S _ _ (F _ _ e a b' c d)
theorem Fr4.put {p q r s x : Addr} {o : HO} {H H1 : Hp} (F : Fr4 p q r s H H1) (hx : H x = none ∨ x = p ∨ x = q ∨ x = r ∨ x = s) : Fr4 p q r s H (upd H1 x o) := fun b y e n1 n2 n3 n4 => by
  rw [upd_ne fun z => by
    obtain h | h | h | h | h := hx
    · rw [z, h] at e; cases e
    · exact n1 (z.trans h)
    · exact n2 (z.trans h)
    · exact n3 (z.trans h)
    · exact n4 (z.trans h)]
  exact F b y e n1 n2 n3 n4
theorem Fr2.fr4 {p q r s : Addr} {H H' : Hp} (F : Fr2 p q H H') : Fr4 p q r s H H' := fun b o e n1 n2 _ _ => F _ _ e n1 n2
theorem rows_at {many : Int} {bs : List Int} {least : Int} (m8 : many ≤ 8) {t : Addr} {ws : List V} {H : Hp} (h : H t = some (.lst ws)) (hR : Rows H ws (rowsF many bs least)) : RowsAt H t (rowsF many bs least) := ⟨ws, h, hR, rowsF_rise31 _ _ _, Nat.le_trans (rowsF_len many bs least) (Nat.pow_le_pow_right (by decide) (show many.toNat ≤ 12 by omega))⟩
theorem StOk.next {many least most : Int} {D : List (List Int)} {A B : List (Int × Int)} (ok : StOk many least most D A B) {least' : Int} {D' : List (List Int)} (l1 : 1 ≤ least') (l5 : least' ≤ 5) (len : (D'.length : Int) ≤ most) (days : DO3 many D') : StOk many least' most D' B (rowsF many D'.flatten least') := ⟨ok.m1, ok.m8, l1, l5, ok.s1, ok.s6, len, days, rfl, by rw [ok.now]; exact rowsF_rise31 _ _ _, by rw [ok.now]; exact Nat.le_trans (rowsF_len _ _ _) (Nat.pow_le_pow_right (by decide) (show many.toNat ≤ 12 by have := ok.m8; omega)), by rw [ok.now]; exact rowsF_sm (by have := ok.m8; omega) ok.days.flat.1⟩
inductive spDeed_I (C : Addr) (vs : List V) (H : Hp) (Q : VK) : Prop
  | mk (p kp md dl : Addr) (many least most c more : Int) (D : List (List Int)) (A B : List (Int × Int)) (Z : Addr → Prop) (e_1 : vs = [.ref p, .ref md, .int c, .int more]) (e_2 : KpZ Z C H p kp many least most D A B) (e_3 : MdZ Z H md dl many least most D A B) (e_4 : StOk many least most D A B) (e_5 : Z kp) (e_6 : Z dl) (e_7 : kp ≠ dl) (e_8 : (∀ z, Z z → ∃ o, H z = some o)) (e_9 : ∀ (least' : Int) (D' : List (List Int)) (A' B' : List (Int × Int)) (H' : Hp), KpZ Z C H' p kp many least' most D' A' B' → MdZ Z H' md dl many least' most D' A' B' → StOk many least' most D' A' B' → Fr4 p kp md dl H H' → Q (.bl true) H') : spDeed_I C vs H Q
noncomputable def spDeed (C : Addr) : Sp := fun vs H Q _ => spDeed_I C vs H Q
end OL.K30

namespace L2
open PySem PySem.Spec PyProof.Rows
structure MfnN (P : Program) (w : World) (K : PySem.W.Frag) (mg : Str → Option Value) (base : Heap) (k : Nat) (C : Addr) (m : Str) (ps : List Str) (sp : Sp) : Prop where
  ex : ∃ f fd, FnOk P w K mg base (CXN P w) k f fd ps sp ∧ Binds K fd ps [] ∧ Meth K C m f
section
variable {P : Program} {w : World} {K : PySem.W.Frag} {mg : Str → Option Value} {base : Heap} {C : Addr} {m : Str} {ps : List Str} {sp : Sp}
theorem MfnN.mono {j k : Nat} (D : MfnN P w K mg base j C m ps sp) (h : j ≤ k) : MfnN P w K mg base k C m ps sp :=
  D.ex.elim fun f z => z.elim fun fd z => ⟨f, fd, z.1.mono h, z.2⟩
theorem MfnN.of {k : Nat} {x qual : Str} {st : Stmt} {f : Addr} {fd : FuncData} {N : List Str} (F : Fun K x qual st f fd) (b : Binds K fd ps []) (me : Meth K C m f) (S : FnScope N ps (defScope st)) (len : ∀ vs H Q E, sp vs H Q E → vs.length = ps.length)
    (hbody : ∀ (cdv : Value) (A : Around) (outer : List Env) (s : Shared) (H : Hp) (vs : List V) (Q : VK) (E : XK), Room k (A.deeper (envOfC qual (defScope st) s.heap.objs.size f cdv)) → sp vs H Q E →
      ∃ t, PSs (cxOf (CXN P w) P w K mg base N qual (defScope st) f cdv A outer s H E) (defBody st) t ∧ t { nx := fun _ H' => Q .non H', rt := Q } (start N vs) H) : MfnN P w K mg base (k + 1) C m ps sp := by
  refine ⟨f, fd, ?_, b, me⟩
  obtain ⟨oc, od, kV, doc, pm, an, cdv, ct, osl, rfl, lk, hcd⟩ := F.ex
  exact fn_of lk hcd S len fun A outer s H vs Q E hr hsp => hbody cdv A outer s H vs Q E hr hsp
theorem MfnN.calm {k : Nat} (D : MfnN P w K mg base k C m ps sp) : Mfn P w K mg base k C m ps (fun vs H Q _ => sp vs H Q E0) := by
  obtain ⟨f, fd, F, b, me⟩ := D.ex
  refine ⟨f, fd, ⟨fun vs H Q _ h => F.len vs H Q E0 h, fun A outer s H args us vs Q E hr e0 hb r h => codeAny_mono (F.run A outer s H args us vs Q E0 hr e0 hb r h) fun r s' q => ?_⟩, b, me⟩
  obtain _ | fl := r
  · obtain ⟨_, _, _, _, _, _, _, _, _, _, z⟩ := q
    exact z.elim
  · cases fl <;> exact q
end
section
variable {X : Cx} {k j : Nat} {C : Addr} {m : Str} {ps : List Str} {sp : Sp} {o e : Expr} {es : List Expr} {ta : TE} {t : TA} {pos apos pos' : Pos}
theorem psx_meth {pl : Sem Bool} (he : PE X.nox o ta) (c : Cls X.K C) (D : MfnN X.prog X.w X.K X.mg X.base k C m ps sp) (hr : Room j X.A) (hj : k ≤ j) (ha : PA X.nox (e :: es) t)
    (hst : starEach (e :: es) X.env = (false, eval e X.env) :: starEach es X.env := by rfl) (hpl : (backTo pos (starEach es X.env)).any (·.1) = false := by rfl)
    (ht : eval (.Call (.Attribute o m apos) (e :: es) [] pos) X.env = (do
      let ov ← eval o X.env
      standAt apos.atName
      let (f, first) ← holding [ov] (getMethod ov m pl)
      callWith pos f first (backTo pos (starEach (e :: es) X.env)) (backToKw pos (keywordEach [] X.env))) := by rfl)
    (hs : swapsWith (.Call (.Attribute o m apos) (e :: es) [] pos) none pos'.line X.env = pure false := by rfl) :
    PSx X (.Expr (.Call (.Attribute o m apos) (e :: es) [] pos) pos') (fun D Ex σ H => ta σ H fun x H1 => ∃ a dx fs, x = .ref a ∧ H1 a = some (.ins C dx fs) ∧ fs.lookup m = none ∧ t σ H1 fun vs H2 => sp (x :: vs) H2 (fun _ H3 => D.nx σ H3) (Ex σ)) := by
  intro pins s σ H Dn Ex I h
  obtain ⟨f, fd, F, b, me⟩ := D.ex
  refine wpAny_Expr_any (PySem.W.methodCall_KW (pl := pl) (wpAny_mono (he pins s σ H _ (I.wish _) h) (fun u s1 hm_ => ?_) fun _ _ z => False.elim z) ht) I.quiet hs
  obtain ⟨x, H1, I1, rx, a, dx, fs, ex, ea, l, q⟩ := hm_
  subst ex
  obtain rfl : u = Value.ref a := rx
  refine getmeth_ok I1.unwish ea c me l ?_
  refine PySem.W.callWith_K (first := [.ref a]) (h₀ := X.base) I.ok.mod.kin me.kp (wpAny_mono (ha pos pins s1 σ H1 _ I1 q) (fun us s2 ⟨vs, H2, I2, r, q2⟩ => ⟨I2.unwish.kIn, ?_⟩) fun _ _ z => False.elim z) hst hpl
  exact thn (run_fnx (us := .ref a :: us) (vs := .ref a :: vs) F (hr.mono hj) b (fun _ _ _ z => z) I2.unwish (.cons rfl r) q2) fun v s3 ⟨y, H3, I3, r3, q3⟩ => ⟨σ, H3, I3, q3⟩
theorem psx_meth0 {pl : Sem Bool} (he : PE X.nox o ta) (c : Cls X.K C) (D : MfnN X.prog X.w X.K X.mg X.base k C m ps sp) (hr : Room j X.A) (hj : k ≤ j)
    (ht : eval (.Call (.Attribute o m apos) [] [] pos) X.env = (do
      let ov ← eval o X.env
      standAt apos.atName
      let (f, first) ← holding [ov] (getMethod ov m pl)
      callWith pos f first (backTo pos (starEach [] X.env)) (backToKw pos (keywordEach [] X.env))) := by rfl)
    (hs : swapsWith (.Call (.Attribute o m apos) [] [] pos) none pos'.line X.env = pure false := by rfl) :
    PSx X (.Expr (.Call (.Attribute o m apos) [] [] pos) pos') (fun D Ex σ H => ta σ H fun x H1 => ∃ a dx fs, x = .ref a ∧ H1 a = some (.ins C dx fs) ∧ fs.lookup m = none ∧ sp [x] H1 (fun _ H3 => D.nx σ H3) (Ex σ)) := by
  intro pins s σ H Dn Ex I h
  obtain ⟨f, fd, F, b, me⟩ := D.ex
  refine wpAny_Expr_any (PySem.W.methodCall_KW (pl := pl) (wpAny_mono (he pins s σ H _ (I.wish _) h) (fun u s1 hm_ => ?_) fun _ _ z => False.elim z) ht) I.quiet hs
  obtain ⟨x, H1, I1, rx, a, dx, fs, ex, ea, l, q⟩ := hm_
  subst ex
  obtain rfl : u = Value.ref a := rx
  refine getmeth_ok I1.unwish ea c me l ?_
  refine PySem.W.callWith_K0 (first := [.ref a]) I1.unwish.kIn me.kp ?_
  exact thn (run_fnx (us := [.ref a]) (vs := [.ref a]) F (hr.mono hj) b (fun _ _ _ z => z) I1.unwish (.cons rfl .nil) q) fun v s3 ⟨y, H3, I3, r3, q3⟩ => ⟨σ, H3, I3, q3⟩
theorem psx_one {pins : List (Addr × Obj)} {s : Shared} {D : Ends} {Er : Value → Shared → Prop} {st : Stmt} (h : wpAny (model X.prog X.w) X.A (exec st X.env) (SP X pins D) Er s) : wpAny (model X.prog X.w) X.A (execs [st] X.env) (SP X pins D) Er s := by
  refine wpAny_execs_cons (thn h fun fl s1 q => ?_)
  cases fl with
  | next => exact wpAny_execs_nil q
  | brk => exact q
  | cont => exact q
  | ret u => exact q
theorem psx_if {c : Expr} {a b : Stmt} {tc : TT} {ta tb : TX} (hc : PT X.nox c tc) (ha : PSx X a ta) (hb : PSx X b tb) :
    PSx X (.If c [a] [b] pos) (fun D Ex σ H => tc σ H fun d H1 => if d = true then ta D Ex σ H1 else tb D Ex σ H1) := by
  intro pins s σ H D Ex I h
  refine wpAny_If (wpAny_mono (hc pins s σ H _ (I.wish _) h) (fun d s1 hm_ => ?_) fun _ _ z => False.elim z)
  obtain ⟨H1, I1, q1⟩ := hm_
  cases d with
  | true => exact psx_one (ha pins s1 σ H1 D Ex I1.unwish q1)
  | false => exact psx_one (hb pins s1 σ H1 D Ex I1.unwish q1)
end
end L2

namespace L2
theorem tabs {a u : TS} {D : Ends} {σ : St} {H : Hp} (h : ∀ T : TS, T = u → tSeq a T D σ H) : tSeq a u D σ H := h u rfl
theorem opn {T u : TS} (e : T = u) {D : Ends} {σ : St} {H : Hp} (h : u D σ H) : T D σ H := by subst e; exact h
theorem asgk {te : TE} {g : TG} {T : TS} {D : Ends} {σ : St} {H : Hp} (h : ∀ k : VK, k = (fun x H1 => g x σ H1 (T D)) → te σ H k) : tSeq (tAsg te g) T D σ H := h _ rfl
theorem drpk {te : TE} {T : TS} {D : Ends} {σ : St} {H : Hp} (h : ∀ k : VK, k = (fun _ H1 => T D σ H1) → te σ H k) : tSeq (tDrop te) T D σ H := h _ rfl
theorem opk {k k' : VK} (e : k = k') {v : V} {H : Hp} (h : k' v H) : k v H := by subst e; exact h
end L2

namespace OL.Q30
open PySem L2 OL
noncomputable def top (i : Nat) : Stmt := PySem.Challenge.pw_oftenlots_k30_whole_keeper.main.body.getD i (.Pass ⟨0, 0, 0, 0⟩)
structure CC where
  OftenError : Addr
  NoDay : Addr
  NoLeast : Addr
structure Xs (K : PySem.W.Frag) (mg : Str → Option Value) (cc : CC) : Prop where
  m_OftenError : mg "OftenError" = some (.ref cc.OftenError)
  m_NoDay : mg "NoDay" = some (.ref cc.NoDay)
  m_NoLeast : mg "NoLeast" = some (.ref cc.NoLeast)
  r_NoDay : XCls K "NoDay" cc.NoDay
  r_NoLeast : XCls K "NoLeast" cc.NoLeast
  emd_ : PySem.W.exmOne K (.ref cc.NoDay) (.ref cc.OftenError) = some true
  eml_ : PySem.W.exmOne K (.ref cc.NoLeast) (.ref cc.OftenError) = some true
  isd_ : XIs K cc.NoDay [.ref cc.NoLeast] [.ref cc.NoDay, .type "ValueError"]
  isl_ : XIs K cc.NoLeast [.ref cc.NoDay] [.ref cc.NoLeast, .type "ValueError"]
noncomputable abbrev sTop : Stmt := top 1
noncomputable abbrev sHas : Stmt := top 2
noncomputable abbrev sAll : Stmt := top 3
noncomputable abbrev sCount : Stmt := top 5
noncomputable abbrev sHold : Stmt := top 6
noncomputable abbrev sCommon : Stmt := top 7
noncomputable abbrev sOften : Stmt := top 9
noncomputable abbrev sClosed : Stmt := top 10
noncomputable abbrev s_Keeper___init__ : Stmt := inClass (top 16) 0
noncomputable abbrev s_Keeper_come : Stmt := inClass (top 16) 1
noncomputable abbrev s_Keeper_go : Stmt := inClass (top 16) 2
noncomputable abbrev s_Keeper_need : Stmt := inClass (top 16) 3
noncomputable abbrev s_Keeper_days : Stmt := inClass (top 16) 4
noncomputable abbrev s_Keeper_closed : Stmt := inClass (top 16) 5
noncomputable abbrev s_Keeper_count : Stmt := inClass (top 16) 6
noncomputable abbrev s_Keeper_changes : Stmt := inClass (top 16) 7
noncomputable abbrev s_Keeper_book : Stmt := inClass (top 16) 8
noncomputable abbrev s_Keeper_tell_anew : Stmt := inClass (top 16) 9
noncomputable abbrev s_counts_by_lot : Stmt := top 17
noncomputable abbrev s_rows_not_in : Stmt := top 18
noncomputable abbrev s_rows_moved : Stmt := top 19
noncomputable abbrev sCell : Stmt := top 21
noncomputable abbrev sDraws : Stmt := top 22
noncomputable abbrev s_L_whole : Stmt := top 23
noncomputable abbrev sCountL : Stmt := top 24
noncomputable abbrev s_L_closed : Stmt := top 25
noncomputable abbrev s_L_changes : Stmt := top 26
noncomputable abbrev s_L_day : Stmt := top 27
noncomputable abbrev s_L_refused : Stmt := top 28
noncomputable abbrev s_L_is : Stmt := top 29
noncomputable abbrev s_L_deed : Stmt := top 30
noncomputable abbrev s_law : Stmt := top 31
section
variable {P : Program} {w : World} {K : PySem.W.Frag} {mg : Str → Option Value} {base : Heap} {f : Addr} {fd : FuncData} {k : Nat}
theorem scTop : FnScope ["number"] ["number"] (defScope sTop) := ⟨rfl, rfl, rfl, by decide +kernel, rfl, by decide +kernel, by decide +kernel⟩
theorem ok_top (F : Fun K "things_below" "things_below" sTop f fd) (b : Binds K fd ["number"] []) (m : mg "things_below" = some (.ref f)) : Dfn P w K mg base (k + 1) "things_below" ["number"] spTop := by
  refine .of F b m scTop (fun vs H Q E h => ?_) (fun cdv A outer s H vs Q E hr h => ?_)
  · obtain ⟨n, rfl, _⟩ := h; rfl
  obtain ⟨n, rfl, h0, h1, q⟩ := h
  refine ⟨_, pss_one (ps_ret (pe_op op_sub (pe_op op_shl pe_int (pv 0)) pe_int)), ?_⟩
  exact ⟨_, rfl, _, _, rfl, rfl, ⟨h0, by omega, by decide⟩, _, _, rfl, rfl, q⟩

theorem scHas : FnScope ["one", "other"] ["one", "other"] (defScope sHas) := ⟨rfl, rfl, rfl, by decide +kernel, rfl, by decide +kernel, by decide +kernel⟩
theorem ok_has (F : Fun K "has" "has" sHas f fd) (b : Binds K fd ["one", "other"] []) (m : mg "has" = some (.ref f)) : Dfn P w K mg base (k + 1) "has" ["one", "other"] spHas := by
  refine .of F b m scHas (fun vs H Q E h => ?_) (fun cdv A outer s H vs Q E hr h => ?_)
  · obtain ⟨x, y, rfl, _⟩ := h; rfl
  obtain ⟨x, y, rfl, q⟩ := h
  refine ⟨_, pss_one (ps_ret (pe_cmpR op_eq (pe_op op_and (pv 0) (pv 1)) (pv 1) (nomark _))), ?_⟩
  refine ⟨_, rfl, _, rfl, _, _, rfl, rfl, _, rfl, rfl, ?_⟩
  rw [int_eq]; exact q

theorem scAll : FnScope ["many"] ["many"] (defScope sAll) := ⟨rfl, rfl, rfl, by decide +kernel, rfl, by decide +kernel, by decide +kernel⟩
theorem ok_all (F : Fun K "all_lots" "all_lots" sAll f fd) (b : Binds K fd ["many"] []) (m : mg "all_lots" = some (.ref f)) (ml : mg "list" = none) (mr : mg "range" = none) (G : Dfn P w K mg base k "things_below" ["number"] spTop) : Dfn P w K mg base (k + 1) "all_lots" ["many"] spAll := by
  refine .of F b m scAll (fun vs H Q E h => ?_) (fun cdv A outer s H vs Q E hr h => ?_)
  · obtain ⟨n, rfl, _⟩ := h; rfl
  obtain ⟨n, rfl, n0, n1, q⟩ := h
  refine ⟨_, pss_one (ps_ret (pe_callTy (call_listRng rfl) (by rfl) ml PyProof.Rows.boot_list (pa_cons (pe_callTy call_rngV (by rfl) mr PyProof.Rows.boot_range (pa_cons (pe_op op_add (pe_def G hr (Nat.le_refl _) rfl (pa_cons (pv 0) pa_nil)) pe_int) pa_nil)) pa_nil))), ?_⟩
  have e : topF n + 1 = ((2 ^ n.toNat : Nat) : Int) := by unfold topF; rw [Int.one_mul, pow_cast]; omega
  have hp := pow12 n1
  refine ⟨_, rfl, n, rfl, n0, by omega, _, _, rfl, rfl, _, rfl, fun p hp0 => ⟨p, topF n + 1, rfl, upd_same, (by rw [e]; exact Int.natCast_nonneg _), (by rw [e]; omega), fun l hl => ?_⟩⟩
  have e2 : (topF n + 1).toNat = 2 ^ n.toNat := by rw [e]; exact Int.toNat_natCast _
  rw [e2]
  have S1 := same_new hp0 (.rng 0 (topF n + 1))
  exact q l _ (S1.trans (same_new hl _)) (S1.free hl) upd_same

theorem scHold : FnScope ["book", "lot"] ["book", "lot"] (defScope sHold) := ⟨rfl, rfl, rfl, by decide +kernel, rfl, by decide +kernel, by decide +kernel⟩
theorem ndPB : (["place", "basket", "lot"] : List Str).Nodup := by decide +kernel
theorem ok_hold (F : Fun K "holders" "holders" sHold f fd) (b : Binds K fd ["book", "lot"] []) (m : mg "holders" = some (.ref f)) (me : mg "enumerate" = none) (G : Dfn P w K mg base k "has" ["one", "other"] spHas) :
    Dfn P w K mg base (k + 1) "holders" ["book", "lot"] (spHold K) := by
  refine .of F b m scHold (fun vs H Q E h => ?_) (fun cdv A outer s H vs Q E hr h => ?_)
  · obtain ⟨b, many, bs, lot, rfl, _⟩ := h; rfl
  obtain ⟨bk, many, bs, lot, rfl, hB, hz, q⟩ := h
  refine ⟨_, pss_one (ps_ret (pe_compC ["place", "basket"] [1] (sc := defScope sHold) (N := ["book", "lot"]) (.inl rfl) rfl ⟨rfl, by decide +kernel, by decide +kernel, by decide +kernel, by decide +kernel⟩ rfl (pi_enum rfl me (pa_cons (pe_ix ix_tup (pv 0) pe_int (fun _ _ => rfl)) pa_nil))
    (fun cl s H C fp => pg_tupK (n := 2) K rfl rfl (pgs_cons (pg_name (i := 0) ndPB rfl (Or.inl rfl)) (pgs_cons (pg_name (i := 1) ndPB rfl (Or.inl rfl)) pgs_nil)))
    (fun cl s H C fp => pifs_one (pt_val (pe_def G hr (Nat.le_refl _) rfl (pa_cons (pv 1) (pa_cons (pv 2) pa_nil)))))
    (fun cl s H C fp => pv 0))), ?_⟩
  obtain ⟨l, hb, hl⟩ := hB
  refine ⟨_, rfl, bk, _, _, _, rfl, rfl, hb, rfl, l, rfl, ⟨_, hl⟩, ?_⟩
  refine comp_enum hl (fun i => (hold bs lot i).map V.int) rfl (fun acc i x p H' hacc hi hx S h0 hp => ?_) (fun acc H' hacc S h0 => ?_)
  · have hx' := ints_get hx
    subst hx'
    refine ⟨p, _, rfl, SqT.of upd_same, rfl, _, _, rfl, _, _, rfl, rfl, ?_⟩
    refine ⟨(Wk.set (i := 1) ((Wk.refl _).set (i := 0) (by decide)) (by decide)), ?_⟩
    refine ⟨_, rfl, _, rfl, _, _, rfl, _, rfl, ?_⟩
    refine ite2 (fun c => ?_) (fun c => ?_)
    · refine ⟨_, rfl, cput hi hacc S h0 (same_new hp _) ?_ ?_⟩
      · show (hold bs lot (i + 1)).map V.int = _
        rw [hold_yes c, List.map_append]; rfl
      · rw [List.length_map]
        have h1 := hold_len bs lot i
        rw [List.length_map] at hi
        exact small1000 (by omega)
    · refine cskip hi S h0 (same_new hp _) ?_
      show (hold bs lot (i + 1)).map V.int = _
      rw [hold_no (by simpa using c)]
  · rw [List.length_map] at h0
    exact q acc H' S hacc h0

theorem scCount : FnScope ["book", "lot"] ["book", "lot"] (defScope sCount) := ⟨rfl, rfl, rfl, by decide +kernel, rfl, by decide +kernel, by decide +kernel⟩
theorem ok_count (F : Fun K "count" "count" sCount f fd) (b : Binds K fd ["book", "lot"] []) (m : mg "count" = some (.ref f)) (ml : mg "len" = none) (GH : Dfn P w K mg base k "holders" ["book", "lot"] (spHold K)) :
    Dfn P w K mg base (k + 1) "count" ["book", "lot"] (spClose K fun _ bs lot => .int (countF bs lot)) := by
  refine .of F b m scCount (fun vs H Q E h => ?_) (fun cdv A outer s H vs Q E hr h => ?_)
  · obtain ⟨b, many, bs, lot, rfl, _⟩ := h; rfl
  obtain ⟨bk, many, bs, lot, rfl, hB, hz, h0, h1, q⟩ := h
  refine ⟨_, pss_one (ps_ret (pe_callB call_len_seq (by rfl) ml PySem.boot_len (pa_cons (pe_def GH hr (Nat.le_refl _) rfl (pa_cons (pv 0) (pa_cons (pv 1) pa_nil))) pa_nil))), ?_⟩
  refine ⟨_, rfl, _, rfl, bk, many, bs, lot, rfl, hB, hz, fun r H' S hr' h' => ⟨r, _, rfl, .inl (SqL.of h'), ?_⟩⟩
  rw [List.length_map]
  exact q H' S


theorem scCommon : FnScope ["book", "places", "shared", "place"] ["book", "places"] (defScope sCommon) := ⟨rfl, rfl, rfl, by decide +kernel, rfl, by decide +kernel, by decide +kernel⟩
theorem ok_common (F : Fun K "common" "common" sCommon f fd) (b : Binds K fd ["book", "places"] []) (m : mg "common" = some (.ref f)) (G : Dfn P w K mg base k "things_below" ["number"] spTop) : Dfn P w K mg base (k + 1) "common" ["book", "places"] (spCommon K) := by
  refine .of F b m scCommon (fun vs H Q E h => ?_) (fun cdv A outer s H vs Q E hr h => ?_)
  · obtain ⟨b, p, many, bs, ps, rfl, _⟩ := h; rfl
  obtain ⟨bk, p, many, bs, ps, rfl, hB, hp, h0, h1, hps, q⟩ := h
  obtain ⟨l, hb, hl⟩ := hB
  refine ⟨_, pss_cons (ps_set (i := 2) scCommon.nd rfl (Or.inl rfl) (pe_def G hr (Nat.le_refl _) rfl (pa_cons (pe_ix ix_tup (pv 0) pe_int (fun _ _ => rfl)) pa_nil)))
    (pss_cons (ps_for PassesOwn.never rfl (pi_list (pv 1)) (pg_name (i := 3) scCommon.nd rfl (Or.inl rfl)) (pss_one (ps_set (i := 2) scCommon.nd rfl (Or.inl rfl) (pe_op op_and (pv 2) (pe_ix ix_list (pe_ix ix_tup (pv 0) pe_int (fun _ _ => rfl)) (pv 3) (fun _ _ => rfl))))))
    (pss_one (ps_ret (pv 2)))), ?_⟩
  refine ⟨_, rfl, bk, _, _, _, rfl, rfl, hb, rfl, many, rfl, h0, h1, ?_⟩
  refine ⟨_, rfl, p, rfl, ⟨_, hp⟩, for_list (xs := ps.map V.int) (fun i σ H' => H' = H ∧ ∃ z, σ = [some (.ref bk), some (.ref p), some (.int (commonF many bs (ps.take i))), z]) ⟨rfl, _, rfl⟩ (fun i σ H' _ h => by rw [h.1]; exact hp) ?_ ?_⟩
  · intro i x σ H' hx hz_
    obtain ⟨rfl, z, rfl⟩ := hz_
    have hi : i < ps.length := by have := (List.getElem?_eq_some_iff.mp hx).1; rwa [List.length_map] at this
    have hx' := ints_get hx
    subst hx'
    have hm : ps.getD i 0 ∈ ps := by
      rw [List.getD_eq_getElem?_getD, List.getElem?_eq_getElem hi]; exact List.getElem_mem hi
    obtain ⟨g0, g1⟩ := hps _ hm
    refine ⟨_, rfl, _, rfl, bk, _, _, _, rfl, rfl, hb, rfl, _, rfl, l, _, _, _, rfl, rfl, hl, atI_int g0 g1, _, _, rfl, rfl, ?_⟩
    exact ⟨rfl, _, by rw [common_succ hi]; rfl⟩
  · intro σ H' hz_
    obtain ⟨rfl, z, rfl⟩ := hz_
    rw [List.length_map, List.take_length]
    exact ⟨_, rfl, q⟩

theorem scOften : FnScope ["book", "least", "lot", "places"] ["book", "least", "lot"] (defScope sOften) := ⟨rfl, rfl, rfl, by decide +kernel, rfl, by decide +kernel, by decide +kernel⟩
theorem ok_often (F : Fun K "often_closing" "often_closing" sOften f fd) (b : Binds K fd ["book", "least", "lot"] []) (m : mg "often_closing" = some (.ref f)) (ml : mg "len" = none) (GH : Dfn P w K mg base k "holders" ["book", "lot"] (spHold K)) (GC : Dfn P w K mg base k "common" ["book", "places"] (spCommon K)) :
    Dfn P w K mg base (k + 1) "often_closing" ["book", "least", "lot"] (spOften K) := by
  refine .of F b m scOften (fun vs H Q E h => ?_) (fun cdv A outer s H vs Q E hr h => ?_)
  · obtain ⟨b, many, bs, least, lot, rfl, _⟩ := h; rfl
  obtain ⟨bk, many, bs, least, lot, rfl, hB, hz, h0, h1, q⟩ := h
  refine ⟨_, pss_cons (ps_set (i := 3) scOften.nd rfl (Or.inl rfl) (pe_def GH hr (Nat.le_refl _) rfl (pa_cons (pv 0) (pa_cons (pv 2) pa_nil))))
    (pss_cons (ps_if (pt_cmpR op_lt (pe_callB call_len_seq (by rfl) ml PySem.boot_len (pa_cons (pv 3) pa_nil)) (pv 1) (nomark _)) (pss_one (ps_ret pe_non)) pss_nil)
    (pss_one (ps_ret (pe_def GC hr (Nat.le_refl _) rfl (pa_cons (pv 0) (pa_cons (pv 3) pa_nil)))))), ?_⟩
  refine ⟨_, rfl, _, rfl, bk, many, bs, lot, rfl, hB, hz, fun r H' S hr0 hr' => ?_⟩
  refine ⟨_, rfl, r, _, rfl, .inl (SqL.of hr'), _, rfl, _, _, rfl, rfl, _, rfl, ?_⟩
  have e : (((holdF bs lot).map V.int).length : Int) = countF bs lot := by unfold countF; rw [List.length_map]
  rw [e]
  have q' := q H' S
  unfold oftenV at q'
  refine ite2 (fun c => ?_) (fun c => ?_)
  · have c' : countF bs lot < least := of_decide_eq_true c
    rw [if_pos c'] at q'
    exact q'
  · have c' : ¬ countF bs lot < least := of_decide_eq_false (Bool.eq_false_iff.mpr c)
    rw [if_neg c'] at q'
    exact ⟨_, rfl, _, rfl, bk, r, many, bs, holdF bs lot, rfl, hB.same S, SqL.of hr', h0, h1, fun p hp => hold_mem hp, q'⟩

theorem scClosed : FnScope ["book", "least"] ["book", "least"] (defScope sClosed) := ⟨rfl, rfl, rfl, by decide +kernel, rfl, by decide +kernel, by decide +kernel⟩
theorem ndCL : (["lot", "book", "least"] : List Str).Nodup := by decide +kernel
theorem ok_closed (F : Fun K "closed_lots" "closed_lots" sClosed f fd) (b : Binds K fd ["book", "least"] []) (m : mg "closed_lots" = some (.ref f)) (GA : Dfn P w K mg base k "all_lots" ["many"] spAll) (GO : Dfn P w K mg base k "often_closing" ["book", "least", "lot"] (spOften K)) (GN : Dfn P w K mg base k "count" ["book", "lot"] (spClose K fun _ bs lot => .int (countF bs lot))) :
    Dfn P w K mg base (k + 1) "closed_lots" ["book", "least"] (spClosed K) := by
  refine .of F b m scClosed (fun vs H Q E h => ?_) (fun cdv A outer s H vs Q E hr h => ?_)
  · obtain ⟨b, many, bs, least, rfl, _⟩ := h; rfl
  obtain ⟨bk, many, bs, least, rfl, hB, hz, h0, h1, q⟩ := h
  refine ⟨_, pss_one (ps_ret (pe_compC ["lot"] [0, 1] (sc := defScope sClosed) (N := ["book", "least"]) (.inl rfl) rfl ⟨rfl, by decide +kernel, by decide +kernel, by decide +kernel, by decide +kernel⟩ rfl
    (pi_list (pe_def GA hr (Nat.le_refl _) rfl (pa_cons (pe_ix ix_tup (pv 0) pe_int (fun _ _ => rfl)) pa_nil)))
    (fun cl s H C fp => pg_name (i := 0) ndCL rfl (Or.inl rfl))
    (fun cl s H C fp => pifs_one (pt_cmpR op_eq (pe_def GO hr (Nat.le_refl _) rfl (pa_cons (pv 1) (pa_cons (pv 2) (pa_cons (pv 0) pa_nil)))) (pv 0) (nomark _)))
    (fun cl s H C fp => pe_tup (pa_cons (pv 0) (pa_cons (pe_def GN hr (Nat.le_refl _) rfl (pa_cons (pv 1) (pa_cons (pv 0) pa_nil))) pa_nil))))), ?_⟩
  have hB2 := hB
  obtain ⟨l, hb, hl⟩ := hB
  refine ⟨_, rfl, bk, _, _, _, rfl, rfl, hb, rfl, many, rfl, h0, h1, fun r H1 S1 hr0 hr1 => ⟨r, rfl, ⟨_, SqL.of hr1⟩, ?_⟩⟩
  have hp := pow12 h1
  have hlen : ((rangeI (2 ^ many.toNat)).map V.int).length = 2 ^ many.toNat := by rw [List.length_map, rangeI_length]
  refine comp_listR (SqL.of hr1) (fun i => rowsU many bs least i) rfl (fun acc i x ys H2 hacc hi hx S h0' hR => ?_) (fun acc ys H2 hacc S h0' hR => ?_)
  · rw [hlen] at hi ⊢
    have hx' := ints_get hx
    rw [rangeI_getD hi] at hx'
    subst hx'
    have B2 := hB2.same (S1.trans S)
    refine ⟨(Wk.refl _).set (by decide), ?_⟩
    refine ⟨_, rfl, _, rfl, _, rfl, bk, many, bs, least, _, rfl, B2, hz, h0, by omega, fun H3 S3 => ⟨_, rfl, often_scal many bs least _ _, _, rfl, ?_⟩⟩
    rw [often_dec]
    refine ite2 (fun c => ?_) (fun c => ?_)
    · refine ⟨_, rfl, _, rfl, _, rfl, bk, many, bs, _, rfl, B2.same S3, hz, h0, by omega, fun H4 S4 => ⟨(by show 2 ≤ sizeLine; decide), fun p hp0 => ?_⟩⟩
      have z := hR.length
      have z2 := rowsU_len many bs least i
      exact cputR (r := ((i : Int), countF bs (i : Int))) hi hacc S h0' hR (S3.trans (S4.trans (same_new hp0 _))) upd_same (rowsU_yes c) (small4096 (by omega))
    · exact cskipR hi S h0' hR S3 (rowsU_no (by simpa using c))
  · rw [hlen] at hR
    exact q acc ys H2 (S1.trans S) (S1.free hacc) h0' hR

theorem scCell : FnScope ["_law_script", "_law_k"] ["_law_script", "_law_k"] (defScope sCell) := ⟨rfl, rfl, rfl, by decide +kernel, rfl, by decide +kernel, by decide +kernel⟩
theorem ok_cell (F : Fun K "_law_cell_at" "_law_cell_at" sCell f fd) (b : Binds K fd ["_law_script", "_law_k"] []) (m : mg "_law_cell_at" = some (.ref f)) (ml : mg "len" = none) : Dfn P w K mg base (k + 1) "_law_cell_at" ["_law_script", "_law_k"] (spCell K) := by
  refine .of F b m scCell (fun vs H Q E h => ?_) (fun cdv A outer s H vs Q E hr h => ?_)
  · obtain ⟨a, ns, k, rfl, _⟩ := h; rfl
  obtain ⟨a, ns, i, rfl, hS, h0, q⟩ := h
  refine ⟨_, pss_cons (ps_if (pt_cmpR op_lt (pv 1) (pe_callB call_len_seq rfl ml PySem.boot_len (pa_cons (pv 0) pa_nil)) (nomark _)) (pss_one (ps_ret (pe_ix ix_list (pv 0) (pv 1) (fun _ _ => rfl)))) pss_nil) (pss_one (ps_ret pe_int)), ?_⟩
  refine ⟨_, rfl, _, rfl, a, _, rfl, .inl hS, _, _, rfl, rfl, _, rfl, ?_⟩
  rw [List.length_map]
  refine ite2 (fun c => ?_) (fun c => ?_)
  · have c' : i < (ns.length : Int) := of_decide_eq_true c
    exact ⟨_, rfl, _, rfl, a, _, _, _, rfl, rfl, hS, atI_int h0 c', q⟩
  · have c' : ¬ i < (ns.length : Int) := of_decide_eq_false (Bool.eq_false_iff.mpr c)
    have e : cellF ns i = 0 := by
      unfold cellF
      rw [List.getD_eq_getElem?_getD, List.getElem?_eq_none (by omega)]; rfl
    rw [e] at q
    exact q

theorem scDraws : FnScope ["_law_cell", "_law_many", "_law_base", "_law_found", "_law_left", "_law_k", "_law_number"] ["_law_cell", "_law_many", "_law_base"] (defScope sDraws) := ⟨rfl, rfl, rfl, by decide +kernel, rfl, by decide +kernel, by decide +kernel⟩
theorem ok_draws (F : Fun K "_law_draws" "_law_draws" sDraws f fd) (b : Binds K fd ["_law_cell", "_law_many", "_law_base"] []) (m : mg "_law_draws" = some (.ref f)) (ma : mg "abs" = none) (mr : mg "range" = none) : Dfn P w K mg base (k + 1) "_law_draws" ["_law_cell", "_law_many", "_law_base"] spDraws := by
  refine .of F b m scDraws (fun vs H Q E h => ?_) (fun cdv A outer s H vs Q E hr h => ?_)
  · obtain ⟨c, m, b, rfl, _⟩ := h; rfl
  obtain ⟨c, n, bs, rfl, n0, n1, b0, b1, q⟩ := h
  refine ⟨_, pss_cons (ps_set (i := 3) scDraws.nd rfl (Or.inl rfl) (pe_lst pa_nil))
    (pss_cons (ps_set (i := 4) scDraws.nd rfl (Or.inl rfl) (pv 0))
    (pss_cons (ps_for PassesOwn.never rfl (pi_range1 rfl mr (pa_cons (pv 1) pa_nil)) (pg_name (i := 5) scDraws.nd rfl (Or.inl rfl))
      (pss_one (ps_if (pw_and (pt_cmpR op_ge (pe_callB call_abs (by rfl) ma PyProof.Rows.boot_abs (pa_cons (pv 0) pa_nil)) (pe_op op_pow pe_int pe_int) (nomark _)) (pw_and (pt_cmpR op_ne (pv 4) pe_int (nomark _)) (pw_and1 (pt_cmpR op_ne (pv 4) (pe_un un_neg pe_int) (nomark _))))).pt
        (pss_cons (ps_expr (pe_bm PySem.F.plainAttrs_list PySem.F.slot_list_append PySem.F.type_list_append mt_append (pv 3) (pa_cons (pe_op op_mod (pv 4) (pv 2)) pa_nil)))
          (pss_one (ps_set (i := 4) scDraws.nd rfl (Or.inl rfl) (pe_op op_fdiv (pv 4) (pv 2)))))
        (pss_cons (ps_set (i := 6) scDraws.nd rfl (Or.inl rfl) (pe_op op_mod (pe_op op_add (pe_op op_mul (pe_op op_add (pv 0) pe_int) pe_int) (pe_op op_mul pe_int (pv 5))) pe_int))
          (pss_cons (ps_set (i := 6) scDraws.nd rfl (Or.inl rfl) (pe_op op_mod (pe_op op_add (pe_op op_add (pe_op op_mul (pv 6) (pv 6)) (pe_op op_mul pe_int (pv 5))) pe_int) pe_int))
            (pss_one (ps_expr (pe_bm PySem.F.plainAttrs_list PySem.F.slot_list_append PySem.F.type_list_append mt_append (pv 3) (pa_cons (pe_op op_mod (pe_op op_fdiv (pe_op op_mod (pe_op op_mul (pv 6) (pv 6)) pe_int) pe_int) (pv 2)) pa_nil)))))))))
    (pss_one (ps_ret (pv 3))))), ?_⟩
  refine ⟨(by show 0 ≤ sizeLine; decide), fun r hr0 => ?_⟩
  refine ⟨_, rfl, ?_⟩
  refine ⟨_, rfl, n, rfl, by omega, by omega, for_range (fun i σ H' => Ex4 fun (ds : List Int) (left : Int) (z1 z2 : Option V) => σ = [some (.int c), some (.int n), some (.int bs), some (.ref r), some (.int left), z1, z2] ∧ ds.length = i ∧ (∀ d ∈ ds, 0 ≤ d ∧ d < bs) ∧ Same H H' ∧ H' r = some (.lst (ds.map V.int)))
    ⟨[], c, none, none, rfl, rfl, (fun d hd => nomatch hd), same_new hr0 _, upd_same⟩ ?_ ?_⟩
  · intro i σ H' hi hz_
    first | (refine Ex4.st σ hz_ fun ds left z1 z2 hz_ => ?_; have hl := hz_.1; have hd := hz_.2.1; have S := hz_.2.2.1; have h' := hz_.2.2.2; clear hz_) | obtain ⟨ds, left, z1, z2, rfl, hl, hd, S, h'⟩ := hz_
    have hz : (ds.map V.int).length < sizeLine := by rw [List.length_map]; exact small1000 (by omega)
    have put : ∀ (y : Int), 0 ≤ y → y < bs → ∀ d ∈ ds ++ [y], 0 ≤ d ∧ d < bs := fun y y0 y1 d hm => by
      obtain z | z := List.mem_append.mp hm
      · exact hd d z
      · have : d = y := by simpa using z
        omega
    have S2 : ∀ o, Same H (upd H' r o) := fun o b u e => by rw [upd_ne (ne_of_none e hr0)]; exact S b u e
    have e2 : ∀ y : Int, ds.map V.int ++ [.int y] = (ds ++ [y]).map V.int := fun y => by rw [List.map_append]; rfl
    have len2 : ∀ y : Int, (ds ++ [y]).length = i + 1 := fun y => by rw [List.length_append, hl]; rfl
    refine pureAnd (c := _) (d := _) (fun Q h => ⟨_, rfl, _, rfl, _, _, rfl, rfl, ⟨by decide, by decide, by decide⟩, _, _, rfl, rfl, _, rfl, h⟩) (fun _ => pureAnd (c := _) (d := _) (fun Q h => ⟨_, rfl, rfl, _, rfl, h⟩) (fun _ => fun Q h => ⟨_, rfl, _, rfl, rfl, _, rfl, h⟩)) _ ?_
    refine ite2 (fun c => ?_) (fun c => ?_)
    · refine ⟨_, rfl, .inl ⟨rfl, _, SqL.of h'⟩, _, rfl, _, rfl, _, _, rfl, rfl, b0, r, _, _, rfl, rfl, h', hz, ?_⟩
      refine ⟨_, rfl, _, rfl, _, _, rfl, rfl, ⟨b0, b1⟩, ?_⟩
      exact ⟨ds ++ [left % bs], _, _, _, rfl, len2 _, put _ (Int.emod_nonneg _ (by omega)) (Int.emod_lt_of_pos _ b0), S2 _, by rw [upd_same, e2]⟩
    · refine ⟨_, rfl, _, _, rfl, rfl, _, _, rfl, rfl, .inr ⟨by decide, by decide⟩, _, rfl, _, _, rfl, rfl, .inl ⟨by decide, by decide⟩, _, _, rfl, rfl, _, _, rfl, rfl, (by show (0 : Int) < 2147483629; decide), ?_⟩
      refine ⟨_, rfl, _, rfl, _, _, rfl, rfl, .inl (mod_ok _ (by decide) (by decide)), _, rfl, _, _, rfl, rfl, .inl ⟨by decide, by decide⟩, _, _, rfl, rfl, _, _, rfl, rfl, _, _, rfl, rfl, (by show (0 : Int) < 2147483629; decide), ?_⟩
      refine ⟨_, rfl, .inl ⟨rfl, _, SqL.of h'⟩, _, rfl, _, rfl, _, _, rfl, rfl, .inl (mod_ok _ (by decide) (by decide)), _, _, rfl, rfl, (by show (0 : Int) < 2147483587; decide), _, _, rfl, rfl, ⟨by decide, by decide⟩, _, rfl, _, _, rfl, rfl, b0, r, _, _, rfl, rfl, h', hz, ?_⟩
      exact ⟨ds ++ [_ % bs], _, _, _, rfl, len2 _, put _ (Int.emod_nonneg _ (by omega)) (Int.emod_lt_of_pos _ b0), S2 _, by rw [upd_same, e2]⟩
  · intro σ H' hz_
    first | (refine Ex4.st σ hz_ fun ds left z1 z2 hz_ => ?_; have hl := hz_.1; have hd := hz_.2.1; have S := hz_.2.2.1; have h' := hz_.2.2.2; clear hz_) | obtain ⟨ds, left, z1, z2, rfl, hl, hd, S, h'⟩ := hz_
    exact ⟨_, rfl, q r H' ds S hr0 h' (by omega) hd⟩

theorem scCountL : FnScope ["_law_book", "_law_lot"] ["_law_book", "_law_lot"] (defScope sCountL) := ⟨rfl, rfl, rfl, by decide +kernel, rfl, by decide +kernel, by decide +kernel⟩
theorem ndBL : (["_law_basket", "_law_lot"] : List Str).Nodup := by decide +kernel
theorem ok_countL (F : Fun K "_law_count" "_law_count" sCountL f fd) (b : Binds K fd ["_law_book", "_law_lot"] []) (m : mg "_law_count" = some (.ref f)) (ml : mg "len" = none) :
    Dfn P w K mg base (k + 1) "_law_count" ["_law_book", "_law_lot"] (spClose K fun _ bs lot => .int (countF bs lot)) := by
  refine .of F b m scCountL (fun vs H Q E h => ?_) (fun cdv A outer s H vs Q E hr h => ?_)
  · obtain ⟨b, many, bs, lot, rfl, _⟩ := h; rfl
  obtain ⟨bk, many, bs, lot, rfl, hB, hz, h0, h1, q⟩ := h
  refine ⟨_, pss_one (ps_ret (pe_callB call_len_seq (by rfl) ml PySem.boot_len (pa_cons (pe_compC ["_law_basket"] [1] (sc := defScope sCountL) (N := ["_law_book", "_law_lot"]) (.inl rfl) rfl ⟨rfl, by decide +kernel, by decide +kernel, by decide +kernel, by decide +kernel⟩ rfl
    (pi_list (pe_ix ix_tup (pv 0) pe_int (fun _ _ => rfl))) (fun cl s H C fp => pg_name (i := 0) ndBL rfl (Or.inl rfl)) (fun cl s H C fp => pifs_one (pt_cmpR op_eq (pe_op op_and (pv 0) (pv 1)) (pv 1) (nomark _))) (fun cl s H C fp => pv 0)) pa_nil))), ?_⟩
  obtain ⟨l, hb, hl⟩ := hB
  refine ⟨_, rfl, bk, _, _, _, rfl, rfl, hb, rfl, l, rfl, ⟨_, hl⟩, ?_⟩
  refine comp_list hl (fun i => ((bs.take i).filter fun b => hasF b lot).map V.int) rfl (fun acc i x H2 hacc hi hx S h0' => ?_) (fun acc H2 hacc S h0' => ?_)
  · rw [List.length_map] at hi ⊢
    have hx' := ints_get hx
    subst hx'
    have tk := take_get hi
    refine ⟨(Wk.refl _).set (by decide), ?_⟩
    refine ⟨_, rfl, _, rfl, _, _, rfl, rfl, _, rfl, rfl, _, rfl, ?_⟩
    rw [int_eq]
    refine ite2 (fun c => ?_) (fun c => ?_)
    · refine ⟨_, rfl, cput hi hacc S h0' (Same.refl _) ?_ ?_⟩
      · show ((bs.take (i + 1)).filter _).map V.int = _
        rw [tk, List.filter_append, List.map_append, List.filter_cons, if_pos (show hasF (bs.getD i 0) lot = true from c)]; rfl
      · rw [List.length_map]
        have z := List.length_filter_le (fun b => hasF b lot) (bs.take i)
        rw [List.length_take] at z
        exact small1000 (by omega)
    · refine cskip hi S h0' (Same.refl _) ?_
      show ((bs.take (i + 1)).filter _).map V.int = _
      rw [tk, List.filter_append, List.filter_cons, if_neg (show ¬ hasF (bs.getD i 0) lot = true from c)]
      simp
  · rw [List.length_map, List.take_length] at h0'
    refine ⟨acc, _, rfl, .inl (SqL.of h0'), ?_⟩
    rw [count_take]
    exact q H2 S

end
end OL.Q30

namespace OL.Q30
open PySem L2 OL
section
variable {P : Program} {w : World} {K : PySem.W.Frag} {mg : Str → Option Value} {base : Heap} {f : Addr} {fd : FuncData} {k : Nat}
open OL.K30
theorem lp0 {f : Str} {v : V} : (putF f v []).length < 2 := Nat.lt_succ_of_le (length_putF f v [])
theorem lpS {f : Str} {v : V} {fs : List (Str × V)} {n : Nat} (h : fs.length < n) : (putF f v fs).length < n + 1 := Nat.lt_of_le_of_lt (length_putF f v fs) (Nat.succ_lt_succ h)
noncomputable abbrev n_Keeper___init__ : List Str := ["self", "many", "least", "most"]
theorem sc_Keeper___init__ : FnScope n_Keeper___init__ ["self", "many", "least", "most"] (defScope s_Keeper___init__) := ⟨rfl, rfl, rfl, by decide +kernel, rfl, by decide +kernel, by decide +kernel⟩
theorem ok_Keeper___init__ {C : Addr} (F : Fun K "__init__" "Keeper.__init__" s_Keeper___init__ f fd) (b : Binds K fd ["self", "many", "least", "most"] []) (m : Mk K C f)  (kC : Kls K mg C)  : Ifn P w K mg base (k + 2) C ["self", "many", "least", "most"] (K30.sp3Init C) := by
  refine .of F b m sc_Keeper___init__ (fun vs H Q E h => ?_) (fun cdv A outer s H vs Q E hr h => ?_)
  · obtain ⟨p, dx, many, least, most, rfl, hp, q⟩ := h; rfl
  obtain ⟨p, dx, many, least, most, rfl, hp, q⟩ := h
  have nd := sc_Keeper___init__.nd
  refine ⟨_, pss_cons (ps_fld (pv 0) (pv 1) rfl)
    (pss_cons (ps_fld (pv 0) (pv 2) rfl)
    (pss_cons (ps_fld (pv 0) (pv 3) rfl)
    (pss_cons (ps_fld (pv 0) (pe_lst pa_nil) rfl)
    (pss_cons (ps_fld (pv 0) (pe_lst pa_nil) rfl)
    (pss_one (ps_fld (pv 0) (pe_lst pa_nil) rfl)))))), ?_⟩
  refine ⟨_, rfl, _, rfl, p, C, dx, _, rfl, hp, kC.cl, kC.n_many, (by decide), ?_⟩
  refine ⟨_, rfl, _, rfl, p, C, dx, _, rfl, upd_same, kC.cl, kC.n_least, Nat.lt_of_lt_of_le lp0 (by decide), ?_⟩
  refine ⟨_, rfl, _, rfl, p, C, dx, _, rfl, upd_same, kC.cl, kC.n_most, Nat.lt_of_lt_of_le (lpS lp0) (by decide), ?_⟩
  refine ⟨nil_len, fun kp hkp => ⟨_, rfl, p, C, dx, _, rfl, (same_new hkp _) _ _ upd_same, kC.cl, kC.n_kept, Nat.lt_of_lt_of_le (lpS (lpS lp0)) (by decide), ?_⟩⟩
  refine ⟨nil_len, fun ah hah => ⟨_, rfl, p, C, dx, _, rfl, (same_new hah _) _ _ upd_same, kC.cl, kC.n_told_ahead, Nat.lt_of_lt_of_le (lpS (lpS (lpS lp0))) (by decide), ?_⟩⟩
  refine ⟨nil_len, fun nw hnw => ⟨_, rfl, p, C, dx, _, rfl, (same_new hnw _) _ _ upd_same, kC.cl, kC.n_told_now, Nat.lt_of_lt_of_le (lpS (lpS (lpS (lpS lp0)))) (by decide), ?_⟩⟩
  have nkp : kp ≠ p := fun z => by rw [z, upd_same] at hkp; cases hkp
  have nnw : nw ≠ p := fun z => by rw [z, upd_same] at hnw; cases hnw
  have nah : ah ≠ p := fun z => by rw [z, upd_same] at hah; cases hah
  have nnk : nw ≠ kp := fun z => by
    rw [z, putk nkp ((same_new hah _) _ _ (putk nkp upd_same))] at hnw; cases hnw
  have nak : ah ≠ kp := fun z => by rw [z, putk nkp upd_same] at hah; cases hah
  have nna : nw ≠ ah := fun z => by rw [z, putk nah upd_same] at hnw; cases hnw
  have hahH : H ah = none := by
    have z := hah
    rw [upd_ne nah, upd_ne nak, upd_ne nah, upd_ne nah, upd_ne nah] at z; exact z
  have hnwH : H nw = none := by
    have z := hnw
    rw [upd_ne nnw, upd_ne nna, upd_ne nnw, upd_ne nnk, upd_ne nnw, upd_ne nnw, upd_ne nnw] at z; exact z
  refine q kp _ ((Fr1.refl p H).put.put.put.free upd_same hkp) ⟨⟨dx, ah, nw, [], [], upd_same, ?_, .nil, putk nnw upd_same, .nil, nnk, ?_, ?_⟩, [], ?_, .nil, fun l hl => nomatch hl⟩ ?_
  · exact putk nah ((same_new hnw _) _ _ (putk nah upd_same))
  · intro hz_
    obtain (z | ⟨o, z⟩) := hz_
    · exact nak z
    · rw [hahH] at z; cases z
  · intro hz_
    obtain (z | ⟨o, z⟩) := hz_
    · exact nnk z
    · rw [hnwH] at z; cases z
  · exact putk nkp ((same_new hnw _) _ _ (putk nkp ((same_new hah _) _ _ (putk nkp upd_same))))
  · exact (((((((Fr1.refl p H).put.put.put).same (same_new hkp _)).put).same (same_new hah _)).put).same (same_new hnw _)).put
noncomputable abbrev n_Keeper_book : List Str := ["self", "baskets", "day"]
theorem sc_Keeper_book : FnScope n_Keeper_book ["self"] (defScope s_Keeper_book) := ⟨rfl, rfl, rfl, by decide +kernel, rfl, by decide +kernel, by decide +kernel⟩
theorem ok_Keeper_book {C : Addr} (F : Fun K "book" "Keeper.book" s_Keeper_book f fd) (b : Binds K fd ["self"] []) (m : Meth K C "book" f)  (kC : Kls K mg C)  : Mfn P w K mg base (k + 1) C "book" ["self"] (K30.sp3Book C) := by
  refine .of F b m sc_Keeper_book (fun vs H Q E h => ?_) (fun cdv A outer s H vs Q E hr h => ?_)
  · obtain ⟨p, kp, many, least, most, D, B, rfl, hK, hD, q⟩ := h; rfl
  obtain ⟨p, kp, many, least, most, D, B, rfl, hK, hD, q⟩ := h
  have nd := sc_Keeper_book.nd
  refine ⟨_, pss_cons (ps_set (i := 1) nd rfl (Or.inl rfl) (pe_lst pa_nil))
    (pss_cons (ps_for PassesOwn.never rfl (pi_list (pe_fld (pv 0) rfl)) (pg_name (i := 2) nd rfl (Or.inl rfl))
      (pss_one (ps_expr (pe_bm PySem.F.plainAttrs_list PySem.F.slot_list_extend PySem.F.type_list_extend mt_extend (pv 1) (pa_cons (pv 2) pa_nil)))))
    (pss_one (ps_ret (pe_tup (pa_cons (pe_fld (pv 0) rfl) (pa_cons (pv 1) pa_nil)))))), ?_⟩
  obtain ⟨⟨dx, ah, nw, vs, hp, _, _⟩, us, hk, hu⟩ := hK
  refine ⟨nil_len, fun l hl => ?_⟩
  have S1 := same_new hl (.lst [])
  have hl1 : upd H l (.lst []) l = some (.lst []) := upd_same
  generalize upd H l (.lst []) = H1 at S1 hl1 ⊢
  have nl : ∀ {b o}, H b = some o → b ≠ l := fun e => ne_of_none e hl
  have ul := Paired.length hu
  refine ⟨_, rfl, p, C, dx, _, _, rfl, S1 _ _ hp, kC.cl, kC.n_kept, fl_kept, kp, rfl, ⟨_, SqL.of (S1 _ _ hk)⟩, for_list (xs := us) (fun i σ H' => ∃ z, σ = [some (.ref p), some (.ref l), z] ∧ Same H H' ∧ H' l = some (.lst ((D.take i).flatten.map V.int))) ⟨_, rfl, S1, hl1⟩ (fun i σ H' _ h => by obtain ⟨_, _, S, _⟩ := h; exact SqL.of (S _ _ hk)) ?_ ?_⟩
  · intro i v σ H' hv hz_
    obtain ⟨z, rfl, S2, hl2⟩ := hz_
    obtain ⟨d, hd, d0, rfl, hd0⟩ := paired_take hu hv
    try dsimp only [gName]
    have f1 := (hD.take i).flat.1
    have f2 := (hD.2 d (List.mem_of_getElem? hd)).1
    refine ⟨_, rfl, tyL hl2, _, rfl, l, d0, _, _, rfl, rfl, hl2, S2 _ _ hd0, (by rw [List.length_map, List.length_map]; exact small (by omega)), _, rfl, same_put S2 hl, ?_⟩
    rw [flat_take hd, List.map_append]
    exact upd_same
  · intro σ H' hz_
    obtain ⟨z, rfl, S2, hl2⟩ := hz_
    try dsimp only [gName]
    refine ⟨_, rfl, p, C, dx, _, _, rfl, S2 _ _ hp, kC.cl, kC.n_many, fl_many, _, rfl, (by show 2 ≤ sizeLine; decide), fun b hb => ?_⟩
    rw [List.take_of_length_le (by omega)] at hl2
    exact q b l _ (S2.trans (same_new hb _)) (S2.free hb) hl upd_same ((same_new hb _) _ _ hl2)
noncomputable abbrev n_Keeper_tell_anew : List Str := ["self"]
theorem sc_Keeper_tell_anew : FnScope n_Keeper_tell_anew ["self"] (defScope s_Keeper_tell_anew) := ⟨rfl, rfl, rfl, by decide +kernel, rfl, by decide +kernel, by decide +kernel⟩
theorem ok_Keeper_tell_anew {C : Addr} (F : Fun K "tell_anew" "Keeper.tell_anew" s_Keeper_tell_anew f fd) (b : Binds K fd ["self"] []) (m : Meth K C "tell_anew" f)  (kC : Kls K mg C) (G_closed_lots : Dfn P w K mg base k "closed_lots" ["book", "least"] (spClosed K)) (G_Keeper_book : Mfn P w K mg base k C "book" ["self"] (K30.sp3Book C)) : Mfn P w K mg base (k + 1) C "tell_anew" ["self"] (K30.sp3Tell C) := by
  refine .of F b m sc_Keeper_tell_anew (fun vs H Q E h => ?_) (fun cdv A outer s H vs Q E hr h => ?_)
  · obtain ⟨p, kp, many, least, most, D, B, Z, rfl, hK, hZ, hD, m0, m12, q⟩ := h; rfl
  obtain ⟨p, kp, many, least, most, D, B, Z, rfl, hK, hZ, hD, m0, m12, q⟩ := h
  have nd := sc_Keeper_tell_anew.nd
  have le := Nat.le_refl k
  refine ⟨_, pss_cons (ps_fld (pv 0) (pe_fld (pv 0) rfl) rfl)
    (pss_one (ps_fld (pv 0) (pe_def G_closed_lots hr le rfl (pa_cons (pe_mdef0 kC.cl (pv 0) G_Keeper_book hr le) (pa_cons (pe_fld (pv 0) rfl) pa_nil))) rfl)), ?_⟩
  obtain ⟨⟨dx, ah, nw, bs, hp, hnw, hRB, zn⟩, us, hk, hu, zu⟩ := hK
  refine ⟨_, rfl, p, C, dx, _, _, rfl, hp, kC.cl, kC.n_told_now, fl_told_now, _, rfl, p, C, dx, _, rfl, hp, kC.cl, kC.n_told_ahead, fl_len, ?_⟩
  rw [fl_put_ahead]
  have F1 : Fr1 p H (upd H p (.ins C dx (fl many least most kp nw nw))) := (Fr1.refl p H).put
  have hp1 : upd H p (.ins C dx (fl many least most kp nw nw)) p = some (.ins C dx (fl many least most kp nw nw)) := upd_same
  generalize upd H p (.ins C dx (fl many least most kp nw nw)) = H1 at F1 hp1 ⊢
  have nkp := lst_ne_ins hp hk
  have hk1 := F1 _ _ hk nkp
  have hu1 := lsts_fr1 hp F1 hu
  have hnw1 := F1 _ _ hnw (lst_ne_ins hp hnw)
  have hRB1 := rows_fr1 hp F1 hRB
  have f25 := hD.flat.1
  refine ⟨_, rfl, p, dx, _, rfl, hp1, fl_no_book, p, kp, many, least, most, D, B, rfl, ⟨⟨dx, _, _, bs, hp1, hnw1, hRB1⟩, us, hk1, hu1⟩, hD, fun b l H2 S2 hb hl hb2 hl2 => ⟨_, rfl, p, C, dx, _, _, rfl, S2 _ _ hp1, kC.cl, kC.n_least, fl_least, b, many, _, least, rfl, ⟨l, SqT.of hb2, SqL.of hl2⟩, by omega, m0, m12, fun r xs H3 S3 hr0 hr3 hR => ⟨_, rfl, p, C, dx, _, rfl, (S2.trans S3) _ _ hp1, kC.cl, kC.n_told_now, fl_len, ?_⟩⟩⟩
  rw [fl_put_now]
  have hp3 := (S2.trans S3) _ _ hp1
  have F3 : Fr1 p H3 (upd H3 p (.ins C dx (fl many least most kp nw r))) := (Fr1.refl p H3).put
  have hnw3 := (S2.trans S3) _ _ hnw1
  exact q _ ⟨⟨dx, nw, r, bs, xs, upd_same, F3 _ _ hnw3 (lst_ne_ins hp3 hnw3), rows_fr1 hp3 F3 (hRB1.same (S2.trans S3).t), F3 _ _ hr3 (lst_ne_ins hp3 hr3), rows_fr1 hp3 F3 hR, (ne_of_none (S2 _ _ hk1) hr0).symm, zn, fun z => by
    obtain ⟨o, ho⟩ := hZ _ z
    have h1 := S2.free hr0
    by_cases e : r = p
    · rw [e, hp1] at h1; cases h1
    · rw [F1 _ _ ho e] at h1; cases h1⟩, us, F3 _ _ ((S2.trans S3) _ _ hk1) nkp, lsts_fr1 hp3 F3 (lsts_same (S2.trans S3) hu1), zu⟩ ((F1.same (S2.trans S3)).trans F3)
noncomputable abbrev n_Keeper_closed : List Str := ["self"]
theorem sc_Keeper_closed : FnScope n_Keeper_closed ["self"] (defScope s_Keeper_closed) := ⟨rfl, rfl, rfl, by decide +kernel, rfl, by decide +kernel, by decide +kernel⟩
theorem ok_Keeper_closed {C : Addr} (F : Fun K "closed" "Keeper.closed" s_Keeper_closed f fd) (b : Binds K fd ["self"] []) (m : Meth K C "closed" f) (M_list : mg "list" = none) (kC : Kls K mg C)  : Mfn P w K mg base (k + 1) C "closed" ["self"] (K30.sp3Closed C) := by
  refine .of F b m sc_Keeper_closed (fun vs H Q E h => ?_) (fun cdv A outer s H vs Q E hr h => ?_)
  · obtain ⟨p, kp, many, least, most, D, A', B', rfl, hK, q⟩ := h; rfl
  obtain ⟨p, kp, many, least, most, D, A', B', rfl, hK, q⟩ := h
  have nd := sc_Keeper_closed.nd
  refine ⟨_, pss_one (ps_ret (pe_callTy call_list_of (by rfl) M_list PyProof.Rows.boot_list (pa_cons (pe_fld (pv 0) rfl) pa_nil))), ?_⟩
  obtain ⟨⟨dx, ah, nw, as, ws, hp, _, _, hnw, hR, _⟩, us, hk, hu⟩ := hK
  exact ⟨_, rfl, p, C, dx, _, _, rfl, hp, kC.cl, kC.n_told_now, fl_told_now, nw, ws, rfl, .inl (SqL.of hnw), fun t ht => q t ws _ (same_new ht _) ht upd_same (hR.same fun _ _ h => (same_new ht _) _ _ h)⟩
noncomputable abbrev n_Keeper_count : List Str := ["self", "lot"]
theorem sc_Keeper_count : FnScope n_Keeper_count ["self", "lot"] (defScope s_Keeper_count) := ⟨rfl, rfl, rfl, by decide +kernel, rfl, by decide +kernel, by decide +kernel⟩
theorem ok_Keeper_count {C : Addr} (F : Fun K "count" "Keeper.count" s_Keeper_count f fd) (b : Binds K fd ["self", "lot"] []) (m : Meth K C "count" f) (M_len : mg "len" = none) (kC : Kls K mg C) (G_holders : Dfn P w K mg base k "holders" ["book", "lot"] (spHold K)) (G_Keeper_book : Mfn P w K mg base k C "book" ["self"] (K30.sp3Book C)) : Mfn P w K mg base (k + 1) C "count" ["self", "lot"] (K30.sp3Count C) := by
  refine .of F b m sc_Keeper_count (fun vs H Q E h => ?_) (fun cdv A outer s H vs Q E hr h => ?_)
  · obtain ⟨p, kp, many, least, most, lot, D, A', B', rfl, hK, hD, q⟩ := h; rfl
  obtain ⟨p, kp, many, least, most, lot, D, A', B', rfl, hK, hD, q⟩ := h
  have nd := sc_Keeper_count.nd
  have le := Nat.le_refl k
  refine ⟨_, pss_one (ps_ret (pe_callB call_len_seq (by rfl) M_len PySem.boot_len (pa_cons (pe_def G_holders hr le rfl (pa_cons (pe_mdef0 kC.cl (pv 0) G_Keeper_book hr le) (pa_cons (pv 1) pa_nil))) pa_nil))), ?_⟩
  have hW := hK.w
  obtain ⟨⟨dx, ah, nw, as, ws, hp, _, _, hnw, hR, _⟩, us, hk, hu⟩ := hK
  have f25 := hD.flat.1
  refine ⟨_, rfl, p, dx, _, rfl, hp, fl_no_book, p, kp, many, least, most, D, B', rfl, hW, hD, fun b l H1 S1 _ _ hb hl => ⟨_, rfl, b, many, _, lot, rfl, ⟨l, SqT.of hb, SqL.of hl⟩, by omega, fun r H2 S2 hr0 hr2 => ⟨r, _, rfl, .inl (SqL.of hr2), ?_⟩⟩⟩
  rw [List.length_map]
  exact q _ (S1.trans S2)
noncomputable abbrev n_Keeper_come : List Str := ["self", "day"]
theorem sc_Keeper_come : FnScope n_Keeper_come ["self", "day"] (defScope s_Keeper_come) := ⟨rfl, rfl, rfl, by decide +kernel, rfl, by decide +kernel, by decide +kernel⟩
theorem ok_Keeper_come {C : Addr} (F : Fun K "come" "Keeper.come" s_Keeper_come f fd) (b : Binds K fd ["self", "day"] []) (m : Meth K C "come" f) (M_list : mg "list" = none) (M_len : mg "len" = none) (kC : Kls K mg C) (G_Keeper_tell_anew : Mfn P w K mg base k C "tell_anew" ["self"] (K30.sp3Tell C)) : Mfn P w K mg base (k + 1) C "come" ["self", "day"] (K30.sp3Come K C) := by
  refine .of F b m sc_Keeper_come (fun vs H Q E h => ?_) (fun cdv A outer s H vs Q E hr h => ?_)
  · obtain ⟨p, kp, d, many, least, most, D, A', B', day, Z, rfl, hK, hZ, hd, hD, hD4, hl5, hin, m0, m12, q⟩ := h; rfl
  obtain ⟨p, kp, d, many, least, most, D, A', B', day, Z, rfl, hK, hZ, hd, hD, hD4, hl5, hin, m0, m12, q⟩ := h
  have nd := sc_Keeper_come.nd
  have le := Nat.le_refl k
  refine ⟨_, pss_cons (ps_expr (pe_bm PySem.F.plainAttrs_list PySem.F.slot_list_append PySem.F.type_list_append mt_append (pe_fld (pv 0) rfl) (pa_cons (pe_callTy call_list_of (by rfl) M_list PyProof.Rows.boot_list (pa_cons (pv 1) pa_nil)) pa_nil)))
    (pss_mid (ps_if (pt_cmpR op_gt (pe_callB call_len_seq (by rfl) M_len PySem.boot_len (pa_cons (pe_fld (pv 0) rfl) pa_nil)) (pe_fld (pv 0) rfl) (nomark _)) (pss_one (ps_expr (pe_bm PySem.F.plainAttrs_list PySem.F.slot_list_pop PySem.F.type_list_pop mt_popAt (pe_fld (pv 0) rfl) (pa_cons pe_int pa_nil)))) pss_nil)
    (pss_one (ps_expr (pe_mdef0 kC.cl (pv 0) G_Keeper_tell_anew hr le)))), ?_⟩
  obtain ⟨⟨dx, ah, nw, as, ws, hp, _, _, hnw, hR, nnk, za, zn⟩, us, hk, hu, zu⟩ := hK
  have ul := Paired.length hu
  have nkp := lst_ne_ins hp hk
  refine ⟨_, rfl, p, C, dx, _, _, rfl, hp, kC.cl, kC.n_kept, fl_kept, tyL hk, _, rfl, d, _, rfl, .inl hd, fun l hl => ⟨kp, us, _, rfl, rfl, (same_new hl _) _ _ hk, (small1000 (by omega)), ?_⟩⟩
  have nlk : l ≠ kp := (ne_of_none hk hl).symm
  have nlp : l ≠ p := (ne_of_none hp hl).symm
  have F1 : Fr1 kp H (upd (upd H l (.lst (day.map V.int))) kp (.lst (us ++ [.ref l]))) := ((Fr1.refl kp H).same (same_new hl _)).put
  have hp1 := F1 _ _ hp nkp.symm
  have hk1 : upd (upd H l (.lst (day.map V.int))) kp (.lst (us ++ [.ref l])) kp = some (.lst (us ++ [.ref l])) := upd_same
  have hl1 : upd (upd H l (.lst (day.map V.int))) kp (.lst (us ++ [.ref l])) l = some (.lst (day.map V.int)) := putk nlk upd_same
  have hnw1 := F1 _ _ hnw nnk
  have hR1 : Rows (upd (upd H l (.lst (day.map V.int))) kp (.lst (us ++ [.ref l]))) ws B' := rows_fr2 hp hk F1.fr' hR
  have hu1 : Paired (LstI (upd (upd H l (.lst (day.map V.int))) kp (.lst (us ++ [.ref l])))) (us ++ [.ref l]) (D ++ [day]) := Paired.snoc (lsts_fr F1.fr (q := kp) (fun b hb => ⟨kept_ne hk hu hb, kept_ne hk hu hb⟩) hu) ⟨l, rfl, hl1⟩
  have hne : ∀ b, V.ref b ∈ us ++ [.ref l] → b ≠ kp := fun b hb => kept_ne hk1 hu1 hb
  generalize upd (upd H l (.lst (day.map V.int))) kp (.lst (us ++ [.ref l])) = H1 at F1 hp1 hk1 hl1 hu1 hnw1 hR1 ⊢
  have hDs := hD.snoc hD4 hl5 hin
  have zu1 : ∀ b, V.ref b ∈ us ++ [.ref l] → ¬Z b := fun b hb z => by
    obtain hb | hb := List.mem_append.mp hb
    · exact zu b hb z
    · rw [List.mem_singleton] at hb; injection hb with hb
      obtain ⟨o, ho⟩ := hZ _ z
      rw [hb, hl] at ho; cases ho
  have hZ3 : ∀ z, Z z → ∃ o, H1 z = some o := fun z hz => by
    by_cases e : z = kp
    · exact ⟨_, by rw [e]; exact hk1⟩
    · obtain ⟨o, ho⟩ := hZ z hz
      exact ⟨o, F1 _ _ ho e⟩
  have la : (us ++ [V.ref l]).length = D.length + 1 := by rw [List.length_append, ul]; rfl
  refine ⟨fun σ H' => ∃ vs, σ = [some (.ref p), some (.ref d)] ∧ Fr1 kp H1 H' ∧ H' kp = some (.lst vs) ∧ Paired (LstI H') vs (comeD most D day) ∧ ∀ b, V.ref b ∈ vs → ¬Z b, ?_, ?_⟩
  · refine ⟨_, rfl, p, C, dx, _, _, rfl, hp1, kC.cl, kC.n_kept, fl_kept, kp, _, rfl, .inl (SqL.of hk1), _, rfl, p, C, dx, _, _, rfl, hp1, kC.cl, kC.n_most, fl_most, _, _, rfl, rfl, _, rfl, ?_⟩
    rw [la]
    unfold comeD
    by_cases c : most < (D.length : Int) + 1
    · rw [decide_eq_true (by omega), if_pos c]
      refine iteT ?_
      obtain ⟨u, us', e⟩ : ∃ u us', us ++ [V.ref l] = u :: us' := by
        cases us with
        | nil => exact ⟨_, _, rfl⟩
        | cons u us' => exact ⟨_, _, rfl⟩
      rw [e] at hk1 hu1 hne zu1
      refine ⟨_, rfl, p, C, dx, _, _, rfl, hp1, kC.cl, kC.n_kept, fl_kept, tyL hk1, kp, _, 0, 0, u, rfl, rfl, hk1, by decide, by decide, seq0 _ _, rfl, us', rfl, (Fr1.refl kp H1).put, upd_same, ?_⟩
      exact ⟨lsts_fr ((Fr1.refl kp H1).put).fr (q := kp) (fun b hb => ⟨hne b (.tail _ hb), hne b (.tail _ hb)⟩) (paired_drop1 hu1), fun b hb => zu1 b (.tail _ hb)⟩
    · rw [decide_eq_false (by omega), if_neg c]
      exact iteF ⟨_, rfl, Fr1.refl _ _, hk1, hu1, zu1⟩
  intro σ H2 hz_
  obtain ⟨vs, rfl, F2, hk2, hu2, zv⟩ := hz_
  have hp2 := F2 _ _ hp1 nkp.symm
  have rows_kp := rows_fr2 hp1 hk1 F2.fr' hR1
  refine ⟨_, rfl, p, dx, _, rfl, hp2, fl_no_tell_anew, p, kp, many, least, most, _, B', Z, rfl, ⟨⟨dx, _, _, ws, hp2, F2 _ _ hnw1 nnk, rows_kp, zn⟩, vs, hk2, hu2, zv⟩, (fun z hz => by
    by_cases e : z = kp
    · exact ⟨_, by rw [e]; exact hk2⟩
    · obtain ⟨o, ho⟩ := hZ3 z hz
      exact ⟨o, F2 _ _ ho e⟩), ?_, m0, m12, fun H3 hK3 F3 => q _ hK3 ?_⟩
  · unfold comeD
    split
    · exact hDs.drop 1
    · exact hDs
  exact fun b o e n1 n2 => F3 _ _ (F2 _ _ (F1 _ _ e n2) n2) n1
noncomputable abbrev n_Keeper_days : List Str := ["self"]
theorem sc_Keeper_days : FnScope n_Keeper_days ["self"] (defScope s_Keeper_days) := ⟨rfl, rfl, rfl, by decide +kernel, rfl, by decide +kernel, by decide +kernel⟩
theorem nd_Keeper_days_0 : (["day"] : List Str).Nodup := by decide +kernel
theorem paired_mem {α : Type} {R : V → α → Prop} {ys : List V} {as : List α} (h : Paired R ys as) (y : V) (hy : y ∈ ys) : ∃ x, R y x := by
  induction h with
  | nil => cases hy
  | cons r _ ih =>
    cases hy with
    | head => exact ⟨_, r⟩
    | tail _ h => exact ih h
theorem ok_Keeper_days {C : Addr} (F : Fun K "days" "Keeper.days" s_Keeper_days f fd) (b : Binds K fd ["self"] []) (m : Meth K C "days" f) (M_list : mg "list" = none) (kC : Kls K mg C)  : Mfn P w K mg base (k + 1) C "days" ["self"] (K30.sp3Days C) := by
  refine .of F b m sc_Keeper_days (fun vs H Q E h => ?_) (fun cdv A outer s H vs Q E hr h => ?_)
  · obtain ⟨p, kp, many, least, most, D, A', B', rfl, hK, hD, q⟩ := h; rfl
  obtain ⟨p, kp, many, least, most, D, A', B', rfl, hK, hD, q⟩ := h
  have nd := sc_Keeper_days.nd
  refine ⟨_, pss_one (ps_ret (pe_compC ["day"] [] (sc := defScope s_Keeper_days) (N := n_Keeper_days) (.inl rfl) rfl ⟨rfl, by decide +kernel, by decide +kernel, by decide +kernel, by decide +kernel⟩ rfl (pi_list (pe_fld (pv 0) rfl)) (fun cl s H C fp => (pg_name (i := 0) nd_Keeper_days_0 rfl (Or.inl rfl))) (fun cl s H C fp => pifs_nil) (fun cl s H C fp => (pe_callTy (list_ofK K rfl) (by rfl) M_list PyProof.Rows.boot_list (pa_cons (pv 0) pa_nil))))), ?_⟩
  obtain ⟨⟨dx, ah, nw, as, ws, hp, _, _, hnw, hR, nnk⟩, us, hk, hu⟩ := hK
  have d7 := hD.1
  have ul := Paired.length hu
  refine ⟨_, rfl, p, C, dx, _, _, rfl, hp, kC.cl, kC.n_kept, fl_kept, kp, rfl, ⟨_, SqL.of hk⟩, comp_listG (xs := us) (fun acc i ys H' => Same H H' ∧ Paired (LstG H acc H') ys (D.take i) ∧ ys.Nodup) (fun acc i ys H' _ h => SqL.of (h.1 _ _ hk)) (fun acc hacc => ⟨same_new hacc _, .nil, .nil⟩) (fun acc i x ys H' hacc hi hx hys h => ?_) (fun t ys H' ht0 ht h => ?_)⟩
  · obtain ⟨S, hP, hn⟩ := h
    obtain ⟨d, hd, dp, rfl, hdp⟩ := paired_take hu hx
    have hyl := Paired.length hP
    rw [List.length_take] at hyl
    refine ⟨(Wk.refl _).set (by decide), yes_of ⟨_, rfl, dp, _, rfl, .inl (SqL.of (S _ _ hdp)), fun nl hnl => cputG hi ((same_new hnl _) _ _ hys) (small4096 (by omega)) ?_⟩⟩
    have nla : nl ≠ acc := fun z => by rw [z, hys] at hnl; cases hnl
    refine ⟨fun b o e => by rw [upd_ne (ne_of_none e hacc)]; exact (same_new hnl _) _ _ (S _ _ e), ?_, ?_⟩
    · rw [take_at hd]
      refine Paired.snoc (Paired.imp' (fun y r z => z.st fun b o n e => by rw [upd_ne n]; exact (same_new hnl _) _ _ e) hP) ⟨nl, rfl, nla, S.free hnl, by rw [upd_ne nla]; exact upd_same⟩
    · rw [List.nodup_append]
      refine ⟨hn, List.pairwise_singleton _ _, fun a ha b hb e => ?_⟩
      rw [List.mem_singleton.mp hb] at e
      obtain ⟨x, l, e2, _, _, e3⟩ := paired_mem hP a ha
      rw [e2] at e
      cases e
      rw [hnl] at e3; cases e3
  · obtain ⟨S, hP, hn⟩ := h
    rw [List.take_of_length_le (by omega)] at hP
    refine q t ys H' S ht0 ht (Paired.imp' (fun y r z => by obtain ⟨l, e, _, _, h⟩ := z; exact ⟨l, e, h⟩) hP) (fun b hb => ?_) hn
    obtain ⟨x, l, e2, _, e3, _⟩ := paired_mem hP _ hb
    cases e2; exact e3
noncomputable abbrev n_Keeper_need : List Str := ["self", "least"]
theorem sc_Keeper_need : FnScope n_Keeper_need ["self", "least"] (defScope s_Keeper_need) := ⟨rfl, rfl, rfl, by decide +kernel, rfl, by decide +kernel, by decide +kernel⟩
theorem ok_Keeper_need {C : Addr} (F : Fun K "need" "Keeper.need" s_Keeper_need f fd) (b : Binds K fd ["self", "least"] []) (m : Meth K C "need" f)  (kC : Kls K mg C) {cc : CC} (kX : Xs K mg cc) (G_Keeper_tell_anew : Mfn P w K mg base k C "tell_anew" ["self"] (K30.sp3Tell C)) : MfnN P w K mg base (k + 1) C "need" ["self", "least"] (K30.sp3Need C cc.NoLeast) := by
  refine .of F b m sc_Keeper_need (fun vs H Q E h => ?_) (fun cdv A outer s H vs Q E hr h => ?_)
  · obtain ⟨p, kp, many, least, most, ne, D, A', B', Z, rfl, hK, hZ, hD, m0, m12, qx, q⟩ := h; rfl
  obtain ⟨p, kp, many, least, most, ne, D, A', B', Z, rfl, hK, hZ, hD, m0, m12, qx, q⟩ := h
  have nd := sc_Keeper_need.nd
  have le := Nat.le_refl k
  refine ⟨_, pss_cons (ps_if (pt_cmpR op_lt (pv 1) pe_int (nomark _)) (pss_one (ps_raise kX.r_NoLeast hr (pa_cons pe_str pa_nil) rfl)) pss_nil)
    (pss_cons (PS.nox (ps_fld (pv 0) (pv 1) rfl))
    (pss_one (PS.nox (ps_expr (pe_mdef0 kC.cl (pv 0) G_Keeper_tell_anew hr le))))), ?_⟩
  obtain ⟨⟨dx, ah, nw, as, ws, hp, hah, hA, hnw, hR, nnk, za, zn⟩, us, hk, hu, zu⟩ := hK
  refine seq_if (b := decide (ne < 1)) (.pure fun Q h => ⟨_, rfl, _, _, rfl, rfl, _, rfl, h⟩) fun H1 S1 => ?_
  refine ite2 (fun co => ?_) (fun co => ?_)
  · exact ⟨(by show 1 ≤ sizeLine; decide), fun a ha => qx (of_decide_eq_true co) a _ (S1.trans (same_new ha _)) (S1.free ha) upd_same⟩
  · have n1 : 1 ≤ ne := by
      rw [decide_eq_true_eq] at co; omega
    refine ⟨_, rfl, _, rfl, p, C, dx, _, rfl, S1 _ _ hp, kC.cl, kC.n_least, fl_len, ?_⟩
    rw [fl_put_least]
    have F1 : Fr1 p H1 (upd H1 p (.ins C dx (fl many ne most kp ah nw))) := (Fr1.refl p H1).put
    have hp1 := S1 _ _ hp
    refine ⟨_, rfl, p, dx, _, rfl, upd_same, fl_no_tell_anew, p, kp, many, ne, most, D, B', Z, rfl, ⟨⟨dx, _, _, ws, upd_same, F1 _ _ (S1 _ _ hnw) (lst_ne_ins hp hnw), rows_fr1 hp1 F1 (hR.same S1.t), zn⟩, us, F1 _ _ (S1 _ _ hk) (lst_ne_ins hp hk), lsts_fr1 hp1 F1 (lsts_same S1 hu), zu⟩, (fun z hz => by
      by_cases e : z = p
      · exact ⟨_, by rw [e]; exact upd_same⟩
      · obtain ⟨o, ho⟩ := hZ z hz
        exact ⟨o, F1 _ _ (S1 _ _ ho) e⟩), hD, m0, m12, fun H2 hK2 F2 => q n1 _ hK2 ?_⟩
    exact (((Fr1.refl p H).same S1).trans F1).trans F2
noncomputable abbrev n_Keeper_go : List Str := ["self"]
theorem sc_Keeper_go : FnScope n_Keeper_go ["self"] (defScope s_Keeper_go) := ⟨rfl, rfl, rfl, by decide +kernel, rfl, by decide +kernel, by decide +kernel⟩
theorem ok_Keeper_go {C : Addr} (F : Fun K "go" "Keeper.go" s_Keeper_go f fd) (b : Binds K fd ["self"] []) (m : Meth K C "go" f) (M_len : mg "len" = none) (kC : Kls K mg C) {cc : CC} (kX : Xs K mg cc) (G_Keeper_tell_anew : Mfn P w K mg base k C "tell_anew" ["self"] (K30.sp3Tell C)) : MfnN P w K mg base (k + 1) C "go" ["self"] (K30.sp3Go C cc.NoDay) := by
  refine .of F b m sc_Keeper_go (fun vs H Q E h => ?_) (fun cdv A outer s H vs Q E hr h => ?_)
  · obtain ⟨p, kp, many, least, most, D, A', B', Z, rfl, hK, hZ, hD, m0, m12, qx, q⟩ := h; rfl
  obtain ⟨p, kp, many, least, most, D, A', B', Z, rfl, hK, hZ, hD, m0, m12, qx, q⟩ := h
  have nd := sc_Keeper_go.nd
  have le := Nat.le_refl k
  refine ⟨_, pss_cons (ps_if (pt_cmpR op_eq (pe_callB call_len_seq (by rfl) M_len PySem.boot_len (pa_cons (pe_fld (pv 0) rfl) pa_nil)) pe_int (nomark _)) (pss_one (ps_raise kX.r_NoDay hr (pa_cons pe_str pa_nil) rfl)) pss_nil)
    (pss_cons (PS.nox (ps_expr (pe_bm PySem.F.plainAttrs_list PySem.F.slot_list_pop PySem.F.type_list_pop mt_popAt (pe_fld (pv 0) rfl) (pa_cons pe_int pa_nil))))
    (pss_one (PS.nox (ps_expr (pe_mdef0 kC.cl (pv 0) G_Keeper_tell_anew hr le))))), ?_⟩
  obtain ⟨⟨dx, ah, nw, as, ws, hp, hah, hA, hnw, hR, nnk, za, zn⟩, us, hk, hu, zu⟩ := hK
  have ul := Paired.length hu
  refine seq_if (b := decide (((us.length : Nat) : Int) = 0)) (.pure fun Q h => ⟨_, rfl, p, C, dx, _, _, rfl, hp, kC.cl, kC.n_kept, fl_kept, kp, _, rfl, .inl (SqL.of hk), rfl, _, rfl, by rw [show decide (V.int ((us.length : Nat) : Int) = V.int 0) = decide (((us.length : Nat) : Int) = 0) by simp]; exact h⟩) fun H1 S1 => ?_
  refine ite2 (fun co => ?_) (fun co => ?_)
  · have e : D = [] := List.length_eq_zero_iff.mp (by have := of_decide_eq_true co; omega)
    exact ⟨(by show 1 ≤ sizeLine; decide), fun a ha => qx e a _ (S1.trans (same_new ha _)) (S1.free ha) upd_same⟩
  · have hne : D ≠ [] := fun e => by
      rw [decide_eq_true_eq] at co
      rw [e] at ul
      exact co (by rw [ul]; rfl)
    obtain ⟨u, us', rfl⟩ : ∃ u us', us = u :: us' := by
      cases us with
      | nil => exact absurd (List.length_eq_zero_iff.mp ul.symm) hne
      | cons u us' => exact ⟨u, us', rfl⟩
    refine ⟨_, rfl, p, C, dx, _, _, rfl, S1 _ _ hp, kC.cl, kC.n_kept, fl_kept, tyL (S1 _ _ hk), kp, _, 0, 0, u, rfl, rfl, S1 _ _ hk, by decide, by decide, seq0 _ _, rfl, ?_⟩
    have nkp := lst_ne_ins hp hk
    have F1 : Fr1 kp H1 (upd H1 kp (.lst us')) := (Fr1.refl kp H1).put
    have hp1 := F1 _ _ (S1 _ _ hp) nkp.symm
    have hk1 : upd H1 kp (.lst us') kp = some (.lst us') := upd_same
    have hu1 : Paired (LstI (upd H1 kp (.lst us'))) us' (D.drop 1) := by
      refine lsts_fr F1.fr (q := kp) (fun l hl => ?_) (paired_drop1 (lsts_same S1 hu))
      have := kept_ne hk hu (.tail _ hl)
      exact ⟨this, this⟩
    have hnw1 := F1 _ _ (S1 _ _ hnw) nnk
    have hR1 : Rows (upd H1 kp (.lst us')) ws B' := rows_fr2 (S1 _ _ hp) (S1 _ _ hk) F1.fr' (hR.same S1.t)
    show tSeq _ _ _ _ (upd H1 kp (.lst us'))
    generalize upd H1 kp (.lst us') = H2 at F1 hp1 hk1 hu1 hnw1 hR1 ⊢
    refine ⟨_, rfl, p, dx, _, rfl, hp1, fl_no_tell_anew, p, kp, many, least, most, D.drop 1, B', Z, rfl, ⟨⟨dx, _, _, ws, hp1, hnw1, hR1, zn⟩, us', hk1, hu1, fun l hl => zu l (.tail _ hl)⟩, (fun z hz => by
      by_cases e : z = kp
      · exact ⟨_, by rw [e]; exact hk1⟩
      · obtain ⟨o, ho⟩ := hZ z hz
        exact ⟨o, F1 _ _ (S1 _ _ ho) e⟩), hD.drop 1, m0, m12, fun H3 hK3 F3 => q hne _ hK3 ?_⟩
    exact fun b o e n1 n2 => F3 _ _ (F1 _ _ (S1 _ _ e) n2) n1

end
end OL.Q30

namespace OL.Q30
open PySem L2 OL
section
variable {P : Program} {w : World} {K : PySem.W.Frag} {mg : Str → Option Value} {base : Heap} {f : Addr} {fd : FuncData} {k : Nat}
open OL.K30
noncomputable abbrev n_L_refused : List Str := ["_law_keeper", "_law_least", "_law_caught", "e"]
theorem sc_L_refused : FnScope n_L_refused ["_law_keeper", "_law_least"] (defScope s_L_refused) := ⟨rfl, rfl, rfl, by decide +kernel, rfl, by decide +kernel, by decide +kernel⟩
set_option maxHeartbeats 2000000 in
theorem ok_L_refused (F : Fun K "_law_refused" "_law_refused" s_L_refused f fd) (b : Binds K fd ["_law_keeper", "_law_least"] []) (m : mg "_law_refused" = some (.ref f)) (M_isinstance : mg "isinstance" = none) (M_ValueError : mg "ValueError" = none) {C : Addr} (kC : Kls K mg C) {cc : CC} (kX : Xs K mg cc) (G_Keeper_go : MfnN P w K mg base k C "go" ["self"] (K30.sp3Go C cc.NoDay)) (G_Keeper_need : MfnN P w K mg base k C "need" ["self", "least"] (K30.sp3Need C cc.NoLeast)) : Dfn P w K mg base (k + 1) "_law_refused" ["_law_keeper", "_law_least"] (K30.spRef30 C) := by
  refine .of F b m sc_L_refused (fun vs H Q E h => ?_) (fun cdv A outer s H vs Q E hr h => ?_)
  · obtain ⟨p, kp, many, least, most, D, A', B', v, rfl, hK, hD, m0, m12, h⟩ := h; rfl
  obtain ⟨p, kp, many, least, most, D, A', B', v, rfl, hK, hD, m0, m12, h⟩ := h
  have nd := sc_L_refused.nd
  have le := Nat.le_refl k
  refine ⟨_, pss_cons (ps_set (i := 2) nd rfl (Or.inl rfl) pe_non)
    (pss_cons (ps_try (i := 3) hr rfl rfl nd rfl rfl rfl rfl kX.m_OftenError (psx_if (pt_cmpR op_isN (pv 1) pe_non (nomark _)) (psx_meth0 (pv 0) kC.cl G_Keeper_go hr le) (psx_meth (pv 0) kC.cl G_Keeper_need hr le (pa_cons (pv 1) pa_nil))) (fun a => (pss_one (ps_set (i := 2) nd rfl (Or.inl rfl) (pv 3)))))
    (pss_one (ps_ret (pe_lst (pa_cons (pe_callB call_isX (by rfl) M_isinstance PyProof.Rows.boot_isinstance (pa_cons (pv 2) (pa_cons (pe_glob (v := .ref cc.NoDay) (by rfl) kX.m_NoDay rfl) pa_nil))) (pa_cons (pe_callB call_isX (by rfl) M_isinstance PyProof.Rows.boot_isinstance (pa_cons (pv 2) (pa_cons (pe_glob (v := .ref cc.NoLeast) (by rfl) kX.m_NoLeast rfl) pa_nil))) (pa_cons (pe_callB call_isX (by rfl) M_isinstance PyProof.Rows.boot_isinstance (pa_cons (pv 2) (pa_cons (pe_bltn (v := .ty "ValueError") (by rfl) M_ValueError PyProof.Rows.Boot.ValueError rfl) pa_nil))) pa_nil))))))), ?_⟩
  obtain ⟨⟨dx, ah, nw, us, vs, hp, _⟩, _⟩ := id hK
  obtain ⟨rfl, hD0, q⟩ | ⟨ne, rfl, n1, q⟩ := h
  · refine ⟨_, rfl, rfl, _, rfl, ?_⟩
    refine (show if (true : Bool) = true then _ else _ from iteT ?_)
    refine ⟨_, rfl, p, dx, _, rfl, hp, fl_no_go, p, kp, many, least, most, D, A', B', (fun _ => False), rfl, hK.z0, (fun _ z => z.elim), hD, m0, m12, fun _ a H1 S1 ha0 ha => ⟨_, a, rfl, rfl, kX.emd_, _, rfl, ?_⟩, fun z => absurd hD0 z⟩
    try dsimp only [gName]
    have IS := kX.isd_
    exact ⟨_, rfl, _, _, _, true, rfl, .inl ⟨_, rfl, rfl⟩, .inr ⟨a, _, rfl, ha, IS.ask, IS.yes _ (by simp)⟩, _, rfl, _, _, _, false, rfl, .inl ⟨_, rfl, rfl⟩, .inr ⟨a, _, rfl, ha, IS.ask, IS.no _ (by simp)⟩, _, rfl, _, _, _, true, rfl, .inr ⟨_, rfl, rfl⟩, .inr ⟨a, _, rfl, ha, IS.ask, IS.yes _ (by simp)⟩, (by show 3 ≤ sizeLine; decide), fun r hr => q r _ (S1.trans (same_new hr _)) (S1.free hr) upd_same⟩
  · refine ⟨_, rfl, rfl, _, rfl, ?_⟩
    refine (show if (false : Bool) = true then _ else _ from iteF ?_)
    refine ⟨_, rfl, p, dx, _, rfl, hp, fl_no_need, _, rfl, p, kp, many, least, most, ne, D, A', B', (fun _ => False), rfl, hK.z0, (fun _ z => z.elim), hD, m0, m12, fun _ a H1 S1 ha0 ha => ⟨_, a, rfl, rfl, kX.eml_, _, rfl, ?_⟩, fun z => absurd n1 (by omega)⟩
    try dsimp only [gName]
    have IS := kX.isl_
    exact ⟨_, rfl, _, _, _, false, rfl, .inl ⟨_, rfl, rfl⟩, .inr ⟨a, _, rfl, ha, IS.ask, IS.no _ (by simp)⟩, _, rfl, _, _, _, true, rfl, .inl ⟨_, rfl, rfl⟩, .inr ⟨a, _, rfl, ha, IS.ask, IS.yes _ (by simp)⟩, _, rfl, _, _, _, true, rfl, .inr ⟨_, rfl, rfl⟩, .inr ⟨a, _, rfl, ha, IS.ask, IS.yes _ (by simp)⟩, (by show 3 ≤ sizeLine; decide), fun r hr => q r _ (S1.trans (same_new hr _)) (S1.free hr) upd_same⟩

end
end OL.Q30

namespace OL.Q30
open PySem L2 OL
section
variable {P : Program} {w : World} {K : PySem.W.Frag} {mg : Str → Option Value} {base : Heap} {f : Addr} {fd : FuncData} {k : Nat}
open OL.K30
theorem val_tab (rs : List (Int × Int)) (k : Int) : valV (tabR rs) (.inl k) = (cnt2 rs k).map V.int := by
  unfold valV tabR cnt2
  induction rs with
  | nil => rfl
  | cons a t ih =>
    rw [List.map_cons, List.find?_cons, List.find?_cons]
    by_cases c : a.1 = k
    · rw [show decide ((Sum.inl a.1 : Key) = Sum.inl k) = true from decide_eq_true (by rw [c]), show (a.1 == k) = true by rw [c]; exact beq_self_eq_true _]; rfl
    · rw [show decide ((Sum.inl a.1 : Key) = Sum.inl k) = false from decide_eq_false fun e => c (by injection e), show (a.1 == k) = false by rw [beq_eq_false_iff_ne]; exact c]
      exact ih
theorem cnt_snoc {rs : List (Int × Int)} {r : Int × Int} (h : r.1 ∉ rs.map Prod.fst) (k : Int) : cnt2 (rs ++ [r]) k = if k = r.1 then some r.2 else cnt2 rs k := by
  unfold cnt2
  rw [List.find?_append]
  by_cases c : k = r.1
  · rw [if_pos c]
    have : rs.find? (fun r => r.1 == k) = none := by
      rw [List.find?_eq_none]
      intro x hx e
      have e := beq_iff_eq.mp e
      exact h (List.mem_map.mpr ⟨x, hx, by rw [e, c]⟩)
    rw [this]
    show ((List.find? (fun r => r.1 == k) [r])).map Prod.snd = _
    rw [List.find?_cons, show (r.1 == k) = true by rw [c]; exact beq_self_eq_true _]; rfl
  · rw [if_neg c]
    have : List.find? (fun (r : Int × Int) => r.1 == k) [r] = none := by
      rw [List.find?_cons, show (r.1 == k) = false by rw [beq_eq_false_iff_ne]; exact fun e => c e.symm]; rfl
    rw [this, Option.or_none]
noncomputable abbrev n_counts_by_lot : List Str := ["rows", "counts", "row"]
theorem sc_counts_by_lot : FnScope n_counts_by_lot ["rows"] (defScope s_counts_by_lot) := ⟨rfl, rfl, rfl, by decide +kernel, rfl, by decide +kernel, by decide +kernel⟩
theorem ok_counts_by_lot (F : Fun K "counts_by_lot" "counts_by_lot" s_counts_by_lot f fd) (b : Binds K fd ["rows"] []) (m : mg "counts_by_lot" = some (.ref f))   : Dfn P w K mg base (k + 1) "counts_by_lot" ["rows"] sp2Counts := by
  refine .of F b m sc_counts_by_lot (fun vs H Q E h => ?_) (fun cdv A outer s H vs Q E hr h => ?_)
  · obtain ⟨a, rs, rfl, hR, q⟩ := h; rfl
  obtain ⟨a, rs, rfl, hR, q⟩ := h
  have nd := sc_counts_by_lot.nd
  refine ⟨_, pss_cons (ps_set (i := 1) nd rfl (Or.inl rfl) pe_dnewK)
    (pss_cons (ps_for PassesOwn.never rfl (pi_list (pv 0)) (pg_name (i := 2) nd rfl (Or.inl rfl))
      (pss_one (ps_dput (hu_of hr) (pv 1) (pe_ix ix_tup (pv 2) pe_int (fun _ _ => rfl)) (pe_ix ix_tup (pv 2) pe_int (fun _ _ => rfl)) rfl)))
    (pss_one (ps_ret (pv 1)))), ?_⟩
  obtain ⟨xs, ha, hRs, rise, rl⟩ := hR
  intro d hd
  have S1 := same_new hd (.dK [])
  have hd1 : upd H d (.dK []) d = some (.dK []) := upd_same
  generalize upd H d (.dK []) = H1 at S1 hd1 ⊢
  have nd' : ∀ {b o}, H b = some o → b ≠ d := fun e => ne_of_none e hd
  have hxl := Rows.length hRs
  try dsimp only [gName]
  refine ⟨_, rfl, a, rfl, ⟨_, SqL.of (S1 _ _ ha)⟩, for_list (xs := xs) (fun i σ H' => Ex2 fun (z : Option V) (kvs : List (Key × V)) => σ = [some (.ref a), some (.ref d), z] ∧ Same H H' ∧ H' d = some (.dK kvs) ∧ kvs.length ≤ i ∧ ∀ k, valV kvs (.inl k) = (cnt2 (rs.take i) k).map V.int) ⟨_, [], rfl, S1, hd1, Nat.le_refl _, fun k => rfl⟩ (fun i σ H' _ h => by obtain ⟨_, _, _, S, _⟩ := h; exact SqL.of (S _ _ ha)) ?_ ?_⟩
  · intro i v σ H2 hv hz_
    first | (refine Ex2.st σ hz_ fun z kvs hz_ => ?_; have S2 := hz_.1; have hd2 := hz_.2.1; have hkl := hz_.2.2.1; have hk := hz_.2.2.2; clear hz_) | obtain ⟨z, kvs, rfl, S2, hd2, hkl, hk⟩ := hz_
    obtain ⟨r, hr, t, rfl, ht⟩ := paired_take hRs hv
    have hil := (List.getElem?_eq_some_iff.mp hr).1
    refine ⟨_, rfl, t, _, _, _, rfl, rfl, SqT.of (S2 _ _ ht), rfl, _, rfl, _, rfl, t, _, _, _, rfl, rfl, SqT.of (S2 _ _ ht), rfl, d, _, rfl, DPut.k (k := .inl r.1) hd2 (by show _ < 16777216; omega), _, _, rfl, same_put S2 hd, upd_same, Nat.le_trans putK_len (by omega), fun k => ?_⟩
    rw [valV_put, take_snoc hr, cnt_snoc]
    · by_cases c : k = r.1
      · rw [if_pos c, if_pos (by rw [c])]; rfl
      · rw [if_neg c, if_neg (fun e => c (by injection e))]; exact hk k
    · intro hm
      have e : rs.map Prod.fst = (rs.take i).map Prod.fst ++ (rs.drop i).map Prod.fst := by rw [← List.map_append, List.take_append_drop]
      rw [e] at rise
      have := (List.pairwise_append.mp rise).2.2 r.1 hm r.1 (List.mem_map.mpr ⟨r, by
        have h2 : (rs.drop i)[0]? = some r := by rw [List.getElem?_drop]; exact hr
        exact List.mem_of_getElem? h2, rfl⟩)
      omega
  · intro σ H2 hz_
    first | (refine Ex2.st σ hz_ fun z kvs hz_ => ?_; have S2 := hz_.1; have hd2 := hz_.2.1; have hkl := hz_.2.2.1; have hk := hz_.2.2.2; clear hz_) | obtain ⟨z, kvs, rfl, S2, hd2, hkl, hk⟩ := hz_
    rw [hxl, List.take_length] at hk
    exact ⟨_, rfl, q d kvs H2 S2 hd hd2 hk⟩
noncomputable abbrev n_rows_not_in : List Str := ["rows", "others", "counts"]
theorem sc_rows_not_in : FnScope n_rows_not_in ["rows", "others"] (defScope s_rows_not_in) := ⟨rfl, rfl, rfl, by decide +kernel, rfl, by decide +kernel, by decide +kernel⟩
theorem nd_rows_not_in_0 : (["row", "counts"] : List Str).Nodup := by decide +kernel
theorem ok_rows_not_in (F : Fun K "rows_not_in" "rows_not_in" s_rows_not_in f fd) (b : Binds K fd ["rows", "others"] []) (m : mg "rows_not_in" = some (.ref f))  (G_counts_by_lot : Dfn P w K mg base k "counts_by_lot" ["rows"] sp2Counts) : Dfn P w K mg base (k + 1) "rows_not_in" ["rows", "others"] K30.sp3NotIn := by
  refine .of F b m sc_rows_not_in (fun vs H Q E h => ?_) (fun cdv A outer s H vs Q E hr h => ?_)
  · obtain ⟨a, b', rs, os, rfl, hA, hB, q⟩ := h; rfl
  obtain ⟨a, b', rs, os, rfl, hA, hB, q⟩ := h
  have nd := sc_rows_not_in.nd
  have le := Nat.le_refl k
  refine ⟨_, pss_cons (ps_set (i := 2) nd rfl (Or.inr rfl) (pe_def G_counts_by_lot hr le rfl (pa_cons (pv 1) pa_nil)))
    (pss_one (ps_ret (pe_compC ["row"] [2] (sc := defScope s_rows_not_in) (N := n_rows_not_in) (.inl rfl) rfl ⟨rfl, by decide +kernel, by decide +kernel, by decide +kernel, by decide +kernel⟩ rfl (pi_list (pv 0)) (fun cl s H C fp => (pg_name (i := 0) nd_rows_not_in_0 rfl (Or.inl rfl))) (fun cl s H C fp => pifs_one (pt_cmp (pc_dnotin (hu_of hr) (pe_ix (ix_tupK K rfl) (pv 0) pe_int (fun _ _ => rfl)) (pv 1)))) (fun cl s H C fp => (pv 0))))), ?_⟩
  refine ⟨_, rfl, b', os, rfl, hB, fun d kvs H1 S1 hd0 hd hk => ?_⟩
  obtain ⟨xs, ha, hRs, _, rl⟩ := hA.same S1
  try dsimp only [gName]
  refine ⟨_, rfl, a, rfl, ⟨_, SqL.of ha⟩, compR_rows (SqL.of ha) hRs (fun r => !(cnt2 os r.1).isSome) id (by omega) (fun m u H7 hm hu S => turn_pick (y := .ref u) (.pure fun Q h => ⟨_, rfl, u, _, _, _, rfl, rfl, SqT.of hu, rfl, _, rfl, d, _, rfl, DGet.k (k := .inl m.1) (S _ _ hd), _, rfl, (by rw [hk, Option.isSome_map]; exact h)⟩) (fun _ H4 S4 => .pure fun Q h => ⟨_, rfl, h⟩) fun _ H4 S4 => ⟨u, rfl, S4 _ _ hu⟩) (fun t ys H3 ht0 S3 ht hR => ?_)⟩
  rw [List.map_id] at hR
  exact q t ys H3 (S1.trans S3) (S1.free ht0) ht hR
noncomputable abbrev n_rows_moved : List Str := ["ahead", "now", "counts"]
theorem sc_rows_moved : FnScope n_rows_moved ["ahead", "now"] (defScope s_rows_moved) := ⟨rfl, rfl, rfl, by decide +kernel, rfl, by decide +kernel, by decide +kernel⟩
theorem nd_rows_moved_0 : (["row", "counts"] : List Str).Nodup := by decide +kernel
theorem ok_rows_moved (F : Fun K "rows_moved" "rows_moved" s_rows_moved f fd) (b : Binds K fd ["ahead", "now"] []) (m : mg "rows_moved" = some (.ref f))  (G_counts_by_lot : Dfn P w K mg base k "counts_by_lot" ["rows"] sp2Counts) : Dfn P w K mg base (k + 1) "rows_moved" ["ahead", "now"] K30.sp3Moved := by
  refine .of F b m sc_rows_moved (fun vs H Q E h => ?_) (fun cdv A outer s H vs Q E hr h => ?_)
  · obtain ⟨a, b', A', B', rfl, hA, hB, q⟩ := h; rfl
  obtain ⟨a, b', A', B', rfl, hA, hB, q⟩ := h
  have nd := sc_rows_moved.nd
  have le := Nat.le_refl k
  refine ⟨_, pss_cons (ps_set (i := 2) nd rfl (Or.inr rfl) (pe_def G_counts_by_lot hr le rfl (pa_cons (pv 0) pa_nil)))
    (pss_one (ps_ret (pe_compC ["row"] [2] (sc := defScope s_rows_moved) (N := n_rows_moved) (.inl rfl) rfl ⟨rfl, by decide +kernel, by decide +kernel, by decide +kernel, by decide +kernel⟩ rfl (pi_list (pv 1)) (fun cl s H C fp => (pg_name (i := 0) nd_rows_moved_0 rfl (Or.inl rfl))) (fun cl s H C fp => pifs_one (PW.pt (pw_and (pt_cmp (pc_din (hu_of hr) (pe_ix (ix_tupK K rfl) (pv 0) pe_int (fun _ _ => rfl)) (pv 1))) (pw_and1 (pt_cmpR op_ne (pe_dget (hu_of hr) (pv 1) (pe_ix (ix_tupK K rfl) (pv 0) pe_int (fun _ _ => rfl)) (fun _ _ => rfl)) (pe_ix (ix_tupK K rfl) (pv 0) pe_int (fun _ _ => rfl)) (nomark _)))))) (fun cl s H C fp => (pe_tup (pa_cons (pe_ix (ix_tupK K rfl) (pv 0) pe_int (fun _ _ => rfl)) (pa_cons (pe_dget (hu_of hr) (pv 1) (pe_ix (ix_tupK K rfl) (pv 0) pe_int (fun _ _ => rfl)) (fun _ _ => rfl)) (pa_cons (pe_ix (ix_tupK K rfl) (pv 0) pe_int (fun _ _ => rfl)) pa_nil)))))))), ?_⟩
  refine ⟨_, rfl, a, A', rfl, hA, fun d kvs H1 S1 hd0 hd hk => ?_⟩
  obtain ⟨xs, ha, hRs, _, rl⟩ := hB.same S1
  try dsimp only [gName]
  refine ⟨_, rfl, b', rfl, ⟨_, SqL.of ha⟩, compA_list (SqL.of ha) hRs (movP A') (fun H y r => RowT H y [r.1, (cnt2 A' r.1).getD 0, r.2]) (fun _ _ _ _ S z => z.same S) (by omega) (fun m v H7 hm hv S => ?_) (fun t ys H3 ht0 S3 ht hR => ?_)⟩
  · obtain ⟨u, rfl, hu'⟩ := hv
    have hu := S _ _ hu'
    refine turn_is (b := movP A' m) ?_ fun hb H8 S8 Q k1 => ?_
    · refine lookAnd (c := (cnt2 A' m.1).isSome) (d := !((cnt2 A' m.1).getD 0 == m.2)) (.pure fun Q h => ⟨_, rfl, u, _, _, _, rfl, rfl, SqT.of hu, rfl, _, rfl, d, _, rfl, DGet.k (k := .inl m.1) (S _ _ hd), _, rfl, (by rw [hk, Option.isSome_map]; exact h)⟩) (fun hs H9 S9 => .pure fun Q h => ?_)
      obtain ⟨n, hn⟩ := Option.isSome_iff_exists.mp hs
      refine ⟨_, rfl, _, rfl, u, _, _, _, rfl, rfl, SqT.of (S9 _ _ hu), rfl, d, V.int n, rfl, (by have := DGet.k (k := .inl m.1) ((S.trans S9) _ _ hd); rw [hk, hn] at this; exact this), _, rfl, u, _, _, _, rfl, rfl, SqT.of (S9 _ _ hu), rfl, rfl, _, rfl, ?_⟩
      rw [int_eq]
      rw [hn] at h
      exact h
    · have hs := (Bool.and_eq_true_iff.mp hb).1
      obtain ⟨n, hn⟩ := Option.isSome_iff_exists.mp hs
      refine ⟨_, rfl, u, _, _, _, rfl, rfl, SqT.of (S8 _ _ hu), rfl, _, rfl, _, rfl, u, _, _, _, rfl, rfl, SqT.of (S8 _ _ hu), rfl, d, V.int n, rfl, (by have := DGet.k (k := .inl m.1) ((S.trans S8) _ _ hd); rw [hk, hn] at this; exact this), _, rfl, u, _, _, _, rfl, rfl, SqT.of (S8 _ _ hu), rfl, (by show 3 ≤ sizeLine; decide), fun t ht => k1 _ _ (S8.trans (same_new ht _)) ⟨t, rfl, ?_⟩⟩
      rw [hn]; exact upd_same
  exact q t ys H3 (S1.trans S3) (S1.free ht0) ht (paired_mapF hR)
noncomputable abbrev n_Keeper_changes : List Str := ["self", "came", "went"]
theorem sc_Keeper_changes : FnScope n_Keeper_changes ["self"] (defScope s_Keeper_changes) := ⟨rfl, rfl, rfl, by decide +kernel, rfl, by decide +kernel, by decide +kernel⟩
theorem ok_Keeper_changes {C : Addr} (F : Fun K "changes" "Keeper.changes" s_Keeper_changes f fd) (b : Binds K fd ["self"] []) (m : Meth K C "changes" f)  (kC : Kls K mg C) (G_rows_not_in : Dfn P w K mg base k "rows_not_in" ["rows", "others"] K30.sp3NotIn) (G_rows_moved : Dfn P w K mg base k "rows_moved" ["ahead", "now"] K30.sp3Moved) : Mfn P w K mg base (k + 1) C "changes" ["self"] (K30.sp3Changes K C) := by
  refine .of F b m sc_Keeper_changes (fun vs H Q E h => ?_) (fun cdv A outer s H vs Q E hr h => ?_)
  · obtain ⟨p, kp, many, least, most, D, A', B', rfl, hK, rA, lA, rB, lB, q⟩ := h; rfl
  obtain ⟨p, kp, many, least, most, D, A', B', rfl, hK, rA, lA, rB, lB, q⟩ := h
  have nd := sc_Keeper_changes.nd
  have le := Nat.le_refl k
  refine ⟨_, pss_cons (ps_set (i := 1) nd rfl (Or.inl rfl) (pe_def G_rows_not_in hr le rfl (pa_cons (pe_fld (pv 0) rfl) (pa_cons (pe_fld (pv 0) rfl) pa_nil))))
    (pss_cons (ps_set (i := 2) nd rfl (Or.inl rfl) (pe_def G_rows_not_in hr le rfl (pa_cons (pe_fld (pv 0) rfl) (pa_cons (pe_fld (pv 0) rfl) pa_nil))))
    (pss_one (ps_ret (pe_tup (pa_cons (pv 1) (pa_cons (pv 2) (pa_cons (pe_def G_rows_moved hr le rfl (pa_cons (pe_fld (pv 0) rfl) (pa_cons (pe_fld (pv 0) rfl) pa_nil))) pa_nil))))))), ?_⟩
  obtain ⟨⟨dx, ah, nw, us, vs, hp, hah, hA, hnw, hB, _⟩, _⟩ := hK
  have RA : RowsAt H ah A' := ⟨us, hah, hA, rA, lA⟩
  have RB : RowsAt H nw B' := ⟨vs, hnw, hB, rB, lB⟩
  refine ⟨_, rfl, p, C, dx, _, _, rfl, hp, kC.cl, kC.n_told_now, fl_told_now, _, rfl, p, C, dx, _, _, rfl, hp, kC.cl, kC.n_told_ahead, fl_told_ahead, nw, ah, B', A', rfl, RB, RA, fun c xs H1 S1 hc0 hc hcR => ?_⟩
  try dsimp only [gName]
  refine ⟨_, rfl, p, C, dx, _, _, rfl, S1 _ _ hp, kC.cl, kC.n_told_ahead, fl_told_ahead, _, rfl, p, C, dx, _, _, rfl, S1 _ _ hp, kC.cl, kC.n_told_now, fl_told_now, ah, nw, A', B', rfl, RA.same S1, RB.same S1, fun w' ys H2 S2 hw0 hw hwR => ?_⟩
  try dsimp only [gName]
  have S12 := S1.trans S2
  refine ⟨_, rfl, _, rfl, _, rfl, p, C, dx, _, _, rfl, S12 _ _ hp, kC.cl, kC.n_told_ahead, fl_told_ahead, _, rfl, p, C, dx, _, _, rfl, S12 _ _ hp, kC.cl, kC.n_told_now, fl_told_now, ah, nw, A', B', rfl, RA.same S12, RB.same S12, fun m zs H3 S3 hm0 hm hmR => ⟨(by show 3 ≤ sizeLine; decide), fun t ht => ?_⟩⟩
  have S4 := same_new ht (.tup [.ref c, .ref w', .ref m])
  exact q t c w' m xs ys zs _ (S12.trans (S3.trans S4)) hc0 (S1.free hw0) (S12.free hm0) (ne_of_none hc hw0) (ne_of_none (S2 _ _ hc) hm0) (ne_of_none hw hm0) upd_same ((S2.trans (S3.trans S4)) _ _ hc) (hcR.same (S2.trans (S3.trans S4)).t) ((S3.trans S4) _ _ hw) (hwR.same (S3.trans S4).t) (S4 _ _ hm) (hmR.same S4.t)

end
end OL.Q30

namespace OL.Q30
open PySem L2 OL
section
variable {P : Program} {w : World} {K : PySem.W.Frag} {mg : Str → Option Value} {base : Heap} {f : Addr} {fd : FuncData} {k : Nat}
open OL.K30
theorem inb_len {many : Int} {ks : List Int} (hn : ks.Nodup) (h : ∀ x ∈ ks, InB many x) (m12 : many ≤ 12) : ks.length ≤ 4096 := by
  refine Nat.le_trans (List.Nodup.length_le_of_subset (l₂ := (List.range (2 ^ many.toNat)).map fun (i : Nat) => (i : Int)) hn fun x hx => ?_) (by rw [List.length_map, List.length_range]; exact Nat.le_trans (Nat.pow_le_pow_right (by decide) (show many.toNat ≤ 12 by omega)) (by decide))
  have xi := h x hx
  exact List.mem_map.mpr ⟨x.toNat, List.mem_range.mpr xi.nat, Int.toNat_of_nonneg xi.1⟩
noncomputable def injK (rs : List (Int × V)) : List (Key × V) := rs.map fun r => (.inl r.1, r.2)
theorem injK_len (rs : List (Int × V)) : (injK rs).length = rs.length := List.length_map _
theorem injK_keys (rs : List (Int × V)) : (injK rs).map (fun p => kV p.1) = (rs.map Prod.fst).map V.int := by
  unfold injK
  rw [List.map_map, List.map_map]; rfl
theorem put_injK (rs : List (Int × V)) (x : Int) (v : V) (hn : (rs.map Prod.fst).Nodup) : ∃ rs', putK (injK rs) (.inl x) v = injK rs' ∧ (rs'.map Prod.fst).Nodup ∧ ∀ y, y ∈ rs'.map Prod.fst ↔ y ∈ rs.map Prod.fst ∨ y = x := by
  unfold putK
  by_cases c : ((injK rs).any fun kv => decide (kv.1 = Sum.inl x)) = true
  · rw [if_pos c]
    refine ⟨rs.map fun r => if r.1 = x then (r.1, v) else r, ?_, ?_, fun y => ?_⟩
    · unfold injK
      rw [List.map_map, List.map_map]
      refine List.map_congr_left fun r _ => ?_
      show (if (Sum.inl r.1 : Key) = Sum.inl x then (Sum.inl r.1, v) else (Sum.inl r.1, r.2)) = ((Sum.inl (if r.1 = x then (r.1, v) else r).1 : Key), (if r.1 = x then (r.1, v) else r).2)
      by_cases e : r.1 = x
      · rw [if_pos (by rw [e]), if_pos e]
      · rw [if_neg (fun z => e (by injection z)), if_neg e]
    · rw [List.map_map]
      have : (Prod.fst ∘ fun r : Int × V => if r.1 = x then (r.1, v) else r) = Prod.fst := funext fun r => by
        show (if r.1 = x then (r.1, v) else r).1 = r.1
        split <;> rfl
      rw [this]; exact hn
    · rw [List.map_map]
      have : (Prod.fst ∘ fun r : Int × V => if r.1 = x then (r.1, v) else r) = Prod.fst := funext fun r => by
        show (if r.1 = x then (r.1, v) else r).1 = r.1
        split <;> rfl
      rw [this]
      refine ⟨.inl, fun z => z.elim id fun e => ?_⟩
      rw [e]
      obtain ⟨kv, hm, hk⟩ := List.any_eq_true.mp c
      unfold injK at hm
      obtain ⟨r, hr, rfl⟩ := List.mem_map.mp hm
      have hk := of_decide_eq_true hk
      injection hk with hk
      exact List.mem_map.mpr ⟨r, hr, hk⟩
  · rw [if_neg c]
    have nx : x ∉ rs.map Prod.fst := fun hx => c (by
      obtain ⟨r, hr, e⟩ := List.mem_map.mp hx
      exact List.any_eq_true.mpr ⟨(.inl r.1, r.2), List.mem_map.mpr ⟨r, hr, rfl⟩, decide_eq_true (by rw [e])⟩)
    refine ⟨rs ++ [(x, v)], by unfold injK; rw [List.map_append]; rfl, ?_, fun y => by rw [List.map_append, List.mem_append]; show _ ∨ y ∈ [x] ↔ _; rw [List.mem_singleton]⟩
    rw [List.map_append]
    refine List.nodup_append.mpr ⟨hn, by simp, fun a ha b hb e => nx ?_⟩
    have hb' : b = x := by simpa using hb
    rw [← hb', ← e]
    exact ha
theorem tyD {K : PySem.W.Frag} {H : Hp} {p : Addr} {kvs : List (Key × V)} (h : H p = some (.dK kvs)) : tyV K "dict" (.ref p) H := .inr (.inr (.inl ⟨rfl, .inl ⟨_, h⟩⟩))
noncomputable abbrev n_L_closed : List Str := ["_law_many", "_law_days", "_law_least", "_law_book", "_law_day_here", "_law_found", "_law_basket", "_law_lot", "_law_rows"]
theorem sc_L_closed : FnScope n_L_closed ["_law_many", "_law_days", "_law_least"] (defScope s_L_closed) := ⟨rfl, rfl, rfl, by decide +kernel, rfl, by decide +kernel, by decide +kernel⟩
theorem nd_L_closed_0 : (["_law_lot", "_law_book"] : List Str).Nodup := by decide +kernel
theorem nd_L_closed_1 : (["_law_row", "_law_least"] : List Str).Nodup := by decide +kernel
set_option maxHeartbeats 2000000 in
theorem ok_L_closed (F : Fun K "_law_closed" "_law_closed" s_L_closed f fd) (b : Binds K fd ["_law_many", "_law_days", "_law_least"] []) (m : mg "_law_closed" = some (.ref f)) (M_list : mg "list" = none) (M_sorted : mg "sorted" = none) (G_L_count : Dfn P w K mg base k "_law_count" ["_law_book", "_law_lot"] (spClose K fun _ bs lot => .int (countF bs lot))) : Dfn P w K mg base (k + 1) "_law_closed" ["_law_many", "_law_days", "_law_least"] K30.spRows30 := by
  refine .of F b m sc_L_closed (fun vs H Q E h => ?_) (fun cdv A outer s H vs Q E hr h => ?_)
  · obtain ⟨dl, many, least, D, us, rfl, hdl, hus, hD, m0, m12, l1, q⟩ := h; rfl
  obtain ⟨dl, many, least, D, us, rfl, hdl, hus, hD, m0, m12, l1, q⟩ := h
  have nd := sc_L_closed.nd
  have le := Nat.le_refl k
  refine ⟨_, pss_cons (ps_set (i := 3) nd rfl (Or.inr rfl) (pe_tup (pa_cons (pv 0) (pa_cons (pe_lst pa_nil) pa_nil))))
    (pss_cons (ps_for PassesOwn.never rfl (pi_list (pv 1)) (pg_name (i := 4) nd rfl (Or.inl rfl))
      (pss_one (ps_expr (pe_bm PySem.F.plainAttrs_list PySem.F.slot_list_extend PySem.F.type_list_extend mt_extend (pe_ix ix_tup (pv 3) pe_int (fun _ _ => rfl)) (pa_cons (pv 4) pa_nil)))))
    (pss_cons (ps_set (i := 5) nd rfl (Or.inl rfl) pe_dnewK)
    (pss_cons (ps_for PassesOwn.never rfl (pi_list (pe_ix ix_tup (pv 3) pe_int (fun _ _ => rfl))) (pg_name (i := 6) nd rfl (Or.inl rfl))
      (pss_one (ps_for PassesOwn.never rfl (pi_list (pe_op op_cat (pe_callTy (call_listKeys rfl) (by rfl) M_list PyProof.Rows.boot_list (pa_cons (pe_bm0 PySem.F.plainAttrs_dict PySem.F.slot_dict_keys PySem.F.type_dict_keys mt_keys (pv 5)) pa_nil)) (pe_lst (pa_cons (pv 6) pa_nil)))) (pg_name (i := 7) nd rfl (Or.inl rfl))
        (pss_one (ps_dput (hu_of hr) (pv 5) (pe_op op_and (pv 7) (pv 6)) pe_int rfl)))))
    (pss_cons (ps_setCompC (i := 8) nd rfl rfl ["_law_lot"] [3] (sc := defScope s_L_closed) (N := n_L_closed) (.inl rfl) rfl ⟨rfl, by decide +kernel, by decide +kernel, by decide +kernel, by decide +kernel⟩ rfl (pi_list (pe_callB (call_sortK rfl) (by rfl) M_sorted PyProof.Rows.boot_sorted (pa_cons (pe_bm0 PySem.F.plainAttrs_dict PySem.F.slot_dict_keys PySem.F.type_dict_keys mt_keys (pv 5)) pa_nil))) (fun cl s H C fp => (pg_name (i := 0) nd_L_closed_0 rfl (Or.inl rfl))) (fun cl s H C fp => pifs_nil) (fun cl s H C fp => (pe_tup (pa_cons (pv 0) (pa_cons (pe_def G_L_count hr le rfl (pa_cons (pv 1) (pa_cons (pv 0) pa_nil))) pa_nil)))) rfl)
    (pss_one (ps_ret (pe_compC ["_law_row"] [2] (sc := defScope s_L_closed) (N := n_L_closed) (.inl rfl) rfl ⟨rfl, by decide +kernel, by decide +kernel, by decide +kernel, by decide +kernel⟩ rfl (pi_list (pv 8)) (fun cl s H C fp => (pg_name (i := 0) nd_L_closed_1 rfl (Or.inl rfl))) (fun cl s H C fp => pifs_one (pt_cmpR op_ge (pe_ix (ix_tupK K rfl) (pv 0) pe_int (fun _ _ => rfl)) (pv 1) (nomark _))) (fun cl s H C fp => (pv 0))))))))), ?_⟩
  try refine tabs fun Tq hTq => ?_
  have f160 := hD.flat.1
  have fin := hD.flat.2
  have ul := Paired.length hus
  refine ⟨_, rfl, nil_len, fun bl hbl => ⟨(by show 2 ≤ sizeLine; decide), fun b hb => ?_⟩⟩
  have nbb : b ≠ bl := fun z => by rw [z, upd_same] at hb; cases hb
  have S1 : Same H (upd (upd H bl (.lst [])) b (.tup [.int many, .ref bl])) := (same_new hbl _).trans (same_new hb _)
  have hb1 : upd (upd H bl (.lst [])) b (.tup [.int many, .ref bl]) b = some (.tup [.int many, .ref bl]) := upd_same
  have hbl1 : upd (upd H bl (.lst [])) b (.tup [.int many, .ref bl]) bl = some (.lst []) := putk nbb.symm upd_same
  generalize upd (upd H bl (.lst [])) b (.tup [.int many, .ref bl]) = H1 at S1 hb1 hbl1 ⊢
  clear hb
  try dsimp only [gName]
  try (refine opn hTq ?_; clear hTq Tq)
  try refine tabs fun Tq hTq => ?_
  refine ⟨_, rfl, dl, rfl, ⟨_, SqL.of (S1 _ _ hdl)⟩, for_list (xs := us) (fun i σ H' => Ex5 fun (z4 z5 z6 z7 z8 : Option V) => σ = [some (.int many), some (.ref dl), some (.int least), some (.ref b), z4, z5, z6, z7, z8] ∧ Same H H' ∧ H' b = some (.tup [.int many, .ref bl]) ∧ H' bl = some (.lst ((D.take i).flatten.map V.int))) ⟨_, _, _, _, _, rfl, S1, hb1, hbl1⟩ (fun i σ H' _ h => by obtain ⟨_, _, _, _, _, _, S, _⟩ := h; exact SqL.of (S _ _ hdl)) ?_ ?_⟩
  · intro i v σ H' hv hz_
    first | (refine Ex5.st σ hz_ fun z4 z5 z6 z7 z8 hz_ => ?_; have S2 := hz_.1; have hb2 := hz_.2.1; have hbl2 := hz_.2.2; clear hz_) | obtain ⟨z4, z5, z6, z7, z8, rfl, S2, hb2, hbl2⟩ := hz_
    obtain ⟨d, hd, d0, rfl, hd0⟩ := paired_take hus hv
    try dsimp only [gName]
    try (refine opn hTq ?_; clear hTq Tq)
    try refine tabs fun Tq hTq => ?_
    have f1 := (hD.take i).flat.1
    have f2 := (hD.2 d (List.mem_of_getElem? hd)).1
    refine ⟨_, rfl, b, _, _, _, rfl, rfl, SqT.of hb2, rfl, tyL hbl2, _, rfl, bl, d0, _, _, rfl, rfl, hbl2, S2 _ _ hd0, (by rw [List.length_map, List.length_map]; exact small (by omega)), _, _, _, _, _, rfl, same_put S2 hbl, putk nbb hb2, ?_⟩
    rw [flat_take hd, List.map_append]
    exact upd_same
  intro σ H2 hz_
  first | (refine Ex5.st σ hz_ fun z4 z5 z6 z7 z8 hz_ => ?_; have S2 := hz_.1; have hb2 := hz_.2.1; have hbl2 := hz_.2.2; clear hz_) | obtain ⟨z4, z5, z6, z7, z8, rfl, S2, hb2, hbl2⟩ := hz_
  rw [List.take_of_length_le (by omega)] at hbl2
  clear hb1 hbl1 S1 H1 hdl hus
  generalize D.flatten = bs at f160 fin hbl2 q
  -- cut
  try dsimp only [gName]
  try (refine opn hTq ?_; clear hTq Tq)
  try refine tabs fun Tq hTq => ?_
  intro d hd
  have S3 := S2.trans (same_new hd (.dK []))
  have hb3 := (same_new hd (.dK [])) _ _ hb2
  have hbl3 := (same_new hd (.dK [])) _ _ hbl2
  have hd3 : upd H2 d (.dK []) d = some (.dK (injK [])) := upd_same
  have ndb : b ≠ d := ne_of_none hb2 hd
  have ndl : bl ≠ d := ne_of_none hbl2 hd
  have hdH : H d = none := S2.free hd
  generalize upd H2 d (.dK []) = H3 at S3 hb3 hbl3 hd3 ⊢
  clear hd hb2 hbl2 S2
  try dsimp only [gName]
  try (refine opn hTq ?_; clear hTq Tq)
  try refine tabs fun Tq hTq => ?_
  refine ⟨_, rfl, b, _, _, _, rfl, rfl, SqT.of hb3, rfl, bl, rfl, ⟨_, SqL.of hbl3⟩, for_list (xs := bs.map V.int) (fun i σ H' => Ex5 fun (rs : List (Int × V)) (z4 z6 z7 z8 : Option V) => σ = [some (.int many), some (.ref dl), some (.int least), some (.ref b), z4, some (.ref d), z6, z7, z8] ∧ Same H H' ∧ H' b = some (.tup [.int many, .ref bl]) ∧ H' bl = some (.lst (bs.map V.int)) ∧ H' d = some (.dK (injK rs)) ∧ (rs.map Prod.fst).Nodup ∧ CrOf many (bs.take i) (rs.map Prod.fst)) ⟨[], _, _, _, _, rfl, S3, hb3, hbl3, hd3, List.nodup_nil, CrOf.nil many⟩ (fun i σ H' _ h => by obtain ⟨_, _, _, _, _, _, _, _, h, _⟩ := h; exact SqL.of h) ?_ ?_⟩
  · intro i v σ H4 hv hz_
    first | (refine Ex5.st σ hz_ fun rs z4 z6 z7 z8 hz_ => ?_; have S4 := hz_.1; have hb4 := hz_.2.1; have hbl4 := hz_.2.2.1; have hd4 := hz_.2.2.2.1; have hnd := hz_.2.2.2.2.1; have hcr := hz_.2.2.2.2.2; clear hz_) | obtain ⟨rs, z4, z6, z7, z8, rfl, S4, hb4, hbl4, hd4, hnd, hcr⟩ := hz_
    have hi : i < bs.length := by have := (List.getElem?_eq_some_iff.mp hv).1; rwa [List.length_map] at this
    have hv' := ints_get hv
    subst hv'
    have hge : bs[i]? = some (bs.getD i 0) := by rw [List.getD_eq_getElem?_getD, List.getElem?_eq_getElem hi]; rfl
    have hbI : InB many (bs.getD i 0) := fin _ (List.mem_of_getElem? hge)
    generalize bs.getD i 0 = x at hge hbI
    have hkI : ∀ y ∈ rs.map Prod.fst, InB many y := fun y hy => ((hcr y).mp hy).1
    have hkl := inb_len hnd hkI m12
    rw [List.length_map] at hkl
    try dsimp only [gName]
    try (refine opn hTq ?_; clear hTq Tq)
    try refine tabs fun Tq hTq => ?_
    refine ⟨_, rfl, tyD hd4, d, _, rfl, rfl, hd4, fun v hv => ⟨v, d, _, rfl, upd_same, (same_new hv _) _ _ hd4, fun l1' hl1 => ⟨_, rfl, (by show 1 ≤ sizeLine; decide), fun l2 hl2 => ⟨l1', l2, _, _, rfl, rfl, (same_new hl2 _) _ _ upd_same, upd_same, ?_, fun l3 hl3 => ?_⟩⟩⟩⟩
    · rw [injK_keys, List.length_map, List.length_map]; show _ + 1 ≤ 16777216; omega
    rw [injK_keys] at hl2 hl3 ⊢
    have ex : (rs.map Prod.fst).map V.int ++ [V.int x] = (rs.map Prod.fst ++ [x]).map V.int := by rw [List.map_append]; rfl
    rw [ex]
    have SS := (((same_new hv (KeysO v d)).trans (same_new hl1 (.lst ((rs.map Prod.fst).map V.int)))).trans (same_new hl2 (.lst [V.int x]))).trans (same_new hl3 (.lst ((rs.map Prod.fst ++ [x]).map V.int)))
    have hl3' : H4 l3 = none := (((same_new hv _).trans (same_new hl1 _)).trans (same_new hl2 _)).free hl3
    have h3 : upd (upd (upd (upd H4 v (KeysO v d)) l1' (.lst ((rs.map Prod.fst).map V.int))) l2 (.lst [V.int x])) l3 (.lst ((rs.map Prod.fst ++ [x]).map V.int)) l3 = some (.lst ((rs.map Prod.fst ++ [x]).map V.int)) := upd_same
    generalize upd (upd (upd (upd H4 v (KeysO v d)) l1' (.lst ((rs.map Prod.fst).map V.int))) l2 (.lst [V.int x])) l3 (.lst ((rs.map Prod.fst ++ [x]).map V.int)) = H5 at SS h3 ⊢
    have nd3 : l3 ≠ d := (ne_of_none hd4 hl3').symm
    generalize hks : rs.map Prod.fst = ks at hnd hcr hkI h3 ⊢
    refine ⟨l3, rfl, ⟨_, SqL.of h3⟩, for_list (xs := (ks ++ [x]).map V.int) (fun j σ H' => Ex2 fun (rs' : List (Int × V)) (z7 : Option V) => σ = [some (.int many), some (.ref dl), some (.int least), some (.ref b), z4, some (.ref d), some (.int x), z7, z8] ∧ Same H H' ∧ H' b = some (.tup [.int many, .ref bl]) ∧ H' bl = some (.lst (bs.map V.int)) ∧ H' d = some (.dK (injK rs')) ∧ (rs'.map Prod.fst).Nodup ∧ (∀ y, y ∈ rs'.map Prod.fst ↔ y ∈ ks ∨ ∃ l ∈ (ks ++ [x]).take j, y = Builtin.bitAnd l x) ∧ H' l3 = some (.lst ((ks ++ [x]).map V.int)))
      ⟨rs, _, rfl, S4.trans SS, SS _ _ hb4, SS _ _ hbl4, SS _ _ hd4, by rw [hks]; exact hnd, fun y => by rw [hks]; exact ⟨.inl, fun z => z.elim id fun ⟨l, hl, _⟩ => (nomatch hl)⟩, h3⟩ (fun i σ H' _ h => by obtain ⟨_, _, _, _, _, _, _, _, _, h⟩ := h; exact SqL.of h) ?_ ?_⟩
    · intro j v' σ H6 hv6 hz_
      first | (refine Ex2.st σ hz_ fun rs' z7' hz_ => ?_; have S6 := hz_.1; have hb6 := hz_.2.1; have hbl6 := hz_.2.2.1; have hd6 := hz_.2.2.2.1; have hnd6 := hz_.2.2.2.2.1; have hm6 := hz_.2.2.2.2.2.1; have h36 := hz_.2.2.2.2.2.2; clear hz_) | obtain ⟨rs', z7', rfl, S6, hb6, hbl6, hd6, hnd6, hm6, h36⟩ := hz_
      have hj : j < (ks ++ [x]).length := by have := (List.getElem?_eq_some_iff.mp hv6).1; rwa [List.length_map] at this
      have hv7 := ints_get hv6
      subst hv7
      have hgj : (ks ++ [x])[j]? = some ((ks ++ [x]).getD j 0) := by rw [List.getD_eq_getElem?_getD, List.getElem?_eq_getElem hj]; rfl
      generalize (ks ++ [x]).getD j 0 = l at hgj
      have allI : ∀ y ∈ ks ++ [x], InB many y := fun y hy => by
        obtain z | z := List.mem_append.mp hy
        · exact hkI y z
        · rw [List.mem_singleton.mp z]; exact hbI
      have h6I : ∀ y ∈ rs'.map Prod.fst, InB many y := fun y hy => by
        obtain z | ⟨l, hl, e⟩ := (hm6 y).mp hy
        · exact hkI y z
        · rw [e]; exact (allI l (List.mem_of_mem_take hl)).and hbI
      have h6l := inb_len hnd6 h6I m12
      rw [List.length_map] at h6l
      obtain ⟨rs2, e2, n2, m2⟩ := put_injK rs' (Builtin.bitAnd l x) (.int 0) hnd6
      try dsimp only [gName]
      try (refine opn hTq ?_; clear hTq Tq)
      try refine tabs fun Tq hTq => ?_
      refine ⟨_, rfl, _, rfl, _, rfl, _, _, rfl, rfl, d, _, rfl, DPut.k (k := .inl (Builtin.bitAnd l x)) hd6 (by rw [injK_len]; show _ < 16777216; omega), rs2, _, rfl, same_put S6 hdH, putk ndb hb6, putk ndl hbl6, by rw [e2]; exact upd_same, n2, fun y => ?_, putk nd3 h36⟩
      rw [m2, hm6, take_snoc hgj]
      constructor
      · intro hz_
        obtain ((z | ⟨l', hl', e⟩) | e) := hz_
        · exact .inl z
        · exact .inr ⟨l', List.mem_append_left _ hl', e⟩
        · exact .inr ⟨l, List.mem_append_right _ (.head _), e⟩
      · intro hz_
        obtain (z | ⟨l', hl', e⟩) := hz_
        · exact .inl (.inl z)
        · obtain w | w := List.mem_append.mp hl'
          · exact .inl (.inr ⟨l', w, e⟩)
          · rw [List.mem_singleton.mp w] at e; exact .inr e
    · intro σ H6 hz_
      first | (refine Ex2.st σ hz_ fun rs' z7' hz_ => ?_; have S6 := hz_.1; have hb6 := hz_.2.1; have hbl6 := hz_.2.2.1; have hd6 := hz_.2.2.2.1; have hnd6 := hz_.2.2.2.2.1; have hm6 := hz_.2.2.2.2.2.1; have h36 := hz_.2.2.2.2.2.2; clear hz_) | obtain ⟨rs', z7', rfl, S6, hb6, hbl6, hd6, hnd6, hm6, h36⟩ := hz_
      rw [List.length_map, List.take_length] at hm6
      refine ⟨rs', _, _, _, _, rfl, S6, hb6, hbl6, hd6, hnd6, ?_⟩
      rw [take_snoc hge]
      exact CrOf.step (fun y hy => fin y (List.mem_of_mem_take hy)) hbI hcr hm6
  intro σ H4 hz_
  first | (refine Ex5.st σ hz_ fun rs z4 z6 z7 z8 hz_ => ?_; have S4 := hz_.1; have hb4 := hz_.2.1; have hbl4 := hz_.2.2.1; have hd4 := hz_.2.2.2.1; have hnd := hz_.2.2.2.2.1; have hcr := hz_.2.2.2.2.2; clear hz_) | obtain ⟨rs, z4, z6, z7, z8, rfl, S4, hb4, hbl4, hd4, hnd, hcr⟩ := hz_
  rw [List.length_map, List.take_length] at hcr
  have hkl := inb_len hnd (fun y hy => ((hcr y).mp hy).1) m12
  rw [List.length_map] at hkl
  try dsimp only [gName]
  try (refine opn hTq ?_; clear hTq Tq)
  try refine tabs fun Tq hTq => ?_
  refine ⟨_, rfl, tyD hd4, d, _, rfl, rfl, hd4, fun v hv => ⟨v, d, rs, rfl, upd_same, (same_new hv _) _ _ hd4, fun sl ns hsl hpm hpw => ?_⟩⟩
  have S5 := (same_new hv (KeysO v d)).trans (same_new hsl (.lst (ns.map V.int)))
  have hsl5 : upd (upd H4 v (KeysO v d)) sl (.lst (ns.map V.int)) sl = some (.lst (ns.map V.int)) := upd_same
  generalize upd (upd H4 v (KeysO v d)) sl (.lst (ns.map V.int)) = H5 at S5 hsl5 ⊢
  have hnl : ns.length ≤ 4096 := by rw [hpm.length_eq, List.length_map]; exact hkl
  have hlt : ns.Pairwise (· < ·) := by
    have h1 : ns.Nodup := hpm.nodup_iff.mpr hnd
    exact (List.Pairwise.and hpw h1).imp fun {a b} z => by have := z.1; have := z.2; omega
  refine ⟨sl, rfl, ⟨_, SqL.of hsl5⟩, compR_list (SqL.of hsl5) (fun _ => true) (fun x => (x, countF bs x)) (by omega) (fun x H6 hx S6 => turn_is look_yes fun _ H7 S7 Q k1 => ?_) (fun rl ys H6 hrl0 S6 hrl hR => ?_)⟩
  · have S57 := (S5.trans S6).trans S7
    exact ⟨_, rfl, _, rfl, _, rfl, b, many, bs, x, rfl, ⟨bl, SqT.of (S57 _ _ hb4), SqL.of (S57 _ _ hbl4)⟩, by omega, m0, by omega, fun H8 S8 => ⟨(by show 2 ≤ sizeLine; decide), fun t ht => k1 _ _ (S7.trans (S8.trans (same_new ht _))) ⟨t, rfl, upd_same⟩⟩⟩
  rw [filter_true] at hR
  try dsimp only [gName]
  try (refine opn hTq ?_; clear hTq Tq)
  try refine tabs fun Tq hTq => ?_
  refine ⟨_, rfl, rl, rfl, ⟨_, SqL.of hrl⟩, compR_rows (SqL.of hrl) hR (fun r => decide (least ≤ r.2)) id (by rw [List.length_map]; omega) (fun m u H7 hm hu S => turn_pick (y := .ref u) (.pure fun Q h => ⟨_, rfl, u, _, _, _, rfl, rfl, SqT.of hu, rfl, _, rfl, _, _, rfl, rfl, _, rfl, h⟩) (fun _ H4 S4 => .pure fun Q h => ⟨_, rfl, h⟩) fun _ H4 S4 => ⟨u, rfl, S4 _ _ hu⟩) (fun t zs H7 ht0 S7 ht hRt => ?_)⟩
  rw [List.map_id, cross_rows l1 hcr (fun x => hpm.mem_iff) hlt] at hRt
  exact q t zs H7 (S4.trans (S5.trans (S6.trans S7))) ((S4.trans (S5.trans S6)).free ht0) ht hRt
noncomputable abbrev n_L_changes : List Str := ["_law_ahead", "_law_behind", "_law_then", "_law_now", "_law_came", "_law_went", "_law_moved"]
theorem sc_L_changes : FnScope n_L_changes ["_law_ahead", "_law_behind"] (defScope s_L_changes) := ⟨rfl, rfl, rfl, by decide +kernel, rfl, by decide +kernel, by decide +kernel⟩
theorem nd_L_changes_0 : (["_law_row", "_law_then"] : List Str).Nodup := by decide +kernel
theorem nd_L_changes_1 : (["_law_row", "_law_now"] : List Str).Nodup := by decide +kernel
theorem nd_L_changes_2 : (["_law_lot", "_law_then", "_law_now"] : List Str).Nodup := by decide +kernel
set_option maxHeartbeats 1000000 in
theorem ok_L_changes (F : Fun K "_law_changes" "_law_changes" s_L_changes f fd) (b : Binds K fd ["_law_ahead", "_law_behind"] []) (m : mg "_law_changes" = some (.ref f)) (M_dict : mg "dict" = none) (M_sorted : mg "sorted" = none)  : Dfn P w K mg base (k + 1) "_law_changes" ["_law_ahead", "_law_behind"] (sp2Chg K) := by
  refine .of F b m sc_L_changes (fun vs H Q E h => ?_) (fun cdv A outer s H vs Q E hr h => ?_)
  · obtain ⟨a, b', A', B', rfl, hA, hB, q⟩ := h; rfl
  obtain ⟨a, b', A', B', rfl, hA, hB, q⟩ := h
  have nd := sc_L_changes.nd
  refine ⟨_, pss_cons (ps_set (i := 2) nd rfl (Or.inr rfl) (pe_callTy (call_dictR rfl) (by rfl) M_dict PyProof.Rows.boot_dict (pa_cons (pv 0) pa_nil)))
    (pss_cons (ps_set (i := 3) nd rfl (Or.inr rfl) (pe_callTy (call_dictR rfl) (by rfl) M_dict PyProof.Rows.boot_dict (pa_cons (pv 1) pa_nil)))
    (pss_cons (ps_setCompC (i := 4) nd rfl rfl ["_law_row"] [2] (sc := defScope s_L_changes) (N := n_L_changes) (.inl rfl) rfl ⟨rfl, by decide +kernel, by decide +kernel, by decide +kernel, by decide +kernel⟩ rfl (pi_list (pv 1)) (fun cl s H C fp => (pg_name (i := 0) nd_L_changes_0 rfl (Or.inl rfl))) (fun cl s H C fp => pifs_one (pt_cmp (pc_dnotin (hu_of hr) (pe_ix (ix_tupK K rfl) (pv 0) pe_int (fun _ _ => rfl)) (pv 1)))) (fun cl s H C fp => (pv 0)) rfl)
    (pss_cons (ps_setCompC (i := 5) nd rfl rfl ["_law_row"] [3] (sc := defScope s_L_changes) (N := n_L_changes) (.inl rfl) rfl ⟨rfl, by decide +kernel, by decide +kernel, by decide +kernel, by decide +kernel⟩ rfl (pi_list (pv 0)) (fun cl s H C fp => (pg_name (i := 0) nd_L_changes_1 rfl (Or.inl rfl))) (fun cl s H C fp => pifs_one (pt_cmp (pc_dnotin (hu_of hr) (pe_ix (ix_tupK K rfl) (pv 0) pe_int (fun _ _ => rfl)) (pv 1)))) (fun cl s H C fp => (pv 0)) rfl)
    (pss_cons (ps_setCompC (i := 6) nd rfl rfl ["_law_lot"] [2, 3] (sc := defScope s_L_changes) (N := n_L_changes) (.inl rfl) rfl ⟨rfl, by decide +kernel, by decide +kernel, by decide +kernel, by decide +kernel⟩ rfl (pi_list (pe_callB (call_sortD rfl) (by rfl) M_sorted PyProof.Rows.boot_sorted (pa_cons (pv 3) pa_nil))) (fun cl s H C fp => (pg_name (i := 0) nd_L_changes_2 rfl (Or.inl rfl))) (fun cl s H C fp => pifs_one (PW.pt (pw_and (pt_cmp (pc_din (hu_of hr) (pv 0) (pv 1))) (pw_and1 (pt_cmpR op_ne (pe_dget (hu_of hr) (pv 1) (pv 0) (fun _ _ => rfl)) (pe_dget (hu_of hr) (pv 2) (pv 0) (fun _ _ => rfl)) (nomark _)))))) (fun cl s H C fp => (pe_tup (pa_cons (pv 0) (pa_cons (pe_dget (hu_of hr) (pv 1) (pv 0) (fun _ _ => rfl)) (pa_cons (pe_dget (hu_of hr) (pv 2) (pv 0) (fun _ _ => rfl)) pa_nil))))) rfl)
    (pss_one (ps_ret (pe_tup (pa_cons (pv 4) (pa_cons (pv 5) (pa_cons (pv 6) pa_nil)))))))))), ?_⟩
  try refine tabs fun Tq hTq => ?_
  have hA0 := hA
  have hB0 := hB
  obtain ⟨xs, ha, hRA, rA, lA⟩ := hA
  obtain ⟨ys, hb, hRB, rB, lB⟩ := hB
  refine ⟨_, rfl, a, xs, A', rfl, ha, hRA, rise_nodup rA, fun d1 hd10 => ?_⟩
  have S1 := same_new hd10 (.dK (tabR A'))
  have hd1 : upd H d1 (.dK (tabR A')) d1 = some (.dK (tabR A')) := upd_same
  generalize upd H d1 (.dK (tabR A')) = H1 at S1 hd1 ⊢
  try dsimp only [gName]
  try (refine opn hTq ?_; clear hTq Tq)
  try refine tabs fun Tq hTq => ?_
  refine ⟨_, rfl, b', ys, B', rfl, S1 _ _ hb, hRB.same S1.t, rise_nodup rB, fun d2 hd20 => ?_⟩
  have S2 := S1.trans (same_new hd20 (.dK (tabR B')))
  have hd12 := (same_new hd20 (.dK (tabR B'))) _ _ hd1
  have hd2 : upd H1 d2 (.dK (tabR B')) d2 = some (.dK (tabR B')) := upd_same
  generalize upd H1 d2 (.dK (tabR B')) = H2 at S2 hd2 hd12 ⊢
  clear S1 hd1
  try dsimp only [gName]
  try (refine opn hTq ?_; clear hTq Tq)
  try refine tabs fun Tq hTq => ?_
  refine ⟨_, rfl, b', rfl, ⟨_, SqL.of (S2 _ _ hb)⟩, compR_rows (SqL.of (S2 _ _ hb)) (hRB.same S2.t) (fun r => !(cnt2 A' r.1).isSome) id (by omega) (fun m u H7 hm hu S => turn_pick (y := .ref u) (.pure fun Q h => ⟨_, rfl, u, _, _, _, rfl, rfl, SqT.of hu, rfl, _, rfl, d1, _, rfl, DGet.k (k := .inl m.1) (S _ _ hd12), _, rfl, (by rw [val_tab, Option.isSome_map]; exact h)⟩) (fun _ H4 S4 => .pure fun Q h => ⟨_, rfl, h⟩) fun _ H4 S4 => ⟨u, rfl, S4 _ _ hu⟩) (fun c cs H3 hc0 S3 hc hcR => ?_)⟩
  rw [List.map_id] at hcR
  have S23 := S2.trans S3
  try dsimp only [gName]
  try (refine opn hTq ?_; clear hTq Tq)
  try refine tabs fun Tq hTq => ?_
  refine ⟨_, rfl, a, rfl, ⟨_, SqL.of (S23 _ _ ha)⟩, compR_rows (SqL.of (S23 _ _ ha)) (hRA.same S23.t) (fun r => !(cnt2 B' r.1).isSome) id (by omega) (fun m u H7 hm hu S => turn_pick (y := .ref u) (.pure fun Q h => ⟨_, rfl, u, _, _, _, rfl, rfl, SqT.of hu, rfl, _, rfl, d2, _, rfl, DGet.k (k := .inl m.1) ((S3.trans S) _ _ hd2), _, rfl, (by rw [val_tab, Option.isSome_map]; exact h)⟩) (fun _ H4 S4 => .pure fun Q h => ⟨_, rfl, h⟩) fun _ H4 S4 => ⟨u, rfl, S4 _ _ hu⟩) (fun w' ws H4 hw0 S4 hw hwR => ?_)⟩
  rw [List.map_id] at hwR
  have S24 := S3.trans S4
  try dsimp only [gName]
  try (refine opn hTq ?_; clear hTq Tq)
  try refine tabs fun Tq hTq => ?_
  refine ⟨_, rfl, d2, B', rfl, S24 _ _ hd2, fun sl ns hsl hpm hpw => ?_⟩
  have en : ns = B'.map Prod.fst := List.Perm.eq_of_pairwise (le := (· ≤ ·)) (fun a b _ _ h3 h4 => Int.le_antisymm h3 h4) hpw (rB.imp fun {a b} z => Int.le_of_lt z) hpm
  rw [en]
  have S5 := same_new hsl (.lst (ns.map V.int))
  rw [en] at S5
  have hsl5 : upd H4 sl (.lst ((B'.map Prod.fst).map V.int)) sl = some (.lst ((B'.map Prod.fst).map V.int)) := upd_same
  generalize upd H4 sl (.lst ((B'.map Prod.fst).map V.int)) = H5 at S5 hsl5 ⊢
  have S25 := S24.trans S5
  refine ⟨sl, rfl, ⟨_, SqL.of hsl5⟩, compA_list (SqL.of hsl5) (paired_ints _) (fun x => (cnt2 A' x).isSome && !((cnt2 A' x).getD 0 == (cnt2 B' x).getD 0)) (fun H y x => RowT H y [x, (cnt2 A' x).getD 0, (cnt2 B' x).getD 0]) (fun _ _ _ _ S z => z.same S) (by rw [List.length_map]; omega) (fun x v H7 hm hv S => ?_) (fun t zs H6 ht0 S6 ht hR => ?_)⟩
  · rw [hv]
    obtain ⟨r, hr', er⟩ := List.mem_map.mp hm
    have hx2 : cnt2 B' x = some r.2 := by rw [← er]; exact cnt_in (rise_nodup rB) hr'
    have S27 := S25.trans S
    refine turn_is ?_ fun hb' H8 S8 Q k1 => ?_
    · refine lookAnd (c := (cnt2 A' x).isSome) (d := !((cnt2 A' x).getD 0 == (cnt2 B' x).getD 0)) (.pure fun Q h => ⟨_, rfl, _, rfl, d1, _, rfl, DGet.k (k := .inl x) (S27 _ _ hd12), _, rfl, (by rw [val_tab, Option.isSome_map]; exact h)⟩) (fun hs H9 S9 => .pure fun Q h => ?_)
      obtain ⟨n, hn⟩ := Option.isSome_iff_exists.mp hs
      refine ⟨_, rfl, _, rfl, d1, V.int n, rfl, (by have := DGet.k (k := .inl x) ((S27.trans S9) _ _ hd12); rw [val_tab, hn] at this; exact this), _, rfl, _, rfl, d2, V.int r.2, rfl, (by have := DGet.k (k := .inl x) ((S27.trans S9) _ _ hd2); rw [val_tab, hx2] at this; exact this), rfl, _, rfl, ?_⟩
      rw [int_eq]
      rw [hn, hx2] at h
      exact h
    · have hs := (Bool.and_eq_true_iff.mp hb').1
      obtain ⟨n, hn⟩ := Option.isSome_iff_exists.mp hs
      refine ⟨_, rfl, _, rfl, _, rfl, d1, V.int n, rfl, (by have := DGet.k (k := .inl x) ((S27.trans S8) _ _ hd12); rw [val_tab, hn] at this; exact this), _, rfl, _, rfl, d2, V.int r.2, rfl, (by have := DGet.k (k := .inl x) ((S27.trans S8) _ _ hd2); rw [val_tab, hx2] at this; exact this), (by show 3 ≤ sizeLine; decide), fun t ht => k1 _ _ (S8.trans (same_new ht _)) ⟨t, rfl, ?_⟩⟩
      rw [hn, hx2]; exact upd_same
  have hR' : RowsT H6 zs (movF A' B') := by
    have := paired_mapF (F := RowT H6) (f := fun x => [x, (cnt2 A' x).getD 0, (cnt2 B' x).getD 0]) hR
    rw [mov_lots (rise_nodup rB)] at this
    exact this
  have S46 := S5.trans S6
  try dsimp only [gName]
  try (refine opn hTq ?_; clear hTq Tq)
  try refine tabs fun Tq hTq => ?_
  refine ⟨_, rfl, _, rfl, _, rfl, (by show 3 ≤ sizeLine; decide), fun tt htt => ?_⟩
  have S7 := same_new htt (.tup [.ref c, .ref w', .ref t])
  refine q tt _ (S23.trans (S4.trans (S46.trans S7))) (.tup (SqT.of upd_same) (.cons ?_ (.cons ?_ (.cons ?_ .nil))))
  · have SS := S4.trans (S46.trans S7)
    exact .lst (SqL.of (SS _ _ hc)) (hcR.same SS.t).dr
  · have SS := S46.trans S7
    exact .lst (SqL.of (SS _ _ hw)) (hwR.same SS.t).dr
  · exact .lst (SqL.of (S7 _ _ ht)) (hR'.same S7.t).dr

noncomputable abbrev n_L_day : List Str := ["_law_cell", "_law_many", "_law_digits", "_law_day_here", "_law_digit", "_law_basket"]
theorem sc_L_day : FnScope n_L_day ["_law_cell", "_law_many"] (defScope s_L_day) := ⟨rfl, rfl, rfl, by decide +kernel, rfl, by decide +kernel, by decide +kernel⟩
theorem ok_L_day (F : Fun K "_law_day" "_law_day" s_L_day f fd) (b : Binds K fd ["_law_cell", "_law_many"] []) (m : mg "_law_day" = some (.ref f))  (G_L_draws : Dfn P w K mg base k "_law_draws" ["_law_cell", "_law_many", "_law_base"] spDraws) : Dfn P w K mg base (k + 1) "_law_day" ["_law_cell", "_law_many"] spDay31 := by
  refine .of F b m sc_L_day (fun vs H Q E h => ?_) (fun cdv A outer s H vs Q E hr h => ?_)
  · obtain ⟨c, many, rfl, m1, m12, q⟩ := h; rfl
  obtain ⟨c, many, rfl, m1, m12, q⟩ := h
  have nd := sc_L_day.nd
  have le := Nat.le_refl k
  refine ⟨_, pss_cons (ps_set (i := 2) nd rfl (Or.inl rfl) (pe_def G_L_draws hr le rfl (pa_cons (pv 0) (pa_cons pe_int (pa_cons pe_int pa_nil)))))
    (pss_cons (ps_set (i := 3) nd rfl (Or.inl rfl) (pe_lst pa_nil))
    (pss_cons (ps_for PassesOwn.never rfl (pi_list (pe_slice sl_list (pv 2) (po_some pe_int) (po_some (pe_op op_add pe_int (pe_op op_mod (pe_ix ix_list (pv 2) pe_int (fun _ _ => rfl)) pe_int))))) (pg_name (i := 4) nd rfl (Or.inl rfl))
      (pss_cons (ps_set (i := 5) nd rfl (Or.inl rfl) (pe_op op_mod (pv 4) (pe_op op_shl pe_int (pv 1))))
      (pss_mid (ps_if (PW.pt (pw_and (pt_cmpR op_eq (pe_op op_mod (pe_op op_fdiv (pv 4) pe_int) pe_int) pe_int (nomark _)) (pw_and1 (pt_cmpR (op_neD hr) (pv 3) (pe_lst pa_nil) (nomark _))))) (pss_one (ps_set (i := 5) nd rfl (Or.inl rfl) (pe_ix ix_list (pv 3) (pe_un un_neg pe_int) (fun _ _ => rfl)))) pss_nil)
      (pss_mid (ps_if (pt_cmpR op_eq (pe_op op_mod (pe_op op_fdiv (pv 4) pe_int) pe_int) pe_int (nomark _)) (pss_one (ps_set (i := 5) nd rfl (Or.inl rfl) (pe_op op_and (pv 5) (pe_op op_fdiv (pv 4) pe_int)))) pss_nil)
      (pss_one (ps_expr (pe_bm PySem.F.plainAttrs_list PySem.F.slot_list_append PySem.F.type_list_append mt_append (pv 3) (pa_cons (pv 5) pa_nil))))))))
    (pss_one (ps_ret (pv 3))))), ?_⟩
  try refine tabs fun Tq hTq => ?_
  refine ⟨_, rfl, c, 6, 65536, rfl, by decide, by decide, by decide, by decide, fun d H1 ds S1 hd0 hd hlen hds => ?_⟩
  have i0 : atI (ds.map V.int) 0 = some (.int (ds.getD 0 0)) := atI_int (by decide) (by omega)
  -- cut
  try dsimp only [gName]
  try (refine opn hTq ?_; clear hTq Tq)
  try refine tabs fun Tq hTq => ?_
  refine ⟨nil_len, fun l hl0 => ?_⟩
  have hl0H : H l = none := S1.free hl0
  have S2 : Same H (upd H1 l (.lst [])) := S1.trans (same_new hl0 _)
  have hd2 : upd H1 l (.lst []) d = some (.lst (ds.map V.int)) := same_new hl0 _ _ _ hd
  have he0 := Int.emod_nonneg (ds.getD 0 0) (show (6 : Int) ≠ 0 by decide)
  have he1 := Int.emod_lt_of_pos (ds.getD 0 0) (show (0 : Int) < 6 by decide)
  -- cut
  try dsimp only [gName]
  try (refine opn hTq ?_; clear hTq Tq)
  try refine tabs fun Tq hTq => ?_
  refine ⟨_, rfl, _, rfl, _, rfl, d, _, _, _, rfl, rfl, SqL.of hd2, i0, _, _, rfl, rfl, (by show (0 : Int) < 6; decide), _, _, rfl, rfl, _, rfl, d, _, rfl, SqL.of hd2, fun sl hsl => ?_⟩
  rw [cut_ints]
  have hcm : ∀ x ∈ cutI ds (some 1) (some (1 + ds.getD 0 0 % 6)), 0 ≤ x ∧ x < 65536 := fun x hx => hds x (cutI_sub hx)
  generalize hcut : cutI ds (some 1) (some (1 + ds.getD 0 0 % 6)) = cs at hcm
  have hcs : cs.length ≤ 5 := by
    have z := cutI_len ds 1 (1 + ds.getD 0 0 % 6).toNat
    have e : (((1 + ds.getD 0 0 % 6).toNat : Nat) : Int) = 1 + ds.getD 0 0 % 6 := by omega
    rw [e] at z
    have e2 : cutI ds (some ((1 : Nat) : Int)) (some (1 + ds.getD 0 0 % 6)) = cs := hcut
    rw [e2] at z
    omega
  have slne : sl ≠ l := fun e => by rw [e, upd_same] at hsl; cases hsl
  have S3 : Same H (upd (upd H1 l (.lst [])) sl (.lst (cs.map V.int))) := S2.trans (same_new hsl _)
  generalize hH3 : upd (upd H1 l (.lst [])) sl (.lst (cs.map V.int)) = H3 at S3
  have h3sl : SqL K H3 sl (cs.map V.int) := by rw [← hH3]; exact SqL.of upd_same
  have h3l : H3 l = some (.lst []) := by rw [← hH3, upd_ne (Ne.symm slne)]; exact upd_same
  refine ⟨sl, rfl, ⟨_, h3sl⟩, for_list (xs := cs.map V.int) (fun i σ H' => Ex3 fun (bs : List Int) (z1 z2 : Option V) => σ = [some (.int c), some (.int many), some (.ref d), some (.ref l), z1, z2] ∧ bs.length = i ∧ (∀ x ∈ bs, InB many x) ∧ SameB l H3 H' ∧ H' l = some (.lst (bs.map V.int)))
    ⟨[], none, none, rfl, rfl, (fun d hd => nomatch hd), (Same.refl _).b, h3l⟩ (fun i σ H' _ h => ?_) ?_ ?_⟩
  · obtain ⟨bs, z1, z2, _, _, _, SB, _⟩ := h
    exact SB.seq slne h3sl
  · intro i x σ H' hx hz_
    first | (refine Ex3.st σ hz_ fun bs z1 z2 hz_ => ?_; have hl := hz_.1; have hb := hz_.2.1; have SB := hz_.2.2.1; have h' := hz_.2.2.2; clear hz_) | obtain ⟨bs, z1, z2, rfl, hl, hb, SB, h'⟩ := hz_
    have hi : i < cs.length := by have := (List.getElem?_eq_some_iff.mp hx).1; rwa [List.length_map] at this
    have hx' := ints_get hx
    subst hx'
    have hdm : cs.getD i 0 ∈ cs := by rw [List.getD_eq_getElem?_getD, List.getElem?_eq_getElem hi]; exact List.getElem_mem hi
    have hdg := hcm _ hdm
    generalize hdig : cs.getD i 0 = dig at hdg
    refine ⟨_, rfl, _, rfl, _, _, rfl, rfl, ⟨by omega, by omega, by decide⟩, _, _, rfl, rfl, two_pow_pos _, ?_⟩
    refine ⟨fun σ H1 => ∃ y : Int, σ = [some (.int c), some (.int many), some (.ref d), some (.ref l), some (.int dig), some (.int y)] ∧ InB many y ∧ Same H' H1, ?_, ?_⟩
    · refine lookAnd (c := _) (d := _) (.pure fun Q h => ⟨_, rfl, _, _, rfl, rfl, ⟨by decide, by decide⟩, _, _, rfl, rfl, (by show (0 : Int) < 4; decide), rfl, _, rfl, h⟩)
        (fun _ H1 SH => fun Q h => ⟨_, rfl, (by show 0 ≤ sizeLine; decide), fun p hp => ⟨_, _, .lst (SqL.of (same_new hp _ _ _ (SH _ _ h'))) (DRs.ints bs), .lst (SqL.of upd_same) .nil, shaped_ints bs, rfl, _, rfl, h _ (same_new hp _)⟩⟩) _ fun H1 SH => ?_
      refine ite2 (fun hc => ?_) (fun hc => ⟨_, rfl, mod_InB _ _, SH⟩)
      have hne := ne_nil (bs := bs) (by
        have := (Bool.and_eq_true_iff.mp hc).2
        exact this)
      obtain ⟨r0, x, e⟩ : ∃ r0 x, bs = r0 ++ [x] := ⟨bs.dropLast, bs.getLast hne, (List.dropLast_concat_getLast hne).symm⟩
      rw [e] at h' hb
      exact ⟨_, rfl, _, rfl, l, _, _, _, rfl, rfl, SqL.of (SH _ _ h'), last_at x, _, rfl, hb _ (List.mem_append_right _ (.head _)), SH⟩
    intro σ' H1 hz_
    obtain ⟨y, rfl, hy, SH⟩ := hz_
    refine ⟨fun σ H1 => ∃ y : Int, σ = [some (.int c), some (.int many), some (.ref d), some (.ref l), some (.int dig), some (.int y)] ∧ InB many y ∧ Same H' H1, ?_, ?_⟩
    · refine ⟨_, rfl, _, _, rfl, rfl, ⟨by decide, by decide⟩, _, _, rfl, rfl, (by show (0 : Int) < 4; decide), rfl, _, rfl, ?_⟩
      refine ite2 (fun hc => ?_) (fun hc => ⟨_, rfl, hy, SH⟩)
      exact ⟨_, rfl, _, rfl, _, _, rfl, rfl, ⟨by decide, by decide⟩, _, _, rfl, rfl, _, rfl, hy.andL (Int.ediv_nonneg hdg.1 (by decide)), SH⟩
    intro σ' H2 hz_
    obtain ⟨y, rfl, hy, SH2⟩ := hz_
    refine ⟨_, rfl, .inl ⟨rfl, _, SqL.of (SH2 _ _ h')⟩, _, rfl, l, _, _, rfl, rfl, SH2 _ _ h', (by rw [List.length_map]; exact small1000 (by omega)), ?_⟩
    refine ⟨bs ++ [y], _, _, rfl, by rw [List.length_append, hl]; rfl, fun x hx => ?_, SB.trans (SH2.b.trans sameB_upd), by rw [upd_same, List.map_append]; rfl⟩
    obtain z | z := List.mem_append.mp hx
    · exact hb x z
    · have : x = y := by simpa using z
      rw [this]; exact hy
  · intro σ H' hz_
    first | (refine Ex3.st σ hz_ fun bs z1 z2 hz_ => ?_; have hl := hz_.1; have hb := hz_.2.1; have SB := hz_.2.2.1; have h' := hz_.2.2.2; clear hz_) | obtain ⟨bs, z1, z2, rfl, hl, hb, SB, h'⟩ := hz_
    rw [List.length_map] at hl
    -- cut
    try dsimp only [gName]
    try (refine opn hTq ?_; clear hTq Tq)
    try refine tabs fun Tq hTq => ?_
    exact ⟨_, rfl, q l bs H' (SB.same S3 hl0H) hl0H h' (by omega) hb⟩

end
end OL.Q30

namespace OL.Q30
open PySem L2 OL
section
variable {P : Program} {w : World} {K : PySem.W.Frag} {mg : Str → Option Value} {base : Heap} {f : Addr} {fd : FuncData} {k : Nat}
open OL.K30
theorem drs_len {K : PySem.W.Frag} {H : Hp} : ∀ {xs : List V} {ds : List PyData}, DRs K H xs ds → xs.length = ds.length
  | _, _, .nil => rfl
  | _, _, .cons _ t => congrArg (· + 1) (drs_len t)
theorem ch_inv {K : PySem.W.Frag} {H : Hp} {t : Addr} {a b c : List PyData} (h : DR K H (.ref t) (.tuple [.list a, .list b, .list c])) : ∃ (u1 u2 u3 : Addr) (g1 g2 g3 : List V), SqT K H t [.ref u1, .ref u2, .ref u3] ∧ SqL K H u1 g1 ∧ SqL K H u2 g2 ∧ SqL K H u3 g3 ∧ g1.length = a.length ∧ g2.length = b.length ∧ g3.length = c.length := by
  cases h with
  | tup h hs =>
    cases hs with
    | cons h1 hs =>
      cases hs with
      | cons h2 hs =>
        cases hs with
        | cons h3 hs =>
          cases hs
          cases h1 with
          | lst k1 l1 =>
            cases h2 with
            | lst k2 l2 =>
              cases h3 with
              | lst k3 l3 => exact ⟨_, _, _, _, _, _, h, k1, k2, k3, drs_len l1, drs_len l2, drs_len l3⟩
noncomputable abbrev n_L_whole : List Str := ["_law_found"]
theorem sc_L_whole : FnScope n_L_whole ["_law_found"] (defScope s_L_whole) := ⟨rfl, rfl, rfl, by decide +kernel, rfl, by decide +kernel, by decide +kernel⟩
theorem ok_L_whole (F : Fun K "_law_whole" "_law_whole" s_L_whole f fd) (b : Binds K fd ["_law_found"] []) (m : mg "_law_whole" = some (.ref f)) (M_isinstance : mg "isinstance" = none) (M_bool : mg "bool" = none) (M_int : mg "int" = none)  : Dfn P w K mg base (k + 1) "_law_whole" ["_law_found"] K30.spWhole1 := by
  refine .of F b m sc_L_whole (fun vs H Q E h => ?_) (fun cdv A outer s H vs Q E hr h => ?_)
  · obtain ⟨i, rfl, q⟩ := h; rfl
  obtain ⟨i, rfl, q⟩ := h
  have nd := sc_L_whole.nd
  refine ⟨_, pss_one (ps_ret (pe_and (pe_callB call_isinst (by rfl) M_isinstance PyProof.Rows.boot_isinstance (pa_cons (pv 0) (pa_cons (pe_bltn (v := .ty "int") (by rfl) M_int PyProof.Rows.boot_int rfl) pa_nil))) (pe_one (pe_not (pe_callB call_isinst (by rfl) M_isinstance PyProof.Rows.boot_isinstance (pa_cons (pv 0) (pa_cons (pe_bltn (v := .ty "bool") (by rfl) M_bool PyProof.Rows.boot_bool rfl) pa_nil))))))), ?_⟩
  refine ⟨_, rfl, _, _, _, _, rfl, .int i, kit_ii _, true, rfl, iteT ?_⟩
  exact ⟨_, rfl, _, _, _, _, rfl, .int i, kit_ib _, false, rfl, q⟩
noncomputable abbrev n_L_is : List Str := ["_law_keeper", "_law_model", "_law_cell", "_law_days", "_law_now", "_law_told", "_law_changes_here", "_law_book", "_law_day_here", "_law_digit", "_law_lot", "_law_many", "_law_lengths", "_law_rows", "_law_due"]
theorem sc_L_is : FnScope n_L_is ["_law_keeper", "_law_model", "_law_cell"] (defScope s_L_is) := ⟨rfl, rfl, rfl, by decide +kernel, rfl, by decide +kernel, by decide +kernel⟩
theorem nd_L_is_0 : (["_law_day_here"] : List Str).Nodup := by decide +kernel
theorem nd_L_is_1 : (["_law_rows"] : List Str).Nodup := by decide +kernel
set_option maxHeartbeats 4000000 in
theorem ok_L_is (F : Fun K "_law_is" "_law_is" s_L_is f fd) (b : Binds K fd ["_law_keeper", "_law_model", "_law_cell"] []) (m : mg "_law_is" = some (.ref f)) (M_isinstance : mg "isinstance" = none) (M_list : mg "list" = none) (M_tuple : mg "tuple" = none) (M_len : mg "len" = none) {C : Addr} (kC : Kls K mg C) (G_Keeper_days : Mfn P w K mg base k C "days" ["self"] (K30.sp3Days C)) (G_L_closed : Dfn P w K mg base k "_law_closed" ["_law_many", "_law_days", "_law_least"] K30.spRows30) (G_Keeper_closed : Mfn P w K mg base k C "closed" ["self"] (K30.sp3Closed C)) (G_Keeper_changes : Mfn P w K mg base k C "changes" ["self"] (K30.sp3Changes K C)) (G_L_changes : Dfn P w K mg base k "_law_changes" ["_law_ahead", "_law_behind"] (sp2Chg K)) (G_L_draws : Dfn P w K mg base k "_law_draws" ["_law_cell", "_law_many", "_law_base"] spDraws) (G_Keeper_count : Mfn P w K mg base k C "count" ["self", "lot"] (K30.sp3Count C)) (G_L_count : Dfn P w K mg base k "_law_count" ["_law_book", "_law_lot"] (spClose K fun _ bs lot => .int (countF bs lot))) (G_L_whole : Dfn P w K mg base k "_law_whole" ["_law_found"] K30.spWhole1) : Dfn P w K mg base (k + 1) "_law_is" ["_law_keeper", "_law_model", "_law_cell"] (K30.spIs30 C) := by
  refine .of F b m sc_L_is (fun vs H Q E h => ?_) (fun cdv A outer s H vs Q E hr h => ?_)
  · obtain ⟨p, kp, md, dl, many, least, most, c, D, A', B', rfl, hK, hM, ok, q⟩ := h; rfl
  obtain ⟨p, kp, md, dl, many, least, most, c, D, A', B', rfl, hK, hM, ok, q⟩ := h
  have nd := sc_L_is.nd
  have le := Nat.le_refl k
  refine ⟨_, pss_cons (ps_set (i := 3) nd rfl (Or.inl rfl) (pe_mdef0 kC.cl (pv 0) G_Keeper_days hr le))
    (pss_cons (ps_if (PW.pt (pw_or (pt_not (pt_val (pe_callB call_isinst (by rfl) M_isinstance PyProof.Rows.boot_isinstance (pa_cons (pv 3) (pa_cons (pe_bltn (v := .ty "list") (by rfl) M_list PyProof.Rows.boot_list rfl) pa_nil))))) (pw_or1 (pt_cmpR (op_neD hr) (pv 3) (pe_dget (hu_of hr) (pv 1) pe_str (fun _ _ => rfl)) (nomark _))))) (pss_one (ps_ret pe_bl)) pss_nil)
    (pss_cons (ps_set (i := 4) nd rfl (Or.inl rfl) (pe_def G_L_closed hr le rfl (pa_cons (pe_dget (hu_of hr) (pv 1) pe_str (fun _ _ => rfl)) (pa_cons (pe_dget (hu_of hr) (pv 1) pe_str (fun _ _ => rfl)) (pa_cons (pe_dget (hu_of hr) (pv 1) pe_str (fun _ _ => rfl)) pa_nil)))))
    (pss_cons (ps_set (i := 5) nd rfl (Or.inl rfl) (pe_mdef0 kC.cl (pv 0) G_Keeper_closed hr le))
    (pss_cons (ps_if (PW.pt (pw_or (pt_not (pt_val (pe_callB call_isinst (by rfl) M_isinstance PyProof.Rows.boot_isinstance (pa_cons (pv 5) (pa_cons (pe_bltn (v := .ty "list") (by rfl) M_list PyProof.Rows.boot_list rfl) pa_nil))))) (pw_or1 (pt_cmpR (op_neD hr) (pv 5) (pv 4) (nomark _))))) (pss_one (ps_ret pe_bl)) pss_nil)
    (pss_cons (ps_set (i := 6) nd rfl (Or.inl rfl) (pe_mdef0 kC.cl (pv 0) G_Keeper_changes hr le))
    (pss_cons (ps_if (PW.pt (pw_or (pt_not (pt_val (pe_callB call_isinst (by rfl) M_isinstance PyProof.Rows.boot_isinstance (pa_cons (pv 6) (pa_cons (pe_bltn (v := .ty "tuple") (by rfl) M_tuple PyProof.Rows.boot_tuple rfl) pa_nil))))) (pw_or1 (pt_cmpR (op_neD hr) (pv 6) (pe_def G_L_changes hr le rfl (pa_cons (pe_dget (hu_of hr) (pv 1) pe_str (fun _ _ => rfl)) (pa_cons (pe_dget (hu_of hr) (pv 1) pe_str (fun _ _ => rfl)) pa_nil))) (nomark _))))) (pss_one (ps_ret pe_bl)) pss_nil)
    (pss_cons (ps_set (i := 7) nd rfl (Or.inl rfl) (pe_tup (pa_cons (pe_dget (hu_of hr) (pv 1) pe_str (fun _ _ => rfl)) (pa_cons (pe_lst pa_nil) pa_nil))))
    (pss_cons (ps_for PassesOwn.never rfl (pi_list (pe_dget (hu_of hr) (pv 1) pe_str (fun _ _ => rfl))) (pg_name (i := 8) nd rfl (Or.inl rfl))
      (pss_one (ps_expr (pe_bm PySem.F.plainAttrs_list PySem.F.slot_list_extend PySem.F.type_list_extend mt_extend (pe_ix ix_tup (pv 7) pe_int (fun _ _ => rfl)) (pa_cons (pv 8) pa_nil)))))
    (pss_cons (ps_for PassesOwn.never rfl (pi_list (pe_op op_cat (pe_def G_L_draws hr le rfl (pa_cons (pv 2) (pa_cons pe_int (pa_cons pe_int pa_nil)))) (pe_lst (pa_cons pe_int pa_nil)))) (pg_name (i := 9) nd rfl (Or.inl rfl))
      (pss_cons (ps_set (i := 10) nd rfl (Or.inl rfl) (pe_op op_mod (pv 9) (pe_op op_shl pe_int (pe_dget (hu_of hr) (pv 1) pe_str (fun _ _ => rfl)))))
      (pss_cons (ps_set (i := 11) nd rfl (Or.inl rfl) (pe_mdef kC.cl (pv 0) G_Keeper_count hr le (pa_cons (pv 10) pa_nil)))
      (pss_one (ps_if (PW.pt (pw_or (pt_not (pt_val (pe_def G_L_whole hr le rfl (pa_cons (pv 11) pa_nil)))) (pw_or1 (pt_cmpR op_ne (pv 11) (pe_def G_L_count hr le rfl (pa_cons (pv 7) (pa_cons (pv 10) pa_nil))) (nomark _))))) (pss_one (ps_ret pe_bl)) pss_nil)))))
    (pss_cons (ps_setCompC (i := 12) nd rfl rfl ["_law_day_here"] [] (sc := defScope s_L_is) (N := n_L_is) (.inl rfl) rfl ⟨rfl, by decide +kernel, by decide +kernel, by decide +kernel, by decide +kernel⟩ rfl (pi_list (pv 3)) (fun cl s H C fp => (pg_name (i := 0) nd_L_is_0 rfl (Or.inl rfl))) (fun cl s H C fp => pifs_nil) (fun cl s H C fp => (pe_op op_add (pe_callB (len_seqK K rfl) (by rfl) M_len PySem.boot_len (pa_cons (pv 0) pa_nil)) pe_int)) rfl)
    (pss_cons (ps_for PassesOwn.never rfl (pi_list (pv 3)) (pg_name (i := 8) nd rfl (Or.inl rfl))
      (pss_one (ps_expr (pe_bm PySem.F.plainAttrs_list PySem.F.slot_list_append PySem.F.type_list_append mt_append (pv 8) (pa_cons pe_int pa_nil)))))
    (pss_cons (ps_if (pt_cmpR (op_neD hr) (pe_compC ["_law_day_here"] [] (sc := defScope s_L_is) (N := n_L_is) (.inl rfl) rfl ⟨rfl, by decide +kernel, by decide +kernel, by decide +kernel, by decide +kernel⟩ rfl (pi_list (pv 3)) (fun cl s H C fp => (pg_name (i := 0) nd_L_is_0 rfl (Or.inl rfl))) (fun cl s H C fp => pifs_nil) (fun cl s H C fp => (pe_callB (len_seqK K rfl) (by rfl) M_len PySem.boot_len (pa_cons (pv 0) pa_nil)))) (pv 12) (nomark _)) (pss_one (ps_ret pe_bl)) pss_nil)
    (pss_cons (ps_expr (pe_bm PySem.F.plainAttrs_list PySem.F.slot_list_append PySem.F.type_list_append mt_append (pv 3) (pa_cons (pe_lst (pa_cons pe_int pa_nil)) pa_nil)))
    (pss_cons (ps_expr (pe_bm PySem.F.plainAttrs_list PySem.F.slot_list_append PySem.F.type_list_append mt_append (pv 5) (pa_cons (pe_tup (pa_cons pe_int (pa_cons pe_int pa_nil))) pa_nil)))
    (pss_cons (ps_for PassesOwn.never rfl (pi_tup (pv 6)) (pg_name (i := 13) nd rfl (Or.inl rfl))
      (pss_one (ps_expr (pe_bm PySem.F.plainAttrs_list PySem.F.slot_list_append PySem.F.type_list_append mt_append (pv 13) (pa_cons (pe_tup (pa_cons pe_int (pa_cons pe_int pa_nil))) pa_nil)))))
    (pss_cons (ps_set (i := 14) nd rfl (Or.inl rfl) (pe_def G_L_changes hr le rfl (pa_cons (pe_dget (hu_of hr) (pv 1) pe_str (fun _ _ => rfl)) (pa_cons (pe_dget (hu_of hr) (pv 1) pe_str (fun _ _ => rfl)) pa_nil))))
    (pss_one (ps_ret (pe_cmpR (op_eqD hr) (pe_compC ["_law_rows"] [] (sc := defScope s_L_is) (N := n_L_is) (.inl rfl) rfl ⟨rfl, by decide +kernel, by decide +kernel, by decide +kernel, by decide +kernel⟩ rfl (pi_tup (pv 6)) (fun cl s H C fp => (pg_name (i := 0) nd_L_is_1 rfl (Or.inl rfl))) (fun cl s H C fp => pifs_nil) (fun cl s H C fp => (pe_callB (len_seqK K rfl) (by rfl) M_len PySem.boot_len (pa_cons (pv 0) pa_nil)))) (pe_compC ["_law_rows"] [] (sc := defScope s_L_is) (N := n_L_is) (.inl rfl) rfl ⟨rfl, by decide +kernel, by decide +kernel, by decide +kernel, by decide +kernel⟩ rfl (pi_tup (pv 14)) (fun cl s H C fp => (pg_name (i := 0) nd_L_is_1 rfl (Or.inl rfl))) (fun cl s H C fp => pifs_nil) (fun cl s H C fp => (pe_op op_add (pe_callB (len_seqK K rfl) (by rfl) M_len PySem.boot_len (pa_cons (pv 0) pa_nil)) pe_int))) (nomark _)))))))))))))))))))), ?_⟩
  try refine tabs fun Tq hTq => ?_
  obtain ⟨⟨al, nl, hm, hA, hB⟩, us, hdl, hus⟩ := hM
  obtain ⟨⟨dx, ah, nw, u1, v1, hp, hah, hRA, hnw, hRB, nnk⟩, uk, hk, huk⟩ := id hK
  have m1 := ok.m1
  have m8 := ok.m8
  refine ⟨_, rfl, p, dx, _, rfl, hp, fl_no_days, p, kp, many, least, most, D, A', B', rfl, hK, ok.days, fun dd ws H1 S1 hd0 hd1 hP1 hfr hnd => ?_⟩
  try dsimp only [gName]
  try (refine opn hTq ?_; clear hTq Tq)
  try refine tabs fun Tq hTq => ?_
  refine seq_if (b := false) (lookOr (c := false) (d := false) (.pure fun Q h => ⟨_, rfl, _, _, _, _, rfl, .lst hd1, kit_ll _, _, rfl, h⟩) fun _ H2 S2 => .pure fun Q h => ⟨_, rfl, _, rfl, md, _, rfl, md_get ((S1.trans S2) _ _ hm) md_days, ne_pl (.lst (SqL.of (S2 _ _ hd1)) (days_dr (lsts_same S2 hP1))) (.lst (SqL.of ((S1.trans S2) _ _ hdl)) (days_dr (lsts_same (S1.trans S2) hus))) (pl_days D) (by decide) h⟩) fun H2 S2 => iteF ?_
  try dsimp only [tNext]
  try (refine opn hTq ?_; clear hTq Tq)
  try refine tabs fun Tq hTq => ?_
  have S02 := S1.trans S2
  refine ⟨_, rfl, md, _, rfl, md_get (S02 _ _ hm) md_many, _, rfl, md, _, rfl, md_get (S02 _ _ hm) md_days, _, rfl, md, _, rfl, md_get (S02 _ _ hm) md_least, dl, many, least, D, us, rfl, S02 _ _ hdl, lsts_same S02 hus, ok.days, by omega, by omega, ok.l1, fun rn wn H3 S3 hn0 hn3 hRn => ?_⟩
  have S03 := S02.trans S3
  try dsimp only [gName]
  try (refine opn hTq ?_; clear hTq Tq)
  try refine tabs fun Tq hTq => ?_
  refine ⟨_, rfl, p, dx, _, rfl, S03 _ _ hp, fl_no_closed, p, kp, many, least, most, D, A', B', rfl, hK.same S03, fun tc wc H4 S4 htc0 htc hRc => ?_⟩
  have S04 := S03.trans S4
  rw [ok.now] at hRc
  try dsimp only [gName]
  try (refine opn hTq ?_; clear hTq Tq)
  try refine tabs fun Tq hTq => ?_
  refine seq_if (b := false) (lookOr (c := false) (d := false) (.pure fun Q h => ⟨_, rfl, _, _, _, _, rfl, .lst htc, kit_ll _, _, rfl, h⟩) fun _ H5 S5 => .pure fun Q h => ⟨_, rfl, _, rfl, ne_pl (.lst (SqL.of (S5 _ _ htc)) (hRc.same S5.t).dr) (.lst (SqL.of ((S4.trans S5) _ _ hn3)) (hRn.same (S4.trans S5).t).dr) (pl_rowsL _) (by decide) h⟩) fun H5 S5 => iteF ?_
  try dsimp only [tNext]
  try (refine opn hTq ?_; clear hTq Tq)
  try refine tabs fun Tq hTq => ?_
  have S05 := S04.trans S5
  obtain ⟨wb, _, _, upB, fewB⟩ := id hB
  refine ⟨_, rfl, p, dx, _, rfl, S05 _ _ hp, fl_no_changes, p, kp, many, least, most, D, A', B', rfl, hK.same S05, ok.up, ok.few, upB, fewB, fun ch cc2 cw cm xs ys zs' H6 S6 hcc0 hcw0 hcm0 hccw hccm hcwm hch hcc hcR hcw hwR hcm hmR => ?_⟩
  have S06 := S05.trans S6
  try dsimp only [gName]
  try (refine opn hTq ?_; clear hTq Tq)
  try refine tabs fun Tq hTq => ?_
  refine seq_if (b := false) (lookOr (c := false) (d := false) (.pure fun Q h => ⟨_, rfl, _, _, _, _, rfl, .tup hch, kit_tt _, _, rfl, h⟩) fun _ H7 S7 Q h => ⟨_, rfl, _, rfl, md, _, rfl, md_get ((S06.trans S7) _ _ hm) md_ahead, _, rfl, md, _, rfl, md_get ((S06.trans S7) _ _ hm) md_now, al, nl, A', B', rfl, hA.same (S06.trans S7), hB.same (S06.trans S7), fun t2 H8 S8 hd2 => ne_pl (DR.same (S7.trans S8) (.tup (SqT.of hch) (.cons (.lst (SqL.of hcc) hcR.dr) (.cons (.lst (SqL.of hcw) hwR.dr) (.cons (.lst (SqL.of hcm) hmR.dr) .nil))))) hd2 (pl_dCh A' B') (by decide) (h _ S8)⟩) fun H7 S7 => iteF ?_
  try dsimp only [tNext]
  try (refine opn hTq ?_; clear hTq Tq)
  try refine tabs fun Tq hTq => ?_
  have S07 := S06.trans S7
  refine ⟨_, rfl, md, _, rfl, md_get (S07 _ _ hm) md_many, nil_len, fun bl hbl0 => ⟨(by show 2 ≤ sizeLine; decide), fun bk hbk0 => ?_⟩⟩
  have nbb : bk ≠ bl := fun z => by rw [z, upd_same] at hbk0; cases hbk0
  have Sb : Same H7 (upd (upd H7 bl (.lst [])) bk (.tup [.int many, .ref bl])) := (same_new hbl0 _).trans (same_new hbk0 _)
  have hb8 : upd (upd H7 bl (.lst [])) bk (.tup [.int many, .ref bl]) bk = some (.tup [.int many, .ref bl]) := upd_same
  have hbl8 : upd (upd H7 bl (.lst [])) bk (.tup [.int many, .ref bl]) bl = some (.lst []) := putk nbb.symm upd_same
  generalize upd (upd H7 bl (.lst [])) bk (.tup [.int many, .ref bl]) = H8 at Sb hb8 hbl8 ⊢
  clear hbk0
  have f280 := ok.days.flat.1
  have fin := ok.days.flat.2
  have ul := Paired.length hus
  have blH : H7 bl = none := hbl0
  have e7 : ∀ {a o}, H7 a = some o → a ≠ bl := fun {a o} e => ne_of_none e blH
  try dsimp only [gName]
  try (refine opn hTq ?_; clear hTq Tq)
  try refine tabs fun Tq hTq => ?_
  refine ⟨_, rfl, md, _, rfl, md_get (Sb _ _ (S07 _ _ hm)) md_days, dl, rfl, ⟨_, SqL.of (Sb _ _ (S07 _ _ hdl))⟩, for_list (xs := us) (fun i σ H' => Ex7 fun (z8 z9 z10 z11 z12 z13 z14 : Option V) => σ = [some (.ref p), some (.ref md), some (.int c), some (.ref dd), some (.ref rn), some (.ref tc), some (.ref ch), some (.ref bk), z8, z9, z10, z11, z12, z13, z14] ∧ Same H7 H' ∧ H' bk = some (.tup [.int many, .ref bl]) ∧ H' bl = some (.lst ((D.take i).flatten.map V.int))) ⟨_, _, _, _, _, _, _, rfl, Sb, hb8, hbl8⟩ (fun i σ H' _ h => by obtain ⟨_, _, _, _, _, _, _, _, S, _⟩ := h; exact SqL.of (S _ _ (S07 _ _ hdl))) ?_ ?_⟩
  · intro i v σ H' hv hz_
    first | (refine Ex7.st σ hz_ fun z8 z9 z10 z11 z12 z13 z14 hz_ => ?_; have S9 := hz_.1; have hb9 := hz_.2.1; have hbl9 := hz_.2.2; clear hz_) | obtain ⟨z8, z9, z10, z11, z12, z13, z14, rfl, S9, hb9, hbl9⟩ := hz_
    obtain ⟨d, hd, d0, rfl, hd0⟩ := paired_take hus hv
    try dsimp only [gName]
    try (refine opn hTq ?_; clear hTq Tq)
    try refine tabs fun Tq hTq => ?_
    have f1 := (ok.days.take i).flat.1
    have f2 := (ok.days.2 d (List.mem_of_getElem? hd)).1
    refine ⟨_, rfl, bk, _, _, _, rfl, rfl, SqT.of hb9, rfl, tyL hbl9, _, rfl, bl, d0, _, _, rfl, rfl, hbl9, S9 _ _ (S07 _ _ hd0), (by rw [List.length_map, List.length_map]; exact small (by omega)), _, _, _, _, _, _, _, rfl, same_put S9 hbl0, putk nbb hb9, ?_⟩
    rw [flat_take hd, List.map_append]
    exact upd_same
  intro σ H9 hz_
  first | (refine Ex7.st σ hz_ fun z8 z9 z10 z11 z12 z13 z14 hz_ => ?_; have S9 := hz_.1; have hb9 := hz_.2.1; have hbl9 := hz_.2.2; clear hz_) | obtain ⟨z8, z9, z10, z11, z12, z13, z14, rfl, S9, hb9, hbl9⟩ := hz_
  rw [List.take_of_length_le (by omega)] at hbl9
  have S09 := S07.trans S9
  try dsimp only [tNext]
  try (refine opn hTq ?_; clear hTq Tq)
  try refine tabs fun Tq hTq => ?_
  refine ⟨_, rfl, c, 4, 4096, rfl, by decide, by decide, by decide, by decide, fun dl2 H10 ds S10 hd20 hd2 hlen hds => ⟨(by show 1 ≤ sizeLine; decide), fun zl hzl => ⟨dl2, zl, _, _, rfl, rfl, (same_new hzl _) _ _ hd2, upd_same, (by rw [List.length_map]; exact small (by show ds.length + 1 ≤ 1000; omega)), fun ll hll => ?_⟩⟩⟩
  rw [show ds.map V.int ++ [V.int 0] = (ds ++ [0]).map V.int by rw [List.map_append]; rfl]
  have S11 : Same H10 (upd (upd H10 zl (.lst [.int 0])) ll (.lst ((ds ++ [0]).map V.int))) := (same_new hzl _).trans (same_new hll _)
  have hll1 : upd (upd H10 zl (.lst [.int 0])) ll (.lst ((ds ++ [0]).map V.int)) ll = some (.lst ((ds ++ [0]).map V.int)) := upd_same
  generalize upd (upd H10 zl (.lst [.int 0])) ll (.lst ((ds ++ [0]).map V.int)) = H11 at S11 hll1 ⊢
  have S911 := S10.trans S11
  have S011 := S09.trans S911
  refine ⟨ll, rfl, ⟨_, SqL.of hll1⟩, for_list (xs := (ds ++ [0]).map V.int) (fun i σ H' => Ex6 fun (z9 z10 z11 z12 z13 z14 : Option V) => σ = [some (.ref p), some (.ref md), some (.int c), some (.ref dd), some (.ref rn), some (.ref tc), some (.ref ch), some (.ref bk), z8, z9, z10, z11, z12, z13, z14] ∧ Same H11 H') ⟨_, _, _, _, _, _, rfl, Same.refl _⟩ (fun i σ H' _ h => by obtain ⟨_, _, _, _, _, _, _, S⟩ := h; exact SqL.of (S _ _ hll1)) ?_ ?_⟩
  · intro i v σ H12 hv hz_
    first | (refine Ex6.st σ hz_ fun z9 z10 z11 z12 z13 z14 S12 => ?_) | obtain ⟨z9, z10, z11, z12, z13, z14, rfl, S12⟩ := hz_
    have hv' := ints_get hv
    subst hv'
    generalize (ds ++ [0]).getD i 0 = dg
    have S012 := S011.trans S12
    have pw := two_pow_pos many
    try dsimp only [gName]
    try (refine opn hTq ?_; clear hTq Tq)
    try refine tabs fun Tq hTq => ?_
    refine ⟨_, rfl, _, rfl, md, _, rfl, md_get (S012 _ _ hm) md_many, _, _, rfl, rfl, ⟨by omega, by omega, by decide⟩, _, _, rfl, rfl, (by rw [Int.one_mul]; exact Int.pow_pos (by decide)), ?_⟩
    try dsimp only [gName]
    try (refine opn hTq ?_; clear hTq Tq)
    try refine tabs fun Tq hTq => ?_
    generalize dg % (1 * 2 ^ many.toNat) = lot
    refine ⟨_, rfl, p, dx, _, rfl, S012 _ _ hp, fl_no_count, _, rfl, p, kp, many, least, most, lot, D, A', B', rfl, hK.same S012, ok.days, fun H13 S13 => ?_⟩
    have S013 := S012.trans S13
    have S913 := S911.trans (S12.trans S13)
    try dsimp only [gName]
    try (refine opn hTq ?_; clear hTq Tq)
    try refine tabs fun Tq hTq => ?_
    refine one_if (b := false) (lookOr (c := false) (d := false) (.pure fun Q h => ⟨_, rfl, _, rfl, _, rfl, h⟩) fun _ H14 S14 Q h => ⟨_, rfl, _, rfl, _, rfl, bk, many, _, lot, rfl, ⟨bl, SqT.of ((S913.trans S14) _ _ hb9), SqL.of ((S913.trans S14) _ _ hbl9)⟩, by omega, by omega, by omega, fun H15 S15 => ⟨rfl, _, rfl, (by rw [decide_eq_true rfl]; exact h _ S15)⟩⟩) fun H14 S14 => iteF ?_
    exact ⟨_, _, _, _, _, _, rfl, S12.trans (S13.trans S14)⟩
  intro σ H12 hz_
  first | (refine Ex6.st σ hz_ fun z9 z10 z11 z12 z13 z14 S12 => ?_) | obtain ⟨z9, z10, z11, z12, z13, z14, rfl, S12⟩ := hz_
  have S012 := S011.trans S12
  try dsimp only [tNext]
  try (refine opn hTq ?_; clear hTq Tq)
  try refine tabs fun Tq hTq => ?_
  have d7 := ok.days.1
  have S112 := S2.trans (S3.trans (S4.trans (S5.trans (S6.trans (S7.trans (S9.trans (S911.trans S12)))))))
  have hPd := lsts_same S112 hP1
  have hdd := S112 _ _ hd1
  refine ⟨_, rfl, dd, rfl, ⟨_, SqL.of hdd⟩, compA_list (SqL.of hdd) hPd (fun _ => true) (fun _ y (d : List Int) => y = .int ((d.length : Nat) + 1)) (fun _ _ _ _ _ z => z) (by omega) (fun x v H13 hx e S13 => ?_) (fun lg zs H13 hlg0 S13 hlg hys => ?_)⟩
  · obtain ⟨l, rfl, hl⟩ := e
    exact turn_pick (y := .int ((x.length : Nat) + 1)) look_yes (fun _ H14 S14 => .pure fun Q h => ⟨_, rfl, l, _, rfl, .inl (SqL.of ((S13.trans S14) _ _ hl)), _, _, rfl, rfl, by rw [List.length_map]; exact h⟩) fun _ _ _ => rfl
  rw [filter_true] at hys
  have hlg1 : H13 lg = some (.lst ((D.map fun d => ((d.length : Nat) : Int) + 1).map V.int)) := by rw [hlg, paired_map (f := fun d : List Int => V.int (((d.length : Nat) : Int) + 1)) hys, List.map_map]; rfl
  obtain ⟨qs, ews, eD, hqs0⟩ := days_qs hPd
  have hqs := fun q hq => S13 _ _ (hqs0 q hq)
  have lgq : lg ∉ qs.map Prod.snd := fun z => by
    obtain ⟨q1, hq1, e1⟩ := List.mem_map.mp z
    have := hqs0 q1 hq1
    rw [e1, hlg0] at this; cases this
  rw [ews] at hnd
  have qnd := refs_nodup hnd
  have hdd13 := S13 _ _ hdd
  have ddq : dd ∉ qs.map Prod.snd := fun z => by
    obtain ⟨q1, hq1, e1⟩ := List.mem_map.mp z
    have := hqs q1 hq1
    rw [e1, hdd13, ews] at this
    injection this with this
    injection this with this
    cases qs with
    | nil => cases hq1
    | cons a t =>
      cases hq2 : q1.1 with
      | nil => rw [hq2] at this; simp at this
      | cons x l => rw [hq2] at this; simp at this
  have S013 := S012.trans S13
  have qfr : ∀ b ∈ qs.map Prod.snd, H b = none := fun b hb => by
    obtain ⟨q1, hq1, e1⟩ := List.mem_map.mp hb
    exact hfr b (by rw [ews]; exact List.mem_map.mpr ⟨q1, hq1, by rw [e1]⟩)
  try dsimp only [gName]
  try (refine opn hTq ?_; clear hTq Tq)
  try refine tabs fun Tq hTq => ?_
  refine ⟨_, rfl, dd, rfl, ⟨_, SqL.of hdd13⟩, for_list (xs := ws) (fun i σ H' => Ex6 fun (y8 y9 y10 y11 y13 y14 : Option V) => σ = [some (.ref p), some (.ref md), some (.int c), some (.ref dd), some (.ref rn), some (.ref tc), some (.ref ch), some (.ref bk), y8, y9, y10, y11, some (.ref lg), y13, y14] ∧ App H13 H' qs i) ⟨_, _, _, _, _, _, rfl, App.zero hqs⟩ (fun i σ H' _ h => by obtain ⟨_, _, _, _, _, _, _, A⟩ := h; exact SqL.of (A.1 _ _ ddq hdd13)) ?_ ?_⟩
  · intro i v σ H14 hv hz_
    first | (refine Ex6.st σ hz_ fun y8 y9 y10 y11 y13 y14 A => ?_) | obtain ⟨y8, y9, y10, y11, y13, y14, rfl, A⟩ := hz_
    rw [ews, List.getElem?_map] at hv
    obtain ⟨q1, hq1, rfl⟩ := Option.map_eq_some_iff.mp hv
    have h14 := A.2 i q1 hq1
    rw [if_neg (Nat.lt_irrefl _)] at h14
    have l40 := (ok.days.2 q1.1 (by rw [eD]; exact List.mem_map.mpr ⟨q1, List.mem_of_getElem? hq1, rfl⟩)).1
    try dsimp only [gName]
    try (refine opn hTq ?_; clear hTq Tq)
    try refine tabs fun Tq hTq => ?_
    exact ⟨_, rfl, tyL h14, q1.2, _, _, rfl, rfl, h14, (by rw [List.length_map]; exact small1000 (by omega)), _, _, _, _, _, _, rfl, A.step qnd hq1⟩
  intro σ H14 hz_
  first | (refine Ex6.st σ hz_ fun y8 y9 y10 y11 y13 y14 A => ?_) | obtain ⟨y8, y9, y10, y11, y13, y14, rfl, A⟩ := hz_
  have lw : ws.length = qs.length := by rw [ews, List.length_map]
  rw [lw] at A
  try dsimp only [tNext]
  try (refine opn hTq ?_; clear hTq Tq)
  try refine tabs fun Tq hTq => ?_
  have hdd14 := A.1 _ _ ddq hdd13
  have hlg14 := A.1 _ _ lgq hlg1
  have hP14 := A.full
  rw [← ews, ← eD] at hP14
  refine seq_if (b := false) (fun Q h => ⟨_, rfl, dd, rfl, ⟨_, SqL.of hdd14⟩, compA_list (SqL.of hdd14) hP14 (fun _ => true) (fun _ y (d : List Int) => y = .int ((d.length : Nat) : Int)) (fun _ _ _ _ _ z => z) (by rw [List.length_map]; omega) (fun x v H15 hx e S15 => ?_) (fun l2 zs2 H15 hl20 S15 hl2 hys2 => ?_)⟩) fun H15 S15 => iteF ?_
  · obtain ⟨l, rfl, hl⟩ := e
    exact turn_pick (y := .int ((x.length : Nat) : Int)) look_yes (fun _ H16 S16 => .pure fun Q h => ⟨_, rfl, l, _, rfl, .inl (SqL.of ((S15.trans S16) _ _ hl)), by rw [List.length_map]; exact h⟩) fun _ _ _ => rfl
  · rw [filter_true] at hys2
    have h2 : H15 l2 = some (.lst ((D.map fun d => ((d.length : Nat) : Int) + 1).map V.int)) := by
      rw [hl2, paired_map (f := fun d : List Int => V.int ((d.length : Nat) : Int)) hys2, List.map_map, List.map_map]
      congr 2
      refine List.map_congr_left fun d _ => ?_
      show V.int (((d ++ [1]).length : Nat) : Int) = V.int (((d.length : Nat) : Int) + 1)
      rw [List.length_append]; rfl
    refine ⟨_, rfl, ne_ints (SqL.of h2) (SqL.of (S15 _ _ hlg14)) ⟨_, rfl, ?_⟩⟩
    rw [decide_eq_true rfl]
    exact h _ S15
  try dsimp only [tNext]
  try (refine opn hTq ?_; clear hTq Tq)
  try refine tabs fun Tq hTq => ?_
  have S1q : ∀ b ∈ qs.map Prod.snd, ∃ d : List Int, H1 b = some (.lst (d.map V.int)) := fun b hb => lsts_mem hP1 (by rw [ews]; obtain ⟨q1, hq1, e1⟩ := List.mem_map.mp hb; exact List.mem_map.mpr ⟨q1, hq1, by rw [e1]⟩)
  have nq : ∀ {a : Addr} {Hx : Hp}, Same H1 Hx → Hx a = none → a ∉ qs.map Prod.snd := fun S e hb => by
    obtain ⟨d, h⟩ := S1q _ hb
    rw [S _ _ h] at e; cases e
  have S13' : Same H1 H3 := S2.trans S3
  have S15' : Same H1 H5 := S13'.trans (S4.trans S5)
  have S35' : Same H3 H13 := S4.trans (S5.trans (S6.trans (S7.trans (S9.trans (S911.trans (S12.trans S13))))))
  have S613 : Same H6 H13 := S7.trans (S9.trans (S911.trans (S12.trans S13)))
  have S413 : Same H4 H13 := S5.trans (S6.trans S613)
  have S014 : Same H H14 := fun b o e => A.1 b o (fun hb => by rw [qfr b hb] at e; cases e) (S013 _ _ e)
  have htc14 := A.1 _ _ (nq S13' htc0) (S413 _ _ htc)
  have hcc14 := A.1 _ _ (nq S15' hcc0) (S613 _ _ hcc)
  have hcw14 := A.1 _ _ (nq S15' hcw0) (S613 _ _ hcw)
  have hcm14 := A.1 _ _ (nq S15' hcm0) (S613 _ _ hcm)
  have chq : ch ∉ qs.map Prod.snd := fun hb => by
    obtain ⟨q1, hq1, e1⟩ := List.mem_map.mp hb
    have := hqs q1 hq1
    rw [e1, S613 _ _ hch] at this; cases this
  have hch14 := A.1 _ _ chq (S613 _ _ hch)
  have ntd : tc ≠ dd := (ne_of_none (S13' _ _ hd1) htc0).symm
  have ncd : cc2 ≠ dd := (ne_of_none (S15' _ _ hd1) hcc0).symm
  have nwd : cw ≠ dd := (ne_of_none (S15' _ _ hd1) hcw0).symm
  have nmd : cm ≠ dd := (ne_of_none (S15' _ _ hd1) hcm0).symm
  have nct : cc2 ≠ tc := (ne_of_none (S5 _ _ htc) hcc0).symm
  have nwt : cw ≠ tc := (ne_of_none (S5 _ _ htc) hcw0).symm
  have nmt : cm ≠ tc := (ne_of_none (S5 _ _ htc) hcm0).symm
  have ltw : wc.length ≤ 4096 := by rw [Rows.length hRc, ← ok.now]; exact fewB
  have lxs : xs.length ≤ 4096 := by rw [Rows.length hcR]; exact Nat.le_trans (List.length_filter_le _ _) fewB
  have lys : ys.length ≤ 4096 := by rw [Rows.length hwR]; exact Nat.le_trans (List.length_filter_le _ _) ok.few
  have lzs : zs'.length ≤ 4096 := by rw [Paired.length hmR]; show ((B'.filter _).map _).length ≤ _; rw [List.length_map]; exact Nat.le_trans (List.length_filter_le _ _) fewB
  have S015 := S014.trans S15
  have hdd15 := S15 _ _ hdd14
  have htc15 := S15 _ _ htc14
  have hcc15 := S15 _ _ hcc14
  have hcw15 := S15 _ _ hcw14
  have hcm15 := S15 _ _ hcm14
  have hch15 := S15 _ _ hch14
  have htcH : H tc = none := S03.free htc0
  have hccH : H cc2 = none := S05.free hcc0
  have hcwH : H cw = none := S05.free hcw0
  have hcmH : H cm = none := S05.free hcm0
  have lxs2 : xs.length = (cameF A' B').length := Rows.length hcR
  have lys2 : ys.length = (cameF B' A').length := Rows.length hwR
  have lzs2 : zs'.length = (movF A' B').length := Paired.length hmR
  have ld : dd ≠ ch := fun z => by rw [z, hch15] at hdd15; cases hdd15
  have lt : tc ≠ ch := fun z => by rw [z, hch15] at htc15; cases htc15
  have lc1 : cc2 ≠ ch := fun z => by rw [z, hch15] at hcc15; cases hcc15
  have lc2 : cw ≠ ch := fun z => by rw [z, hch15] at hcw15; cases hcw15
  have lc3 : cm ≠ ch := fun z => by rw [z, hch15] at hcm15; cases hcm15
  refine ⟨_, rfl, tyL hdd15, (by show 1 ≤ sizeLine; decide), fun z1 hz1 => ⟨dd, ws, _, rfl, rfl, (same_new hz1 _) _ _ hdd15, small1000 (by rw [lw, ← List.length_map (f := Prod.fst), ← eD]; omega), ?_⟩⟩
  have S16 := same_put ((S015).trans (same_new hz1 (.lst [.int 1]))) hd0 (x := .lst (ws ++ [.ref z1]))
  have k16 : ∀ {b o}, b ≠ dd → H15 b = some o → upd (upd H15 z1 (.lst [.int 1])) dd (.lst (ws ++ [.ref z1])) b = some o := fun n e => putk n ((same_new hz1 _) _ _ e)
  have htc16 := k16 ntd htc15
  have hcc16 := k16 ncd hcc15
  have hcw16 := k16 nwd hcw15
  have hcm16 := k16 nmd hcm15
  have hch16 := k16 ld.symm hch15
  clear k16
  generalize upd (upd H15 z1 (.lst [.int 1])) dd (.lst (ws ++ [.ref z1])) = H16 at S16 htc16 hcc16 hcw16 hcm16 hch16 ⊢
  try dsimp only [tNext]
  try (refine opn hTq ?_; clear hTq Tq)
  try refine tabs fun Tq hTq => ?_
  refine ⟨_, rfl, tyL htc16, (by show 2 ≤ sizeLine; decide), fun z2 hz2 => ⟨tc, wc, _, rfl, rfl, (same_new hz2 _) _ _ htc16, small4096 (by omega), ?_⟩⟩
  have S17 := same_put (S16.trans (same_new hz2 (.tup [.int 0, .int 9]))) htcH (x := .lst (wc ++ [.ref z2]))
  have k17 : ∀ {b o}, b ≠ tc → H16 b = some o → upd (upd H16 z2 (.tup [.int 0, .int 9])) tc (.lst (wc ++ [.ref z2])) b = some o := fun n e => putk n ((same_new hz2 _) _ _ e)
  have hcc17 := k17 nct hcc16
  have hcw17 := k17 nwt hcw16
  have hcm17 := k17 nmt hcm16
  have hch17 := k17 lt.symm hch16
  clear k17
  generalize upd (upd H16 z2 (.tup [.int 0, .int 9])) tc (.lst (wc ++ [.ref z2])) = H17 at S17 hcc17 hcw17 hcm17 hch17 ⊢
  try dsimp only [tNext]
  try (refine opn hTq ?_; clear hTq Tq)
  try refine tabs fun Tq hTq => ?_
  refine ⟨_, rfl, ch, rfl, ⟨_, SqT.of hch17⟩, for_tup (xs := [V.ref cc2, .ref cw, .ref cm]) (fun i σ H' => Ex4 fun (y13 : Option V) (x1 x2 x3 : List V) => σ = [some (.ref p), some (.ref md), some (.int c), some (.ref dd), some (.ref rn), some (.ref tc), some (.ref ch), some (.ref bk), y8, y9, y10, y11, some (.ref lg), y13, y14] ∧ Same H H' ∧ H' ch = some (.tup [.ref cc2, .ref cw, .ref cm]) ∧ H' cc2 = some (.lst x1) ∧ H' cw = some (.lst x2) ∧ H' cm = some (.lst x3) ∧ x1.length = xs.length + (if 0 < i then 1 else 0) ∧ x2.length = ys.length + (if 1 < i then 1 else 0) ∧ x3.length = zs'.length + (if 2 < i then 1 else 0)) ⟨_, xs, ys, zs', rfl, S17, hch17, hcc17, hcw17, hcm17, rfl, rfl, rfl⟩ (fun i σ H' _ h => by obtain ⟨_, _, _, _, _, _, hc, _⟩ := h; exact SqT.of hc) ?_ ?_⟩
  · intro i v σ H18 hv hz_
    first | (refine Ex4.st σ hz_ fun y13 x1 x2 x3 hz_ => ?_; have S18 := hz_.1; have hch18 := hz_.2.1; have h1 := hz_.2.2.1; have h2 := hz_.2.2.2.1; have h3 := hz_.2.2.2.2.1; have e1 := hz_.2.2.2.2.2.1; have e2 := hz_.2.2.2.2.2.2.1; have e3 := hz_.2.2.2.2.2.2.2; clear hz_) | obtain ⟨y13, x1, x2, x3, rfl, S18, hch18, h1, h2, h3, e1, e2, e3⟩ := hz_
    try dsimp only [gName]
    try (refine opn hTq ?_; clear hTq Tq)
    try refine tabs fun Tq hTq => ?_
    have tail : ∀ (a : Addr) (x : List V), a ≠ ch → H a = none → H18 a = some (.lst x) → x.length ≤ 4097 → (∀ z : Addr, H18 z = none → Same H (upd (upd H18 z (.tup [.int 0, .int 0])) a (.lst (x ++ [.ref z]))) ∧ (∀ {b o}, b ≠ a → H18 b = some o → upd (upd H18 z (.tup [.int 0, .int 0])) a (.lst (x ++ [.ref z])) b = some o)) := fun a x n f e _ z hz => ⟨same_put (S18.trans (same_new hz _)) f, fun n e => putk n ((same_new hz _) _ _ e)⟩
    obtain _ | _ | _ | i := i
    · cases hv
      refine ⟨_, rfl, tyL h1, (by show 2 ≤ sizeLine; decide), fun z hz => ⟨cc2, x1, _, rfl, rfl, (same_new hz _) _ _ h1, small4096 (by rw [e1, if_neg (by decide)]; omega), ?_⟩⟩
      obtain ⟨s, k⟩ := tail cc2 x1 lc1 hccH h1 (by rw [e1, if_neg (by decide)]; omega) z hz
      exact ⟨_, x1 ++ [.ref z], x2, x3, rfl, s, k lc1.symm hch18, upd_same, k hccw.symm h2, k hccm.symm h3, by rw [List.length_append, e1, if_neg (by decide), if_pos (by omega)]; rfl, by rw [e2, if_neg (by decide), if_neg (by omega)], by rw [e3, if_neg (by decide), if_neg (by omega)]⟩
    · cases hv
      refine ⟨_, rfl, tyL h2, (by show 2 ≤ sizeLine; decide), fun z hz => ⟨cw, x2, _, rfl, rfl, (same_new hz _) _ _ h2, small4096 (by rw [e2, if_neg (by decide)]; omega), ?_⟩⟩
      obtain ⟨s, k⟩ := tail cw x2 lc2 hcwH h2 (by rw [e2, if_neg (by decide)]; omega) z hz
      exact ⟨_, x1, x2 ++ [.ref z], x3, rfl, s, k lc2.symm hch18, k hccw h1, upd_same, k hcwm.symm h3, by rw [e1, if_pos (by decide), if_pos (by omega)], by rw [List.length_append, e2, if_neg (by decide), if_pos (by omega)]; rfl, by rw [e3, if_neg (by decide), if_neg (by omega)]⟩
    · cases hv
      refine ⟨_, rfl, tyL h3, (by show 2 ≤ sizeLine; decide), fun z hz => ⟨cm, x3, _, rfl, rfl, (same_new hz _) _ _ h3, small4096 (by rw [e3, if_neg (by decide)]; omega), ?_⟩⟩
      obtain ⟨s, k⟩ := tail cm x3 lc3 hcmH h3 (by rw [e3, if_neg (by decide)]; omega) z hz
      exact ⟨_, x1, x2, x3 ++ [.ref z], rfl, s, k lc3.symm hch18, k hccm h1, k hcwm h2, upd_same, by rw [e1, if_pos (by decide), if_pos (by omega)], by rw [e2, if_pos (by decide), if_pos (by omega)], by rw [List.length_append, e3, if_neg (by decide), if_pos (by omega)]; rfl⟩
    · rw [List.getElem?_eq_none (by show 3 ≤ i + 3; omega)] at hv; cases hv
  intro σ H18 hz_
  first | (refine Ex4.st σ hz_ fun y13' x1 x2 x3 hz_ => ?_; have S18 := hz_.1; have hch18 := hz_.2.1; have h1 := hz_.2.2.1; have h2 := hz_.2.2.2.1; have h3 := hz_.2.2.2.2.1; have e1 := hz_.2.2.2.2.2.1; have e2 := hz_.2.2.2.2.2.2.1; have e3 := hz_.2.2.2.2.2.2.2; clear hz_) | obtain ⟨y13', x1, x2, x3, rfl, S18, hch18, h1, h2, h3, e1, e2, e3⟩ := hz_
  rw [if_pos (by show (_ : Nat) < 3; omega)] at e1 e2 e3
  try dsimp only [tNext]
  try (refine opn hTq ?_; clear hTq Tq)
  try refine tabs fun Tq hTq => ?_
  refine ⟨_, rfl, md, _, rfl, md_get (S18 _ _ hm) md_ahead, _, rfl, md, _, rfl, md_get (S18 _ _ hm) md_now, al, nl, A', B', rfl, hA.same S18, hB.same S18, fun t2 H19 S19 hd2' => ?_⟩
  obtain ⟨u1, u2, u3, g1, g2, g3, ht2, hu1, hu2, hu3, f1, f2, f3⟩ := ch_inv hd2'
  have hch19 := S19 _ _ hch18
  try dsimp only [gName]
  try (refine opn hTq ?_; clear hTq Tq)
  try refine tabs fun Tq hTq => ?_
  have P1 : Paired (fun v n => Ex2 fun (l : Addr) (r : List V) => v = .ref l ∧ H19 l = some (.lst r) ∧ r.length = n) [V.ref cc2, .ref cw, .ref cm] [xs.length + 1, ys.length + 1, zs'.length + 1] := .cons ⟨_, _, rfl, S19 _ _ h1, e1⟩ (.cons ⟨_, _, rfl, S19 _ _ h2, e2⟩ (.cons ⟨_, _, rfl, S19 _ _ h3, e3⟩ .nil))
  have P2 : Paired (fun v n => Ex2 fun (l : Addr) (r : List V) => v = .ref l ∧ SqL K H19 l r ∧ r.length + 1 = n) [V.ref u1, .ref u2, .ref u3] [xs.length + 1, ys.length + 1, zs'.length + 1] := .cons ⟨_, _, rfl, hu1, by rw [f1, lxs2, List.length_map]⟩ (.cons ⟨_, _, rfl, hu2, by rw [f2, lys2, List.length_map]⟩ (.cons ⟨_, _, rfl, hu3, by rw [f3, lzs2, List.length_map]⟩ .nil))
  generalize [xs.length + 1, ys.length + 1, zs'.length + 1] = ns at P1 P2
  have ns3 : ns.length ≤ 65000 := by rw [← Paired.length P1]; show (3 : Nat) ≤ 65000; decide
  refine ⟨_, rfl, ch, rfl, ⟨_, SqT.of hch19⟩, compA_tup (SqT.of hch19) P1 (fun _ => true) (fun _ y n => y = .int (n : Nat)) (fun _ _ _ _ _ z => z) ns3 (fun x v H20 hx e S20 => ?_) (fun k1 v1 H20 hk10 S20 hk1 hy1 => ?_)⟩
  · obtain ⟨l, r, rfl, hl, hr⟩ := e
    exact turn_pick (y := .int ((x : Nat) : Int)) look_yes (fun _ H16 S16 => .pure fun Q h => ⟨_, rfl, l, _, rfl, .inl (SqL.of ((S20.trans S16) _ _ hl)), by rw [hr]; exact h⟩) fun _ _ _ => rfl
  refine ⟨_, rfl, t2, rfl, ⟨_, S20.tup ht2⟩, compA_tup (S20.tup ht2) P2 (fun _ => true) (fun _ y n => y = .int (n : Nat)) (fun _ _ _ _ _ z => z) ns3 (fun x v H21 hx e S21 => ?_) (fun k2 v2 H21 hk20 S21 hk2 hy2 => ?_)⟩
  · obtain ⟨l, r, rfl, hl, hr⟩ := e
    exact turn_pick (y := .int ((x : Nat) : Int)) look_yes (fun _ H16 S16 => .pure fun Q h => ⟨_, rfl, l, _, rfl, .inl (((S20.trans S21).trans S16).seq hl), _, _, rfl, rfl, by rw [← hr] at h; exact h⟩) fun _ _ _ => rfl
  rw [filter_true] at hy1 hy2
  have m1 : v1 = (ns.map fun n => ((n : Nat) : Int)).map V.int := by rw [paired_map (f := fun n : Nat => V.int (n : Int)) hy1, List.map_map]; rfl
  have m2 : v2 = (ns.map fun n => ((n : Nat) : Int)).map V.int := by rw [paired_map (f := fun n : Nat => V.int (n : Int)) hy2, List.map_map]; rfl
  rw [m1] at hk1
  rw [m2] at hk2
  refine eq_ints (SqL.of (S21 _ _ hk1)) (SqL.of hk2) ?_
  rw [decide_eq_true rfl]
  exact q _ (S18.trans (S19.trans (S20.trans S21)))

end
end OL.Q30

namespace OL.Q30
open PySem L2 OL
section
variable {P : Program} {w : World} {K : PySem.W.Frag} {mg : Str → Option Value} {base : Heap} {f : Addr} {fd : FuncData} {k : Nat}
open OL.K30
theorem vi_eq (i j : Int) : decide (V.int i = V.int j) = decide (i = j) := by simp
theorem pl_b {a b c : Bool} {d : PyData} (h : d ∈ [PyData.bool a, .bool b, .bool c]) : PlD 0 d := by
  obtain z | h := List.mem_cons.mp h
  · rw [z]; exact .bl _
  obtain z | h := List.mem_cons.mp h
  · rw [z]; exact .bl _
  · rw [List.mem_singleton.mp h]; exact .bl _
theorem Fr4.live {p q r s : Addr} {H H' : Hp} {a b c d : HO} (F : Fr4 p q r s H H') (hp : H' p = some a) (hq : H' q = some b) (hr : H' r = some c) (hs : H' s = some d) {z : Addr} {o : HO} (h : H z = some o) : ∃ o', H' z = some o' := by
  by_cases e1 : z = p
  · exact ⟨_, e1 ▸ hp⟩
  by_cases e2 : z = q
  · exact ⟨_, e2 ▸ hq⟩
  by_cases e3 : z = r
  · exact ⟨_, e3 ▸ hr⟩
  by_cases e4 : z = s
  · exact ⟨_, e4 ▸ hs⟩
  exact ⟨_, F _ _ h e1 e2 e3 e4⟩
theorem at_last {xs : List V} (h : 0 < xs.length) : atI xs (-1) = some (xs[xs.length - 1]'(by omega)) := by
  have hne : xs ≠ [] := List.length_pos_iff.mp h
  have e := List.dropLast_concat_getLast hne
  have e2 : xs[xs.length - 1]'(by omega) = xs.getLast hne := (List.getLast_eq_getElem hne).symm
  rw [e2]
  conv => lhs; rw [← e]
  exact L2.atI_last _ _
noncomputable def MidDeed (Z : Addr → Prop) (C : Addr) (H : Hp) (p kp md dl al nl ahd : Addr) (many most : Int) (B : List (Int × Int)) (H' : Hp) : Prop := ∃ (least' : Int) (D' : List (List Int)), KpZ Z C H' p kp many least' most D' B (rowsF many D'.flatten least') ∧ H' md = some (.dK (mdl many least' most dl al nl)) ∧ (∃ us, H' dl = some (.lst us) ∧ Paired (LstI H') us D' ∧ ∀ l, V.ref l ∈ us → ¬Z l) ∧ StOk many least' most D' B (rowsF many D'.flatten least') ∧ RowsAt H' ahd B ∧ ¬Z ahd ∧ Fr4 p kp md dl H H'
noncomputable abbrev n_L_deed : List Str := ["_law_keeper", "_law_model", "_law_cell", "_law_more", "_law_turn", "_law_some", "_law_ahead", "_law_least", "_law_day_here", "_law_handed"]
theorem sc_L_deed : FnScope n_L_deed ["_law_keeper", "_law_model", "_law_cell", "_law_more"] (defScope s_L_deed) := ⟨rfl, rfl, rfl, by decide +kernel, rfl, by decide +kernel, by decide +kernel⟩
set_option maxHeartbeats 4000000 in
theorem ok_L_deed (F : Fun K "_law_deed" "_law_deed" s_L_deed f fd) (b : Binds K fd ["_law_keeper", "_law_model", "_law_cell", "_law_more"] []) (m : mg "_law_deed" = some (.ref f)) (M_list : mg "list" = none) (M_int : mg "int" = none) (M_len : mg "len" = none) {C : Addr} (kC : Kls K mg C) {cc : CC} (kX : Xs K mg cc) (G_L_refused : Dfn P w K mg base k "_law_refused" ["_law_keeper", "_law_least"] (K30.spRef30 C)) (G_L_day : Dfn P w K mg base k "_law_day" ["_law_cell", "_law_many"] spDay31) (G_Keeper_come : Mfn P w K mg base k C "come" ["self", "day"] (K30.sp3Come K C)) (G_Keeper_go : MfnN P w K mg base k C "go" ["self"] (K30.sp3Go C cc.NoDay)) (G_Keeper_need : MfnN P w K mg base k C "need" ["self", "least"] (K30.sp3Need C cc.NoLeast)) (G_L_closed : Dfn P w K mg base k "_law_closed" ["_law_many", "_law_days", "_law_least"] K30.spRows30) : Dfn P w K mg base (k + 1) "_law_deed" ["_law_keeper", "_law_model", "_law_cell", "_law_more"] (K30.spDeed C) := by
  refine .of F b m sc_L_deed (fun vs H Q E h => ?_) (fun cdv A outer s H vs Q E hr h => ?_)
  · obtain ⟨p, kp, md, dl, many, least, most, c, more, D, A', B', Z, rfl, hK, hM, ok, zk, zd, nkd, hZ, q⟩ := h; rfl
  obtain ⟨p, kp, md, dl, many, least, most, c, more, D, A', B', Z, rfl, hK, hM, ok, zk, zd, nkd, hZ, q⟩ := h
  have nd := sc_L_deed.nd
  have le := Nat.le_refl k
  refine ⟨_, pss_cons (ps_set (i := 4) nd rfl (Or.inl rfl) (pe_op op_mod (pv 2) pe_int))
    (pss_cons (ps_set (i := 5) nd rfl (Or.inl rfl) (pe_op op_fdiv (pv 2) pe_int))
    (pss_cons (ps_set (i := 6) nd rfl (Or.inl rfl) (pe_callTy call_list_of (by rfl) M_list PyProof.Rows.boot_list (pa_cons (pe_dget (hu_of hr) (pv 1) pe_str (fun _ _ => rfl)) pa_nil)))
    (pss_cons (ps_if (PW.pt (pw_or (PW.pt (pw_and (pt_cmpR op_eq (pv 4) pe_int (nomark _)) (pw_and1 (pt_cmpR (op_eqD hr) (pe_dget (hu_of hr) (pv 1) pe_str (fun _ _ => rfl)) (pe_lst pa_nil) (nomark _))))) (pw_or1 (PW.pt (pw_and (pt_cmpR op_eq (pv 4) pe_int (nomark _)) (pw_and1 (pt_cmpR op_eq (pe_op op_mod (pv 5) pe_int) pe_int (nomark _)))))))) (pss_cons (ps_set (i := 7) nd rfl (Or.inl rfl) (pe_ix ix_list (pe_lst (pa_cons pe_non (pa_cons (pe_op op_sub pe_int (pe_op op_mod (pe_op op_fdiv (pv 5) pe_int) pe_int)) pa_nil))) (pe_callTy call_int1 (by rfl) M_int PyProof.Rows.boot_int (pa_cons (pe_cmpR op_eq (pv 4) pe_int (nomark _)) pa_nil)) (fun _ _ => rfl)))
      (pss_one (ps_ret (pe_cmpR (op_eqD hr) (pe_def G_L_refused hr le rfl (pa_cons (pv 0) (pa_cons (pv 7) pa_nil))) (pe_lst (pa_cons (pe_cmpR op_eq (pv 4) pe_int (nomark _)) (pa_cons (pe_cmpR op_eq (pv 4) pe_int (nomark _)) (pa_cons pe_bl pa_nil)))) (nomark _))))) pss_nil)
    (pss_mid (ps_if (pt_cmpR op_lt (pv 4) pe_int (nomark _)) (pss_cons (ps_set (i := 8) nd rfl (Or.inl rfl) (pe_def G_L_day hr le rfl (pa_cons (pv 3) (pa_cons (pe_dget (hu_of hr) (pv 1) pe_str (fun _ _ => rfl)) pa_nil))))
      (pss_mid (ps_if (PW.pt (pw_and (pt_cmpR op_eq (pe_op op_mod (pv 5) pe_int) pe_int (nomark _)) (pw_and1 (pt_cmpR (op_neD hr) (pe_dget (hu_of hr) (pv 1) pe_str (fun _ _ => rfl)) (pe_lst pa_nil) (nomark _))))) (pss_one (ps_set (i := 8) nd rfl (Or.inl rfl) (pe_callTy call_list_of (by rfl) M_list PyProof.Rows.boot_list (pa_cons (pe_ix ix_list (pe_dget (hu_of hr) (pv 1) pe_str (fun _ _ => rfl)) (pe_un un_neg pe_int) (fun _ _ => rfl)) pa_nil)))) pss_nil)
      (pss_cons (ps_set (i := 9) nd rfl (Or.inl rfl) (pe_callTy call_list_of (by rfl) M_list PyProof.Rows.boot_list (pa_cons (pv 8) pa_nil)))
      (pss_cons (ps_if (PW.pt (pw_or (pt_cmpR op_notN (pe_mdef kC.cl (pv 0) G_Keeper_come hr le (pa_cons (pv 9) pa_nil)) pe_non (nomark _)) (pw_or1 (pt_cmpR (op_neD hr) (pv 9) (pv 8) (nomark _))))) (pss_one (ps_ret pe_bl)) pss_nil)
      (pss_cons (ps_expr (pe_bm PySem.F.plainAttrs_list PySem.F.slot_list_append PySem.F.type_list_append mt_append (pv 9) (pa_cons pe_int pa_nil)))
      (pss_cons (ps_expr (pe_bm PySem.F.plainAttrs_list PySem.F.slot_list_append PySem.F.type_list_append mt_append (pe_dget (hu_of hr) (pv 1) pe_str (fun _ _ => rfl)) (pa_cons (pv 8) pa_nil)))
      (pss_one (ps_if (pt_cmpR op_gt (pe_callB call_len_seq (by rfl) M_len PySem.boot_len (pa_cons (pe_dget (hu_of hr) (pv 1) pe_str (fun _ _ => rfl)) pa_nil)) (pe_dget (hu_of hr) (pv 1) pe_str (fun _ _ => rfl)) (nomark _)) (pss_one (ps_expr (pe_bm PySem.F.plainAttrs_list PySem.F.slot_list_pop PySem.F.type_list_pop mt_popAt (pe_dget (hu_of hr) (pv 1) pe_str (fun _ _ => rfl)) (pa_cons pe_int pa_nil)))) pss_nil)))))))) (pss_one (ps_if (pt_cmpR op_lt (pv 4) pe_int (nomark _)) (pss_cons (ps_if (pt_cmpR (op_eqD hr) (pe_dget (hu_of hr) (pv 1) pe_str (fun _ _ => rfl)) (pe_lst pa_nil) (nomark _)) (pss_one (ps_ret pe_bl)) pss_nil)
        (pss_cons (ps_if (pt_cmpR op_notN (pe_mdef0 kC.cl (pv 0) G_Keeper_go.calm hr le) pe_non (nomark _)) (pss_one (ps_ret pe_bl)) pss_nil)
        (pss_one (ps_expr (pe_bm PySem.F.plainAttrs_list PySem.F.slot_list_pop PySem.F.type_list_pop mt_popAt (pe_dget (hu_of hr) (pv 1) pe_str (fun _ _ => rfl)) (pa_cons pe_int pa_nil)))))) (pss_cons (ps_dput (hu_of hr) (pv 1) pe_str (pe_op op_add pe_int (pe_op op_mod (pe_op op_fdiv (pv 5) pe_int) pe_int)) rfl)
        (pss_one (ps_if (pt_cmpR op_notN (pe_mdef kC.cl (pv 0) G_Keeper_need.calm hr le (pa_cons (pe_dget (hu_of hr) (pv 1) pe_str (fun _ _ => rfl)) pa_nil)) pe_non (nomark _)) (pss_one (ps_ret pe_bl)) pss_nil))))))
    (pss_cons (ps_dput (hu_of hr) (pv 1) pe_str (pv 6) rfl)
    (pss_cons (ps_dput (hu_of hr) (pv 1) pe_str (pe_def G_L_closed hr le rfl (pa_cons (pe_dget (hu_of hr) (pv 1) pe_str (fun _ _ => rfl)) (pa_cons (pe_dget (hu_of hr) (pv 1) pe_str (fun _ _ => rfl)) (pa_cons (pe_dget (hu_of hr) (pv 1) pe_str (fun _ _ => rfl)) pa_nil)))) rfl)
    (pss_one (ps_ret pe_bl)))))))), ?_⟩
  try refine tabs fun Tq hTq => ?_
  obtain ⟨⟨al, nl, hm, hA, hB, za, zn⟩, us, hdl, hus, zu⟩ := id hM
  obtain ⟨⟨dx, ah, nw, u1, v1, hp, _⟩, uk, hk, huk, zuk⟩ := id hK
  have m1 := ok.m1
  have m8 := ok.m8
  have ul := Paired.length hus
  refine ⟨_, rfl, _, _, rfl, rfl, (by show (0 : Int) < 8; decide), ?_⟩
  try dsimp only [gName]
  try (refine opn hTq ?_; clear hTq Tq)
  try refine tabs fun Tq hTq => ?_
  have t0 := Int.emod_nonneg c (show (8 : Int) ≠ 0 by decide)
  have t8 := Int.emod_lt_of_pos c (show (0 : Int) < 8 by decide)
  generalize c % 8 = turn at t0 t8 ⊢
  refine ⟨_, rfl, _, _, rfl, rfl, ⟨by decide, by decide⟩, ?_⟩
  try dsimp only [gName]
  try (refine opn hTq ?_; clear hTq Tq)
  try refine tabs fun Tq hTq => ?_
  generalize c / 8 = som
  obtain ⟨ys, hnl, hnR, hnr, hnL⟩ := id hB
  refine ⟨_, rfl, md, _, rfl, md_get hm md_now, nl, ys, rfl, .inl (SqL.of hnl), fun ahd hahd => ?_⟩
  have S1 := same_new hahd (.lst ys)
  have ha1 : upd H ahd (.lst ys) ahd = some (.lst ys) := upd_same
  have zah : ¬Z ahd := fun z => by
    obtain ⟨o, ho⟩ := hZ _ z
    rw [ho] at hahd; cases hahd
  generalize upd H ahd (.lst ys) = H1 at S1 ha1 ⊢
  have hA1 : RowsAt H1 ahd B' := ⟨ys, ha1, hnR.same S1.t, hnr, hnL⟩
  try dsimp only [gName]
  try (refine opn hTq ?_; clear hTq Tq)
  try refine tabs fun Tq hTq => ?_
  have lookD : ∀ {H2 : Hp} {σ : St} {Q : Bool → Hp → Prop}, Same H1 H2 → pick 2 [0, 1] σ = [some (.ref p), some (.ref md)] → True := fun _ _ => trivial
  clear lookD
  refine seq_if (b := (decide (turn = 5) && decide (D = [])) || (decide (turn = 7) && decide (som % 2 = 1))) (lookOr (lookAnd (.pure fun Q h => ⟨_, rfl, rfl, _, rfl, (by rw [← vi_eq] at h; exact h)⟩) fun _ H2 S2 Q h => ⟨_, rfl, md, _, rfl, md_get ((S1.trans S2) _ _ hm) md_days, nil_len, fun z hz => ⟨dDays D, .list [], .lst (SqL.of (((S1.trans S2).trans (same_new hz _)) _ _ hdl)) (days_dr (lsts_same ((S1.trans S2).trans (same_new hz _)) hus)), .lst (SqL.of upd_same) .nil, (pl_days D).shaped (by decide), rfl, _, rfl, (by show Q (PyData.eqv (dDays D) (.list [])) _; rw [eqv_nil]; exact h _ (same_new hz _))⟩⟩) fun _ H3 S3 => lookAnd (.pure fun Q h => ⟨_, rfl, rfl, _, rfl, (by rw [← vi_eq] at h; exact h)⟩) fun _ H4 S4 => .pure fun Q h => ⟨_, rfl, _, _, rfl, rfl, (by show (0 : Int) < 2; decide), rfl, _, rfl, (by show Q (decide (V.int (som % 2) = V.int 1)) _; rw [vi_eq]; exact h)⟩) fun H2 S2 => ?_
  have S12 := S1.trans S2
  refine ite2 (fun co => ?_) (fun co => ?_)
  · have h5 : (turn = 5 ∧ D = []) ∨ (turn = 7 ∧ som % 2 = 1) := by simpa using co
    have hK2 := hK.same S12
    obtain ⟨rfl, eD⟩ | ⟨rfl, od⟩ := h5
    · refine ⟨_, rfl, _, _, rfl, rfl, ⟨by decide, by decide⟩, _, _, rfl, rfl, (by show (0 : Int) < 3; decide), _, _, rfl, rfl, (by show 2 ≤ sizeLine; decide), fun z hz => ⟨_, rfl, rfl, .inr ⟨false, rfl, z, _, 0, .non, rfl, rfl, SqL.of upd_same, rfl, ?_⟩⟩⟩
      try dsimp only [gName]
      try (refine opn hTq ?_; clear hTq Tq)
      try refine tabs fun Tq hTq => ?_
      refine ⟨_, rfl, _, rfl, p, kp, many, least, most, D, A', B', .non, rfl, hK2.k.same (same_new hz _), ok.days, by omega, by omega, .inl ⟨rfl, eD, fun r H4 S4 hr0 hr => ⟨_, rfl, rfl, _, rfl, rfl, (by show 3 ≤ sizeLine; decide), fun z2 hz2 => ?_⟩⟩⟩
      have pb : PlD 1 (.list [.bool true, .bool false, .bool true]) := .list fun d hd => pl_b hd
      refine eq_data (.lst (SqL.of ((same_new hz2 _) _ _ hr)) (.cons (.bl _) (.cons (.bl _) (.cons (.bl _) .nil)))) (.lst (SqL.of upd_same) (.cons (.bl _) (.cons (.bl _) (.cons (.bl _) .nil)))) (pb.shaped (by decide)) pb.2.2 ?_
      have S5 := (same_new hz _).trans (S4.trans (same_new hz2 (.lst [.bl true, .bl false, .bl true])))
      exact q least D A' B' _ (hK2.same S5) (hM.same (S12.trans S5)) ok ((Fr4.refl _ _ _ _ _).same (S12.trans S5))
    · refine ⟨_, rfl, _, _, rfl, rfl, ⟨by decide, by decide⟩, _, _, rfl, rfl, (by show (0 : Int) < 3; decide), _, _, rfl, rfl, (by show 2 ≤ sizeLine; decide), fun z hz => ⟨_, rfl, rfl, .inr ⟨true, rfl, z, _, 1, _, rfl, rfl, SqL.of upd_same, rfl, ?_⟩⟩⟩
      try dsimp only [gName]
      try (refine opn hTq ?_; clear hTq Tq)
      try refine tabs fun Tq hTq => ?_
      have e0 := Int.emod_nonneg (som / 2) (show (3 : Int) ≠ 0 by decide)
      refine ⟨_, rfl, _, rfl, p, kp, many, least, most, D, A', B', _, rfl, hK2.k.same (same_new hz _), ok.days, by omega, by omega, .inr ⟨_, rfl, by omega, fun r H4 S4 hr0 hr => ⟨_, rfl, rfl, _, rfl, rfl, (by show 3 ≤ sizeLine; decide), fun z2 hz2 => ?_⟩⟩⟩
      have pb : PlD 1 (.list [.bool false, .bool true, .bool true]) := .list fun d hd => pl_b hd
      refine eq_data (.lst (SqL.of ((same_new hz2 _) _ _ hr)) (.cons (.bl _) (.cons (.bl _) (.cons (.bl _) .nil)))) (.lst (SqL.of upd_same) (.cons (.bl _) (.cons (.bl _) (.cons (.bl _) .nil)))) (pb.shaped (by decide)) pb.2.2 ?_
      have S5 := (same_new hz (.lst [.non, .int (0 - som / 2 % 3)])).trans (S4.trans (same_new hz2 (.lst [.bl false, .bl true, .bl true])))
      exact q least D A' B' _ (hK2.same S5) (hM.same (S12.trans S5)) ok ((Fr4.refl _ _ _ _ _).same (S12.trans S5))
  have n5 : turn = 5 → D ≠ [] := fun a b => co (by simp [a, b])
  have n7 : turn = 7 → som % 2 ≠ 1 := fun a b => co (by simp [a, b])
  clear co
  have hK2 := hK.same S12
  have hm2 := S12 _ _ hm
  have hdl2 := S12 _ _ hdl
  have hus2 := lsts_same S12 hus
  have hA2 := hA1.same S2
  -- cut
  try dsimp only [gName]
  try (refine opn hTq ?_; clear hTq Tq)
  try refine tabs fun Tq hTq => ?_
  refine ⟨fun σ H' => Ex3 fun (z7 z8 z9 : Option V) => σ = [some (.ref p), some (.ref md), some (.int c), some (.int more), some (.int turn), some (.int som), some (.ref ahd), z7, z8, z9] ∧ MidDeed Z C H p kp md dl al nl ahd many most B' H', ?_, ?_⟩
  rotate_left
  · intro σ H3 hz_
    first | (refine Ex3.st σ hz_ fun z7 z8 z9 hz_ => ?_; obtain ⟨least', D', hK3, hm3, ⟨us', hdl3, hus3, zu3⟩, ok3, hA3, zA3, F3⟩ := hz_) | obtain ⟨z7, z8, z9, rfl, least', D', hK3, hm3, ⟨us', hdl3, hus3, zu3⟩, ok3, hA3, zA3, F3⟩ := hz_
    obtain ⟨⟨dx3, ah3, nw3, u3, v3, hp3, _⟩, uk3, hk3, huk3, _⟩ := id hK3
    have npm : p ≠ md := fun e => by rw [e, hm3] at hp3; cases hp3
    have nkm : kp ≠ md := fun e => by rw [e, hm3] at hk3; cases hk3
    have ndm : dl ≠ md := fun e => by rw [e, hm3] at hdl3; cases hdl3
    try dsimp only [tNext]
    try (refine opn hTq ?_; clear hTq Tq)
    try refine tabs fun Tq hTq => ?_
    refine ⟨_, rfl, _, rfl, md, _, rfl, DPut.k (k := .inr "ahead") hm3 (by show 6 < sizeLine; decide), ?_⟩
    rw [md_put_ahead]
    have G4 : ∀ b o, H3 b = some o → ¬(b = md) → upd H3 md (.dK (mdl many least' most dl ahd nl)) b = some o := fun b o e n => by rw [upd_ne n]; exact e
    have w4 : ∀ b, b = md → Off Z H3 b := fun b e => by subst e; exact Off.dK hm3
    have hK4 := hK3.off G4 w4 npm nkm
    have hdl4 := G4 _ _ hdl3 ndm
    have hus4 := days_off G4 w4 zu3 hus3
    have hA4 := rowsAt_off G4 w4 zA3 hA3
    have hp4 := G4 _ _ hp3 npm
    have hk4 := G4 _ _ hk3 nkm
    have F4 : Fr4 p kp md dl H (upd H3 md (.dK (mdl many least' most dl ahd nl))) := F3.put (.inr (.inr (.inr (.inl rfl))))
    have hm4 : upd H3 md (.dK (mdl many least' most dl ahd nl)) md = some (.dK (mdl many least' most dl ahd nl)) := upd_same
    generalize upd H3 md (.dK (mdl many least' most dl ahd nl)) = H4 at hK4 hdl4 hus4 hA4 hp4 hk4 F4 hm4 ⊢
    clear G4 w4
    try dsimp only [tNext]
    try (refine opn hTq ?_; clear hTq Tq)
    try refine tabs fun Tq hTq => ?_
    refine ⟨_, rfl, md, _, rfl, md_get hm4 md_many, _, rfl, md, _, rfl, md_get hm4 md_days, _, rfl, md, _, rfl, md_get hm4 md_least, dl, many, least', D', us', rfl, hdl4, hus4, ok3.days, by omega, by omega, ok3.l1, fun t ws H5 S5 ht0 ht hR => ⟨_, rfl, md, _, rfl, DPut.k (k := .inr "now") (S5 _ _ hm4) (by show 6 < sizeLine; decide), ?_⟩⟩
    rw [md_put_now]
    have G6 : ∀ b o, H5 b = some o → ¬(b = md) → upd H5 md (.dK (mdl many least' most dl ahd t)) b = some o := fun b o e n => by rw [upd_ne n]; exact e
    have w6 : ∀ b, b = md → Off Z H5 b := fun b e => by subst e; exact Off.dK (S5 _ _ hm4)
    have zt : ¬Z t := fun z => by
      obtain ⟨o, ho⟩ := hZ _ z
      obtain ⟨o', h⟩ := Fr4.live (p := p) (q := kp) (r := md) (s := dl) F4 hp4 hk4 hm4 hdl4 ho
      rw [h] at ht0; cases ht0
    -- cut
    try dsimp only [gName]
    try (refine opn hTq ?_; clear hTq Tq)
    try refine tabs fun Tq hTq => ?_
    exact q least' D' B' _ _ ((hK4.same S5).off G6 w6 npm nkm) ⟨⟨ahd, t, upd_same, rowsAt_off G6 w6 zA3 (hA4.same S5), rowsAt_off G6 w6 zt (rows_at m8 ht hR), zA3, zt⟩, us', G6 _ _ (S5 _ _ hdl4) ndm, days_off G6 w6 zu3 (lsts_same S5 hus4), zu3⟩ ok3 ((F4.same S5).put (.inr (.inr (.inr (.inl rfl)))))
  refine one_if (b := decide (turn < 5)) (.pure fun Q h => ⟨_, rfl, _, _, rfl, rfl, _, rfl, h⟩) fun H3 S3 => ?_
  have S13 := S12.trans S3
  have hK3 := hK2.same S3
  have hm3 := S13 _ _ hm
  have hdl3 := S13 _ _ hdl
  have hus3 := lsts_same S13 hus
  have hA3 := hA2.same S3
  have npm : p ≠ md := fun e => by rw [e, hm] at hp; cases hp
  have nkm : kp ≠ md := fun e => by rw [e, hm] at hk; cases hk
  have ndm : dl ≠ md := fun e => by rw [e, hm] at hdl; cases hdl
  have npd : p ≠ dl := fun e => by rw [e, hdl] at hp; cases hp
  refine ite2 (fun co => ?_) (fun co => ?_)
  · clear hK2 hm2 hdl2 hus2 hA2
    refine ⟨_, rfl, _, rfl, md, _, rfl, md_get hm3 md_many, _, many, rfl, m1, by omega, fun r0 ds0 H4 S4 hr00 hr04 hl5 hin0 => ?_⟩
    try dsimp only [gName]
    try (refine opn hTq ?_; clear hTq Tq)
    try refine tabs fun Tq hTq => ?_
    refine ⟨fun σ H' => Ex2 fun (r : Addr) (ds : List Int) => σ = [some (.ref p), some (.ref md), some (.int c), some (.int more), some (.int turn), some (.int som), some (.ref ahd), none, some (.ref r), none] ∧ Same H3 H' ∧ H3 r = none ∧ H' r = some (.lst (ds.map V.int)) ∧ ds.length ≤ 40 ∧ ∀ x ∈ ds, InB many x, ?_, ?_⟩
    · refine one_if (b := decide (som % 8 = 3) && decide (D ≠ [])) (lookAnd (.pure fun Q h => ⟨_, rfl, _, _, rfl, rfl, (by show (0 : Int) < 8; decide), rfl, _, rfl, (by show Q (decide (V.int (som % 8) = V.int 3)) _; rw [vi_eq]; exact h)⟩) fun _ H5 S5 Q h => ⟨_, rfl, md, _, rfl, md_get ((S4.trans S5) _ _ hm3) md_days, nil_len, fun z hz => ⟨dDays D, .list [], .lst (SqL.of (((S4.trans S5).trans (same_new hz _)) _ _ hdl3)) (days_dr (lsts_same ((S4.trans S5).trans (same_new hz _)) hus3)), .lst (SqL.of upd_same) .nil, (pl_days D).shaped (by decide), rfl, _, rfl, (by show Q (!PyData.eqv (dDays D) (.list [])) _; rw [eqv_nil, ← decide_not]; exact h _ (same_new hz _))⟩⟩) fun H5 S5 => ?_
      refine ite2 (fun c1 => ?_) (fun c1 => ?_)
      · have hne : D ≠ [] := by
          rw [Bool.and_eq_true] at c1
          exact of_decide_eq_true c1.2
        obtain ⟨d, hd⟩ : ∃ d, D.getLast? = some d := ⟨_, List.getLast?_eq_some_getLast hne⟩
        have hd' : D[D.length - 1]? = some d := by rw [← List.getLast?_eq_getElem?]; exact hd
        have l0 : 0 < us.length := by rw [ul]; exact List.length_pos_iff.mpr hne
        obtain ⟨d2, hd2, l, el, hl⟩ := paired_take hus3 (show us[D.length - 1]? = some us[us.length - 1] from by rw [← ul]; exact List.getElem?_eq_getElem _)
        rw [hd'] at hd2
        cases hd2
        have S35 := S4.trans S5
        refine ⟨_, rfl, md, _, rfl, md_get (S35 _ _ hm3) md_days, _, rfl, dl, us, -1, .ref l, rfl, rfl, SqL.of (S35 _ _ hdl3), (by rw [← el]; exact at_last l0), l, _, rfl, .inl (SqL.of (S35 _ _ hl)), fun r hr => ?_⟩
        have hdd := ok.days.2 d (List.mem_of_getElem? hd')
        exact ⟨r, d, rfl, S35.trans (same_new hr _), S35.free hr, upd_same, hdd.1, hdd.2⟩
      · exact ⟨r0, ds0, rfl, S4.trans S5, hr00, S5 _ _ hr04, by omega, hin0⟩
    intro σ H5 hz_
    first | (refine Ex2.st σ hz_ fun r ds hz_ => ?_; have S35 := hz_.1; have hr0 := hz_.2.1; have hr5 := hz_.2.2.1; have hl40 := hz_.2.2.2.1; have hin := hz_.2.2.2.2; clear hz_) | obtain ⟨r, ds, rfl, S35, hr0, hr5, hl40, hin⟩ := hz_
    clear hr00 hr04 hl5 hin0 S4
    try dsimp only [gName]
    try (refine opn hTq ?_; clear hTq Tq)
    try refine tabs fun Tq hTq => ?_
    refine ⟨_, rfl, r, _, rfl, .inl (SqL.of hr5), fun hd hhd => ?_⟩
    have S6 := same_new hhd (.lst (ds.map V.int))
    have hh6 : upd H5 hd (.lst (ds.map V.int)) hd = some (.lst (ds.map V.int)) := upd_same
    generalize upd H5 hd (.lst (ds.map V.int)) = H6 at S6 hh6 ⊢
    have S36 := S35.trans S6
    have S16 := S13.trans S36
    have hrH : H r = none := S13.free hr0
    have hdH : H hd = none := (S13.trans S35).free hhd
    have hdH1 : H1 hd = none := (S2.trans (S3.trans S35)).free hhd
    have nrh : r ≠ hd := ne_of_none hr5 hhd
    have hr6 := S6 _ _ hr5
    have hK6 : KpZ (fun z => Z z ∨ z = hd) C H6 p kp many least most D A' B' := (hK.sub fun z hz ho => hz.elim id fun e => by
      obtain ⟨o, ho⟩ := ho
      rw [e, hdH] at ho; cases ho).same S16
    have hZ6 : ∀ z, (Z z ∨ z = hd) → ∃ o, H6 z = some o := fun z hz => by
      obtain hz | rfl := hz
      · obtain ⟨o, ho⟩ := hZ z hz
        exact ⟨o, S16 _ _ ho⟩
      · exact ⟨_, hh6⟩
    have nhp : hd ≠ p := (ne_of_none hp hdH).symm
    have nhk : hd ≠ kp := (ne_of_none hk hdH).symm
    have nhm : hd ≠ md := (ne_of_none hm hdH).symm
    have nhl : hd ≠ dl := (ne_of_none hdl hdH).symm
    have nrp : r ≠ p := (ne_of_none hp hrH).symm
    have nrk : r ≠ kp := (ne_of_none hk hrH).symm
    have nrm : r ≠ md := (ne_of_none hm hrH).symm
    have nrl : r ≠ dl := (ne_of_none hdl hrH).symm
    have zr : ¬Z r := fun z => by
      obtain ⟨o, ho⟩ := hZ _ z
      rw [ho] at hrH; cases hrH
    have l6 : D.length ≤ 6 := by have := ok.len; have := ok.s6; omega
    have hDc : DO3 many (comeD most D ds) := by
      unfold comeD
      split
      · exact (ok.days.snoc l6 hl40 hin).drop 1
      · exact ok.days.snoc l6 hl40 hin
    have hlc : ((comeD most D ds).length : Int) ≤ most := by
      have := ok.len
      unfold comeD
      split
      · rw [List.length_drop, List.length_append]; show ((_ + 1 - 1 : Nat) : Int) ≤ _; omega
      · rw [List.length_append]; show ((_ + 1 : Nat) : Int) ≤ _; omega
    try dsimp only [gName]
    try (refine opn hTq ?_; clear hTq Tq)
    try refine tabs fun Tq hTq => ?_
    refine seq_ifW (b := false) (W := fun H' => KpZ (fun z => Z z ∨ z = hd) C H' p kp many least most (comeD most D ds) B' (rowsF many (comeD most D ds).flatten least) ∧ Fr2 p kp H6 H') (fun Q h => ⟨_, rfl, p, dx, _, rfl, S16 _ _ hp, fl_no_come, _, rfl, p, kp, hd, many, least, most, D, A', B', ds, _, rfl, hK6, hZ6, SqL.of hh6, ok.days, l6, hl40, hin, by omega, by omega, fun H7 hK7 F7 => ⟨rfl, _, rfl, ?_⟩⟩) fun H7 ⟨hK7, F7⟩ => iteF ?_
    · refine iteF ⟨_, rfl, _, rfl, ne_ints (SqL.of (F7 _ _ hh6 nhp nhk)) (SqL.of (F7 _ _ hr6 nrp nrk)) ⟨_, rfl, ?_⟩⟩
      rw [decide_eq_true rfl]
      exact h _ ⟨hK7, F7⟩
    have w7 : ∀ b, (b = p ∨ b = kp) → Off Z H6 b := fun b e => by
      obtain rfl | rfl := e
      · exact Off.ins (S16 _ _ hp)
      · exact Off.lst (S16 _ _ hk) zk
    have G7 : ∀ b o, H6 b = some o → ¬(b = p ∨ b = kp) → H7 b = some o := fun b o e n => F7 _ _ e (fun z => n (.inl z)) (fun z => n (.inr z))
    have hus7 := days_off G7 w7 zu (lsts_same S16 hus)
    have hA7 := rowsAt_off G7 w7 zah (hA3.same S36)
    have hm7 := F7 _ _ (S16 _ _ hm) npm.symm nkm.symm
    have hdl7 := F7 _ _ (S16 _ _ hdl) npd.symm nkd.symm
    have hh7 := F7 _ _ hh6 nhp nhk
    have hr7 := F7 _ _ hr6 nrp nrk
    have F07 : Fr4 p kp md dl H H7 := Fr4.trans ((Fr4.refl _ _ _ _ _).same S16) (Fr2.fr4 F7)
    clear w7 G7 F7 hK6 hZ6 hh6 hr6 S6 S36 S16 S35 hr5 hm3 hdl3 hus3 hA3 hK3
    try dsimp only [tNext]
    try (refine opn hTq ?_; clear hTq Tq)
    try refine tabs fun Tq hTq => ?_
    refine ⟨_, rfl, tyL hh7, hd, _, _, rfl, rfl, hh7, (by rw [List.length_map]; exact small1000 (by omega)), ?_⟩
    have G8 : ∀ b o, H7 b = some o → ¬(b = hd) → upd H7 hd (.lst (ds.map V.int ++ [.int 1])) b = some o := fun b o e n => by rw [upd_ne n]; exact e
    have w8 : ∀ b, b = hd → Off (fun z => Z z ∨ z = hd) H7 b := fun b e => by subst e; exact Off.lst hh7 (.inr rfl)
    have w8' : ∀ b, b = hd → ¬ (b = p) ∧ ¬ (b = kp) := fun b e => by subst e; exact ⟨nhp, nhk⟩
    have hK8 := hK7.off G8 w8 nhp.symm nhk.symm
    have zuh : ∀ l, V.ref l ∈ us → ¬(Z l ∨ l = hd) := fun l hl z => z.elim (zu l hl) fun e => by
      obtain ⟨y, hy⟩ := lsts_mem hus hl
      rw [e, hdH] at hy; cases hy
    have zahh : ¬(Z ahd ∨ ahd = hd) := fun z => z.elim zah fun e => by
      rw [e] at hA1
      obtain ⟨y, hy, _⟩ := hA1
      rw [hdH1] at hy; cases hy
    have hus8 := days_off G8 w8 zuh hus7
    have hA8 := rowsAt_off G8 w8 zahh hA7
    have hm8 := G8 _ _ hm7 nhm.symm
    have hdl8 := G8 _ _ hdl7 nhl.symm
    have hr8 := G8 _ _ hr7 nrh
    have F08 : Fr4 p kp md dl H (upd H7 hd (.lst (ds.map V.int ++ [.int 1]))) := F07.put (.inl hdH)
    generalize upd H7 hd (.lst (ds.map V.int ++ [.int 1])) = H8 at hK8 hus8 hA8 hm8 hdl8 hr8 F08 ⊢
    have hK8 : KpZ Z C H8 p kp many least most (comeD most D ds) B' (rowsF many (comeD most D ds).flatten least) := hK8.sub fun z hz _ => .inl hz
    clear w8 G8 hK7 hus7 hA7 hm7 hdl7 hr7 hh7
    try dsimp only [tNext]
    try (refine opn hTq ?_; clear hTq Tq)
    try refine tabs fun Tq hTq => ?_
    refine ⟨_, rfl, md, _, rfl, md_get hm8 md_days, tyL hdl8, _, rfl, dl, us, _, rfl, rfl, hdl8, small1000 (by omega), ?_⟩
    have G9 : ∀ b o, H8 b = some o → ¬(b = dl) → upd H8 dl (.lst (us ++ [.ref r])) b = some o := fun b o e n => by rw [upd_ne n]; exact e
    have w9 : ∀ b, b = dl → Off Z H8 b := fun b e => by subst e; exact Off.lst hdl8 zd
    have hK9 := hK8.off G9 w9 npd nkd
    have hA9 := rowsAt_off G9 w9 zah hA8
    have hm9 := G9 _ _ hm8 ndm.symm
    have hus9 : Paired (LstI (upd H8 dl (.lst (us ++ [.ref r])))) (us ++ [.ref r]) (D ++ [ds]) := Paired.snoc (days_off G9 w9 zu hus8) ⟨r, rfl, G9 _ _ hr8 nrl⟩
    have hdl9 : upd H8 dl (.lst (us ++ [.ref r])) dl = some (.lst (us ++ [.ref r])) := upd_same
    have F09 : Fr4 p kp md dl H (upd H8 dl (.lst (us ++ [.ref r]))) := F08.put (.inr (.inr (.inr (.inr rfl))))
    generalize upd H8 dl (.lst (us ++ [.ref r])) = H9 at hK9 hA9 hm9 hus9 hdl9 F09 ⊢
    have zu9 : ∀ l, V.ref l ∈ us ++ [.ref r] → ¬Z l := fun l hl => by
      obtain hl | hl := List.mem_append.mp hl
      · exact zu l hl
      · rw [List.mem_singleton] at hl; injection hl with hl; rw [hl]; exact zr
    have la : (us ++ [V.ref r]).length = D.length + 1 := by rw [List.length_append, ul]; rfl
    clear G9 w9
    try dsimp only [tNext]
    try (refine opn hTq ?_; clear hTq Tq)
    try refine tabs fun Tq hTq => ?_
    refine one_if (b := decide (most < ((us ++ [V.ref r]).length : Int))) (.pure fun Q h => ⟨_, rfl, md, _, rfl, md_get hm9 md_days, dl, _, rfl, .inl (SqL.of hdl9), _, rfl, md, _, rfl, md_get hm9 md_most, _, _, rfl, rfl, _, rfl, h⟩) fun H10 S10 => ?_
    rw [la]
    refine ite2 (fun c1 => ?_) (fun c1 => ?_)
    · have cc : most < (D.length : Int) + 1 := by have := of_decide_eq_true c1; omega
      obtain ⟨u, us', e⟩ : ∃ u us', us ++ [V.ref r] = u :: us' := by
        cases us with
        | nil => exact ⟨_, _, rfl⟩
        | cons u us' => exact ⟨_, _, rfl⟩
      rw [e] at hdl9 hus9 zu9
      have hdl10 := S10 _ _ hdl9
      refine ⟨_, rfl, md, _, rfl, md_get (S10 _ _ hm9) md_days, tyL hdl10, dl, _, 0, 0, u, rfl, rfl, hdl10, by decide, by decide, seq0 _ _, rfl, ?_⟩
      have G11 : ∀ b o, H10 b = some o → ¬(b = dl) → upd H10 dl (.lst us') b = some o := fun b o e n => by rw [upd_ne n]; exact e
      have w11 : ∀ b, b = dl → Off Z H10 b := fun b e => by subst e; exact Off.lst hdl10 zd
      exact ⟨_, _, _, rfl, least, comeD most D ds, (hK9.same S10).off G11 w11 npd nkd, G11 _ _ (S10 _ _ hm9) ndm.symm, ⟨us', upd_same, by unfold comeD; rw [if_pos cc]; exact days_off G11 w11 (fun l hl => zu9 l (.tail _ hl)) (paired_drop1 (lsts_same S10 hus9)), fun l hl => zu9 l (.tail _ hl)⟩, ok.next ok.l1 ok.l5 hlc hDc, rowsAt_off G11 w11 zah (hA9.same S10), zah, (F09.same S10).put (.inr (.inr (.inr (.inr rfl))))⟩
    · have cc : ¬(most < (D.length : Int) + 1) := fun z => c1 (decide_eq_true (by omega))
      exact ⟨_, _, _, rfl, least, comeD most D ds, hK9.same S10, S10 _ _ hm9, ⟨us ++ [.ref r], S10 _ _ hdl9, by unfold comeD; rw [if_neg cc]; exact lsts_same S10 hus9, zu9⟩, ok.next ok.l1 ok.l5 hlc hDc, hA9.same S10, zah, F09.same S10⟩
  have t5 : ¬(turn < 5) := by rw [decide_eq_true_eq] at co; exact co
  clear co
  refine one_if (b := decide (turn < 7)) (.pure fun Q h => ⟨_, rfl, _, _, rfl, rfl, _, rfl, h⟩) fun H4 S4 => ?_
  have S14 := S13.trans S4
  have hK4 := hK3.same S4
  have hm4 := S14 _ _ hm
  have hdl4 := S14 _ _ hdl
  have hus4 := lsts_same S14 hus
  have hA4 := hA3.same S4
  clear hK3 hm3 hdl3 hus3 hA3 hK2 hm2 hdl2 hus2 hA2
  refine ite2 (fun co => ?_) (fun co => ?_)
  · refine seq_if (b := decide (D = [])) (fun Q h => ⟨_, rfl, md, _, rfl, md_get hm4 md_days, nil_len, fun z hz => ⟨dDays D, .list [], .lst (SqL.of ((same_new hz _) _ _ hdl4)) (days_dr (lsts_same (same_new hz _) hus4)), .lst (SqL.of upd_same) .nil, (pl_days D).shaped (by decide), rfl, _, rfl, (by show Q (PyData.eqv (dDays D) (.list [])) _; rw [eqv_nil]; exact h _ (same_new hz _))⟩⟩) fun H5 S5 => ?_
    refine ite2 (fun c0 => ?_) (fun c0 => ?_)
    · exact q least D A' B' _ (hK4.same S5) (hM.same (S14.trans S5)) ok ((Fr4.refl _ _ _ _ _).same (S14.trans S5))
    have hne : D ≠ [] := fun e => c0 (decide_eq_true e)
    have S15 := S14.trans S5
    have hK5 := hK4.same S5
    have hZ5 : ∀ z, Z z → ∃ o, H5 z = some o := fun z hz => by
      obtain ⟨o, ho⟩ := hZ z hz
      exact ⟨o, S15 _ _ ho⟩
    try dsimp only [tNext]
    try (refine opn hTq ?_; clear hTq Tq)
    try refine tabs fun Tq hTq => ?_
    refine seq_ifW (b := false) (W := fun H' => KpZ Z C H' p kp many least most (D.drop 1) B' (rowsF many (D.drop 1).flatten least) ∧ Fr2 p kp H5 H') (fun Q h => ⟨_, rfl, p, dx, _, rfl, S15 _ _ hp, fl_no_go, p, kp, many, least, most, D, A', B', Z, rfl, hK5, hZ5, ok.days, by omega, by omega, fun e => absurd e hne, fun _ H6 hK6 F6 => ⟨rfl, _, rfl, h _ ⟨hK6, F6⟩⟩⟩) fun H6 ⟨hK6, F6⟩ => iteF ?_
    have hm6 := F6 _ _ (S15 _ _ hm) npm.symm nkm.symm
    have hdl6 := F6 _ _ (S15 _ _ hdl) npd.symm nkd.symm
    have w6 : ∀ b, (b = p ∨ b = kp) → Off Z H5 b := fun b e => by
      obtain rfl | rfl := e
      · exact Off.ins (S15 _ _ hp)
      · exact Off.lst (S15 _ _ hk) zk
    have G6 : ∀ b o, H5 b = some o → ¬(b = p ∨ b = kp) → H6 b = some o := fun b o e n => F6 _ _ e (fun z => n (.inl z)) (fun z => n (.inr z))
    have hus6 := days_off G6 w6 zu (lsts_same S15 hus)
    have hA6 := rowsAt_off G6 w6 zah (hA4.same S5)
    obtain ⟨u, us', rfl⟩ : ∃ u us', us = u :: us' := by
      cases us with
      | nil => exact absurd (List.length_eq_zero_iff.mp ul.symm) hne
      | cons u us' => exact ⟨u, us', rfl⟩
    try dsimp only [tNext]
    try (refine opn hTq ?_; clear hTq Tq)
    try refine tabs fun Tq hTq => ?_
    refine ⟨_, rfl, md, _, rfl, md_get hm6 md_days, tyL hdl6, dl, _, 0, 0, u, rfl, rfl, hdl6, by decide, by decide, seq0 _ _, rfl, ?_⟩
    have G7 : ∀ b o, H6 b = some o → ¬(b = dl) → upd H6 dl (.lst us') b = some o := fun b o e n => by rw [upd_ne n]; exact e
    have w7 : ∀ b, b = dl → Off Z H6 b := fun b e => by subst e; exact Off.lst hdl6 zd
    exact ⟨_, _, _, rfl, least, D.drop 1, hK6.off G7 w7 npd nkd, G7 _ _ hm6 ndm.symm, ⟨us', upd_same, days_off G7 w7 (fun l hl => zu l (.tail _ hl)) (paired_drop1 hus6), fun l hl => zu l (.tail _ hl)⟩, ok.next ok.l1 ok.l5 (by rw [List.length_drop]; have := ok.len; omega) (ok.days.drop 1), rowsAt_off G7 w7 zah hA6, zah, (Fr4.trans ((Fr4.refl _ _ _ _ _).same S15) (Fr2.fr4 F6)).put (.inr (.inr (.inr (.inr rfl))))⟩
  have t7 : turn = 7 := by
    rw [decide_eq_true_eq] at co; omega
  subst t7
  have e0 := Int.emod_nonneg (som / 2) (show (5 : Int) ≠ 0 by decide)
  have e1 := Int.emod_lt_of_pos (som / 2) (show (0 : Int) < 5 by decide)
  refine ⟨_, rfl, _, _, rfl, rfl, ⟨by decide, by decide⟩, _, _, rfl, rfl, (by show (0 : Int) < 5; decide), _, _, rfl, rfl, _, rfl, md, _, rfl, DPut.k (k := .inr "least") hm4 (by show 6 < sizeLine; decide), ?_⟩
  try dsimp only []
  generalize hne : 1 + som / 2 % 5 = ne
  rw [md_put_least]
  have G5 : ∀ b o, H4 b = some o → ¬(b = md) → upd H4 md (.dK (mdl many ne most dl al nl)) b = some o := fun b o e n => by rw [upd_ne n]; exact e
  have w5 : ∀ b, b = md → Off Z H4 b := fun b e => by subst e; exact Off.dK hm4
  have hK5 := hK4.off G5 w5 npm nkm
  have hdl5 := G5 _ _ hdl4 ndm
  have hus5 := days_off G5 w5 zu hus4
  have hA5 := rowsAt_off G5 w5 zah hA4
  have hp5 := G5 _ _ (S14 _ _ hp) npm
  have hk5 := G5 _ _ (S14 _ _ hk) nkm
  have F5 : Fr4 p kp md dl H (upd H4 md (.dK (mdl many ne most dl al nl))) := ((Fr4.refl _ _ _ _ _).same S14).put (.inr (.inr (.inr (.inl rfl))))
  have hm5 : upd H4 md (.dK (mdl many ne most dl al nl)) md = some (.dK (mdl many ne most dl al nl)) := upd_same
  generalize upd H4 md (.dK (mdl many ne most dl al nl)) = H5 at hK5 hdl5 hus5 hA5 hp5 hk5 F5 hm5 ⊢
  clear G5 w5
  have hZ5 : ∀ z, Z z → ∃ o, H5 z = some o := fun z hz => by
    obtain ⟨o, ho⟩ := hZ z hz
    exact Fr4.live (p := p) (q := kp) (r := md) (s := dl) F5 hp5 hk5 hm5 hdl5 ho
  try dsimp only [tNext]
  try (refine opn hTq ?_; clear hTq Tq)
  try refine tabs fun Tq hTq => ?_
  refine one_ifW (b := false) (W := fun H' => KpZ Z C H' p kp many ne most D B' (rowsF many D.flatten ne) ∧ Fr1 p H5 H') (fun Q h => ⟨_, rfl, p, dx, _, rfl, hp5, fl_no_need, _, rfl, md, _, rfl, md_get hm5 md_least, p, kp, many, least, most, ne, D, A', B', Z, rfl, hK5, hZ5, ok.days, by omega, by omega, fun e => absurd e (by omega), fun _ H6 hK6 F6 => ⟨rfl, _, rfl, h _ ⟨hK6, F6⟩⟩⟩) fun H6 ⟨hK6, F6⟩ => iteF ?_
  have w6 : ∀ b, b = p → Off Z H5 b := fun b e => by subst e; exact Off.ins hp5
  have G6 : ∀ b o, H5 b = some o → ¬(b = p) → H6 b = some o := fun b o e n => F6 _ _ e n
  exact ⟨_, _, _, rfl, ne, D, hK6, G6 _ _ hm5 npm.symm, ⟨us, G6 _ _ hdl5 npd.symm, days_off G6 w6 zu hus5, zu⟩, ok.next (by omega) (by omega) ok.len ok.days, rowsAt_off G6 w6 zah hA5, zah, Fr4.trans F5 (Fr2.fr4 F6.fr)⟩


end
end OL.Q30

namespace OL.Q30
open PySem L2 OL
section
variable {P : Program} {w : World} {K : PySem.W.Frag} {mg : Str → Option Value} {base : Heap} {f : Addr} {fd : FuncData} {k : Nat}
open OL.K30
noncomputable def Kept (W : Addr → Prop) (H H' : Hp) : Prop := TSame H H' ∧ ∀ b o, H b = some o → ¬W b → H' b = some o
theorem Kept.refl (W : Addr → Prop) (H : Hp) : Kept W H H := ⟨fun _ _ e => e, fun _ _ e _ => e⟩
theorem Kept.trans {W : Addr → Prop} {H H1 H2 : Hp} (F : Kept W H H1) (G : Kept W H1 H2) : Kept W H H2 := ⟨fun b xs e => G.1 b xs (F.1 b xs e), fun b o e n => G.2 b o (F.2 b o e n) n⟩
theorem Kept.of {W : Addr → Prop} {H H' : Hp} (S : Same H H') : Kept W H H' := ⟨S.t, fun b o e _ => S b o e⟩
theorem Kept.mono {W W' : Addr → Prop} {H H' : Hp} (w : ∀ b, W b → W' b) (F : Kept W H H') : Kept W' H H' := ⟨F.1, fun b o e n => F.2 b o e fun z => n (w b z)⟩
noncomputable def Ear (K : PySem.W.Frag) (W : Addr → Prop) (H : Hp) (v : V) (d : PyData) : Prop := ∀ H', Kept W H H' → DR K H' v d
noncomputable def EarS (K : PySem.W.Frag) (W : Addr → Prop) (H : Hp) (vs : List V) (ds : List PyData) : Prop := ∀ H', Kept W H H' → DRs K H' vs ds
section
variable {K : PySem.W.Frag} {W : Addr → Prop} {H H' : Hp}
theorem Ear.dr {v : V} {d : PyData} (h : Ear K W H v d) : DR K H v d := h H (Kept.refl W H)
theorem Ear.kept {v : V} {d : PyData} (F : Kept W H H') (h : Ear K W H v d) : Ear K W H' v d := fun H2 G => h H2 (F.trans G)
theorem Ear.lst {a : Addr} {xs : List V} {ds : List PyData} (h : H a = some (.lst xs)) (n : ¬W a) (e : EarS K W H xs ds) : Ear K W H (.ref a) (.list ds) := fun H2 G => .lst (SqL.of (G.2 _ _ h n)) (e H2 G)
theorem Ear.tup {a : Addr} {xs : List V} {ds : List PyData} (h : H a = some (.tup xs)) (e : EarS K W H xs ds) : Ear K W H (.ref a) (.tuple ds) := fun H2 G => .tup (SqT.of (G.1 _ _ h)) (e H2 G)
theorem EarS.nil : EarS K W H [] [] := fun _ _ => .nil
theorem EarS.cons {v : V} {d : PyData} {vs : List V} {ds : List PyData} (h : Ear K W H v d) (t : EarS K W H vs ds) : EarS K W H (v :: vs) (d :: ds) := fun H2 G => .cons (h H2 G) (t H2 G)
theorem EarS.rows {xs : List V} {rs : List (Int × Int)} (h : Rows H xs rs) : EarS K W H xs (rs.map dRow) := fun _ G => (h.same G.1).dr
theorem EarS.rowsT {xs : List V} {rs : List (List Int)} (h : RowsT H xs rs) : EarS K W H xs (rs.map dRowT) := fun _ G => (h.same G.1).dr
theorem EarS.days {us : List V} {D : List (List Int)} (h : Paired (LstI H) us D) (n : ∀ b, V.ref b ∈ us → ¬W b) : EarS K W H us (D.map fun d => .list (d.map PyData.int)) := by
  induction h with
  | nil => exact .nil
  | cons r t ih =>
    obtain ⟨l, e, q⟩ := r
    subst e
    exact .cons (fun H2 G => .lst (SqL.of (G.2 _ _ q (n l (.head _)))) (DRs.ints _)) (ih fun b hb => n b (.tail _ hb))
theorem EarS.of {vs : List V} {ds : List PyData} (h : Paired (Ear K W H) vs ds) : EarS K W H vs ds := by
  induction h with
  | nil => exact .nil
  | cons r t ih => exact .cons r ih
end
noncomputable def dE (D : List (List Int)) (A B : List (Int × Int)) : PyData := .tuple [.list (B.map dRow), dDays D, dCh A B]
theorem sho_rowsT {rs : List (List Int)} (h : ∀ r ∈ rs, ∃ a b c : Int, r = [a, b, c] ∧ (0 ≤ a ∧ a < 1000000000000) ∧ (0 ≤ b ∧ b < 1000000000000) ∧ (0 ≤ c ∧ c < 1000000000000)) : Sho (.list (rs.map dRowT)) (4 * rs.length) 2 := by
  refine Sho.list (ShoAll.map (n := 3) fun r hr => ?_)
  obtain ⟨a, b, c, rfl, ha, hb, hc⟩ := h r hr
  exact Sho.tuple ((ShoAll.cons (Sho.int (by omega)) (ShoAll.cons (Sho.int (by omega)) (ShoAll.cons (Sho.int (by omega)) ShoAll.nil))).mono (Nat.le_refl _) (Nat.le_refl _))
theorem sho_days {many : Int} {D : List (List Int)} (m8 : many ≤ 8) (h : DO3 many D) : Sho (dDays D) 287 2 := by
  have l7 := h.1
  have h2 : (2 : Int) ^ many.toNat ≤ 256 := by
    have := Nat.pow_le_pow_right (n := 2) (by decide) (show many.toNat ≤ 8 by omega)
    exact_mod_cast this
  refine (Sho.list (ShoAll.map (n := 40) (k := 1) fun d hd => ?_)).mono (by omega) (Nat.le_refl _)
  obtain ⟨h1, h3⟩ := h.2 d hd
  exact (Sho.ints fun x hx => by have := h3 x hx; exact ⟨this.1, by have := this.2; omega⟩).mono h1 (Nat.le_refl _)
theorem cnt_sm {A : List (Int × Int)} (h : ∀ r ∈ A, (0 ≤ r.1 ∧ r.1 < 1000000000000) ∧ 0 ≤ r.2 ∧ r.2 < 1000000000000) (k : Int) : 0 ≤ (cnt2 A k).getD 0 ∧ (cnt2 A k).getD 0 < 1000000000000 := by
  unfold cnt2
  cases e : A.find? fun r => r.1 == k with
  | none => exact ⟨by decide, by decide⟩
  | some r => exact (h r (List.mem_of_find?_eq_some e)).2
theorem sho_dE {many least most : Int} {D : List (List Int)} {A B : List (Int × Int)} (ok : StOk many least most D A B) : Sho (dE D A B) 99000 4 := by
  have m8 := ok.m8
  have lB : B.length ≤ 4096 := by rw [ok.now]; exact Nat.le_trans (rowsF_len _ _ _) (Nat.pow_le_pow_right (by decide) (show many.toNat ≤ 12 by omega))
  have lA := ok.few
  have sB : ∀ r ∈ B, (0 ≤ r.1 ∧ r.1 < 1000000000000) ∧ 0 ≤ r.2 ∧ r.2 < 1000000000000 := by rw [ok.now]; exact rowsF_sm (by omega) ok.days.flat.1
  have sA := ok.sm
  have l1 : (cameF A B).length ≤ 4096 := Nat.le_trans (List.length_filter_le _ _) lB
  have l2 : (cameF B A).length ≤ 4096 := Nat.le_trans (List.length_filter_le _ _) lA
  have l3 : (movF A B).length ≤ 4096 := by
    unfold movF
    rw [List.length_map]
    exact Nat.le_trans (List.length_filter_le _ _) lB
  have s3 : ∀ r ∈ movF A B, ∃ a b c : Int, r = [a, b, c] ∧ (0 ≤ a ∧ a < 1000000000000) ∧ (0 ≤ b ∧ b < 1000000000000) ∧ (0 ≤ c ∧ c < 1000000000000) := fun r hr => by
    obtain ⟨q, hq, rfl⟩ := List.mem_map.mp hr
    have z := sB q (List.mem_filter.mp hq).1
    exact ⟨_, _, _, rfl, z.1, cnt_sm sA _, z.2⟩
  have c1 := Sho.rows (rs := B) sB
  have c2 := sho_days m8 ok.days
  have c3 := Sho.rows (rs := cameF A B) fun r hr => sB r (List.mem_filter.mp hr).1
  have c4 := Sho.rows (rs := cameF B A) fun r hr => sA r (List.mem_filter.mp hr).1
  have c5 := sho_rowsT s3
  exact (Sho.tuple (ShoAll.cons c1 (ShoAll.cons c2 (ShoAll.cons (Sho.tuple (ShoAll.cons c3 (ShoAll.cons c4 (ShoAll.cons c5 ShoAll.nil)))) ShoAll.nil)))).mono (by omega) (by decide)
theorem sho_two {x y : PyData} (h : Sho x 99000 4) (h' : Sho y 99000 4) : Sho (.list [x, y]) 200000 5 := (Sho.list (ShoAll.cons h (ShoAll.cons h' ShoAll.nil))).mono (by decide) (by decide)
theorem small_m1 {b : Int} (h0 : 0 ≤ b) (h1 : b < 2 ^ 60) : Builtin.Range.small (-1) b 2 = true ∧ 0 ≤ Builtin.Range.rangeSize (-1) b 2 := by
  have e : Builtin.Range.rangeSize (-1) b 2 = if -1 < b then (b - -1 - 1) / 2 + 1 else 0 := by
    unfold Builtin.Range.rangeSize
    rw [if_pos (by decide)]
  unfold Builtin.Range.small
  rw [e]
  simp only [Builtin.Range.rangeFitsLong, Bool.and_eq_true, Bool.or_eq_true, decide_eq_true_eq, beq_iff_eq, show (2 : Int) > 0 by decide, if_true]
  split <;> omega
structure KA where
  p : Addr
  kp : Addr
  md : Addr
  dl : Addr
noncomputable def KA.cells (x : KA) (b : Addr) : Prop := b = x.p ∨ b = x.kp ∨ b = x.md ∨ b = x.dl
noncomputable def KOk (Z : Addr → Prop) (C : Addr) (H : Hp) (x : KA) : Prop := (∃ (many least most : Int) (D : List (List Int)) (A B : List (Int × Int)), KpZ Z C H x.p x.kp many least most D A B ∧ MdZ Z H x.md x.dl many least most D A B ∧ StOk many least most D A B) ∧ Z x.kp ∧ Z x.dl ∧ x.kp ≠ x.dl
section
variable {Z Z' : Addr → Prop} {C : Addr} {H H' : Hp} {x y : KA}
theorem mdz_sub {md dl : Addr} {many least most : Int} {D : List (List Int)} {A B : List (Int × Int)} (z : ∀ b, Z' b → (∃ o, H b = some o) → Z b) (h : MdZ Z H md dl many least most D A B) : MdZ Z' H md dl many least most D A B := by
  obtain ⟨⟨al, nl, a, b, c, n1, n2⟩, us, d, e, f⟩ := h
  obtain ⟨xs, hx, _⟩ := id b
  obtain ⟨ys, hy, _⟩ := id c
  exact ⟨⟨al, nl, a, b, c, fun q => n1 (z _ q ⟨_, hx⟩), fun q => n2 (z _ q ⟨_, hy⟩)⟩, us, d, e, fun l hl q => f l hl (z _ q (by obtain ⟨y, hy⟩ := lsts_mem e hl; exact ⟨_, hy⟩))⟩
theorem KOk.same (S : Same H H') (h : KOk Z C H x) : KOk Z C H' x := by
  obtain ⟨⟨many, least, most, D, A, B, a, b, c⟩, d⟩ := h
  exact ⟨⟨many, least, most, D, A, B, a.same S, b.same S, c⟩, d⟩
theorem KOk.sub (w : ∀ b, Z b → Z' b) (z : ∀ b, Z' b → (∃ o, H b = some o) → Z b) (h : KOk Z C H x) : KOk Z' C H x := by
  obtain ⟨⟨many, least, most, D, A, B, a, b, c⟩, d, e, f⟩ := h
  exact ⟨⟨many, least, most, D, A, B, a.sub z, mdz_sub z b, c⟩, w _ d, w _ e, f⟩
theorem KOk.offc (h : KOk Z C H x) {b : Addr} (c : x.cells b) : Off Z H b ∧ ∃ o, H b = some o := by
  obtain ⟨⟨many, least, most, D, A, B, hK, hM, _⟩, zk, zd, _⟩ := h
  obtain ⟨⟨dx, ah, nw, us, vs, hp, _⟩, uk, hk, _⟩ := hK
  obtain ⟨⟨al, nl, hm, _⟩, ud, hd, _⟩ := hM
  obtain rfl | rfl | rfl | rfl := c
  · exact ⟨Off.ins hp, _, hp⟩
  · exact ⟨Off.lst hk zk, _, hk⟩
  · exact ⟨Off.dK hm, _, hm⟩
  · exact ⟨Off.lst hd zd, _, hd⟩
theorem KOk.off {W : Addr → Prop} (F : ∀ b o, H b = some o → ¬W b → H' b = some o) (w : ∀ b, W b → Off Z H b) (n : ∀ b, x.cells b → ¬W b) (h : KOk Z C H x) : KOk Z C H' x := by
  obtain ⟨⟨many, least, most, D, A, B, a, b, c⟩, d⟩ := h
  exact ⟨⟨many, least, most, D, A, B, a.off F w (n _ (.inl rfl)) (n _ (.inr (.inl rfl))), b.off F w (n _ (.inr (.inr (.inl rfl)))) (n _ (.inr (.inr (.inr rfl)))), c⟩, d⟩
theorem KOk.kept (h : KOk Z C H x) (F : Fr4 x.p x.kp x.md x.dl H H') : Kept x.cells H H' := by
  have F' : ∀ b o, H b = some o → ¬x.cells b → H' b = some o := fun b o e n => F b o e (fun z => n (.inl z)) (fun z => n (.inr (.inl z))) (fun z => n (.inr (.inr (.inl z)))) (fun z => n (.inr (.inr (.inr z))))
  exact ⟨fun b xs e => F' b _ e fun z => (h.offc z).1.1 xs e, F'⟩
theorem KOk.deed (hx : KOk Z C H x) (hy : KOk Z C H y) (ap : ∀ b, y.cells b → ¬x.cells b) (F : Kept x.cells H H') : KOk Z C H' y := hy.off F.2 (fun _ c => (hx.offc c).1) ap
end
noncomputable def ZL (ks ms : Addr) (L : List KA) (b : Addr) : Prop := b = ks ∨ b = ms ∨ ∃ x ∈ L, b = x.kp ∨ b = x.dl
structure Bld (C : Addr) (H0 : Hp) (ks ms : Addr) (L : List KA) (H : Hp) : Prop where
  ko : H ks = some (.lst (L.map fun x => V.ref x.p))
  mo : H ms = some (.lst (L.map fun x => V.ref x.md))
  same : Same H0 H
  k0 : H0 ks = none
  m0 : H0 ms = none
  ne : ks ≠ ms
  ok : ∀ x ∈ L, KOk (ZL ks ms L) C H x
  new : ∀ x ∈ L, ∀ b, x.cells b → H0 b = none ∧ b ≠ ks ∧ b ≠ ms
  ap : L.Pairwise fun x y => ∀ b, y.cells b → ¬x.cells b
section
variable {C : Addr} {H0 H H1 H2 : Hp} {ks ms : Addr} {L : List KA}
theorem Bld.start (hk : H0 ks = none) (hm : upd H0 ks (.lst []) ms = none) : Bld C H0 ks ms [] (upd (upd H0 ks (.lst [])) ms (.lst [])) := by
  have n : ks ≠ ms := fun z => by rw [← z, upd_same] at hm; cases hm
  have m0 : H0 ms = none := by rwa [upd_ne n.symm] at hm
  exact ⟨putk n upd_same, upd_same, (same_new hk _).trans (same_new hm _), hk, m0, n, (fun x hx => nomatch hx), (fun x hx => nomatch hx), List.Pairwise.nil⟩
theorem Bld.go (S : Same H H1) (h : Bld C H0 ks ms L H) : Bld C H0 ks ms L H1 := ⟨S _ _ h.ko, S _ _ h.mo, h.same.trans S, h.k0, h.m0, h.ne, fun x hx => (h.ok x hx).same S, h.new, h.ap⟩
theorem Bld.live (h : Bld C H0 ks ms L H) {b : Addr} (z : ZL ks ms L b) : ∃ o, H b = some o := by
  obtain rfl | rfl | ⟨x, hx, c⟩ := z
  · exact ⟨_, h.ko⟩
  · exact ⟨_, h.mo⟩
  · obtain rfl | rfl := c
    · exact ((h.ok x hx).offc (.inr (.inl rfl))).2
    · exact ((h.ok x hx).offc (.inr (.inr (.inr rfl)))).2
theorem md_new {Z : Addr → Prop} {md dl al nl : Addr} {many least most : Int} (hm : H md = none) (hd : upd H md (.dK []) dl = none) (ha : upd (upd H md (.dK [])) dl (.lst []) al = none) (hn : upd (upd (upd H md (.dK [])) dl (.lst [])) al (.lst []) nl = none) (hZ : ∀ b, Z b → b = dl ∨ ∃ o, H b = some o) : MdZ Z (upd (upd (upd (upd (upd H md (.dK [])) dl (.lst [])) al (.lst [])) nl (.lst [])) md (.dK (mdl many least most dl al nl))) md dl many least most [] [] [] ∧ Same H (upd (upd (upd (upd (upd H md (.dK [])) dl (.lst [])) al (.lst [])) nl (.lst [])) md (.dK (mdl many least most dl al nl))) ∧ H dl = none ∧ dl ≠ md := by
  have S3 := (same_new hd (.lst [])).trans ((same_new ha (.lst [])).trans (same_new hn (.lst [])))
  have hmd := S3 _ _ (upd_same (H := H) (a := md) (o := .dK []))
  have ndm : dl ≠ md := fun z => by rw [z, upd_same] at hd; cases hd
  have nam : al ≠ md := fun z => by rw [z, (same_new hd _) _ _ upd_same] at ha; cases ha
  have nnm : nl ≠ md := fun z => by rw [z, (same_new ha _) _ _ ((same_new hd _) _ _ upd_same)] at hn; cases hn
  have S4 := same_put ((same_new hm (.dK [])).trans S3) hm (x := .dK (mdl many least most dl al nl))
  have hdl := (same_new hn (.lst [])) _ _ ((same_new ha (.lst [])) _ _ (upd_same (H := upd H md (.dK [])) (a := dl) (o := .lst [])))
  have hal := (same_new hn (.lst [])) _ _ (upd_same (H := upd (upd H md (.dK [])) dl (.lst [])) (a := al) (o := .lst []))
  have za : ¬Z al := fun z => by
    obtain e | ⟨o, e⟩ := hZ _ z
    · rw [e, upd_same] at ha; cases ha
    · rw [(same_new hd _) _ _ ((same_new hm _) _ _ e)] at ha; cases ha
  have zn : ¬Z nl := fun z => by
    obtain e | ⟨o, e⟩ := hZ _ z
    · rw [e, (same_new ha _) _ _ upd_same] at hn; cases hn
    · rw [(same_new ha _) _ _ ((same_new hd _) _ _ ((same_new hm _) _ _ e))] at hn; cases hn
  exact ⟨⟨⟨al, nl, upd_same, ⟨[], putk nam hal, .nil, List.Pairwise.nil, by decide⟩, ⟨[], putk nnm upd_same, .nil, List.Pairwise.nil, by decide⟩, za, zn⟩, [], putk ndm hdl, .nil, fun l hl => nomatch hl⟩, S4, (same_new hm _).free hd, ndm⟩
theorem Bld.step (h : Bld C H0 ks ms L H) {p dx kp md dl al nl : Addr} {many least most : Int} (hp : H p = none) (hdx : H dx = none) (ne : dx ≠ p)
    (hkp : upd (upd H dx (.own p)) p (.ins C dx []) kp = none) (hK : KpZ (fun z => z = kp ∨ ∃ o, upd (upd H dx (.own p)) p (.ins C dx []) z = some o) C H1 p kp many least most [] [] []) (F1 : Fr1 p (upd (upd H dx (.own p)) p (.ins C dx [])) H1)
    (hm : upd H1 ks (.lst (L.map (fun x => V.ref x.p) ++ [.ref p])) md = none) (hd : upd (upd H1 ks (.lst (L.map (fun x => V.ref x.p) ++ [.ref p]))) md (.dK []) dl = none) (ha : upd (upd (upd H1 ks (.lst (L.map (fun x => V.ref x.p) ++ [.ref p]))) md (.dK [])) dl (.lst []) al = none) (hn : upd (upd (upd (upd H1 ks (.lst (L.map (fun x => V.ref x.p) ++ [.ref p]))) md (.dK [])) dl (.lst [])) al (.lst []) nl = none)
    (he : H2 = upd (upd (upd (upd (upd (upd H1 ks (.lst (L.map (fun x => V.ref x.p) ++ [.ref p]))) md (.dK [])) dl (.lst [])) al (.lst [])) nl (.lst [])) md (.dK (mdl many least most dl al nl))) (ok : StOk many least most [] [] []) :
    H2 ms = some (.lst (L.map fun x => V.ref x.md)) ∧ Bld C H0 ks ms (L ++ [⟨p, kp, md, dl⟩]) (upd H2 ms (.lst (L.map (fun x => V.ref x.md) ++ [.ref md]))) := by
  have Sx : Same H (upd (upd H dx (.own p)) p (.ins C dx [])) := same_put (same_new hdx _) hp
  have S1 : Same H H1 := fun b o e => F1 b o (Sx _ _ e) (ne_of_none e hp)
  have hkH : H kp = none := Sx.free hkp
  obtain ⟨⟨dx', _, _, _, _, hp1, _⟩, uk, hk1, _⟩ := id hK
  have npk : p ≠ ks := (ne_of_none h.ko hp).symm
  have npm : p ≠ ms := (ne_of_none h.mo hp).symm
  have nkk : kp ≠ ks := (ne_of_none h.ko hkH).symm
  have nkm : kp ≠ ms := (ne_of_none h.mo hkH).symm
  have hp3 : upd H1 ks (.lst (L.map (fun x => V.ref x.p) ++ [.ref p])) p = _ := putk npk hp1
  have hk3 : upd H1 ks (.lst (L.map (fun x => V.ref x.p) ++ [.ref p])) kp = _ := putk nkk hk1
  have hm3 : upd H1 ks (.lst (L.map (fun x => V.ref x.p) ++ [.ref p])) ms = _ := putk h.ne.symm (S1 _ _ h.mo)
  have hk3' : upd H1 ks (.lst (L.map (fun x => V.ref x.p) ++ [.ref p])) ks = _ := upd_same
  have F3 : ∀ b o, H1 b = some o → ¬(b = ks) → upd H1 ks (.lst (L.map (fun x => V.ref x.p) ++ [.ref p])) b = some o := fun b o e n => by rw [upd_ne n]; exact e
  have fr3 : ∀ {b : Addr}, upd H1 ks (.lst (L.map (fun x => V.ref x.p) ++ [.ref p])) b = none → H1 b = none ∧ H b = none ∧ b ≠ ks := fun {b} e => by
    have n : b ≠ ks := fun z => by rw [z, upd_same] at e; cases e
    rw [upd_ne n] at e
    exact ⟨e, S1.free e, n⟩
  have S31 : Same H1 H1 := Same.refl _
  generalize upd H1 ks (.lst (L.map (fun x => V.ref x.p) ++ [.ref p])) = H3 at hm hd ha hn he hp3 hk3 hm3 hk3' F3 fr3
  have hdH3 : H3 dl = none := (same_new hm _).free hd
  obtain ⟨hm1, hmH, nmk⟩ := fr3 hm
  obtain ⟨hd1, hdH, ndk⟩ := fr3 hdH3
  have zz : ∀ b, ZL ks ms L b → ZL ks ms (L ++ [⟨p, kp, md, dl⟩]) b := fun b z => by
    obtain z | z | ⟨x, hx, c⟩ := z
    · exact .inl z
    · exact .inr (.inl z)
    · exact .inr (.inr ⟨x, List.mem_append_left _ hx, c⟩)
  have zi : ∀ b, ZL ks ms (L ++ [⟨p, kp, md, dl⟩]) b → ZL ks ms L b ∨ b = kp ∨ b = dl := fun b z => by
    obtain z | z | ⟨x, hx, c⟩ := z
    · exact .inl (.inl z)
    · exact .inl (.inr (.inl z))
    · obtain hx | hx := List.mem_append.mp hx
      · exact .inl (.inr (.inr ⟨x, hx, c⟩))
      · rw [List.mem_singleton.mp hx] at c
        exact .inr c
  have live3 : ∀ b, ZL ks ms L b → ∃ o, H3 b = some o := fun b z => by
    by_cases e : b = ks
    · exact ⟨_, e ▸ hk3'⟩
    · obtain ⟨o, ho⟩ := h.live z
      exact ⟨o, F3 _ _ (S1 _ _ ho) e⟩
  obtain ⟨hM, S34, _, ndm⟩ := md_new (Z := ZL ks ms (L ++ [⟨p, kp, md, dl⟩])) (many := many) (least := least) (most := most) hm hd ha hn fun b z => by
    obtain z | z | z := zi b z
    · exact .inr (live3 b z)
    · exact .inr ⟨_, z ▸ hk3⟩
    · exact .inl z
  rw [← he] at hM S34
  have nmm : md ≠ ms := (ne_of_none hm3 hm).symm
  have ndms : dl ≠ ms := (ne_of_none hm3 hdH3).symm
  have hms := S34 _ _ hm3
  have F4 : ∀ b o, H2 b = some o → ¬(b = ms) → upd H2 ms (.lst (L.map (fun x => V.ref x.md) ++ [.ref md])) b = some o := fun b o e n => by rw [upd_ne n]; exact e
  have cl : ∀ b, (KA.mk p kp md dl).cells b → H b = none ∧ b ≠ ks ∧ b ≠ ms := fun b c => by
    rcases c with e | e | e | e <;> subst e
    · exact ⟨hp, npk, npm⟩
    · exact ⟨hkH, nkk, nkm⟩
    · exact ⟨hmH, nmk, nmm⟩
    · exact ⟨hdH, ndk, ndms⟩
  have zks : ZL ks ms (L ++ [⟨p, kp, md, dl⟩]) ks := .inl rfl
  have zms : ZL ks ms (L ++ [⟨p, kp, md, dl⟩]) ms := .inr (.inl rfl)
  have w3 : ∀ b, b = ks → Off (ZL ks ms (L ++ [⟨p, kp, md, dl⟩])) H1 b := fun b e => by subst e; exact Off.lst (S1 _ _ h.ko) zks
  have w4 : ∀ b, b = ms → Off (ZL ks ms (L ++ [⟨p, kp, md, dl⟩])) H2 b := fun b e => by subst e; exact Off.lst hms zms
  have zn1 : ZL ks ms (L ++ [⟨p, kp, md, dl⟩]) kp := .inr (.inr ⟨_, List.mem_append_right _ (.head _), .inl rfl⟩)
  have zn2 : ZL ks ms (L ++ [⟨p, kp, md, dl⟩]) dl := .inr (.inr ⟨_, List.mem_append_right _ (.head _), .inr rfl⟩)
  refine ⟨hms, ?_, ?_, ?_, h.k0, h.m0, h.ne, ?_, ?_, ?_⟩
  · rw [List.map_append]
    exact F4 _ _ (S34 _ _ hk3') h.ne
  · rw [List.map_append]
    exact upd_same
  · intro b o e
    have n1 : b ≠ ks := ne_of_none e h.k0
    have n2 : b ≠ ms := ne_of_none e h.m0
    exact F4 _ _ (S34 _ _ (F3 _ _ (S1 _ _ (h.same _ _ e)) n1)) n2
  · intro x hx
    obtain hx | hx := List.mem_append.mp hx
    · have c1 : ∀ b, x.cells b → ¬(b = ks) := fun b c => (h.new x hx b c).2.1
      have c2 : ∀ b, x.cells b → ¬(b = ms) := fun b c => (h.new x hx b c).2.2
      refine ((((((h.ok x hx).sub zz fun b z ho => ?_).same S1).off F3 w3 c1).same S34).off F4 w4 c2)
      obtain z | z | z := zi b z
      · exact z
      · obtain ⟨o, ho⟩ := ho
        rw [z, hkH] at ho; cases ho
      · obtain ⟨o, ho⟩ := ho
        rw [z, hdH] at ho; cases ho
    · rw [List.mem_singleton.mp hx]
      refine ⟨⟨many, least, most, [], [], [], ?_, hM.off F4 w4 nmm ndms, ok⟩, zn1, zn2, fun e => ?_⟩
      · have hK1 : KpZ (ZL ks ms (L ++ [⟨p, kp, md, dl⟩])) C H1 p kp many least most [] [] [] := hK.sub fun b z ho => by
          obtain z | z | z := zi b z
          · obtain ⟨o, e⟩ := h.live z
            exact .inr ⟨o, Sx _ _ e⟩
          · exact .inl z
          · obtain ⟨o, ho⟩ := ho
            rw [z, hd1] at ho; cases ho
        exact ((hK1.off F3 w3 npk nkk).same S34).off F4 w4 npm nkm
      · have e : kp = dl := e
        rw [e, hdH3] at hk3; cases hk3
  · intro x hx b c
    obtain hx | hx := List.mem_append.mp hx
    · exact h.new x hx b c
    · rw [List.mem_singleton.mp hx] at c
      obtain ⟨e1, e2, e3⟩ := cl b c
      exact ⟨h.same.free e1, e2, e3⟩
  · rw [List.pairwise_append]
    refine ⟨h.ap, List.pairwise_singleton _ _, fun x hx y hy b c c' => ?_⟩
    rw [List.mem_singleton.mp hy] at c
    obtain ⟨o, e⟩ := ((h.ok x hx).offc c').2
    rw [(cl b c).1] at e; cases e
end
theorem seq_kept {K : PySem.W.Frag} {W : Addr → Prop} {H H' : Hp} {a : Addr} {xs : List V} (hS : SqL K H a xs) (n : ∀ o, H a = some o → ¬W a) (F : Kept W H H') : SqL K H' a xs := by
  obtain (h | ⟨o, h⟩) | h := hS
  · exact .inl (.inl (F.2 _ _ h (n _ h)))
  · exact .inl (.inr ⟨o, F.2 _ _ h (n _ h)⟩)
  · exact .inr h
theorem five_at {j : Int} (h0 : 0 ≤ j) (h5 : j < 5) : ∃ m : Int, atI [V.int 1, V.int 2, V.int 3, V.int 4, V.int 6] j = some (.int m) ∧ 1 ≤ m ∧ m ≤ 6 := by
  obtain rfl | rfl | rfl | rfl | rfl := (by omega : j = 0 ∨ j = 1 ∨ j = 2 ∨ j = 3 ∨ j = 4)
  · exact ⟨1, rfl, by decide, by decide⟩
  · exact ⟨2, rfl, by decide, by decide⟩
  · exact ⟨3, rfl, by decide, by decide⟩
  · exact ⟨4, rfl, by decide, by decide⟩
  · exact ⟨6, rfl, by decide, by decide⟩
theorem st_new {many least most : Int} (m1 : 1 ≤ many) (m8 : many ≤ 8) (l1 : 1 ≤ least) (l5 : least ≤ 5) (s1 : 1 ≤ most) (s6 : most ≤ 6) : StOk many least most [] [] [] := ⟨m1, m8, l1, l5, s1, s6, (by show ((0 : Nat) : Int) ≤ most; omega), ⟨by decide, fun d hd => nomatch hd⟩, (rows_nil l1).symm, List.Pairwise.nil, (by decide), fun r hr => nomatch hr⟩
theorem md_merge {many least most : Int} {dl al nl : Addr} : mergeK [] [(.inr "many", .int many), (.inr "least", .int least), (.inr "most", .int most), (.inr "days", .ref dl), (.inr "ahead", .ref al), (.inr "now", .ref nl)] = mdl many least most dl al nl := rfl
theorem kept_put {W : Addr → Prop} {H : Hp} {a : Addr} {xs : List V} {o : HO} (h : H a = some (.lst xs)) (w : W a) : Kept W H (upd H a o) := ⟨fun b ys e => by rw [upd_ne fun z => by rw [z, h] at e; cases e]; exact e, fun b y e n => by rw [upd_ne fun z => n (by rw [z]; exact w)]; exact e⟩
theorem now_up {many least most : Int} {D : List (List Int)} {A B : List (Int × Int)} (ok : StOk many least most D A B) : (B.map Prod.fst).Pairwise (· < ·) ∧ B.length ≤ 4096 := by
  rw [ok.now]
  exact ⟨rowsF_rise31 _ _ _, Nat.le_trans (rowsF_len _ _ _) (Nat.pow_le_pow_right (by decide) (show many.toNat ≤ 12 by have := ok.m8; omega))⟩
theorem ear_told {K : PySem.W.Frag} {W : Addr → Prop} {H0 H : Hp} {t dd ch c w m : Addr} {ws wd xs ys zs : List V} {D : List (List Int)} {A B : List (Int × Int)} (wl : ∀ b, W b → ∃ o, H0 b = some o) (t0 : H0 t = none) (ht : H t = some (.lst ws)) (hR : Rows H ws B) (d0 : H0 dd = none) (hd : H dd = some (.lst wd)) (hP : Paired (LstI H) wd D) (hfr : ∀ b, V.ref b ∈ wd → H0 b = none)
    (c0 : H0 c = none) (w0 : H0 w = none) (m0 : H0 m = none) (hch : H ch = some (.tup [.ref c, .ref w, .ref m])) (hc : H c = some (.lst xs)) (hcR : Rows H xs (cameF A B)) (hw : H w = some (.lst ys)) (hwR : Rows H ys (cameF B A)) (hm : H m = some (.lst zs)) (hmR : RowsT H zs (movF A B)) : EarS K W H [.ref t, .ref dd, .ref ch] [.list (B.map dRow), dDays D, dCh A B] := by
  have nw : ∀ {b}, H0 b = none → ¬W b := fun {b} e z => by
    obtain ⟨o, h⟩ := wl b z
    rw [e] at h; cases h
  exact .cons (.lst ht (nw t0) (.rows hR)) (.cons (.lst hd (nw d0) (.days hP fun b hb => nw (hfr b hb))) (.cons (.tup hch (.cons (.lst hc (nw c0) (.rows hcR)) (.cons (.lst hw (nw w0) (.rows hwR)) (.cons (.lst hm (nw m0) (.rowsT hmR)) .nil)))) .nil))
noncomputable def Tells (Z : Addr → Prop) (C : Addr) (H : Hp) (u : KA) (d : PyData) : Prop := ∃ (many least most : Int) (D : List (List Int)) (A B : List (Int × Int)), KpZ Z C H u.p u.kp many least most D A B ∧ StOk many least most D A B ∧ d = dE D A B
theorem KOk.tells {Z : Addr → Prop} {C : Addr} {H : Hp} {u : KA} (h : KOk Z C H u) : ∃ d, Tells Z C H u d := by
  obtain ⟨⟨many, least, most, D, A, B, a, _, c⟩, _⟩ := h
  exact ⟨_, many, least, most, D, A, B, a, c, rfl⟩
theorem Tells.sho {Z : Addr → Prop} {C : Addr} {H : Hp} {u : KA} {d : PyData} (h : Tells Z C H u d) : Sho d 99000 4 := by
  obtain ⟨many, least, most, D, A, B, _, ok, rfl⟩ := h
  exact sho_dE ok
theorem zl_live {C : Addr} {Z : Addr → Prop} {ks ms : Addr} {x y : KA} {H : Hp} {a b : HO} (hZ : ZL ks ms [x, y] = Z) (hk : H ks = some a) (hm : H ms = some b) (hX : KOk Z C H x) (hY : KOk Z C H y) : ∀ z, Z z → ∃ o, H z = some o := fun z h => by
  rw [← hZ] at h
  obtain rfl | rfl | ⟨u, hu, c⟩ := h
  · exact ⟨_, hk⟩
  · exact ⟨_, hm⟩
  · have hU : KOk Z C H u := by
      obtain e | hu := List.mem_cons.mp hu
      · rw [e]; exact hX
      · rw [List.mem_singleton.mp hu]; exact hY
    obtain rfl | rfl := c
    · exact (hU.offc (.inr (.inl rfl))).2
    · exact (hU.offc (.inr (.inr (.inr rfl)))).2
noncomputable def Turn (x y : KA) (at' : Int) (u v : KA) : Prop := (at' = 0 ∧ u = x ∧ v = y) ∨ (at' = 1 ∧ u = y ∧ v = x)
theorem Turn.at {x y u v : KA} {i : Int} (h : Turn x y i u v) : atI [V.ref x.p, .ref y.p] i = some (.ref u.p) ∧ atI [V.ref x.md, .ref y.md] i = some (.ref u.md) ∧ atI [V.ref x.p, .ref y.p] (1 - i) = some (.ref v.p) ∧ atI [V.ref x.md, .ref y.md] (1 - i) = some (.ref v.md) := by
  obtain ⟨rfl, rfl, rfl⟩ | ⟨rfl, rfl, rfl⟩ := h
  · exact ⟨rfl, rfl, rfl, rfl⟩
  · exact ⟨rfl, rfl, rfl, rfl⟩
theorem Turn.any {x y : KA} {i : Int} (h0 : 0 ≤ i) (h2 : i < 2) : ∃ u v, Turn x y i u v := by
  obtain rfl | rfl := (by omega : i = 0 ∨ i = 1)
  · exact ⟨x, y, .inl ⟨rfl, rfl, rfl⟩⟩
  · exact ⟨y, x, .inr ⟨rfl, rfl, rfl⟩⟩
theorem Turn.both {x y u v : KA} {i : Int} {P : KA → Prop} (h : Turn x y i u v) (hx : P x) (hy : P y) : P u ∧ P v := by
  obtain ⟨_, rfl, rfl⟩ | ⟨_, rfl, rfl⟩ := h
  · exact ⟨hx, hy⟩
  · exact ⟨hy, hx⟩
theorem Turn.back {x y u v : KA} {i : Int} {P : KA → Prop} (h : Turn x y i u v) (hu : P u) (hv : P v) : P x ∧ P y := by
  obtain ⟨_, rfl, rfl⟩ | ⟨_, rfl, rfl⟩ := h
  · exact ⟨hu, hv⟩
  · exact ⟨hv, hu⟩
theorem Turn.ap {x y u v : KA} {i : Int} (h : Turn x y i u v) (ap : ∀ b, y.cells b → ¬x.cells b) : ∀ b, v.cells b → ¬u.cells b := by
  obtain ⟨_, rfl, rfl⟩ | ⟨_, rfl, rfl⟩ := h
  · exact ap
  · exact fun b h g => ap b g h
theorem Turn.cell {x y u v : KA} {i : Int} (h : Turn x y i u v) : ∀ b, u.cells b → x.cells b ∨ y.cells b := by
  obtain ⟨_, rfl, rfl⟩ | ⟨_, rfl, rfl⟩ := h
  · exact fun b h => .inl h
  · exact fun b h => .inr h

end
end OL.Q30

namespace OL.Q30
open PySem L2 OL
section
variable {P : Program} {w : World} {K : PySem.W.Frag} {mg : Str → Option Value} {base : Heap} {f : Addr} {fd : FuncData} {k : Nat}
open OL.K30
noncomputable abbrev n_law : List Str := ["_law_script", "_law_first", "_law_keepers", "_law_models", "_law_k", "_law_digits", "_law_many", "_law_least", "_law_most", "_law_at", "_law_early", "_law_text", "_law_cell", "_law_other"]
theorem sc_law : FnScope n_law ["_law_script"] (defScope s_law) := ⟨rfl, rfl, rfl, by decide +kernel, rfl, by decide +kernel, by decide +kernel⟩
theorem nd_law_0 : (["_law_keeper"] : List Str).Nodup := by decide +kernel
set_option maxHeartbeats 4000000 in
theorem ok_law (F : Fun K "law" "law" s_law f fd) (M_range : mg "range" = none) (M_len : mg "len" = none) (M_min : mg "min" = none) (M_max : mg "max" = none) (M_str : mg "str" = none) {C : Addr} (kC : Kls K mg C) {cc : CC} (kX : Xs K mg cc) (G_L_cell_at : Dfn P w K mg base k "_law_cell_at" ["_law_script", "_law_k"] (spCell K)) (G_L_draws : Dfn P w K mg base k "_law_draws" ["_law_cell", "_law_many", "_law_base"] spDraws) (G_Keeper___init__ : Ifn P w K mg base k C ["self", "many", "least", "most"] (K30.sp3Init C)) (G_Keeper_closed : Mfn P w K mg base k C "closed" ["self"] (K30.sp3Closed C)) (G_Keeper_days : Mfn P w K mg base k C "days" ["self"] (K30.sp3Days C)) (G_Keeper_changes : Mfn P w K mg base k C "changes" ["self"] (K30.sp3Changes K C)) (G_L_deed : Dfn P w K mg base k "_law_deed" ["_law_keeper", "_law_model", "_law_cell", "_law_more"] (K30.spDeed C)) (G_L_is : Dfn P w K mg base k "_law_is" ["_law_keeper", "_law_model", "_law_cell"] (K30.spIs30 C)) (G_L_changes : Dfn P w K mg base k "_law_changes" ["_law_ahead", "_law_behind"] (sp2Chg K)) : FnOk P w K mg base CX0 (k + 1) f fd ["_law_script"] (spLaw K) := by
  refine F.ok sc_law (fun vs H Q E h => ?_) (fun cdv A outer s H vs Q E hr h => ?_)
  · obtain ⟨a, ns, rfl, hS, hlen, q⟩ := h; rfl
  obtain ⟨a, ns, rfl, hS, hlen, q⟩ := h
  have nd := sc_law.nd
  have le := Nat.le_refl k
  refine ⟨_, pss_cons (ps_set (i := 1) nd rfl (Or.inl rfl) (pe_def G_L_cell_at hr le rfl (pa_cons (pv 0) (pa_cons pe_int pa_nil))))
    (pss_cons (ps_set (i := 2) nd rfl (Or.inl rfl) (pe_lst pa_nil))
    (pss_cons (ps_set (i := 3) nd rfl (Or.inl rfl) (pe_lst pa_nil))
    (pss_cons (ps_for PassesOwn.never rfl (pi_range1 rfl M_range (pa_cons pe_int pa_nil)) (pg_name (i := 4) nd rfl (Or.inl rfl))
      (pss_cons (ps_set (i := 5) nd rfl (Or.inl rfl) (pe_def G_L_draws hr le rfl (pa_cons (pe_op op_add (pv 1) (pv 4)) (pa_cons pe_int (pa_cons pe_int pa_nil)))))
      (pss_cons (ps_set (i := 6) nd rfl (Or.inl rfl) (pe_op op_add pe_int (pe_op op_mod (pe_ix ix_list (pv 5) pe_int (fun _ _ => rfl)) pe_int)))
      (pss_cons (ps_set (i := 7) nd rfl (Or.inl rfl) (pe_op op_add pe_int (pe_op op_mod (pe_ix ix_list (pv 5) pe_int (fun _ _ => rfl)) pe_int)))
      (pss_cons (ps_set (i := 8) nd rfl (Or.inl rfl) (pe_ix ix_list (pe_lst (pa_cons pe_int (pa_cons pe_int (pa_cons pe_int (pa_cons pe_int (pa_cons pe_int pa_nil)))))) (pe_op op_mod (pe_ix ix_list (pv 5) pe_int (fun _ _ => rfl)) pe_int) (fun _ _ => rfl)))
      (pss_cons (ps_expr (pe_bm PySem.F.plainAttrs_list PySem.F.slot_list_append PySem.F.type_list_append mt_append (pv 2) (pa_cons (pe_mk kC.mgC G_Keeper___init__ hr le rfl (pa_cons (pv 6) (pa_cons (pv 7) (pa_cons (pv 8) pa_nil)))) pa_nil)))
      (pss_one (ps_expr (pe_bm PySem.F.plainAttrs_list PySem.F.slot_list_append PySem.F.type_list_append mt_append (pv 3) (pa_cons (pe_disp (pps_cons pe_str (pv 6) (pps_cons pe_str (pv 7) (pps_cons pe_str (pv 8) (pps_cons pe_str (pe_lst pa_nil) (pps_cons pe_str (pe_lst pa_nil) (pps_cons pe_str (pe_lst pa_nil) pps_nil)))))) rfl rfl (by simp) (by decide)) pa_nil))))))))))
    (pss_cons (ps_for PassesOwn.never rfl (pi_range3 rfl M_range (pa_cons (pe_un un_neg pe_int) (pa_cons (pe_callB (call_max2 rfl) (by rfl) M_max PyProof.Rows.boot_max (pa_cons pe_int (pa_cons (pe_callB (call_min2 rfl) (by rfl) M_min PyProof.Rows.boot_min (pa_cons pe_int (pa_cons (pe_op op_sub (pe_callB call_len_seq (by rfl) M_len PySem.boot_len (pa_cons (pv 0) pa_nil)) pe_int) pa_nil))) pa_nil))) (pa_cons pe_int pa_nil)))) (pg_name (i := 4) nd rfl (Or.inl rfl))
      (pss_cons (ps_set (i := 9) nd rfl (Or.inl rfl) pe_int)
      (pss_cons (ps_setCompC (i := 10) nd rfl rfl ["_law_keeper"] [] (sc := defScope s_law) (N := n_law) (.inl rfl) rfl ⟨rfl, by decide +kernel, by decide +kernel, by decide +kernel, by decide +kernel⟩ rfl (pi_list (pv 2)) (fun cl s H C fp => (pg_name (i := 0) nd_law_0 rfl (Or.inl rfl))) (fun cl s H C fp => pifs_nil) (fun cl s H C fp => (pe_tup (pa_cons (pe_mdef0 kC.cl (pv 0) G_Keeper_closed hr le) (pa_cons (pe_mdef0 kC.cl (pv 0) G_Keeper_days hr le) (pa_cons (pe_mdef0 kC.cl (pv 0) G_Keeper_changes hr le) pa_nil))))) rfl)
      (pss_cons (ps_set (i := 11) nd rfl (Or.inl rfl) (pe_callTy (call_strD hr) (by rfl) M_str PyProof.Rows.boot_str (pa_cons (pv 10) pa_nil)))
      (pss_mid (ps_if (pt_cmpR op_gt (pv 4) pe_int (nomark _)) (pss_cons (ps_set (i := 12) nd rfl (Or.inl rfl) (pe_def G_L_cell_at hr le rfl (pa_cons (pv 0) (pa_cons (pv 4) pa_nil))))
        (pss_cons (ps_set (i := 9) nd rfl (Or.inl rfl) (pe_op op_mod (pe_op op_fdiv (pv 12) pe_int) pe_int))
        (pss_one (ps_if (pt_not (pt_val (pe_def G_L_deed hr le rfl (pa_cons (pe_ix ix_list (pv 2) (pv 9) (fun _ _ => rfl)) (pa_cons (pe_ix ix_list (pv 3) (pv 9) (fun _ _ => rfl)) (pa_cons (pv 12) (pa_cons (pe_def G_L_cell_at hr le rfl (pa_cons (pv 0) (pa_cons (pe_op op_add (pv 4) pe_int) pa_nil))) pa_nil))))))) (pss_one (ps_ret pe_bl)) pss_nil)))) pss_nil)
      (pss_cons (ps_if (pt_not (pt_val (pe_def G_L_is hr le rfl (pa_cons (pe_ix ix_list (pv 2) (pv 9) (fun _ _ => rfl)) (pa_cons (pe_ix ix_list (pv 3) (pv 9) (fun _ _ => rfl)) (pa_cons (pe_def G_L_cell_at hr le rfl (pa_cons (pv 0) (pa_cons (pe_op op_add (pv 4) pe_int) pa_nil))) pa_nil)))))) (pss_one (ps_ret pe_bl)) pss_nil)
      (pss_cons (ps_set (i := 13) nd rfl (Or.inl rfl) (pe_ix ix_list (pv 3) (pe_op op_sub pe_int (pv 9)) (fun _ _ => rfl)))
      (pss_cons (ps_if (PW.pt (pw_or (pt_cmpR (op_neD hr) (pe_mdef0 kC.cl (pe_ix ix_list (pv 2) (pe_op op_sub pe_int (pv 9)) (fun _ _ => rfl)) G_Keeper_closed hr le) (pe_dget (hu_of hr) (pv 13) pe_str (fun _ _ => rfl)) (nomark _)) (pw_or1 (pt_cmpR (op_neD hr) (pe_mdef0 kC.cl (pe_ix ix_list (pv 2) (pe_op op_sub pe_int (pv 9)) (fun _ _ => rfl)) G_Keeper_days hr le) (pe_dget (hu_of hr) (pv 13) pe_str (fun _ _ => rfl)) (nomark _))))) (pss_one (ps_ret pe_bl)) pss_nil)
      (pss_one (ps_if (PW.pt (pw_or (pt_cmpR (op_neD hr) (pe_mdef0 kC.cl (pe_ix ix_list (pv 2) (pe_op op_sub pe_int (pv 9)) (fun _ _ => rfl)) G_Keeper_changes hr le) (pe_def G_L_changes hr le rfl (pa_cons (pe_dget (hu_of hr) (pv 13) pe_str (fun _ _ => rfl)) (pa_cons (pe_dget (hu_of hr) (pv 13) pe_str (fun _ _ => rfl)) pa_nil))) (nomark _)) (pw_or1 (pt_cmpR op_ne (pe_callTy (call_strD hr) (by rfl) M_str PyProof.Rows.boot_str (pa_cons (pv 10) pa_nil)) (pv 11) (nomark _))))) (pss_one (ps_ret pe_bl)) pss_nil))))))))))
    (pss_one (ps_ret pe_bl)))))), ?_⟩
  try refine tabs fun Tq hTq => ?_
  try first | refine asgk fun kq hkq => ?_ | refine drpk fun kq hkq => ?_
  refine ⟨_, rfl, a, ns, _, rfl, hS, by decide, ?_⟩
  generalize cellF ns 0 = first
  try (refine opk hkq ?_; clear hkq kq)
  try dsimp only [gName]
  try (refine opn hTq ?_; clear hTq Tq)
  try refine tabs fun Tq hTq => ?_
  try first | refine asgk fun kq hkq => ?_ | refine drpk fun kq hkq => ?_
  refine ⟨nil_len, fun ks hk => ?_⟩
  try (refine opk hkq ?_; clear hkq kq)
  try dsimp only [gName]
  try (refine opn hTq ?_; clear hTq Tq)
  try refine tabs fun Tq hTq => ?_
  try first | refine asgk fun kq hkq => ?_ | refine drpk fun kq hkq => ?_
  refine ⟨nil_len, fun ms hm => ?_⟩
  have hB0 : Bld C H ks ms [] _ := Bld.start hk hm
  generalize upd (upd H ks (.lst [])) ms (.lst []) = H1 at hB0 ⊢
  clear hm
  try (refine opk hkq ?_; clear hkq kq)
  try dsimp only [gName]
  try (refine opn hTq ?_; clear hTq Tq)
  try refine tabs fun Tq hTq => ?_
  try first | refine asgk fun kq hkq => ?_ | refine drpk fun kq hkq => ?_
  refine ⟨2, rfl, by decide, by decide, for_range (fun i σ H' => Ex11 fun (L : List KA) (z4 z5 z6 z7 z8 z9 z10 z11 z12 z13 : Option V) => σ = [some (.ref a), some (.int first), some (.ref ks), some (.ref ms), z4, z5, z6, z7, z8, z9, z10, z11, z12, z13] ∧ L.length = i ∧ Bld C H ks ms L H') ⟨[], _, _, _, _, _, _, _, _, _, _, rfl, rfl, hB0⟩ ?_ ?_⟩
  · intro i σ H2 hi hz_
    first | (refine Ex11.st σ hz_ fun L z4 z5 z6 z7 z8 z9 z10 z11 z12 z13 hz_ => ?_; have hL := hz_.1; have hB := hz_.2; clear hz_) | obtain ⟨L, z4, z5, z6, z7, z8, z9, z10, z11, z12, z13, rfl, hL, hB⟩ := hz_
    try (refine opk hkq ?_; clear hkq kq)
    try dsimp only [gName]
    try (refine opn hTq ?_; clear hTq Tq)
    try refine tabs fun Tq hTq => ?_
    try first | refine asgk fun kq hkq => ?_ | refine drpk fun kq hkq => ?_
    refine ⟨_, rfl, _, rfl, _, _, rfl, rfl, _, _, _, rfl, by decide, by decide, by decide, by decide, fun r H3 ds S3 hr0 hr hl hd => ?_⟩
    obtain ⟨d0, d1, d2, rfl⟩ := lst3 (l := ds) (by exact_mod_cast hl)
    have hB3 := hB.go S3
    clear hB hd hl
    have a0 := Int.emod_nonneg d0 (show (8 : Int) ≠ 0 by decide)
    have a1 := Int.emod_lt_of_pos d0 (show (0 : Int) < 8 by decide)
    have b0 := Int.emod_nonneg d1 (show (3 : Int) ≠ 0 by decide)
    have b1 := Int.emod_lt_of_pos d1 (show (0 : Int) < 3 by decide)
    obtain ⟨mo, hat, mo1, mo6⟩ := five_at (Int.emod_nonneg d2 (show (5 : Int) ≠ 0 by decide)) (Int.emod_lt_of_pos d2 (show (0 : Int) < 5 by decide))
    try (refine opk hkq ?_; clear hkq kq)
    try dsimp only [gName]
    try (refine opn hTq ?_; clear hTq Tq)
    try refine tabs fun Tq hTq => ?_
    try first | refine asgk fun kq hkq => ?_ | refine drpk fun kq hkq => ?_
    refine ⟨_, rfl, r, _, _, _, rfl, rfl, SqL.of hr, rfl, _, _, rfl, rfl, (by show (0 : Int) < 8; decide), _, _, rfl, rfl, ?_⟩
    try (refine opk hkq ?_; clear hkq kq)
    try dsimp only [gName]
    try (refine opn hTq ?_; clear hTq Tq)
    try refine tabs fun Tq hTq => ?_
    try first | refine asgk fun kq hkq => ?_ | refine drpk fun kq hkq => ?_
    refine ⟨_, rfl, r, _, _, _, rfl, rfl, SqL.of hr, rfl, _, _, rfl, rfl, (by show (0 : Int) < 3; decide), _, _, rfl, rfl, ?_⟩
    try (refine opk hkq ?_; clear hkq kq)
    try dsimp only [gName]
    try (refine opn hTq ?_; clear hTq Tq)
    try refine tabs fun Tq hTq => ?_
    try first | refine asgk fun kq hkq => ?_ | refine drpk fun kq hkq => ?_
    refine ⟨(by show 5 ≤ sizeLine; decide), fun u hu => ⟨_, rfl, r, _, _, _, rfl, rfl, SqL.of ((same_new hu _) _ _ hr), rfl, _, _, rfl, rfl, (by show (0 : Int) < 5; decide), u, _, _, _, rfl, rfl, SqL.of upd_same, hat, ?_⟩⟩
    have hB4 := hB3.go (same_new hu (.lst [.int 1, .int 2, .int 3, .int 4, .int 6]))
    clear hB3 hat
    generalize upd H3 u (.lst [.int 1, .int 2, .int 3, .int 4, .int 6]) = H4 at hB4 ⊢
    have ok := st_new (many := 1 + d0 % 8) (least := 1 + d1 % 3) (most := mo) (by omega) (by omega) (by omega) (by omega) mo1 mo6
    first | generalize 1 + d0 % 8 = many at ok hkq ⊢ | generalize 1 + d0 % 8 = many at ok ⊢
    first | generalize 1 + d1 % 3 = least at ok hkq ⊢ | generalize 1 + d1 % 3 = least at ok ⊢
    try (refine opk hkq ?_; clear hkq kq)
    try dsimp only [gName]
    try (refine opn hTq ?_; clear hTq Tq)
    try refine tabs fun Tq hTq => ?_
    try first | refine asgk fun kq hkq => ?_ | refine drpk fun kq hkq => ?_
    refine ⟨_, rfl, tyL hB4.ko, _, rfl, _, rfl, _, rfl, fun p dx hp hdx ne => ⟨p, dx, many, least, mo, rfl, upd_same, fun kp H5 hkp hK5 F5 => ⟨rfl, ks, L.map (fun x => V.ref x.p), _, rfl, rfl, ?_, (by rw [List.length_map]; exact small1000 (by omega)), ?_⟩⟩⟩
    · exact F5 _ _ ((same_put (same_new hdx _) hp) _ _ hB4.ko) (ne_of_none hB4.ko hp)
    have n1 : ∀ {b o}, b ≠ ks → H5 b = some o → upd H5 ks (.lst (L.map (fun x => V.ref x.p) ++ [.ref p])) b = some o := fun n e => by rw [upd_ne n]; exact e
    have hms5 := n1 hB4.ne.symm (F5 _ _ ((same_put (same_new hdx (.own p)) hp (x := .ins C dx [])) _ _ hB4.mo) (ne_of_none hB4.mo hp))
    try (refine opk hkq ?_; clear hkq kq)
    try dsimp only [gName]
    try (refine opn hTq ?_; clear hTq Tq)
    try refine tabs fun Tq hTq => ?_
    try first | refine asgk fun kq hkq => ?_ | refine drpk fun kq hkq => ?_
    refine ⟨_, rfl, tyL hms5, fun md hmd => ⟨_, rfl, _, rfl, _, rfl, nil_len, fun dl hdl => ⟨nil_len, fun al hal => ⟨nil_len, fun nl hnl => ?_⟩⟩⟩⟩
    obtain ⟨hms6, hB6⟩ := hB4.step hp hdx ne hkp hK5 F5 hmd hdl hal hnl rfl ok
    refine ⟨?_, [(.inr "many", .int many), (.inr "least", .int least), (.inr "most", .int mo), (.inr "days", .ref dl), (.inr "ahead", .ref al), (.inr "now", .ref nl)], rfl, (by show 6 ≤ 15; decide), ms, L.map (fun x : KA => V.ref x.md), _, rfl, rfl, (by rw [md_merge]; exact hms6), (by rw [List.length_map]; exact small1000 (by omega)), L ++ [⟨p, kp, md, dl⟩], _, _, _, _, _, _, _, _, _, _, rfl, (by rw [List.length_append, hL]; rfl), (by rw [md_merge]; exact hB6)⟩
    exact (same_new hnl _) _ _ ((same_new hal _) _ _ ((same_new hdl _) _ _ upd_same))
  intro σ H2 hz_
  first | (refine Ex11.st σ hz_ fun L z4 z5 z6 z7 z8 z9 z10 z11 z12 z13 hz_ => ?_; have hL := hz_.1; have hB := hz_.2; clear hz_) | obtain ⟨L, z4, z5, z6, z7, z8, z9, z10, z11, z12, z13, rfl, hL, hB⟩ := hz_
  obtain ⟨x, y, rfl⟩ := lst2 (l := L) hL
  have hap : ∀ b, y.cells b → ¬x.cells b := by
    have := hB.ap
    rw [List.pairwise_cons] at this
    exact this.1 y (.head _)
  have hX := hB.ok x (.head _)
  have hY := hB.ok y (.tail _ (.head _))
  have fx := hB.new x (.head _)
  have fy := hB.new y (.tail _ (.head _))
  have hks := hB.ko
  have hms := hB.mo
  have hS2 := hB.same.seq hS
  have hW : ∀ b, (x.cells b ∨ y.cells b) → H b = none ∧ b ≠ ks ∧ b ≠ ms := fun b z => z.elim (fx b) (fy b)
  have hsc : ∀ H', Kept (fun b => x.cells b ∨ y.cells b) H2 H' → SqL K H' a (ns.map V.int) := fun H' F => by
    refine seq_kept hS (fun o e z => ?_) ((Kept.of hB.same).trans F)
    rw [(hW a z).1] at e; cases e
  have hkc : ∀ H', Kept (fun b => x.cells b ∨ y.cells b) H2 H' → H' ks = some (.lst [.ref x.p, .ref y.p]) ∧ H' ms = some (.lst [.ref x.md, .ref y.md]) := fun H' F => ⟨F.2 _ _ hks fun z => (hW _ z).2.1 rfl, F.2 _ _ hms fun z => (hW _ z).2.2 rfl⟩
  have hzl : ∀ b, ZL ks ms [x, y] b → ∃ o, ∀ H', Kept (fun b => x.cells b ∨ y.cells b) H2 H' → True := fun b z => ⟨0, fun _ _ => trivial⟩
  clear hzl hS2 fx fy
  clear hB hks hms
  try (refine opk hkq ?_; clear hkq kq)
  try dsimp only [gName]
  try (refine opn hTq ?_; clear hTq Tq)
  try refine tabs fun Tq hTq => ?_
  try first | refine asgk fun kq hkq => ?_ | refine drpk fun kq hkq => ?_
  have big : ∀ L : Int, 0 ≤ (if (if L - 1 < 48 then L - 1 else 48) > 2 then (if L - 1 < 48 then L - 1 else 48) else 2) ∧ (if (if L - 1 < 48 then L - 1 else 48) > 2 then (if L - 1 < 48 then L - 1 else 48) else 2) ≤ 60 := fun L => by
    split <;> (try split) <;> omega
  generalize hZe : ZL ks ms [x, y] = Z at hX hY
  refine ⟨_, rfl, _, rfl, a, _, rfl, .inl (hsc _ (Kept.refl _ _)), _, _, rfl, rfl, _, _, rfl, _, _, rfl, _, _, _, rfl, ⟨by decide, by decide⟩, (small_m1 (big _).1 (Int.lt_of_le_of_lt (big _).2 (by decide))).1, (small_m1 (big _).1 (Int.lt_of_le_of_lt (big _).2 (by decide))).2,
    for_range3 (fun i σ H' => Ex10 fun (z4 z5 z6 z7 z8 z9 z10 z11 z12 z13 : Option V) => σ = [some (.ref a), some (.int first), some (.ref ks), some (.ref ms), z4, z5, z6, z7, z8, z9, z10, z11, z12, z13] ∧ Kept (fun b => x.cells b ∨ y.cells b) H2 H' ∧ KOk Z C H' x ∧ KOk Z C H' y) ⟨_, _, _, _, _, _, _, _, _, _, rfl, Kept.refl _ _, hX, hY⟩ ?_ ?_⟩
  rotate_left
  · intro σ H' hz_
    first | (refine Ex10.st σ hz_ fun z4 z5 z6 z7 z8 z9 z10 z11 z12 z13 hz_ => ?_; have F := hz_.1; have hx := hz_.2.1; have hy := hz_.2.2; clear hz_) | obtain ⟨z4, z5, z6, z7, z8, z9, z10, z11, z12, z13, rfl, F, hx, hy⟩ := hz_
    try (refine opk hkq ?_; clear hkq kq)
    -- cut
    try dsimp only [gName]
    try (refine opn hTq ?_; clear hTq Tq)
    try refine tabs fun Tq hTq => ?_
    try first | refine asgk fun kq hkq => ?_ | refine drpk fun kq hkq => ?_
    exact q _
  clear hX hY big
  intro i σ H3 hi hz_
  first | (refine Ex10.st σ hz_ fun z4 z5 z6 z7 z8 z9 z10 z11 z12 z13 hz_ => ?_; have F3 := hz_.1; have hX := hz_.2.1; have hY := hz_.2.2; clear hz_) | obtain ⟨z4, z5, z6, z7, z8, z9, z10, z11, z12, z13, rfl, F3, hX, hY⟩ := hz_
  try (refine opk hkq ?_; clear hkq kq)
  try dsimp only [gName]
  try (refine opn hTq ?_; clear hTq Tq)
  try refine tabs fun Tq hTq => ?_
  try first | refine asgk fun kq hkq => ?_ | refine drpk fun kq hkq => ?_
  obtain ⟨ex, hex⟩ := hX.tells
  obtain ⟨ey, hey⟩ := hY.tells
  have hP3 : Paired (fun v d => ∃ u : KA, v = V.ref u.p ∧ Tells Z C H3 u d) [.ref x.p, .ref y.p] [ex, ey] := .cons ⟨x, rfl, hex⟩ (.cons ⟨y, rfl, hey⟩ .nil)
  have hks3 := (hkc _ F3).1
  have wl3 : ∀ b, (x.cells b ∨ y.cells b) → ∃ o, H3 b = some o := fun b z => z.elim (fun c => (hX.offc c).2) fun c => (hY.offc c).2
  try (refine opk hkq ?_; clear hkq kq)
  -- cut
  try dsimp only [gName]
  try (refine opn hTq ?_; clear hTq Tq)
  try refine tabs fun Tq hTq => ?_
  try first | refine asgk fun kq hkq => ?_ | refine drpk fun kq hkq => ?_
  refine ⟨_, rfl, ks, rfl, ⟨_, SqL.of hks3⟩, comp_listG (xs := [.ref x.p, .ref y.p]) (fun acc i ys H' => Same H3 H' ∧ Paired (Ear K (fun b => (x.cells b ∨ y.cells b) ∨ b = acc) H') ys ([ex, ey].take i)) (fun acc i ys H' _ h => SqL.of (h.1 _ _ hks3)) (fun acc hacc => ⟨same_new hacc _, .nil⟩) (fun acc i v ys H4 hacc hi hv hys h => ?_) (fun e ys H4 he0 he h => ?_)⟩
  · obtain ⟨S4, hP⟩ := h
    obtain ⟨d, hd, u, rfl, many, least, most, D, A', B', hK, ok, rfl⟩ := paired_take hP3 hv
    have hyl := Paired.length hP
    rw [List.length_take] at hyl
    have hl2 : [ex, ey].length = 2 := rfl
    have hK4 := hK.k.same S4
    obtain ⟨⟨dx, _, _, _, _, hp, _⟩, _⟩ := id hK4
    have wl : ∀ b, ((x.cells b ∨ y.cells b) ∨ b = acc) → ∃ o, H4 b = some o := fun b z => by
      obtain z | z := z
      · obtain ⟨o, ho⟩ := wl3 b z
        exact ⟨o, S4 _ _ ho⟩
      · exact ⟨_, z ▸ hys⟩
    refine ⟨(Wk.refl _).set (by decide), yes_of ⟨_, rfl, u.p, dx, _, rfl, hp, fl_no_closed, u.p, u.kp, many, least, most, D, A', B', rfl, hK4, fun t ws H5 S5 ht0 ht hR => ⟨_, rfl, u.p, dx, _, rfl, S5 _ _ hp, fl_no_days, u.p, u.kp, many, least, most, D, A', B', rfl, hK4.same S5, ok.days, fun dd wd H6 S6 hd0 hdd hPd hfr hnd => ⟨_, rfl, u.p, dx, _, rfl, (S5.trans S6) _ _ hp, fl_no_changes, u.p, u.kp, many, least, most, D, A', B', rfl, hK4.same (S5.trans S6), ok.up, ok.few, (now_up ok).1, (now_up ok).2, fun ch c w' m xs zs zt H7 S7 hc0 hw0 hm0 _ _ _ hch hc hcR hw hwR hm hmR => ⟨(by show 3 ≤ sizeLine; decide), fun tp htp => ?_⟩⟩⟩⟩⟩
    have S57 := S5.trans (S6.trans S7)
    have St := same_new htp (.tup [.ref t, .ref dd, .ref ch])
    have hys8 := St _ _ (S57 _ _ hys)
    refine cputG hi hys8 (small4096 (by omega)) ⟨?_, ?_⟩
    · exact same_put (S4.trans (S57.trans St)) hacc
    · have E7 : EarS K (fun b => (x.cells b ∨ y.cells b) ∨ b = acc) H7 [.ref t, .ref dd, .ref ch] [.list (B'.map dRow), dDays D, dCh A' B'] := ear_told wl ht0 ((S6.trans S7) _ _ ht) (hR.same (S6.trans S7).t) (S5.free hd0) (S7 _ _ hdd) (lsts_same S7 hPd) (fun b hb => S5.free (hfr b hb)) ((S5.trans S6).free hc0) ((S5.trans S6).free hw0) ((S5.trans S6).free hm0) hch hc hcR hw hwR hm hmR
      have Fk : Kept (fun b => (x.cells b ∨ y.cells b) ∨ b = acc) (upd H7 tp (.tup [.ref t, .ref dd, .ref ch])) (upd (upd H7 tp (.tup [.ref t, .ref dd, .ref ch])) acc (.lst (ys ++ [.ref tp]))) := kept_put hys8 (.inr rfl)
      have E8 : EarS K (fun b => (x.cells b ∨ y.cells b) ∨ b = acc) (upd H7 tp (.tup [.ref t, .ref dd, .ref ch])) [.ref t, .ref dd, .ref ch] [.list (B'.map dRow), dDays D, dCh A' B'] := fun H' G => E7 H' ((Kept.of St).trans G)
      rw [take_at hd]
      exact Paired.snoc (Paired.imp' (fun y r z => z.kept ((Kept.of (S57.trans St)).trans Fk)) hP) ((Ear.tup upd_same E8).kept Fk)
  obtain ⟨S4, hP⟩ := h
  rw [show [V.ref x.p, V.ref y.p].length = 2 from rfl, show [ex, ey].take 2 = [ex, ey] from rfl] at hP
  have hE : Ear K (fun b => x.cells b ∨ y.cells b) H4 (.ref e) (.list [ex, ey]) := by
    refine .lst he (fun z => ?_) fun H' G => EarS.of hP H' (G.mono fun b z => .inl z)
    obtain ⟨o, ho⟩ := wl3 e z
    rw [he0] at ho; cases ho
  have sho := sho_two hex.sho hey.sho
  generalize PyData.list [ex, ey] = de at hE sho
  clear hP hP3 hex hey he he0 wl3
  have hX4 := hX.same S4
  have hY4 := hY.same S4
  have F4 := F3.trans (Kept.of S4)
  clear hks3 hX hY F3 S4
  try (refine opk hkq ?_; clear hkq kq)
  try dsimp only [gName]
  try (refine opn hTq ?_; clear hTq Tq)
  try refine tabs fun Tq hTq => ?_
  try first | refine asgk fun kq hkq => ?_ | refine drpk fun kq hkq => ?_
  refine ⟨_, rfl, e, de, rfl, hE.dr, sho.four (by decide) (by decide) ?_⟩
  try (refine opk hkq ?_; clear hkq kq)
  try dsimp only [gName]
  try (refine opn hTq ?_; clear hTq Tq)
  try refine tabs fun Tq hTq => ?_
  try first | refine asgk fun kq hkq => ?_ | refine drpk fun kq hkq => ?_
  generalize hkk : -1 + (i : Int) * 2 = kk
  refine ⟨fun σ H' => Ex9 fun (u v : KA) (at' : Int) (z5 z6 z7 z8 z12 z13 : Option V) => σ = [some (.ref a), some (.int first), some (.ref ks), some (.ref ms), some (.int kk), z5, z6, z7, z8, some (.int at'), some (.ref e), some (.str de.shown), z12, z13] ∧ Turn x y at' u v ∧ Kept (fun b => x.cells b ∨ y.cells b) H4 H' ∧ KOk Z C H' u ∧ KOk Z C H' v, ?_, ?_⟩
  · refine one_if (b := decide (0 < kk)) (.pure fun Q h => ⟨_, rfl, _, _, rfl, rfl, _, rfl, h⟩) fun H5 S5 => ite2 (fun co => ?_) (fun co => ?_)
    · have k0 : 0 < kk := of_decide_eq_true co
      have hX5 := hX4.same S5
      have hY5 := hY4.same S5
      have F5 := F4.trans (Kept.of S5)
      have F45 : Kept (fun b => x.cells b ∨ y.cells b) H4 H5 := Kept.of S5
      clear S5 co
      obtain ⟨hks5, hms5⟩ := hkc _ F5
      refine ⟨_, rfl, _, rfl, a, ns, _, rfl, hsc _ F5, by omega, ?_⟩
      generalize cellF ns kk = cell
      try (refine opk hkq ?_; clear hkq kq)
      try dsimp only [gName]
      try (refine opn hTq ?_; clear hTq Tq)
      try refine tabs fun Tq hTq => ?_
      try first | refine asgk fun kq hkq => ?_ | refine drpk fun kq hkq => ?_
      refine ⟨_, rfl, _, _, rfl, rfl, ⟨by decide, by decide⟩, _, _, rfl, rfl, (by show (0 : Int) < 2; decide), ?_⟩
      have a0 := Int.emod_nonneg (cell / 5) (show (2 : Int) ≠ 0 by decide)
      have a2 := Int.emod_lt_of_pos (cell / 5) (show (0 : Int) < 2 by decide)
      try (refine opk hkq ?_; clear hkq kq)
      try dsimp only [gName]
      try (refine opn hTq ?_; clear hTq Tq)
      try refine tabs fun Tq hTq => ?_
      try first | refine asgk fun kq hkq => ?_ | refine drpk fun kq hkq => ?_
      generalize cell / 5 % 2 = at' at a0 a2 ⊢
      obtain ⟨u, v, hT⟩ := Turn.any (x := x) (y := y) a0 a2
      obtain ⟨hU, hV⟩ := hT.both (P := KOk Z C H5) hX5 hY5
      obtain ⟨t1, t2, _, _⟩ := hT.at
      try (refine opk hkq ?_; clear hkq kq)
      try dsimp only [gName]
      try (refine opn hTq ?_; clear hTq Tq)
      try refine tabs fun Tq hTq => ?_
      try first | refine asgk fun kq hkq => ?_ | refine drpk fun kq hkq => ?_
      refine one_ifW (b := false) (W := fun H' => Kept u.cells H5 H' ∧ KOk Z C H' u) (fun Q h => ?_) fun H6 w => iteF ?_
      · obtain ⟨⟨many, least, most, D, A', B', hK, hM, ok⟩, zk, zd, nkd⟩ := id hU
        refine ⟨_, rfl, _, rfl, ks, _, _, _, rfl, rfl, SqL.of hks5, t1, _, rfl, _, rfl, ms, _, _, _, rfl, rfl, SqL.of hms5, t2, _, rfl, _, rfl, _, rfl, _, _, rfl, rfl, a, ns, _, rfl, hsc _ F5, by omega, u.p, u.kp, u.md, u.dl, many, least, most, _, _, D, A', B', Z, rfl, hK, hM, ok, zk, zd, nkd, zl_live hZe hks5 hms5 hX5 hY5, fun least' D' A2 B2 H6 hK6 hM6 ok6 F6 => ⟨_, rfl, h _ ⟨hU.kept F6, ⟨many, least', most, D', A2, B2, hK6, hM6, ok6⟩, zk, zd, nkd⟩⟩⟩
      · exact ⟨u, v, at', _, _, _, _, _, _, rfl, hT, F45.trans (w.1.mono hT.cell), w.2, hU.deed hV (hT.ap hap) w.1⟩
    · exact ⟨x, y, 0, _, _, _, _, _, _, rfl, .inl ⟨rfl, rfl, rfl⟩, Kept.of S5, hX4.same S5, hY4.same S5⟩
  clear hX4 hY4
  intro σ H5 hz_
  first | (refine Ex9.st σ hz_ fun u v at' z5 z6 z7 z8 z12 z13 hz_ => ?_; have hT := hz_.1; have F45 := hz_.2.1; have hU := hz_.2.2.1; have hV := hz_.2.2.2; clear hz_) | obtain ⟨u, v, at', z5, z6, z7, z8, z12, z13, rfl, hT, F45, hU, hV⟩ := hz_
  have F5 := F4.trans F45
  obtain ⟨hks5, hms5⟩ := hkc _ F5
  obtain ⟨t1, t2, t3, t4⟩ := hT.at
  have hE5 := hE.kept F45
  clear hE
  try (refine opk hkq ?_; clear hkq kq)
  try dsimp only [tNext]
  try (refine opn hTq ?_; clear hTq Tq)
  try refine tabs fun Tq hTq => ?_
  try first | refine asgk fun kq hkq => ?_ | refine drpk fun kq hkq => ?_
  refine seq_if (b := false) (fun Q h => ?_) fun H6 S6 => iteF ?_
  · obtain ⟨⟨many, least, most, D, A', B', hK, hM, ok⟩, _⟩ := id hU
    exact ⟨_, rfl, _, rfl, ks, _, _, _, rfl, rfl, SqL.of hks5, t1, _, rfl, _, rfl, ms, _, _, _, rfl, rfl, SqL.of hms5, t2, _, rfl, _, rfl, _, _, rfl, rfl, a, ns, _, rfl, hsc _ F5, by omega, u.p, u.kp, u.md, u.dl, many, least, most, _, D, A', B', rfl, hK.k, hM.k, ok, fun H6 S6 => ⟨_, rfl, h _ S6⟩⟩
  have hks6 := S6 _ _ hks5
  have hms6 := S6 _ _ hms5
  try (refine opk hkq ?_; clear hkq kq)
  try dsimp only [tNext]
  try (refine opn hTq ?_; clear hTq Tq)
  try refine tabs fun Tq hTq => ?_
  try first | refine asgk fun kq hkq => ?_ | refine drpk fun kq hkq => ?_
  refine ⟨_, rfl, _, rfl, _, _, rfl, rfl, ms, _, _, _, rfl, rfl, SqL.of hms6, t4, ?_⟩
  obtain ⟨⟨many, least, most, D, A', B', hK, hM, ok⟩, _⟩ := id (hV.same S6)
  obtain ⟨⟨al, nl, hm, hA, hB, _⟩, us, hdl, hus, _⟩ := hM
  have hK := hK.k
  obtain ⟨⟨dx, _, _, _, _, hp, _⟩, _⟩ := id hK
  try (refine opk hkq ?_; clear hkq kq)
  try dsimp only [gName]
  try (refine opn hTq ?_; clear hTq Tq)
  try refine tabs fun Tq hTq => ?_
  try first | refine asgk fun kq hkq => ?_ | refine drpk fun kq hkq => ?_
  refine seq_if (b := false) (lookOr (c := false) (d := false) (fun Q h => ?_) (fun _ H7 S7 Q h => ?_)) fun H7 S7 => iteF ?_
  · refine ⟨_, rfl, _, rfl, _, _, rfl, rfl, ks, _, _, _, rfl, rfl, SqL.of hks6, t3, v.p, dx, _, rfl, hp, fl_no_closed, v.p, v.kp, many, least, most, D, A', B', rfl, hK, fun t ws H8 S8 ht0 ht hR => ⟨_, rfl, v.md, _, rfl, md_get (S8 _ _ hm) md_now, ?_⟩⟩
    obtain ⟨wn, hnl, hRn, _⟩ := hB
    exact ne_pl (.lst (SqL.of ht) hR.dr) (.lst (SqL.of (S8 _ _ hnl)) (hRn.same S8.t).dr) (pl_rowsL _) (by decide) (h _ S8)
  · exact ⟨_, rfl, _, rfl, _, _, rfl, rfl, ks, _, _, _, rfl, rfl, SqL.of (S7 _ _ hks6), t3, v.p, dx, _, rfl, S7 _ _ hp, fl_no_days, v.p, v.kp, many, least, most, D, A', B', rfl, hK.same S7, ok.days, fun dd wd H8 S8 hd0 hdd hPd hfr hnd => ⟨_, rfl, v.md, _, rfl, md_get ((S7.trans S8) _ _ hm) md_days, ne_pl (.lst (SqL.of hdd) (days_dr hPd)) (.lst (SqL.of ((S7.trans S8) _ _ hdl)) (days_dr (lsts_same (S7.trans S8) hus))) (pl_days D) (by decide) (h _ S8)⟩⟩
  try (refine opk hkq ?_; clear hkq kq)
  try dsimp only [tNext]
  try (refine opn hTq ?_; clear hTq Tq)
  try refine tabs fun Tq hTq => ?_
  try first | refine asgk fun kq hkq => ?_ | refine drpk fun kq hkq => ?_
  refine one_if (b := false) (lookOr (c := false) (d := false) (fun Q h => ?_) (fun _ H8 S8 Q h => ?_)) fun H8 S8 => iteF ?_
  · exact ⟨_, rfl, _, rfl, _, _, rfl, rfl, ks, _, _, _, rfl, rfl, SqL.of (S7 _ _ hks6), t3, v.p, dx, _, rfl, S7 _ _ hp, fl_no_changes, v.p, v.kp, many, least, most, D, A', B', rfl, hK.same S7, ok.up, ok.few, (now_up ok).1, (now_up ok).2, fun ch c w' m xs zs zt H8 S8 hc0 hw0 hm0 _ _ _ hch hc hcR hw hwR hmm hmR => ⟨_, rfl, v.md, _, rfl, md_get ((S7.trans S8) _ _ hm) md_ahead, _, rfl, v.md, _, rfl, md_get ((S7.trans S8) _ _ hm) md_now, al, nl, A', B', rfl, hA.same (S7.trans S8), hB.same (S7.trans S8), fun t2 H9 S9 hd2 => ne_pl (DR.same S9 (.tup (SqT.of hch) (.cons (.lst (SqL.of hc) hcR.dr) (.cons (.lst (SqL.of hw) hwR.dr) (.cons (.lst (SqL.of hmm) hmR.dr) .nil))))) hd2 (pl_dCh A' B') (by decide) (h _ (S8.trans S9))⟩⟩
  · exact ⟨_, rfl, e, de, rfl, (hE5.kept (Kept.of (S6.trans (S7.trans S8)))).dr, sho.four (by decide) (by decide) ⟨_, rfl, ne_str (h _ (Same.refl _))⟩⟩
  have S58 := S6.trans (S7.trans S8)
  obtain ⟨hx, hy⟩ := hT.back (P := KOk Z C H8) (hU.same S58) (hV.same S58)
  exact ⟨_, _, _, _, _, _, _, _, _, _, rfl, F5.trans (Kept.of S58), hx, hy⟩


end
end OL.Q30

namespace OL.Q30
open PySem L2 OL
theorem len1 {us : List Value} (h : us.length = 1) : ∃ x0, us = [x0] := by
  obtain ⟨a, t, rfl⟩ := List.exists_cons_of_length_eq_add_one h
  exact ⟨a, by rw [List.eq_nil_of_length_eq_zero (Nat.succ.inj h)]⟩
theorem len2 {us : List Value} (h : us.length = 2) : ∃ x0 x1, us = [x0, x1] := by
  obtain ⟨a, t, rfl⟩ := List.exists_cons_of_length_eq_add_one h
  obtain ⟨b, rfl⟩ := len1 (Nat.succ.inj h)
  exact ⟨a, b, rfl⟩
theorem len3 {us : List Value} (h : us.length = 3) : ∃ x0 x1 x2, us = [x0, x1, x2] := by
  obtain ⟨a, t, rfl⟩ := List.exists_cons_of_length_eq_add_one h
  obtain ⟨b, c, rfl⟩ := len2 (Nat.succ.inj h)
  exact ⟨a, b, c, rfl⟩
theorem len4 {us : List Value} (h : us.length = 4) : ∃ x0 x1 x2 x3, us = [x0, x1, x2, x3] := by
  obtain ⟨a, t, rfl⟩ := List.exists_cons_of_length_eq_add_one h
  obtain ⟨b, c, d, rfl⟩ := len3 (Nat.succ.inj h)
  exact ⟨a, b, c, d, rfl⟩
set_option maxHeartbeats 4000000 in
theorem all_mk {l : PySem.W.OpenLaw} {w : World} {K : PySem.W.Frag} {h : Heap} {mg : Str → Option Value} {fa c_OftenError c_NoDay c_NoLeast C f0 f1 f2 f3 f4 f5 f6 f7 f8 f9 f10 f11 f12 f13 f14 f15 f16 f17 f18 f19 f20 f21 f22 f23 f24 f25 f26 f27 f28 f29 f30 f31 : Addr} (X : K.In h) (G : h.Ns mainGlobals mg) (hfa : mg "law" = some (.ref fa))
    {od0 an0 od1 an1 od2 an2 od3 an3 od4 an4 od5 an5 od6 an6 od7 an7 od8 an8 od9 an9 od10 an10 od11 an11 od12 an12 od13 an13 od14 an14 od15 an15 od16 an16 od17 an17 od18 an18 od19 an19 od20 an20 od21 an21 od22 an22 od23 an23 od24 an24 od25 an25 od26 an26 od27 an27 od28 an28 od29 an29 od30 an30 od31 an31 : Option Addr} {sl0 sl1 sl2 sl3 sl4 sl5 sl6 sl7 sl8 sl9 sl10 sl11 sl12 sl13 sl14 sl15 sl16 sl17 sl18 sl19 sl20 sl21 sl22 sl23 sl24 sl25 sl26 sl27 sl28 sl29 sl30 sl31 : Array (Option Value)} {oc0 kV0 dc0 pm0 cd0 ct0 oc1 kV1 dc1 pm1 cd1 ct1 oc2 kV2 dc2 pm2 cd2 ct2 oc3 kV3 dc3 pm3 cd3 ct3 oc4 kV4 dc4 pm4 cd4 ct4 oc5 kV5 dc5 pm5 cd5 ct5 oc6 kV6 dc6 pm6 cd6 ct6 oc7 kV7 dc7 pm7 cd7 ct7 oc8 kV8 dc8 pm8 cd8 ct8 oc9 kV9 dc9 pm9 cd9 ct9 oc10 kV10 dc10 pm10 cd10 ct10 oc11 kV11 dc11 pm11 cd11 ct11 oc12 kV12 dc12 pm12 cd12 ct12 oc13 kV13 dc13 pm13 cd13 ct13 oc14 kV14 dc14 pm14 cd14 ct14 oc15 kV15 dc15 pm15 cd15 ct15 oc16 kV16 dc16 pm16 cd16 ct16 oc17 kV17 dc17 pm17 cd17 ct17 oc18 kV18 dc18 pm18 cd18 ct18 oc19 kV19 dc19 pm19 cd19 ct19 oc20 kV20 dc20 pm20 cd20 ct20 oc21 kV21 dc21 pm21 cd21 ct21 oc22 kV22 dc22 pm22 cd22 ct22 oc23 kV23 dc23 pm23 cd23 ct23 oc24 kV24 dc24 pm24 cd24 ct24 oc25 kV25 dc25 pm25 cd25 ct25 oc26 kV26 dc26 pm26 cd26 ct26 oc27 kV27 dc27 pm27 cd27 ct27 oc28 kV28 dc28 pm28 cd28 ct28 oc29 kV29 dc29 pm29 cd29 ct29 oc30 kV30 dc30 pm30 cd30 ct30 oc31 kV31 dc31 pm31 cd31 ct31 : Value}
    (aC : PySem.W.nsIn K mainGlobals "Keeper" = some (some (.ref C))) (pg : PySem.W.plainGet K C Str.empty = true) (hd : PySem.W.hasDictIn K C = true) (po : PySem.W.plainOver K C = true) (sa : PySem.W.findIn K (.ref C) "__setattr__" = some (some (.builtin "object.__setattr__"))) (mk : PySem.W.makesIn K C = true) (kc : PySem.W.keepIn K (.ref C) = true)
    (nf_many : PySem.W.findIn K (.ref C) "many" = some none) (nf_least : PySem.W.findIn K (.ref C) "least" = some none) (nf_most : PySem.W.findIn K (.ref C) "most" = some none) (nf_kept : PySem.W.findIn K (.ref C) "kept" = some none) (nf_told_ahead : PySem.W.findIn K (.ref C) "told_ahead" = some none) (nf_told_now : PySem.W.findIn K (.ref C) "told_now" = some none)
    (aX_OftenError : PySem.W.nsIn K mainGlobals "OftenError" = some (some (.ref c_OftenError))) (aX_NoDay : PySem.W.nsIn K mainGlobals "NoDay" = some (some (.ref c_NoDay))) (aX_NoLeast : PySem.W.nsIn K mainGlobals "NoLeast" = some (some (.ref c_NoLeast)))
    (xf_r_NoDay : XCls K "NoDay" c_NoDay)
    (xf_r_NoLeast : XCls K "NoLeast" c_NoLeast)
    (xf_emd_ : PySem.W.exmOne K (.ref c_NoDay) (.ref c_OftenError) = some true)
    (xf_eml_ : PySem.W.exmOne K (.ref c_NoLeast) (.ref c_OftenError) = some true)
    (xf_isd_ : XIs K c_NoDay [.ref c_NoLeast] [.ref c_NoDay, .type "ValueError"])
    (xf_isl_ : XIs K c_NoLeast [.ref c_NoDay] [.ref c_NoLeast, .type "ValueError"])
    (a0 : PySem.W.nsIn K mainGlobals "things_below" = some (some (.ref f0))) (l0 : K.lookup f0 = some ⟨oc0, od0, .func (PySem.W.fnOf "things_below" "things_below" (defArgs sTop) (defBody sTop) (defScope sTop) .none kV0 dc0 pm0 an0 cd0 ct0), sl0⟩) (c0 : PySem.W.codeIn K cd0 "things_below" = true) (k0 : PySem.W.keepIn K (.ref f0) = true)
    (a1 : PySem.W.nsIn K mainGlobals "has" = some (some (.ref f1))) (l1 : K.lookup f1 = some ⟨oc1, od1, .func (PySem.W.fnOf "has" "has" (defArgs sHas) (defBody sHas) (defScope sHas) .none kV1 dc1 pm1 an1 cd1 ct1), sl1⟩) (c1 : PySem.W.codeIn K cd1 "has" = true) (k1 : PySem.W.keepIn K (.ref f1) = true)
    (a2 : PySem.W.nsIn K mainGlobals "all_lots" = some (some (.ref f2))) (l2 : K.lookup f2 = some ⟨oc2, od2, .func (PySem.W.fnOf "all_lots" "all_lots" (defArgs sAll) (defBody sAll) (defScope sAll) .none kV2 dc2 pm2 an2 cd2 ct2), sl2⟩) (c2 : PySem.W.codeIn K cd2 "all_lots" = true) (k2 : PySem.W.keepIn K (.ref f2) = true)
    (a3 : PySem.W.nsIn K mainGlobals "count" = some (some (.ref f3))) (l3 : K.lookup f3 = some ⟨oc3, od3, .func (PySem.W.fnOf "count" "count" (defArgs sCount) (defBody sCount) (defScope sCount) .none kV3 dc3 pm3 an3 cd3 ct3), sl3⟩) (c3 : PySem.W.codeIn K cd3 "count" = true) (k3 : PySem.W.keepIn K (.ref f3) = true)
    (a4 : PySem.W.nsIn K mainGlobals "holders" = some (some (.ref f4))) (l4 : K.lookup f4 = some ⟨oc4, od4, .func (PySem.W.fnOf "holders" "holders" (defArgs sHold) (defBody sHold) (defScope sHold) .none kV4 dc4 pm4 an4 cd4 ct4), sl4⟩) (c4 : PySem.W.codeIn K cd4 "holders" = true) (k4 : PySem.W.keepIn K (.ref f4) = true)
    (a5 : PySem.W.nsIn K mainGlobals "common" = some (some (.ref f5))) (l5 : K.lookup f5 = some ⟨oc5, od5, .func (PySem.W.fnOf "common" "common" (defArgs sCommon) (defBody sCommon) (defScope sCommon) .none kV5 dc5 pm5 an5 cd5 ct5), sl5⟩) (c5 : PySem.W.codeIn K cd5 "common" = true) (k5 : PySem.W.keepIn K (.ref f5) = true)
    (a6 : PySem.W.nsIn K mainGlobals "often_closing" = some (some (.ref f6))) (l6 : K.lookup f6 = some ⟨oc6, od6, .func (PySem.W.fnOf "often_closing" "often_closing" (defArgs sOften) (defBody sOften) (defScope sOften) .none kV6 dc6 pm6 an6 cd6 ct6), sl6⟩) (c6 : PySem.W.codeIn K cd6 "often_closing" = true) (k6 : PySem.W.keepIn K (.ref f6) = true)
    (a7 : PySem.W.nsIn K mainGlobals "closed_lots" = some (some (.ref f7))) (l7 : K.lookup f7 = some ⟨oc7, od7, .func (PySem.W.fnOf "closed_lots" "closed_lots" (defArgs sClosed) (defBody sClosed) (defScope sClosed) .none kV7 dc7 pm7 an7 cd7 ct7), sl7⟩) (c7 : PySem.W.codeIn K cd7 "closed_lots" = true) (k7 : PySem.W.keepIn K (.ref f7) = true)
    (a8 : PySem.W.findIn K (.ref C) "__init__" = some (some (.ref f8))) (i8 : PySem.W.isFn K (.ref f8) = true) (l8 : K.lookup f8 = some ⟨oc8, od8, .func (PySem.W.fnOf "__init__" "Keeper.__init__" (defArgs s_Keeper___init__) (defBody s_Keeper___init__) (defScope s_Keeper___init__) .none kV8 dc8 pm8 an8 cd8 ct8), sl8⟩) (c8 : PySem.W.codeIn K cd8 "Keeper.__init__" = true) (k8 : PySem.W.keepIn K (.ref f8) = true)
    (a9 : PySem.W.findIn K (.ref C) "come" = some (some (.ref f9))) (i9 : PySem.W.isFn K (.ref f9) = true) (l9 : K.lookup f9 = some ⟨oc9, od9, .func (PySem.W.fnOf "come" "Keeper.come" (defArgs s_Keeper_come) (defBody s_Keeper_come) (defScope s_Keeper_come) .none kV9 dc9 pm9 an9 cd9 ct9), sl9⟩) (c9 : PySem.W.codeIn K cd9 "Keeper.come" = true) (k9 : PySem.W.keepIn K (.ref f9) = true)
    (a10 : PySem.W.findIn K (.ref C) "go" = some (some (.ref f10))) (i10 : PySem.W.isFn K (.ref f10) = true) (l10 : K.lookup f10 = some ⟨oc10, od10, .func (PySem.W.fnOf "go" "Keeper.go" (defArgs s_Keeper_go) (defBody s_Keeper_go) (defScope s_Keeper_go) .none kV10 dc10 pm10 an10 cd10 ct10), sl10⟩) (c10 : PySem.W.codeIn K cd10 "Keeper.go" = true) (k10 : PySem.W.keepIn K (.ref f10) = true)
    (a11 : PySem.W.findIn K (.ref C) "need" = some (some (.ref f11))) (i11 : PySem.W.isFn K (.ref f11) = true) (l11 : K.lookup f11 = some ⟨oc11, od11, .func (PySem.W.fnOf "need" "Keeper.need" (defArgs s_Keeper_need) (defBody s_Keeper_need) (defScope s_Keeper_need) .none kV11 dc11 pm11 an11 cd11 ct11), sl11⟩) (c11 : PySem.W.codeIn K cd11 "Keeper.need" = true) (k11 : PySem.W.keepIn K (.ref f11) = true)
    (a12 : PySem.W.findIn K (.ref C) "days" = some (some (.ref f12))) (i12 : PySem.W.isFn K (.ref f12) = true) (l12 : K.lookup f12 = some ⟨oc12, od12, .func (PySem.W.fnOf "days" "Keeper.days" (defArgs s_Keeper_days) (defBody s_Keeper_days) (defScope s_Keeper_days) .none kV12 dc12 pm12 an12 cd12 ct12), sl12⟩) (c12 : PySem.W.codeIn K cd12 "Keeper.days" = true) (k12 : PySem.W.keepIn K (.ref f12) = true)
    (a13 : PySem.W.findIn K (.ref C) "closed" = some (some (.ref f13))) (i13 : PySem.W.isFn K (.ref f13) = true) (l13 : K.lookup f13 = some ⟨oc13, od13, .func (PySem.W.fnOf "closed" "Keeper.closed" (defArgs s_Keeper_closed) (defBody s_Keeper_closed) (defScope s_Keeper_closed) .none kV13 dc13 pm13 an13 cd13 ct13), sl13⟩) (c13 : PySem.W.codeIn K cd13 "Keeper.closed" = true) (k13 : PySem.W.keepIn K (.ref f13) = true)
    (a14 : PySem.W.findIn K (.ref C) "count" = some (some (.ref f14))) (i14 : PySem.W.isFn K (.ref f14) = true) (l14 : K.lookup f14 = some ⟨oc14, od14, .func (PySem.W.fnOf "count" "Keeper.count" (defArgs s_Keeper_count) (defBody s_Keeper_count) (defScope s_Keeper_count) .none kV14 dc14 pm14 an14 cd14 ct14), sl14⟩) (c14 : PySem.W.codeIn K cd14 "Keeper.count" = true) (k14 : PySem.W.keepIn K (.ref f14) = true)
    (a15 : PySem.W.findIn K (.ref C) "changes" = some (some (.ref f15))) (i15 : PySem.W.isFn K (.ref f15) = true) (l15 : K.lookup f15 = some ⟨oc15, od15, .func (PySem.W.fnOf "changes" "Keeper.changes" (defArgs s_Keeper_changes) (defBody s_Keeper_changes) (defScope s_Keeper_changes) .none kV15 dc15 pm15 an15 cd15 ct15), sl15⟩) (c15 : PySem.W.codeIn K cd15 "Keeper.changes" = true) (k15 : PySem.W.keepIn K (.ref f15) = true)
    (a16 : PySem.W.findIn K (.ref C) "book" = some (some (.ref f16))) (i16 : PySem.W.isFn K (.ref f16) = true) (l16 : K.lookup f16 = some ⟨oc16, od16, .func (PySem.W.fnOf "book" "Keeper.book" (defArgs s_Keeper_book) (defBody s_Keeper_book) (defScope s_Keeper_book) .none kV16 dc16 pm16 an16 cd16 ct16), sl16⟩) (c16 : PySem.W.codeIn K cd16 "Keeper.book" = true) (k16 : PySem.W.keepIn K (.ref f16) = true)
    (a17 : PySem.W.findIn K (.ref C) "tell_anew" = some (some (.ref f17))) (i17 : PySem.W.isFn K (.ref f17) = true) (l17 : K.lookup f17 = some ⟨oc17, od17, .func (PySem.W.fnOf "tell_anew" "Keeper.tell_anew" (defArgs s_Keeper_tell_anew) (defBody s_Keeper_tell_anew) (defScope s_Keeper_tell_anew) .none kV17 dc17 pm17 an17 cd17 ct17), sl17⟩) (c17 : PySem.W.codeIn K cd17 "Keeper.tell_anew" = true) (k17 : PySem.W.keepIn K (.ref f17) = true)
    (a18 : PySem.W.nsIn K mainGlobals "counts_by_lot" = some (some (.ref f18))) (l18 : K.lookup f18 = some ⟨oc18, od18, .func (PySem.W.fnOf "counts_by_lot" "counts_by_lot" (defArgs s_counts_by_lot) (defBody s_counts_by_lot) (defScope s_counts_by_lot) .none kV18 dc18 pm18 an18 cd18 ct18), sl18⟩) (c18 : PySem.W.codeIn K cd18 "counts_by_lot" = true) (k18 : PySem.W.keepIn K (.ref f18) = true)
    (a19 : PySem.W.nsIn K mainGlobals "rows_not_in" = some (some (.ref f19))) (l19 : K.lookup f19 = some ⟨oc19, od19, .func (PySem.W.fnOf "rows_not_in" "rows_not_in" (defArgs s_rows_not_in) (defBody s_rows_not_in) (defScope s_rows_not_in) .none kV19 dc19 pm19 an19 cd19 ct19), sl19⟩) (c19 : PySem.W.codeIn K cd19 "rows_not_in" = true) (k19 : PySem.W.keepIn K (.ref f19) = true)
    (a20 : PySem.W.nsIn K mainGlobals "rows_moved" = some (some (.ref f20))) (l20 : K.lookup f20 = some ⟨oc20, od20, .func (PySem.W.fnOf "rows_moved" "rows_moved" (defArgs s_rows_moved) (defBody s_rows_moved) (defScope s_rows_moved) .none kV20 dc20 pm20 an20 cd20 ct20), sl20⟩) (c20 : PySem.W.codeIn K cd20 "rows_moved" = true) (k20 : PySem.W.keepIn K (.ref f20) = true)
    (a21 : PySem.W.nsIn K mainGlobals "_law_cell_at" = some (some (.ref f21))) (l21 : K.lookup f21 = some ⟨oc21, od21, .func (PySem.W.fnOf "_law_cell_at" "_law_cell_at" (defArgs sCell) (defBody sCell) (defScope sCell) .none kV21 dc21 pm21 an21 cd21 ct21), sl21⟩) (c21 : PySem.W.codeIn K cd21 "_law_cell_at" = true) (k21 : PySem.W.keepIn K (.ref f21) = true)
    (a22 : PySem.W.nsIn K mainGlobals "_law_draws" = some (some (.ref f22))) (l22 : K.lookup f22 = some ⟨oc22, od22, .func (PySem.W.fnOf "_law_draws" "_law_draws" (defArgs sDraws) (defBody sDraws) (defScope sDraws) .none kV22 dc22 pm22 an22 cd22 ct22), sl22⟩) (c22 : PySem.W.codeIn K cd22 "_law_draws" = true) (k22 : PySem.W.keepIn K (.ref f22) = true)
    (a23 : PySem.W.nsIn K mainGlobals "_law_whole" = some (some (.ref f23))) (l23 : K.lookup f23 = some ⟨oc23, od23, .func (PySem.W.fnOf "_law_whole" "_law_whole" (defArgs s_L_whole) (defBody s_L_whole) (defScope s_L_whole) .none kV23 dc23 pm23 an23 cd23 ct23), sl23⟩) (c23 : PySem.W.codeIn K cd23 "_law_whole" = true) (k23 : PySem.W.keepIn K (.ref f23) = true)
    (a24 : PySem.W.nsIn K mainGlobals "_law_count" = some (some (.ref f24))) (l24 : K.lookup f24 = some ⟨oc24, od24, .func (PySem.W.fnOf "_law_count" "_law_count" (defArgs sCountL) (defBody sCountL) (defScope sCountL) .none kV24 dc24 pm24 an24 cd24 ct24), sl24⟩) (c24 : PySem.W.codeIn K cd24 "_law_count" = true) (k24 : PySem.W.keepIn K (.ref f24) = true)
    (a25 : PySem.W.nsIn K mainGlobals "_law_closed" = some (some (.ref f25))) (l25 : K.lookup f25 = some ⟨oc25, od25, .func (PySem.W.fnOf "_law_closed" "_law_closed" (defArgs s_L_closed) (defBody s_L_closed) (defScope s_L_closed) .none kV25 dc25 pm25 an25 cd25 ct25), sl25⟩) (c25 : PySem.W.codeIn K cd25 "_law_closed" = true) (k25 : PySem.W.keepIn K (.ref f25) = true)
    (a26 : PySem.W.nsIn K mainGlobals "_law_changes" = some (some (.ref f26))) (l26 : K.lookup f26 = some ⟨oc26, od26, .func (PySem.W.fnOf "_law_changes" "_law_changes" (defArgs s_L_changes) (defBody s_L_changes) (defScope s_L_changes) .none kV26 dc26 pm26 an26 cd26 ct26), sl26⟩) (c26 : PySem.W.codeIn K cd26 "_law_changes" = true) (k26 : PySem.W.keepIn K (.ref f26) = true)
    (a27 : PySem.W.nsIn K mainGlobals "_law_day" = some (some (.ref f27))) (l27 : K.lookup f27 = some ⟨oc27, od27, .func (PySem.W.fnOf "_law_day" "_law_day" (defArgs s_L_day) (defBody s_L_day) (defScope s_L_day) .none kV27 dc27 pm27 an27 cd27 ct27), sl27⟩) (c27 : PySem.W.codeIn K cd27 "_law_day" = true) (k27 : PySem.W.keepIn K (.ref f27) = true)
    (a28 : PySem.W.nsIn K mainGlobals "_law_refused" = some (some (.ref f28))) (l28 : K.lookup f28 = some ⟨oc28, od28, .func (PySem.W.fnOf "_law_refused" "_law_refused" (defArgs s_L_refused) (defBody s_L_refused) (defScope s_L_refused) .none kV28 dc28 pm28 an28 cd28 ct28), sl28⟩) (c28 : PySem.W.codeIn K cd28 "_law_refused" = true) (k28 : PySem.W.keepIn K (.ref f28) = true)
    (a29 : PySem.W.nsIn K mainGlobals "_law_is" = some (some (.ref f29))) (l29 : K.lookup f29 = some ⟨oc29, od29, .func (PySem.W.fnOf "_law_is" "_law_is" (defArgs s_L_is) (defBody s_L_is) (defScope s_L_is) .none kV29 dc29 pm29 an29 cd29 ct29), sl29⟩) (c29 : PySem.W.codeIn K cd29 "_law_is" = true) (k29 : PySem.W.keepIn K (.ref f29) = true)
    (a30 : PySem.W.nsIn K mainGlobals "_law_deed" = some (some (.ref f30))) (l30 : K.lookup f30 = some ⟨oc30, od30, .func (PySem.W.fnOf "_law_deed" "_law_deed" (defArgs s_L_deed) (defBody s_L_deed) (defScope s_L_deed) .none kV30 dc30 pm30 an30 cd30 ct30), sl30⟩) (c30 : PySem.W.codeIn K cd30 "_law_deed" = true) (k30 : PySem.W.keepIn K (.ref f30) = true)
    (a31 : PySem.W.nsIn K mainGlobals "law" = some (some (.ref f31))) (l31 : K.lookup f31 = some ⟨oc31, od31, .func (PySem.W.fnOf "law" "law" (defArgs s_law) (defBody s_law) (defScope s_law) .none kV31 dc31 pm31 an31 cd31 ct31), sl31⟩) (c31 : PySem.W.codeIn K cd31 "law" = true) (k31 : PySem.W.keepIn K (.ref f31) = true)
    (z_list : PySem.W.nsIn K mainGlobals "list" = some none) (z_len : PySem.W.nsIn K mainGlobals "len" = some none) (z_abs : PySem.W.nsIn K mainGlobals "abs" = some none) (z_range : PySem.W.nsIn K mainGlobals "range" = some none) (z_isinstance : PySem.W.nsIn K mainGlobals "isinstance" = some none) (z_bool : PySem.W.nsIn K mainGlobals "bool" = some none) (z_int : PySem.W.nsIn K mainGlobals "int" = some none) (z_dict : PySem.W.nsIn K mainGlobals "dict" = some none) (z_sorted : PySem.W.nsIn K mainGlobals "sorted" = some none) (z_enumerate : PySem.W.nsIn K mainGlobals "enumerate" = some none) (z_tuple : PySem.W.nsIn K mainGlobals "tuple" = some none) (z_ValueError : PySem.W.nsIn K mainGlobals "ValueError" = some none) (z_min : PySem.W.nsIn K mainGlobals "min" = some none) (z_max : PySem.W.nsIn K mainGlobals "max" = some none) (z_str : PySem.W.nsIn K mainGlobals "str" = some none) :
    ∃ fd : FuncData, (∀ (s : Shared) (v : Value), BindsTo s fd ⟨[v], []⟩ [("_law_script", v)]) ∧ ∀ base : Heap, K.In base → base.Ns mainGlobals mg → FnOk l.prog w K mg base CX0 9 fa fd ["_law_script"] (spLaw K) := by
  have e := hfa.symm.trans (PySem.W.mg_of X G a31)
  cases e
  have F0 := fun_mk (st := sTop) l0 c0 k0
  have b0 := F0.binds (ps := ["number"]) fun _ _ _ _ _ _ us hl => by obtain ⟨_, rfl⟩ := len1 hl; rfl
  have m0 := PySem.W.mg_of X G a0
  have F1 := fun_mk (st := sHas) l1 c1 k1
  have b1 := F1.binds (ps := ["one", "other"]) fun _ _ _ _ _ _ us hl => by obtain ⟨_, _, rfl⟩ := len2 hl; rfl
  have m1 := PySem.W.mg_of X G a1
  have F2 := fun_mk (st := sAll) l2 c2 k2
  have b2 := F2.binds (ps := ["many"]) fun _ _ _ _ _ _ us hl => by obtain ⟨_, rfl⟩ := len1 hl; rfl
  have m2 := PySem.W.mg_of X G a2
  have F3 := fun_mk (st := sCount) l3 c3 k3
  have b3 := F3.binds (ps := ["book", "lot"]) fun _ _ _ _ _ _ us hl => by obtain ⟨_, _, rfl⟩ := len2 hl; rfl
  have m3 := PySem.W.mg_of X G a3
  have F4 := fun_mk (st := sHold) l4 c4 k4
  have b4 := F4.binds (ps := ["book", "lot"]) fun _ _ _ _ _ _ us hl => by obtain ⟨_, _, rfl⟩ := len2 hl; rfl
  have m4 := PySem.W.mg_of X G a4
  have F5 := fun_mk (st := sCommon) l5 c5 k5
  have b5 := F5.binds (ps := ["book", "places"]) fun _ _ _ _ _ _ us hl => by obtain ⟨_, _, rfl⟩ := len2 hl; rfl
  have m5 := PySem.W.mg_of X G a5
  have F6 := fun_mk (st := sOften) l6 c6 k6
  have b6 := F6.binds (ps := ["book", "least", "lot"]) fun _ _ _ _ _ _ us hl => by obtain ⟨_, _, _, rfl⟩ := len3 hl; rfl
  have m6 := PySem.W.mg_of X G a6
  have F7 := fun_mk (st := sClosed) l7 c7 k7
  have b7 := F7.binds (ps := ["book", "least"]) fun _ _ _ _ _ _ us hl => by obtain ⟨_, _, rfl⟩ := len2 hl; rfl
  have m7 := PySem.W.mg_of X G a7
  have F8 := fun_mk (st := s_Keeper___init__) l8 c8 k8
  have b8 := F8.binds (ps := ["self", "many", "least", "most"]) fun _ _ _ _ _ _ us hl => by obtain ⟨_, _, _, _, rfl⟩ := len4 hl; rfl
  have m8 : Mk K C f8 := ⟨mk, a8, i8, kc⟩
  have F9 := fun_mk (st := s_Keeper_come) l9 c9 k9
  have b9 := F9.binds (ps := ["self", "day"]) fun _ _ _ _ _ _ us hl => by obtain ⟨_, _, rfl⟩ := len2 hl; rfl
  have m9 : Meth K C "come" f9 := ⟨a9, i9, k9⟩
  have F10 := fun_mk (st := s_Keeper_go) l10 c10 k10
  have b10 := F10.binds (ps := ["self"]) fun _ _ _ _ _ _ us hl => by obtain ⟨_, rfl⟩ := len1 hl; rfl
  have m10 : Meth K C "go" f10 := ⟨a10, i10, k10⟩
  have F11 := fun_mk (st := s_Keeper_need) l11 c11 k11
  have b11 := F11.binds (ps := ["self", "least"]) fun _ _ _ _ _ _ us hl => by obtain ⟨_, _, rfl⟩ := len2 hl; rfl
  have m11 : Meth K C "need" f11 := ⟨a11, i11, k11⟩
  have F12 := fun_mk (st := s_Keeper_days) l12 c12 k12
  have b12 := F12.binds (ps := ["self"]) fun _ _ _ _ _ _ us hl => by obtain ⟨_, rfl⟩ := len1 hl; rfl
  have m12 : Meth K C "days" f12 := ⟨a12, i12, k12⟩
  have F13 := fun_mk (st := s_Keeper_closed) l13 c13 k13
  have b13 := F13.binds (ps := ["self"]) fun _ _ _ _ _ _ us hl => by obtain ⟨_, rfl⟩ := len1 hl; rfl
  have m13 : Meth K C "closed" f13 := ⟨a13, i13, k13⟩
  have F14 := fun_mk (st := s_Keeper_count) l14 c14 k14
  have b14 := F14.binds (ps := ["self", "lot"]) fun _ _ _ _ _ _ us hl => by obtain ⟨_, _, rfl⟩ := len2 hl; rfl
  have m14 : Meth K C "count" f14 := ⟨a14, i14, k14⟩
  have F15 := fun_mk (st := s_Keeper_changes) l15 c15 k15
  have b15 := F15.binds (ps := ["self"]) fun _ _ _ _ _ _ us hl => by obtain ⟨_, rfl⟩ := len1 hl; rfl
  have m15 : Meth K C "changes" f15 := ⟨a15, i15, k15⟩
  have F16 := fun_mk (st := s_Keeper_book) l16 c16 k16
  have b16 := F16.binds (ps := ["self"]) fun _ _ _ _ _ _ us hl => by obtain ⟨_, rfl⟩ := len1 hl; rfl
  have m16 : Meth K C "book" f16 := ⟨a16, i16, k16⟩
  have F17 := fun_mk (st := s_Keeper_tell_anew) l17 c17 k17
  have b17 := F17.binds (ps := ["self"]) fun _ _ _ _ _ _ us hl => by obtain ⟨_, rfl⟩ := len1 hl; rfl
  have m17 : Meth K C "tell_anew" f17 := ⟨a17, i17, k17⟩
  have F18 := fun_mk (st := s_counts_by_lot) l18 c18 k18
  have b18 := F18.binds (ps := ["rows"]) fun _ _ _ _ _ _ us hl => by obtain ⟨_, rfl⟩ := len1 hl; rfl
  have m18 := PySem.W.mg_of X G a18
  have F19 := fun_mk (st := s_rows_not_in) l19 c19 k19
  have b19 := F19.binds (ps := ["rows", "others"]) fun _ _ _ _ _ _ us hl => by obtain ⟨_, _, rfl⟩ := len2 hl; rfl
  have m19 := PySem.W.mg_of X G a19
  have F20 := fun_mk (st := s_rows_moved) l20 c20 k20
  have b20 := F20.binds (ps := ["ahead", "now"]) fun _ _ _ _ _ _ us hl => by obtain ⟨_, _, rfl⟩ := len2 hl; rfl
  have m20 := PySem.W.mg_of X G a20
  have F21 := fun_mk (st := sCell) l21 c21 k21
  have b21 := F21.binds (ps := ["_law_script", "_law_k"]) fun _ _ _ _ _ _ us hl => by obtain ⟨_, _, rfl⟩ := len2 hl; rfl
  have m21 := PySem.W.mg_of X G a21
  have F22 := fun_mk (st := sDraws) l22 c22 k22
  have b22 := F22.binds (ps := ["_law_cell", "_law_many", "_law_base"]) fun _ _ _ _ _ _ us hl => by obtain ⟨_, _, _, rfl⟩ := len3 hl; rfl
  have m22 := PySem.W.mg_of X G a22
  have F23 := fun_mk (st := s_L_whole) l23 c23 k23
  have b23 := F23.binds (ps := ["_law_found"]) fun _ _ _ _ _ _ us hl => by obtain ⟨_, rfl⟩ := len1 hl; rfl
  have m23 := PySem.W.mg_of X G a23
  have F24 := fun_mk (st := sCountL) l24 c24 k24
  have b24 := F24.binds (ps := ["_law_book", "_law_lot"]) fun _ _ _ _ _ _ us hl => by obtain ⟨_, _, rfl⟩ := len2 hl; rfl
  have m24 := PySem.W.mg_of X G a24
  have F25 := fun_mk (st := s_L_closed) l25 c25 k25
  have b25 := F25.binds (ps := ["_law_many", "_law_days", "_law_least"]) fun _ _ _ _ _ _ us hl => by obtain ⟨_, _, _, rfl⟩ := len3 hl; rfl
  have m25 := PySem.W.mg_of X G a25
  have F26 := fun_mk (st := s_L_changes) l26 c26 k26
  have b26 := F26.binds (ps := ["_law_ahead", "_law_behind"]) fun _ _ _ _ _ _ us hl => by obtain ⟨_, _, rfl⟩ := len2 hl; rfl
  have m26 := PySem.W.mg_of X G a26
  have F27 := fun_mk (st := s_L_day) l27 c27 k27
  have b27 := F27.binds (ps := ["_law_cell", "_law_many"]) fun _ _ _ _ _ _ us hl => by obtain ⟨_, _, rfl⟩ := len2 hl; rfl
  have m27 := PySem.W.mg_of X G a27
  have F28 := fun_mk (st := s_L_refused) l28 c28 k28
  have b28 := F28.binds (ps := ["_law_keeper", "_law_least"]) fun _ _ _ _ _ _ us hl => by obtain ⟨_, _, rfl⟩ := len2 hl; rfl
  have m28 := PySem.W.mg_of X G a28
  have F29 := fun_mk (st := s_L_is) l29 c29 k29
  have b29 := F29.binds (ps := ["_law_keeper", "_law_model", "_law_cell"]) fun _ _ _ _ _ _ us hl => by obtain ⟨_, _, _, rfl⟩ := len3 hl; rfl
  have m29 := PySem.W.mg_of X G a29
  have F30 := fun_mk (st := s_L_deed) l30 c30 k30
  have b30 := F30.binds (ps := ["_law_keeper", "_law_model", "_law_cell", "_law_more"]) fun _ _ _ _ _ _ us hl => by obtain ⟨_, _, _, _, rfl⟩ := len4 hl; rfl
  have m30 := PySem.W.mg_of X G a30
  have F31 := fun_mk (st := s_law) l31 c31 k31
  have y_list := PySem.W.mg_none_of X G z_list
  have y_len := PySem.W.mg_none_of X G z_len
  have y_abs := PySem.W.mg_none_of X G z_abs
  have y_range := PySem.W.mg_none_of X G z_range
  have y_isinstance := PySem.W.mg_none_of X G z_isinstance
  have y_bool := PySem.W.mg_none_of X G z_bool
  have y_int := PySem.W.mg_none_of X G z_int
  have y_dict := PySem.W.mg_none_of X G z_dict
  have y_sorted := PySem.W.mg_none_of X G z_sorted
  have y_enumerate := PySem.W.mg_none_of X G z_enumerate
  have y_tuple := PySem.W.mg_none_of X G z_tuple
  have y_ValueError := PySem.W.mg_none_of X G z_ValueError
  have y_min := PySem.W.mg_none_of X G z_min
  have y_max := PySem.W.mg_none_of X G z_max
  have y_str := PySem.W.mg_none_of X G z_str
  have kX : Xs K mg ⟨c_OftenError, c_NoDay, c_NoLeast⟩ := ⟨PySem.W.mg_of X G aX_OftenError, PySem.W.mg_of X G aX_NoDay, PySem.W.mg_of X G aX_NoLeast, xf_r_NoDay, xf_r_NoLeast, xf_emd_, xf_eml_, xf_isd_, xf_isl_⟩
  have kC : Kls K mg C := ⟨⟨pg, hd, po, sa⟩, nf_many, nf_least, nf_most, nf_kept, nf_told_ahead, nf_told_now, PySem.W.mg_of X G aC⟩
  refine ⟨PySem.W.fnOf "law" "law" (defArgs s_law) (defBody s_law) (defScope s_law) .none kV31 dc31 pm31 an31 cd31 ct31, fun s v => .of_eq rfl, fun base _ _ => ?_⟩
  have D0 : Dfn l.prog w K mg base 1 _ _ _ := ok_top F0 b0 m0 
  have D1 : Dfn l.prog w K mg base 1 _ _ _ := ok_has F1 b1 m1 
  have D12 : Mfn l.prog w K mg base 1 C _ _ _ := ok_Keeper_days F12 b12 m12 y_list kC
  have D13 : Mfn l.prog w K mg base 1 C _ _ _ := ok_Keeper_closed F13 b13 m13 y_list kC
  have D16 : Mfn l.prog w K mg base 1 C _ _ _ := ok_Keeper_book F16 b16 m16 kC
  have D18 : Dfn l.prog w K mg base 1 _ _ _ := ok_counts_by_lot F18 b18 m18 
  have D21 : Dfn l.prog w K mg base 1 _ _ _ := ok_cell F21 b21 m21 y_len
  have D22 : Dfn l.prog w K mg base 1 _ _ _ := ok_draws F22 b22 m22 y_abs y_range
  have D23 : Dfn l.prog w K mg base 1 _ _ _ := ok_L_whole F23 b23 m23 y_isinstance y_bool y_int
  have D24 : Dfn l.prog w K mg base 1 _ _ _ := ok_countL F24 b24 m24 y_len
  have D26 : Dfn l.prog w K mg base 1 _ _ _ := ok_L_changes F26 b26 m26 y_dict y_sorted
  have D2 : Dfn l.prog w K mg base 2 _ _ _ := ok_all F2 b2 m2 y_list y_range D0
  have D4 : Dfn l.prog w K mg base 2 _ _ _ := ok_hold F4 b4 m4 y_enumerate D1
  have D5 : Dfn l.prog w K mg base 2 _ _ _ := ok_common F5 b5 m5 D0
  have D8 : Ifn l.prog w K mg base 2 C _ _ := ok_Keeper___init__ F8 b8 m8 kC
  have D19 : Dfn l.prog w K mg base 2 _ _ _ := ok_rows_not_in F19 b19 m19 D18
  have D20 : Dfn l.prog w K mg base 2 _ _ _ := ok_rows_moved F20 b20 m20 D18
  have D25 : Dfn l.prog w K mg base 2 _ _ _ := ok_L_closed F25 b25 m25 y_list y_sorted D24
  have D27 : Dfn l.prog w K mg base 2 _ _ _ := ok_L_day F27 b27 m27 D22
  have D3 : Dfn l.prog w K mg base 3 _ _ _ := ok_count F3 b3 m3 y_len D4
  have D6 : Dfn l.prog w K mg base 3 _ _ _ := ok_often F6 b6 m6 y_len D4 D5
  have D14 : Mfn l.prog w K mg base 3 C _ _ _ := ok_Keeper_count F14 b14 m14 y_len kC D4 (D16.mono (by decide))
  have D15 : Mfn l.prog w K mg base 3 C _ _ _ := ok_Keeper_changes F15 b15 m15 kC D19 D20
  have D7 : Dfn l.prog w K mg base 4 _ _ _ := ok_closed F7 b7 m7 (D2.mono (by decide)) D6 D3
  have D29 : Dfn l.prog w K mg base 4 _ _ _ := ok_L_is F29 b29 m29 y_isinstance y_list y_tuple y_len kC (D12.mono (by decide)) (D25.mono (by decide)) (D13.mono (by decide)) D15 (D26.mono (by decide)) (D22.mono (by decide)) D14 (D24.mono (by decide)) (D23.mono (by decide))
  have D17 : Mfn l.prog w K mg base 5 C _ _ _ := ok_Keeper_tell_anew F17 b17 m17 kC D7 (D16.mono (by decide))
  have D9 : Mfn l.prog w K mg base 6 C _ _ _ := ok_Keeper_come F9 b9 m9 y_list y_len kC D17
  have D10 : MfnN l.prog w K mg base 6 C _ _ _ := ok_Keeper_go F10 b10 m10 y_len kC kX D17
  have D11 : MfnN l.prog w K mg base 6 C _ _ _ := ok_Keeper_need F11 b11 m11 kC kX D17
  have D28 : Dfn l.prog w K mg base 7 _ _ _ := ok_L_refused F28 b28 m28 y_isinstance y_ValueError kC kX D10 D11
  have D30 : Dfn l.prog w K mg base 8 _ _ _ := ok_L_deed F30 b30 m30 y_list y_int y_len kC kX D28 (D27.mono (by decide)) (D9.mono (by decide)) (D10.mono (by decide)) (D11.mono (by decide)) (D25.mono (by decide))
  exact ok_law F31 y_range y_len y_min y_max y_str kC kX (D21.mono (by decide)) (D22.mono (by decide)) (D8.mono (by decide)) (D13.mono (by decide)) (D12.mono (by decide)) (D15.mono (by decide)) D30 (D29.mono (by decide)) (D26.mono (by decide))
theorem walk {l : PySem.W.OpenLaw} {q : Program} {loose : List Str} {XP : (Str → Option Value) → Heap → Prop} {YP : World → Heap → Prop} {d : DefRec} {K : Params → PySem.W.Frag} (hn : l.most = some 63) (hdf : d.params.defaults = [])
    (hY : ∀ (w : World) (h : Heap), YP w h → (K w.params).In h)
    (F : ∀ (w : World) (mg : Str → Option Value) (fa : Addr) (h : Heap), (K w.params).In h → h.Ns mainGlobals mg → mg d.name = some (.ref fa) →
      ∃ fd : FuncData, (∀ (s : Shared) (u : Value), BindsTo s fd ⟨[u], []⟩ [("_law_script", u)]) ∧ ∀ base : Heap, (K w.params).In base → base.Ns mainGlobals mg → FnOk l.prog w (K w.params) mg base CX0 9 fa fd ["_law_script"] (spLaw (K w.params))) :
    PySem.W.WalkO q loose XP YP l.row.toRowW d [] (fun f vs => PySem.call f vs) :=
  L2.walk_of (n := 63) (k := 9) (x := "_law_script") (CX := fun _ => CX0) (sp := fun w => spLaw (K w.params)) hn (by decide) hdf ⟨rfl, by decide, by decide, rfl⟩ hY F (fun _ _ a ns hl _ hS => ⟨a, ns, rfl, hS, hl, fun _ => rfl⟩) fun _ _ _ _ _ z => z
end OL.Q30
open PySem PySem.W PyProof.Rows
set_option maxRecDepth 100000 in
set_option maxHeartbeats 0 in
theorem PySem.Challenge.cw_oftenlots_k30_whole_keeper_holds : PySem.Challenge.rw_oftenlots_k30_whole_keeper.Holds := by
  w_on; o_law; k_head; (case hw => w_witness2)
  k_fill
  refine OL.Q30.walk (l := PySem.Challenge.rw_oftenlots_k30_whole_keeper) rfl rfl (fun w h Y => PySem.W.kIn_of Y) ?F
  case F =>
    intro w mg fa h KX G hmg
    refine' OL.Q30.all_mk KX G hmg ?aC ?pg ?hd ?po ?sa ?mk ?kc ?nf_many ?nf_least ?nf_most ?nf_kept ?nf_told_ahead ?nf_told_now ?aX_OftenError ?aX_NoDay ?aX_NoLeast ?xf_r_NoDay ?xf_r_NoLeast ?xf_emd_ ?xf_eml_ ?xf_isd_ ?xf_isl_ ?a0 ?l0 ?c0 ?k0 ?a1 ?l1 ?c1 ?k1 ?a2 ?l2 ?c2 ?k2 ?a3 ?l3 ?c3 ?k3 ?a4 ?l4 ?c4 ?k4 ?a5 ?l5 ?c5 ?k5 ?a6 ?l6 ?c6 ?k6 ?a7 ?l7 ?c7 ?k7 ?a8 ?i8 ?l8 ?c8 ?k8 ?a9 ?i9 ?l9 ?c9 ?k9 ?a10 ?i10 ?l10 ?c10 ?k10 ?a11 ?i11 ?l11 ?c11 ?k11 ?a12 ?i12 ?l12 ?c12 ?k12 ?a13 ?i13 ?l13 ?c13 ?k13 ?a14 ?i14 ?l14 ?c14 ?k14 ?a15 ?i15 ?l15 ?c15 ?k15 ?a16 ?i16 ?l16 ?c16 ?k16 ?a17 ?i17 ?l17 ?c17 ?k17 ?a18 ?l18 ?c18 ?k18 ?a19 ?l19 ?c19 ?k19 ?a20 ?l20 ?c20 ?k20 ?a21 ?l21 ?c21 ?k21 ?a22 ?l22 ?c22 ?k22 ?a23 ?l23 ?c23 ?k23 ?a24 ?l24 ?c24 ?k24 ?a25 ?l25 ?c25 ?k25 ?a26 ?l26 ?c26 ?k26 ?a27 ?l27 ?c27 ?k27 ?a28 ?l28 ?c28 ?k28 ?a29 ?l29 ?c29 ?k29 ?a30 ?l30 ?c30 ?k30 ?a31 ?l31 ?c31 ?k31 ?z_list ?z_len ?z_abs ?z_range ?z_isinstance ?z_bool ?z_int ?z_dict ?z_sorted ?z_enumerate ?z_tuple ?z_ValueError ?z_min ?z_max ?z_str
    (case aC => k_is)
    (case pg => k_is)
    (case hd => k_is)
    (case po => k_is)
    (case sa => k_is)
    (case mk => k_is)
    (case kc => k_is)
    (case nf_many => k_is)
    (case nf_least => k_is)
    (case nf_most => k_is)
    (case nf_kept => k_is)
    (case nf_told_ahead => k_is)
    (case nf_told_now => k_is)
    (case aX_OftenError => k_is)
    (case aX_NoDay => k_is)
    (case aX_NoLeast => k_is)
    (case xf_r_NoDay => exact ⟨by k_is, by k_exc⟩)
    (case xf_r_NoLeast => exact ⟨by k_is, by k_exc⟩)
    (case xf_emd_ => kts_exm)
    (case xf_eml_ => kts_exm)
    (case xf_isd_ => exact ⟨⟨by k_is, by k_is, by k_is, by k_is, by k_is, by k_is, by k_is, by k_is⟩, by (repeat first | exact List.forall_mem_nil _ | refine List.forall_mem_cons.mpr ⟨by kit_is, ?_⟩), by (repeat first | exact List.forall_mem_nil _ | refine List.forall_mem_cons.mpr ⟨by kit_is, ?_⟩), by (repeat first | exact List.forall_mem_nil _ | refine List.forall_mem_cons.mpr ⟨by kit_is, ?_⟩)⟩)
    (case xf_isl_ => exact ⟨⟨by k_is, by k_is, by k_is, by k_is, by k_is, by k_is, by k_is, by k_is⟩, by (repeat first | exact List.forall_mem_nil _ | refine List.forall_mem_cons.mpr ⟨by kit_is, ?_⟩), by (repeat first | exact List.forall_mem_nil _ | refine List.forall_mem_cons.mpr ⟨by kit_is, ?_⟩), by (repeat first | exact List.forall_mem_nil _ | refine List.forall_mem_cons.mpr ⟨by kit_is, ?_⟩)⟩)
    (case a0 => k_is)
    (case l0 => k_is)
    (case c0 => k_is)
    (case k0 => k_is)
    (case a1 => k_is)
    (case l1 => k_is)
    (case c1 => k_is)
    (case k1 => k_is)
    (case a2 => k_is)
    (case l2 => k_is)
    (case c2 => k_is)
    (case k2 => k_is)
    (case a3 => k_is)
    (case l3 => k_is)
    (case c3 => k_is)
    (case k3 => k_is)
    (case a4 => k_is)
    (case l4 => k_is)
    (case c4 => k_is)
    (case k4 => k_is)
    (case a5 => k_is)
    (case l5 => k_is)
    (case c5 => k_is)
    (case k5 => k_is)
    (case a6 => k_is)
    (case l6 => k_is)
    (case c6 => k_is)
    (case k6 => k_is)
    (case a7 => k_is)
    (case l7 => k_is)
    (case c7 => k_is)
    (case k7 => k_is)
    (case a8 => k_is)
    (case i8 => k_is)
    (case l8 => k_is)
    (case c8 => k_is)
    (case k8 => k_is)
    (case a9 => k_is)
    (case i9 => k_is)
    (case l9 => k_is)
    (case c9 => k_is)
    (case k9 => k_is)
    (case a10 => k_is)
    (case i10 => k_is)
    (case l10 => k_is)
    (case c10 => k_is)
    (case k10 => k_is)
    (case a11 => k_is)
    (case i11 => k_is)
    (case l11 => k_is)
    (case c11 => k_is)
    (case k11 => k_is)
    (case a12 => k_is)
    (case i12 => k_is)
    (case l12 => k_is)
    (case c12 => k_is)
    (case k12 => k_is)
    (case a13 => k_is)
    (case i13 => k_is)
    (case l13 => k_is)
    (case c13 => k_is)
    (case k13 => k_is)
    (case a14 => k_is)
    (case i14 => k_is)
    (case l14 => k_is)
    (case c14 => k_is)
    (case k14 => k_is)
    (case a15 => k_is)
    (case i15 => k_is)
    (case l15 => k_is)
    (case c15 => k_is)
    (case k15 => k_is)
    (case a16 => k_is)
    (case i16 => k_is)
    (case l16 => k_is)
    (case c16 => k_is)
    (case k16 => k_is)
    (case a17 => k_is)
    (case i17 => k_is)
    (case l17 => k_is)
    (case c17 => k_is)
    (case k17 => k_is)
    (case a18 => k_is)
    (case l18 => k_is)
    (case c18 => k_is)
    (case k18 => k_is)
    (case a19 => k_is)
    (case l19 => k_is)
    (case c19 => k_is)
    (case k19 => k_is)
    (case a20 => k_is)
    (case l20 => k_is)
    (case c20 => k_is)
    (case k20 => k_is)
    (case a21 => k_is)
    (case l21 => k_is)
    (case c21 => k_is)
    (case k21 => k_is)
    (case a22 => k_is)
    (case l22 => k_is)
    (case c22 => k_is)
    (case k22 => k_is)
    (case a23 => k_is)
    (case l23 => k_is)
    (case c23 => k_is)
    (case k23 => k_is)
    (case a24 => k_is)
    (case l24 => k_is)
    (case c24 => k_is)
    (case k24 => k_is)
    (case a25 => k_is)
    (case l25 => k_is)
    (case c25 => k_is)
    (case k25 => k_is)
    (case a26 => k_is)
    (case l26 => k_is)
    (case c26 => k_is)
    (case k26 => k_is)
    (case a27 => k_is)
    (case l27 => k_is)
    (case c27 => k_is)
    (case k27 => k_is)
    (case a28 => k_is)
    (case l28 => k_is)
    (case c28 => k_is)
    (case k28 => k_is)
    (case a29 => k_is)
    (case l29 => k_is)
    (case c29 => k_is)
    (case k29 => k_is)
    (case a30 => k_is)
    (case l30 => k_is)
    (case c30 => k_is)
    (case k30 => k_is)
    (case a31 => k_is)
    (case l31 => k_is)
    (case c31 => k_is)
    (case k31 => k_is)
    (case z_list => k_is)
    (case z_len => k_is)
    (case z_abs => k_is)
    (case z_range => k_is)
    (case z_isinstance => k_is)
    (case z_bool => k_is)
    (case z_int => k_is)
    (case z_dict => k_is)
    (case z_sorted => k_is)
    (case z_enumerate => k_is)
    (case z_tuple => k_is)
    (case z_ValueError => k_is)
    (case z_min => k_is)
    (case z_max => k_is)
    (case z_str => k_is)
#print axioms PySem.Challenge.cw_oftenlots_k30_whole_keeper_holds
