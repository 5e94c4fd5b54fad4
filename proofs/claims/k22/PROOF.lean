import PyProof.Rows.All
import Wide.All
import OpenK.AllK
import Wide.FinOn
import Lean
import PyProof.EqAt
import PyProof.EqKinds
import PyProof.TupleCall
import PyProof.NeKinds
import PyProof.ExcBaseAll.ValueError
import PyProof.ExcClass3
import OpenK.KOwn
import PyProof.Rows.FStr
import KE.KTryMore
import PyProof.ExcAttrAll.ValueError
import KE.KDictList
import PyProof.CompMap
import PyProof.Draws
import PyProof.ListRange
import PyProof.ZipIter
import PyProof.EnumMake
import PyProof.CollectIter
import PyProof.SetRoads
import PyProof.Rows.SortShell
import PyProof.Rows.SortWalk
import PySem.Challenge.RW_figuretell_k22_narrowing_and_choosing
set_option Elab.async false
set_option linter.all false
namespace Obt
universe u1 u2 u3 u4 u5 u6 u7 u8
variable {α : Sort u1} {β : Sort u2} {γ : Sort u3} {δ : Sort u4} {ε : Sort u5} {ζ : Sort u6} {η : Sort u7} {θ : Sort u8}
theorem ex1 {p : α -> Prop} {G : Prop} (h : ∃ a, p a) (k : ∀ a, p a -> G) : G := h.elim k
theorem ex2 {p : α -> β -> Prop} {G : Prop} (h : ∃ a b, p a b) (k : ∀ a b, p a b -> G) : G := h.elim fun a h => h.elim (k a)
theorem ex3 {p : α -> β -> γ -> Prop} {G : Prop} (h : ∃ a b c, p a b c) (k : ∀ a b c, p a b c -> G) : G := h.elim fun a h => ex2 h (k a)
theorem ex4 {p : α -> β -> γ -> δ -> Prop} {G : Prop} (h : ∃ a b c d, p a b c d) (k : ∀ a b c d, p a b c d -> G) : G := h.elim fun a h => ex3 h (k a)
theorem ex5 {p : α -> β -> γ -> δ -> ε -> Prop} {G : Prop} (h : ∃ a b c d e, p a b c d e) (k : ∀ a b c d e, p a b c d e -> G) : G := h.elim fun a h => ex4 h (k a)
theorem ex6 {p : α -> β -> γ -> δ -> ε -> ζ -> Prop} {G : Prop} (h : ∃ a b c d e f, p a b c d e f) (k : ∀ a b c d e f, p a b c d e f -> G) : G := h.elim fun a h => ex5 h (k a)
theorem ex7 {p : α -> β -> γ -> δ -> ε -> ζ -> η -> Prop} {G : Prop} (h : ∃ a b c d e f g, p a b c d e f g) (k : ∀ a b c d e f g, p a b c d e f g -> G) : G := h.elim fun a h => ex6 h (k a)
theorem ex8 {p : α -> β -> γ -> δ -> ε -> ζ -> η -> θ -> Prop} {G : Prop} (h : ∃ a b c d e f g i, p a b c d e f g i) (k : ∀ a b c d e f g i, p a b c d e f g i -> G) : G := h.elim fun a h => ex7 h (k a)
theorem and2 {a0 a1 G : Prop} (h : a0 /\ a1) (k : a0 -> a1 -> G) : G := k h.1 h.2
theorem and3 {a0 a1 a2 G : Prop} (h : a0 /\ a1 /\ a2) (k : a0 -> a1 -> a2 -> G) : G := k h.1 h.2.1 h.2.2
theorem and4 {a0 a1 a2 a3 G : Prop} (h : a0 /\ a1 /\ a2 /\ a3) (k : a0 -> a1 -> a2 -> a3 -> G) : G := k h.1 h.2.1 h.2.2.1 h.2.2.2
theorem and5 {a0 a1 a2 a3 a4 G : Prop} (h : a0 /\ a1 /\ a2 /\ a3 /\ a4) (k : a0 -> a1 -> a2 -> a3 -> a4 -> G) : G := k h.1 h.2.1 h.2.2.1 h.2.2.2.1 h.2.2.2.2
theorem and6 {a0 a1 a2 a3 a4 a5 G : Prop} (h : a0 /\ a1 /\ a2 /\ a3 /\ a4 /\ a5) (k : a0 -> a1 -> a2 -> a3 -> a4 -> a5 -> G) : G := k h.1 h.2.1 h.2.2.1 h.2.2.2.1 h.2.2.2.2.1 h.2.2.2.2.2
theorem and7 {a0 a1 a2 a3 a4 a5 a6 G : Prop} (h : a0 /\ a1 /\ a2 /\ a3 /\ a4 /\ a5 /\ a6) (k : a0 -> a1 -> a2 -> a3 -> a4 -> a5 -> a6 -> G) : G := k h.1 h.2.1 h.2.2.1 h.2.2.2.1 h.2.2.2.2.1 h.2.2.2.2.2.1 h.2.2.2.2.2.2
theorem and8 {a0 a1 a2 a3 a4 a5 a6 a7 G : Prop} (h : a0 /\ a1 /\ a2 /\ a3 /\ a4 /\ a5 /\ a6 /\ a7) (k : a0 -> a1 -> a2 -> a3 -> a4 -> a5 -> a6 -> a7 -> G) : G := k h.1 h.2.1 h.2.2.1 h.2.2.2.1 h.2.2.2.2.1 h.2.2.2.2.2.1 h.2.2.2.2.2.2.1 h.2.2.2.2.2.2.2
theorem and9 {a0 a1 a2 a3 a4 a5 a6 a7 a8 G : Prop} (h : a0 /\ a1 /\ a2 /\ a3 /\ a4 /\ a5 /\ a6 /\ a7 /\ a8) (k : a0 -> a1 -> a2 -> a3 -> a4 -> a5 -> a6 -> a7 -> a8 -> G) : G := k h.1 h.2.1 h.2.2.1 h.2.2.2.1 h.2.2.2.2.1 h.2.2.2.2.2.1 h.2.2.2.2.2.2.1 h.2.2.2.2.2.2.2.1 h.2.2.2.2.2.2.2.2
theorem and10 {a0 a1 a2 a3 a4 a5 a6 a7 a8 a9 G : Prop} (h : a0 /\ a1 /\ a2 /\ a3 /\ a4 /\ a5 /\ a6 /\ a7 /\ a8 /\ a9) (k : a0 -> a1 -> a2 -> a3 -> a4 -> a5 -> a6 -> a7 -> a8 -> a9 -> G) : G := k h.1 h.2.1 h.2.2.1 h.2.2.2.1 h.2.2.2.2.1 h.2.2.2.2.2.1 h.2.2.2.2.2.2.1 h.2.2.2.2.2.2.2.1 h.2.2.2.2.2.2.2.2.1 h.2.2.2.2.2.2.2.2.2
theorem and11 {a0 a1 a2 a3 a4 a5 a6 a7 a8 a9 a10 G : Prop} (h : a0 /\ a1 /\ a2 /\ a3 /\ a4 /\ a5 /\ a6 /\ a7 /\ a8 /\ a9 /\ a10) (k : a0 -> a1 -> a2 -> a3 -> a4 -> a5 -> a6 -> a7 -> a8 -> a9 -> a10 -> G) : G := k h.1 h.2.1 h.2.2.1 h.2.2.2.1 h.2.2.2.2.1 h.2.2.2.2.2.1 h.2.2.2.2.2.2.1 h.2.2.2.2.2.2.2.1 h.2.2.2.2.2.2.2.2.1 h.2.2.2.2.2.2.2.2.2.1 h.2.2.2.2.2.2.2.2.2.2
theorem and12 {a0 a1 a2 a3 a4 a5 a6 a7 a8 a9 a10 a11 G : Prop} (h : a0 /\ a1 /\ a2 /\ a3 /\ a4 /\ a5 /\ a6 /\ a7 /\ a8 /\ a9 /\ a10 /\ a11) (k : a0 -> a1 -> a2 -> a3 -> a4 -> a5 -> a6 -> a7 -> a8 -> a9 -> a10 -> a11 -> G) : G := k h.1 h.2.1 h.2.2.1 h.2.2.2.1 h.2.2.2.2.1 h.2.2.2.2.2.1 h.2.2.2.2.2.2.1 h.2.2.2.2.2.2.2.1 h.2.2.2.2.2.2.2.2.1 h.2.2.2.2.2.2.2.2.2.1 h.2.2.2.2.2.2.2.2.2.2.1 h.2.2.2.2.2.2.2.2.2.2.2
theorem and13 {a0 a1 a2 a3 a4 a5 a6 a7 a8 a9 a10 a11 a12 G : Prop} (h : a0 /\ a1 /\ a2 /\ a3 /\ a4 /\ a5 /\ a6 /\ a7 /\ a8 /\ a9 /\ a10 /\ a11 /\ a12) (k : a0 -> a1 -> a2 -> a3 -> a4 -> a5 -> a6 -> a7 -> a8 -> a9 -> a10 -> a11 -> a12 -> G) : G := k h.1 h.2.1 h.2.2.1 h.2.2.2.1 h.2.2.2.2.1 h.2.2.2.2.2.1 h.2.2.2.2.2.2.1 h.2.2.2.2.2.2.2.1 h.2.2.2.2.2.2.2.2.1 h.2.2.2.2.2.2.2.2.2.1 h.2.2.2.2.2.2.2.2.2.2.1 h.2.2.2.2.2.2.2.2.2.2.2.1 h.2.2.2.2.2.2.2.2.2.2.2.2
theorem and14 {a0 a1 a2 a3 a4 a5 a6 a7 a8 a9 a10 a11 a12 a13 G : Prop} (h : a0 /\ a1 /\ a2 /\ a3 /\ a4 /\ a5 /\ a6 /\ a7 /\ a8 /\ a9 /\ a10 /\ a11 /\ a12 /\ a13) (k : a0 -> a1 -> a2 -> a3 -> a4 -> a5 -> a6 -> a7 -> a8 -> a9 -> a10 -> a11 -> a12 -> a13 -> G) : G := k h.1 h.2.1 h.2.2.1 h.2.2.2.1 h.2.2.2.2.1 h.2.2.2.2.2.1 h.2.2.2.2.2.2.1 h.2.2.2.2.2.2.2.1 h.2.2.2.2.2.2.2.2.1 h.2.2.2.2.2.2.2.2.2.1 h.2.2.2.2.2.2.2.2.2.2.1 h.2.2.2.2.2.2.2.2.2.2.2.1 h.2.2.2.2.2.2.2.2.2.2.2.2.1 h.2.2.2.2.2.2.2.2.2.2.2.2.2
theorem and15 {a0 a1 a2 a3 a4 a5 a6 a7 a8 a9 a10 a11 a12 a13 a14 G : Prop} (h : a0 /\ a1 /\ a2 /\ a3 /\ a4 /\ a5 /\ a6 /\ a7 /\ a8 /\ a9 /\ a10 /\ a11 /\ a12 /\ a13 /\ a14) (k : a0 -> a1 -> a2 -> a3 -> a4 -> a5 -> a6 -> a7 -> a8 -> a9 -> a10 -> a11 -> a12 -> a13 -> a14 -> G) : G := k h.1 h.2.1 h.2.2.1 h.2.2.2.1 h.2.2.2.2.1 h.2.2.2.2.2.1 h.2.2.2.2.2.2.1 h.2.2.2.2.2.2.2.1 h.2.2.2.2.2.2.2.2.1 h.2.2.2.2.2.2.2.2.2.1 h.2.2.2.2.2.2.2.2.2.2.1 h.2.2.2.2.2.2.2.2.2.2.2.1 h.2.2.2.2.2.2.2.2.2.2.2.2.1 h.2.2.2.2.2.2.2.2.2.2.2.2.2.1 h.2.2.2.2.2.2.2.2.2.2.2.2.2.2
theorem and16 {a0 a1 a2 a3 a4 a5 a6 a7 a8 a9 a10 a11 a12 a13 a14 a15 G : Prop} (h : a0 /\ a1 /\ a2 /\ a3 /\ a4 /\ a5 /\ a6 /\ a7 /\ a8 /\ a9 /\ a10 /\ a11 /\ a12 /\ a13 /\ a14 /\ a15) (k : a0 -> a1 -> a2 -> a3 -> a4 -> a5 -> a6 -> a7 -> a8 -> a9 -> a10 -> a11 -> a12 -> a13 -> a14 -> a15 -> G) : G := k h.1 h.2.1 h.2.2.1 h.2.2.2.1 h.2.2.2.2.1 h.2.2.2.2.2.1 h.2.2.2.2.2.2.1 h.2.2.2.2.2.2.2.1 h.2.2.2.2.2.2.2.2.1 h.2.2.2.2.2.2.2.2.2.1 h.2.2.2.2.2.2.2.2.2.2.1 h.2.2.2.2.2.2.2.2.2.2.2.1 h.2.2.2.2.2.2.2.2.2.2.2.2.1 h.2.2.2.2.2.2.2.2.2.2.2.2.2.1 h.2.2.2.2.2.2.2.2.2.2.2.2.2.2.1 h.2.2.2.2.2.2.2.2.2.2.2.2.2.2.2
theorem and17 {a0 a1 a2 a3 a4 a5 a6 a7 a8 a9 a10 a11 a12 a13 a14 a15 a16 G : Prop} (h : a0 /\ a1 /\ a2 /\ a3 /\ a4 /\ a5 /\ a6 /\ a7 /\ a8 /\ a9 /\ a10 /\ a11 /\ a12 /\ a13 /\ a14 /\ a15 /\ a16) (k : a0 -> a1 -> a2 -> a3 -> a4 -> a5 -> a6 -> a7 -> a8 -> a9 -> a10 -> a11 -> a12 -> a13 -> a14 -> a15 -> a16 -> G) : G := k h.1 h.2.1 h.2.2.1 h.2.2.2.1 h.2.2.2.2.1 h.2.2.2.2.2.1 h.2.2.2.2.2.2.1 h.2.2.2.2.2.2.2.1 h.2.2.2.2.2.2.2.2.1 h.2.2.2.2.2.2.2.2.2.1 h.2.2.2.2.2.2.2.2.2.2.1 h.2.2.2.2.2.2.2.2.2.2.2.1 h.2.2.2.2.2.2.2.2.2.2.2.2.1 h.2.2.2.2.2.2.2.2.2.2.2.2.2.1 h.2.2.2.2.2.2.2.2.2.2.2.2.2.2.1 h.2.2.2.2.2.2.2.2.2.2.2.2.2.2.2.1 h.2.2.2.2.2.2.2.2.2.2.2.2.2.2.2.2
theorem and18 {a0 a1 a2 a3 a4 a5 a6 a7 a8 a9 a10 a11 a12 a13 a14 a15 a16 a17 G : Prop} (h : a0 /\ a1 /\ a2 /\ a3 /\ a4 /\ a5 /\ a6 /\ a7 /\ a8 /\ a9 /\ a10 /\ a11 /\ a12 /\ a13 /\ a14 /\ a15 /\ a16 /\ a17) (k : a0 -> a1 -> a2 -> a3 -> a4 -> a5 -> a6 -> a7 -> a8 -> a9 -> a10 -> a11 -> a12 -> a13 -> a14 -> a15 -> a16 -> a17 -> G) : G := k h.1 h.2.1 h.2.2.1 h.2.2.2.1 h.2.2.2.2.1 h.2.2.2.2.2.1 h.2.2.2.2.2.2.1 h.2.2.2.2.2.2.2.1 h.2.2.2.2.2.2.2.2.1 h.2.2.2.2.2.2.2.2.2.1 h.2.2.2.2.2.2.2.2.2.2.1 h.2.2.2.2.2.2.2.2.2.2.2.1 h.2.2.2.2.2.2.2.2.2.2.2.2.1 h.2.2.2.2.2.2.2.2.2.2.2.2.2.1 h.2.2.2.2.2.2.2.2.2.2.2.2.2.2.1 h.2.2.2.2.2.2.2.2.2.2.2.2.2.2.2.1 h.2.2.2.2.2.2.2.2.2.2.2.2.2.2.2.2.1 h.2.2.2.2.2.2.2.2.2.2.2.2.2.2.2.2.2
theorem and19 {a0 a1 a2 a3 a4 a5 a6 a7 a8 a9 a10 a11 a12 a13 a14 a15 a16 a17 a18 G : Prop} (h : a0 /\ a1 /\ a2 /\ a3 /\ a4 /\ a5 /\ a6 /\ a7 /\ a8 /\ a9 /\ a10 /\ a11 /\ a12 /\ a13 /\ a14 /\ a15 /\ a16 /\ a17 /\ a18) (k : a0 -> a1 -> a2 -> a3 -> a4 -> a5 -> a6 -> a7 -> a8 -> a9 -> a10 -> a11 -> a12 -> a13 -> a14 -> a15 -> a16 -> a17 -> a18 -> G) : G := k h.1 h.2.1 h.2.2.1 h.2.2.2.1 h.2.2.2.2.1 h.2.2.2.2.2.1 h.2.2.2.2.2.2.1 h.2.2.2.2.2.2.2.1 h.2.2.2.2.2.2.2.2.1 h.2.2.2.2.2.2.2.2.2.1 h.2.2.2.2.2.2.2.2.2.2.1 h.2.2.2.2.2.2.2.2.2.2.2.1 h.2.2.2.2.2.2.2.2.2.2.2.2.1 h.2.2.2.2.2.2.2.2.2.2.2.2.2.1 h.2.2.2.2.2.2.2.2.2.2.2.2.2.2.1 h.2.2.2.2.2.2.2.2.2.2.2.2.2.2.2.1 h.2.2.2.2.2.2.2.2.2.2.2.2.2.2.2.2.1 h.2.2.2.2.2.2.2.2.2.2.2.2.2.2.2.2.2.1 h.2.2.2.2.2.2.2.2.2.2.2.2.2.2.2.2.2.2
theorem and20 {a0 a1 a2 a3 a4 a5 a6 a7 a8 a9 a10 a11 a12 a13 a14 a15 a16 a17 a18 a19 G : Prop} (h : a0 /\ a1 /\ a2 /\ a3 /\ a4 /\ a5 /\ a6 /\ a7 /\ a8 /\ a9 /\ a10 /\ a11 /\ a12 /\ a13 /\ a14 /\ a15 /\ a16 /\ a17 /\ a18 /\ a19) (k : a0 -> a1 -> a2 -> a3 -> a4 -> a5 -> a6 -> a7 -> a8 -> a9 -> a10 -> a11 -> a12 -> a13 -> a14 -> a15 -> a16 -> a17 -> a18 -> a19 -> G) : G := k h.1 h.2.1 h.2.2.1 h.2.2.2.1 h.2.2.2.2.1 h.2.2.2.2.2.1 h.2.2.2.2.2.2.1 h.2.2.2.2.2.2.2.1 h.2.2.2.2.2.2.2.2.1 h.2.2.2.2.2.2.2.2.2.1 h.2.2.2.2.2.2.2.2.2.2.1 h.2.2.2.2.2.2.2.2.2.2.2.1 h.2.2.2.2.2.2.2.2.2.2.2.2.1 h.2.2.2.2.2.2.2.2.2.2.2.2.2.1 h.2.2.2.2.2.2.2.2.2.2.2.2.2.2.1 h.2.2.2.2.2.2.2.2.2.2.2.2.2.2.2.1 h.2.2.2.2.2.2.2.2.2.2.2.2.2.2.2.2.1 h.2.2.2.2.2.2.2.2.2.2.2.2.2.2.2.2.2.1 h.2.2.2.2.2.2.2.2.2.2.2.2.2.2.2.2.2.2.1 h.2.2.2.2.2.2.2.2.2.2.2.2.2.2.2.2.2.2.2
end Obt
set_option Elab.async false
set_option linter.all false
set_option maxRecDepth 100000
namespace L2
open PySem PySem.Spec PyProof.Rows
abbrev Key := Sum Int Str
def keyIs : Key -> Value -> Bool
  | .inl k, v => Value.isInt k v
  | .inr x, v => Value.isStrOf x v
def keyH (w : World) : Key -> Int
  | .inl k => hashInt k
  | .inr x => hashStr w x
theorem keyIs_shape : ∀ {k : Key} {v : Value}, keyIs k v = true -> (∃ i t, k = Sum.inl i /\ v = Value.int i t) \/ (∃ x t, k = Sum.inr x /\ v = Value.str x t)
  | .inl i, v, h => by
    (refine Obt.ex1 (Value.isInt_shape (k := i) (v := v) h) fun t e => ?_)
    exact .inl ⟨i, t, rfl, e⟩
  | .inr x, v, h => by
    (refine Obt.ex1 (Value.isStrOf_shape (x := x) (v := v) h) fun t e => ?_)
    exact .inr ⟨x, t, rfl, e⟩
theorem keyIs_int (i : Int) (t : Tok) : keyIs (.inl i) (.int i t) = true := by simp [keyIs, Value.isInt]
theorem keyIs_str (x : Str) (t : Tok) : keyIs (.inr x) (.str x t) = true := by simp [keyIs, Value.isStrOf]
theorem key_ll (a b : Int) : decide ((Sum.inl a : Key) = Sum.inl b) = (a == b) := by
  by_cases e : a = b
  · subst e; simp
  · have h : ¬ (Sum.inl a : Key) = Sum.inl b := fun q => e (Sum.inl.inj q)
    rw [decide_eq_false h]
    exact (beq_eq_false_iff_ne.mpr e).symm
theorem key_rr (a b : Str) : decide ((Sum.inr a : Key) = Sum.inr b) = decide (a = b) := by
  by_cases e : a = b
  · subst e; simp
  · have h : ¬ (Sum.inr a : Key) = Sum.inr b := fun q => e (Sum.inr.inj q)
    rw [decide_eq_false h, decide_eq_false e]
theorem key_lr (a : Int) (b : Str) : decide ((Sum.inl a : Key) = Sum.inr b) = false := decide_eq_false (fun q => nomatch q)
theorem key_rl (a : Str) (b : Int) : decide ((Sum.inr a : Key) = Sum.inl b) = false := decide_eq_false (fun q => nomatch q)
def mixKind (prog : Program) (w : World) : PySem.KeyKind prog w Key where
  is := keyIs
  hash := keyH w
  inj := fun v a b ha hb => by
    rcases keyIs_shape ha with ⟨i, t, rfl, rfl⟩ | ⟨x, t, rfl, rfl⟩
    · rcases keyIs_shape hb with ⟨j, u, rfl, e⟩ | ⟨y, u, rfl, e⟩
      · injection e with e1 _; rw [e1]
      · exact nomatch e
    · rcases keyIs_shape hb with ⟨j, u, rfl, e⟩ | ⟨y, u, rfl, e⟩
      · exact nomatch e
      · injection e with e1 _; rw [e1]
  byValue := fun k v h => by
    rcases keyIs_shape h with ⟨i, t, rfl, rfl⟩ | ⟨x, t, rfl, rfl⟩ <;> rfl
  pyHash := fun hv h => by
    rcases keyIs_shape hv with ⟨i, t, rfl, rfl⟩ | ⟨x, t, rfl, rfl⟩
    · exact wpAny_pyHash_int h
    · exact wpAny_pyHash_str h
  eqBool := fun hu hv h => by
    rcases keyIs_shape hu with ⟨i, t, rfl, rfl⟩ | ⟨x, t, rfl, rfl⟩
    · rcases keyIs_shape hv with ⟨j, u, rfl, rfl⟩ | ⟨y, u, rfl, rfl⟩
      · rw [key_ll] at h; exact wpAny_eqBool_int h
      · rw [key_lr] at h; exact SeqAt.EqAt.int_str i t y u _ _ _ _ h
    · rcases keyIs_shape hv with ⟨j, u, rfl, rfl⟩ | ⟨y, u, rfl, rfl⟩
      · rw [key_rl] at h; exact SeqAt.EqAt.str_int x t j u _ _ _ _ h
      · rw [key_rr] at h; exact wpAny_eqBool_str h
  «strs» := fun k x t v h => by
    rcases keyIs_shape h with ⟨i, u, rfl, e⟩ | ⟨y, u, rfl, e⟩
    · exact nomatch e
    · injection e with e1 _
      subst e1
      cases v <;> rfl
theorem mixKind_int (prog : Program) (w : World) (i : Int) (t : Tok) : (mixKind prog w).is (.inl i) (.int i t) = true := keyIs_int i t
theorem mixKind_str (prog : Program) (w : World) (x : Str) (t : Tok) : (mixKind prog w).is (.inr x) (.str x t) = true := keyIs_str x t
end L2
namespace L2
open PySem PySem.Spec PyProof.Rows
inductive V where
  | non | bl (b : Bool) | int (i : Int) | str (x : Str) | byt (b : Array UInt8) | flt (b : UInt64) | ref (a : Addr) | ty (n : String)
  deriving DecidableEq
def RelV : V -> Value -> Prop
  | .non, u => u = Value.none
  | .bl b, u => u = Value.bool b
  | .int i, u => ∃ t, u = Value.int i t
  | .str x, u => ∃ t, u = Value.str x t
  | .byt b, u => ∃ t, u = Value.bytes b t
  | .flt b, u => ∃ t, u = Value.float b t
  | .ref a, u => u = Value.ref a
  | .ty n, u => u = Value.type n
abbrev Vals : List V -> List Value -> Prop := Paired RelV
theorem Vals.length {xs : List V} {us : List Value} (r : Vals xs us) : xs.length = us.length := Paired.length r
theorem Vals.get : ∀ {xs : List V} {us : List Value} {i : Nat} {x : V}, Vals xs us -> xs[i]? = some x -> ∃ u, us[i]? = some u /\ RelV x u
  | _, _, _, _, .nil, e => by simp at e
  | _, _, 0, _, .cons r _, e => by simp at e; subst e; exact ⟨_, rfl, r⟩
  | _, _, i + 1, x, .cons _ t, e => by
    (refine Obt.ex1 (Vals.get (i := i) (x := x) t (by simpa using e)) fun u h_0 => Obt.and2 h_0 fun h1 h2 => ?_; clear h_0)
    exact ⟨u, by simpa using h1, h2⟩
theorem Vals.set {x : V} {u : Value} (r : RelV x u) : ∀ {xs : List V} {us : List Value} (i : Nat), Vals xs us -> Vals (xs.set i x) (us.set i u)
  | _, _, _, .nil => .nil
  | _, _, 0, .cons _ t => .cons r t
  | _, _, i + 1, .cons q t => .cons q (Vals.set r i t)
theorem Vals.append : ∀ {xs ys : List V} {us ws : List Value}, Vals xs us -> Vals ys ws -> Vals (xs ++ ys) (us ++ ws)
  | _, _, _, _, .nil, s => s
  | _, _, _, _, .cons r t, s => .cons r (Vals.append t s)
theorem Vals.take : ∀ {xs : List V} {us : List Value} (n : Nat), Vals xs us -> Vals (xs.take n) (us.take n)
  | _, _, 0, _ => .nil
  | _, _, _ + 1, .nil => .nil
  | _, _, n + 1, .cons r t => .cons r (Vals.take n t)
theorem Vals.drop : ∀ {xs : List V} {us : List Value} (n : Nat), Vals xs us -> Vals (xs.drop n) (us.drop n)
  | _, _, 0, r => r
  | _, _, _ + 1, .nil => .nil
  | _, _, n + 1, .cons _ t => Vals.drop n t
def RelO : Option V -> Option Value -> Prop
  | some v, some u => RelV v u
  | none, none => True
  | _, _ => False
def KV {κ : Type} : List (κ × V) -> List (κ × Value) -> Prop := Paired fun (p : κ × V) (q : κ × Value) => p.1 = q.1 /\ RelV p.2 q.2
def kV : Key -> V
  | .inl i => .int i
  | .inr x => .str x
inductive HO where
    | lst (xs : List V)
    | tup (xs : List V)
    | dK (kvs : List (Key × V)) | dT (kvs : List (List Key × V))
    | set (S : Int -> Bool) (n : Nat)
    | ins (C dx : Addr) (fs : List (Str × V))
    | own (x : Addr)
    | xd (fs : List (Str × V))
    | met (f x : Addr)
    | rng (lo hi : Int)
    | frz (o : Obj) (u : HO)
    | tbl (ps : Array Value)
    | ext (φ : Heap -> Prop)
abbrev Hp := Addr -> Option HO
def upd (H : Hp) (a : Addr) (o : HO) : Hp := fun b => if b = a then some o else H b
theorem upd_same {H : Hp} {a : Addr} {o : HO} : upd H a o a = some o := by unfold upd; rw [if_pos rfl]
theorem upd_ne {H : Hp} {a b : Addr} {o : HO} (h : b ≠ a) : upd H a o b = H b := by unfold upd; rw [if_neg h]
theorem ne_of {H : Hp} {a b : Addr} {o u : HO} (h : H a = some o) (h' : H b = some u) (d : o ≠ u) : a ≠ b := by
  intro e; subst e; rw [h] at h'; exact d (Option.some.inj h')
theorem ne_of_none {H : Hp} {a b : Addr} {o : HO} (h : H a = some o) (h' : H b = none) : a ≠ b := by
  intro e; subst e; rw [h] at h'; cases h'
section
variable (P : Program) (w : World)
def ObjOk (H : Hp) (h : Heap) (a : Addr) : HO -> Prop
  | .lst xs => xs.length <= sizeLine /\ ∃ (its : List Value) (n : Nat), Vals xs its /\ h.get? a = some { cls := .type "list", data := .seq its.toArray n }
  | .tup xs => xs.length <= sizeLine /\ ∃ its : List Value, Vals xs its /\ IsTup h a its.toArray
  | .dK kvs => kvs.length <= sizeLine /\ (a == sysModules) = false /\ ∃ vs, KV kvs vs /\ h.DictOf (mixKind P w) a vs
  | .dT kvs => kvs.length <= sizeLine /\ (a == sysModules) = false /\ ∃ xs : List (List Key × Addr × Value),
      Paired (fun (p : List Key × V) (q : List Key × Addr × Value) => p.1 = q.1 /\ H q.2.1 = some (.tup (p.1.map kV)) /\ RelV p.2 q.2.2) kvs xs /\
      ∃ o es ep, h.get? a = some o /\ o.ExactDict /\ o.data = .dict es ep /\ es.toList = xs.map (entryOfKey (tupleKind (mixKind P w))) /\ (xs.map (·.1)).Nodup
  | .set S n => h.SetOf (intKind P w) a S n
  | .ins C dx fs => H dx = some (.own a) /\ fs.length <= 1000 /\ dx ≠ a /\ h.get? a = some (PySem.W.instObj C dx) /\
      ∃ mA, h.Ns1 dx mA /\ (∀ f, RelO (fs.lookup f) (mA f)) /\ PySem.Within mA (fs.map (·.1))
  | .own _ => ∃ o, h.get? a = some o
  | .xd fs => ∃ mA, h.Ns1 a mA /\ ∀ f, RelO (fs.lookup f) (mA f)
  | .rng lo hi => ∃ t u v, h.get? a = some { cls := .type "range", data := .fields #[.int lo t, .int hi u, .int 1 v] }
  | .frz o u => h.get? a = some o /\ ObjOk H h a u
  | .tbl ps => h.get? a = some { cls := .none, data := .fields ps }
  | .met f x => h.get? a = some (PySem.W.methodObj (.ref f) (.ref x))
  | .ext φ => φ h /\ (∃ o, h.get? a = some o) /\ ∀ h1 h2 : Heap, φ h1 -> (∀ o, h1.get? a = some o -> h2.get? a = some o) -> φ h2
def HOk (H : Hp) (h : Heap) : Prop := ∀ a o, H a = some o -> ObjOk P w H h a o
end
section
variable {P : Program} {w : World} {H H' : Hp} {h h' : Heap} {a : Addr} {o : HO}
theorem ObjOk.lt (x : ObjOk P w H h a o) : a < h.objs.size := by
  cases o with
  | lst xs => (refine Obt.and2 x fun _ t_0 => Obt.ex2 t_0 fun _ _ h_1 => Obt.and2 h_1 fun _ e => ?_; clear h_1 t_0 x); exact Heap.lt_size e
  | tup xs => (refine Obt.and2 x fun _ t_0 => Obt.ex1 t_0 fun _ h_1 => Obt.and2 h_1 fun _ p => ?_; clear h_1 t_0 x); exact p.lt
  | dK kvs => (refine Obt.and3 x fun _ _ t_0 => Obt.ex1 t_0 fun _ h_1 => Obt.and2 h_1 fun _ t_2 => Obt.ex3 t_2 fun o _ _ h_3 => Obt.and2 h_3 fun e _ => ?_; clear h_3 t_2 h_1 t_0 x); exact Heap.lt_size e
  | dT kvs => (refine Obt.and3 x fun _ _ t_0 => Obt.ex1 t_0 fun _ h_1 => Obt.and2 h_1 fun _ t_2 => Obt.ex3 t_2 fun o _ _ h_3 => Obt.and2 h_3 fun e _ => ?_; clear h_3 t_2 h_1 t_0 x); exact Heap.lt_size e
  | set S n => (refine Obt.ex4 x fun o _ _ _ h_0 => Obt.and2 h_0 fun e _ => ?_; clear h_0 x); exact Heap.lt_size e
  | ins C dx fs => (refine Obt.and5 x fun _ _ _ e _ => ?_; clear x); exact Heap.lt_size e
  | own y => (refine Obt.ex1 x fun _ e => ?_; clear x); exact Heap.lt_size e
  | xd fs => (refine Obt.ex1 x fun _ h_0 => Obt.and2 h_0 fun t_1 _ => Obt.ex3 t_1 fun _ _ _ h_2 => Obt.and2 h_2 fun e _ => ?_; clear h_2 t_1 h_0 x); exact Heap.lt_size e
  | rng lo hi => (refine Obt.ex3 x fun _ _ _ e => ?_; clear x); exact Heap.lt_size e
  | frz ob u => (refine Obt.and2 x fun e _ => ?_; clear x); exact Heap.lt_size e
  | tbl ps => exact Heap.lt_size (show h.get? a = some _ from x)
  | met f y => exact Heap.lt_size (show h.get? a = some _ from x)
  | ext φ => (refine Obt.and3 x fun _ t_0 _ => Obt.ex1 t_0 fun _ e => ?_; clear t_0 x); exact Heap.lt_size e
theorem Paired.mapP {α β : Type} {F G : α -> β -> Prop} : ∀ {l₁ : List α} {l₂ : List β}, Paired F l₁ l₂ -> (∀ a b, F a b -> G a b) -> Paired G l₁ l₂
  | _, _, .nil, _ => .nil
  | _, _, .cons r t, f => .cons (f _ _ r) (Paired.mapP t f)
theorem ObjOk.stay (x : ObjOk P w H h a o) (k : ∀ b u, (b = a \/ H b = some (.own a)) -> h.get? b = some u -> h'.get? b = some u)
    (ho : ∀ b, H b = some (.own a) -> H' b = some (.own a)) (ht : ∀ b xs, H b = some (.tup xs) -> H' b = some (.tup xs)) : ObjOk P w H' h' a o := by
  induction o with
  | lst xs => (refine Obt.and2 x fun z t_0 => Obt.ex2 t_0 fun its n h_1 => Obt.and2 h_1 fun r e => ?_; clear h_1 t_0 x); exact ⟨z, its, n, r, k _ _ (.inl rfl) e⟩
  | tup xs => (refine Obt.and2 x fun z t_0 => Obt.ex1 t_0 fun its h_1 => Obt.and2 h_1 fun r t_2 => Obt.ex1 t_2 fun ob h_3 => Obt.and2 h_3 fun e c => ?_; clear h_3 t_2 h_1 t_0 x); exact ⟨z, its, r, ob, k _ _ (.inl rfl) e, c⟩
  | dK kvs => (refine Obt.and3 x fun z y t_0 => Obt.ex1 t_0 fun vs h_1 => Obt.and2 h_1 fun r t_2 => Obt.ex3 t_2 fun ob es ep h_3 => Obt.and2 h_3 fun e c => ?_; clear h_3 t_2 h_1 t_0 x); exact ⟨z, y, vs, r, ob, es, ep, k _ _ (.inl rfl) e, c⟩
  | dT kvs =>
    (refine Obt.and3 x fun z y t_0 => Obt.ex1 t_0 fun xs h_1 => Obt.and2 h_1 fun r t_2 => Obt.ex3 t_2 fun ob es ep h_3 => Obt.and2 h_3 fun e c => ?_; clear h_3 t_2 h_1 t_0 x)
    exact ⟨z, y, xs, Paired.mapP r fun p q z => ⟨z.1, ht _ _ z.2.1, z.2.2⟩, ob, es, ep, k _ _ (.inl rfl) e, c⟩
  | set S n => (refine Obt.ex4 x fun ob es ep t h_0 => Obt.and2 h_0 fun e c => ?_; clear h_0 x); exact ⟨ob, es, ep, t, k _ _ (.inl rfl) e, c⟩
  | ins C dx fs =>
    (refine Obt.and5 x fun d z ne e t_0 => Obt.ex1 t_0 fun mA h_1 => Obt.and2 h_1 fun t_2 r => Obt.ex3 t_2 fun od es ep h_3 => Obt.and2 h_3 fun e2 c => ?_; clear h_3 t_2 h_1 t_0 x)
    exact ⟨ho _ d, z, ne, k _ _ (.inl rfl) e, mA, ⟨od, es, ep, k _ _ (.inr d) e2, c⟩, r⟩
  | own y => (refine Obt.ex1 x fun ob e => ?_; clear x); exact ⟨ob, k _ _ (.inl rfl) e⟩
  | xd fs => (refine Obt.ex1 x fun mA h_0 => Obt.and2 h_0 fun t_1 r => Obt.ex3 t_1 fun od es ep h_2 => Obt.and2 h_2 fun e c => ?_; clear h_2 t_1 h_0 x); exact ⟨mA, ⟨od, es, ep, k _ _ (.inl rfl) e, c⟩, r⟩
  | rng lo hi => (refine Obt.ex3 x fun t u v e => ?_; clear x); exact ⟨t, u, v, k _ _ (.inl rfl) e⟩
  | frz ob u ih => (refine Obt.and2 x fun e q => ?_; clear x); exact ⟨k _ _ (.inl rfl) e, ih q⟩
  | tbl ps =>
    have e : h.get? a = some { cls := .none, data := .fields ps } := x
    show h'.get? a = some { cls := .none, data := .fields ps }
    exact k a _ (.inl rfl) e
  | met f y =>
    have e : h.get? a = some (PySem.W.methodObj (.ref f) (.ref y)) := x
    show h'.get? a = some (PySem.W.methodObj (.ref f) (.ref y))
    exact k a _ (.inl rfl) e
  | ext φ => (refine Obt.and3 x fun p t_0 st => Obt.ex1 t_0 fun o e => ?_; clear t_0 x); exact ⟨st _ _ p fun o q => k _ _ (.inl rfl) q, ⟨o, k _ _ (.inl rfl) e⟩, st⟩
theorem HOk.lt (x : HOk P w H h) (e : H a = some o) : a < h.objs.size := (x a o e).lt
theorem HOk.fresh (x : HOk P w H h) (e : h.objs.size <= a) : H a = none := by
  cases q : H a with
  | none => rfl
  | some u => exact absurd (Nat.lt_of_lt_of_le (x.lt q) e) (Nat.lt_irrefl _)
theorem HOk.kept (x : HOk P w H h) (k : ∀ b u, h.get? b = some u -> h'.get? b = some u) : HOk P w H h' := fun a o e =>
  (x a o e).stay (fun b u _ q => k b u q) (fun _ q => q) fun _ _ q => q
theorem HOk.laid (x : HOk P w H h) (k : ∀ b u, h.get? b = some u -> h'.get? b = some u) (hp : h.objs.size <= a) (new : ObjOk P w (upd H a o) h' a o) : HOk P w (upd H a o) h' := fun b u e => by
  have hn := x.fresh hp
  by_cases hb : b = a
  · subst hb; rw [upd_same] at e; cases e; exact new
  · rw [upd_ne hb] at e
    exact (x b u e).stay (fun c v _ q => k c v q) (fun c q => by rw [upd_ne (ne_of_none q hn)]; exact q) fun c xs q => by rw [upd_ne (ne_of_none q hn)]; exact q
end
def Rd (H : Hp) (a : Addr) (u : HO) : Prop := H a = some u \/ ∃ o, H a = some (.frz o u)
theorem Rd.ok {P : Program} {w : World} {H : Hp} {h : Heap} {a : Addr} {u : HO} (r : Rd H a u) (x : HOk P w H h) : ObjOk P w H h a u := by
  rcases r with r | ⟨o, r⟩
  · exact x a u r
  · (refine Obt.and2 (x a _ r) fun _ q => ?_)
    exact q
def Mut : Option HO -> Prop
  | some (.lst _) => True
  | some (.dK _) => True
  | some (.dT _) => True
  | some (.set _ _) => True
  | some (.ins _ _ _) => True
  | some (.ext _) => True
  | _ => False
section
variable {P : Program} {w : World} {H : Hp} {h h' : Heap} {x e : Addr} {o' : HO}
theorem HOk.write (ok : HOk P w H h) (mu : Mut (H x)) (he : e = x \/ H e = some (.own x)) (k : ∀ b u, b ≠ e -> h.get? b = some u -> h'.get? b = some u) (heo : ∃ u, h'.get? e = some u)
    (new : ObjOk P w (upd H x o') h' x o') : HOk P w (upd H x o') h' := fun b u q => by
  have nown : ∀ c y, H c = some (.own y) -> c ≠ x := fun c y r z => by subst z; rw [r] at mu; exact mu
  have ntup : ∀ c xs, H c = some (.tup xs) -> c ≠ x := fun c xs r z => by subst z; rw [r] at mu; exact mu
  by_cases hb : b = x
  · subst hb; rw [upd_same] at q; cases q; exact new
  · rw [upd_ne hb] at q
    by_cases hbe : b = e
    · have q' : H b = some (.own x) := by
        rcases he with z | z
        · exact absurd (hbe.trans z) hb
        · rw [hbe]; exact z
      rw [q] at q'; cases q'
      (refine Obt.ex1 heo fun v hv => ?_; clear heo)
      exact ⟨v, by rw [hbe]; exact hv⟩
    · refine (ok b u q).stay (fun c v hc r => k c v ?_ r) (fun c r => by rw [upd_ne (nown c b r)]; exact r) fun c xs r => by rw [upd_ne (ntup c xs r)]; exact r
      rcases hc with rfl | hc
      · exact hbe
      · rintro rfl
        rcases he with z | z
        · exact nown c b hc z
        · rw [hc] at z; cases z; exact hb rfl
end
structure Un (fs ex : List Addr) (H H' : Hp) (h h' : Heap) : Prop where
  keep : ∀ b o, h.get? b = some o -> H b = none -> b ∉ fs -> b ∉ ex -> h'.get? b = some o
  slot : ∀ b o, h.get? b = some o -> H b = none -> b ∈ fs -> b ∉ ex -> ∃ sl, h'.get? b = some { o with slots := sl }
  free : ∀ b o, h.get? b = some o -> H b = none -> b ∉ ex -> H' b = none
  there : ∀ b o, h.get? b = some o -> b ∉ ex -> ∃ o', h'.get? b = some o'
  tups : ∀ b xs, H b = some (.tup xs) -> H' b = some (.tup xs)
  frzs : ∀ b o u, H b = some (.frz o u) -> H' b = some (.frz o u)
  tbls : ∀ b ps, H b = some (.tbl ps) -> ∃ more, H' b = some (.tbl (ps ++ more))
section
variable {fs fs' ex ex' : List Addr} {H H1 H2 : Hp} {h h1 h2 h' : Heap} {a x e : Addr} {o : HO}
theorem Un.any (u : Un fs ex H H1 h h1) {b : Addr} {ob : Obj} (q : h.get? b = some ob) (n : H b = none) (hx : b ∉ ex) : ∃ sl, h1.get? b = some { ob with slots := sl } := by
  by_cases hb : b ∈ fs
  · exact u.slot b ob q n hb hx
  · exact ⟨ob.slots, u.keep b ob q n hb hx⟩
theorem Un.kept (k : ∀ b u, h.get? b = some u -> h'.get? b = some u) : Un fs ex H H h h' :=
  ⟨fun b ob q _ _ _ => k b ob q, fun b ob q _ _ _ => ⟨ob.slots, k b ob q⟩, fun _ _ _ n _ => n, fun b ob q _ => ⟨ob, k b ob q⟩, fun _ _ q => q, fun _ _ _ q => q, fun _ ps q => ⟨#[], by rw [q]; simp⟩⟩
theorem Un.refl : Un fs ex H H h h := Un.kept fun _ _ q => q
theorem Un.laid (k : ∀ b u, h.get? b = some u -> h'.get? b = some u) (hp : h.objs.size <= a) (hn : H a = none) : Un fs ex H (upd H a o) h h' where
  keep := fun b u q _ _ _ => k b u q
  slot := fun b u q _ _ _ => ⟨u.slots, k b u q⟩
  free := fun b u q n _ => by rw [upd_ne (Nat.ne_of_lt (Nat.lt_of_lt_of_le (Heap.lt_size q) hp))]; exact n
  there := fun b u q _ => ⟨u, k b u q⟩
  tups := fun b xs q => by rw [upd_ne (ne_of_none q hn)]; exact q
  frzs := fun b u xs q => by rw [upd_ne (ne_of_none q hn)]; exact q
  tbls := fun b ps q => ⟨#[], by rw [upd_ne (ne_of_none q hn), q]; simp⟩
theorem Un.write (mu : Mut (H x)) (he : e = x \/ H e = some (.own x)) (k : ∀ b u, b ≠ e -> h.get? b = some u -> h'.get? b = some u) (heo : ∃ u, h'.get? e = some u) : Un fs ex H (upd H x o) h h' := by
  have hx : ∀ b, H b = none -> b ≠ x := fun b n z => by subst z; rw [n] at mu; exact mu
  have hb : ∀ b, H b = none -> b ≠ e := fun b n z => by
    subst z
    rcases he with r | r
    · exact hx b n r
    · rw [n] at r; cases r
  have hm : ∀ b u, H b = some u -> ¬ Mut (some u) -> b ≠ x := fun b u q nm z => by subst z; rw [q] at mu; exact nm mu
  refine ⟨fun b u q n _ _ => k b u (hb b n) q, fun b u q n _ _ => ⟨u.slots, k b u (hb b n) q⟩, fun b u q n _ => by rw [upd_ne (hx b n)]; exact n, fun b u q _ => ?_,
    fun b xs q => by rw [upd_ne (hm b _ q fun z => z)]; exact q, fun b u xs q => by rw [upd_ne (hm b _ q fun z => z)]; exact q, fun b ps q => ⟨#[], by rw [upd_ne (hm b _ q fun z => z), q]; simp⟩⟩
  by_cases hbe : b = e
  · subst hbe; exact heo
  · exact ⟨u, k b u hbe q⟩
end
def trk (h : Heap) (H : Hp) : List Addr := (List.range h.objs.size).filter fun a => (H a).isSome
def hidT (h : Heap) (H : Hp) : Heap := PySem.W.hideAll h (trk h H)
theorem hidT_size (h : Heap) (H : Hp) : (hidT h H).objs.size = h.objs.size := PySem.W.hideAll_size _ _
theorem hidT_get {h : Heap} {H : Hp} {b : Addr} {o : Obj} (e : h.get? b = some o) (n : H b = none) : (hidT h H).get? b = some o :=
  PySem.W.hideAll_get _ e fun hm => by
    have q : (H b).isSome = true := (List.mem_filter.mp hm).2
    rw [n] at q; simp at q
theorem of_hidT {h : Heap} {H : Hp} {b : Addr} {o : Obj} (e : (hidT h H).get? b = some o) : h.get? b = some o /\ H b = none := by
  have e' : h.get? b = some o := PySem.W.of_hideAll (trk h H) e
  refine ⟨e', ?_⟩
  cases q : H b with
  | none => rfl
  | some x =>
    have hm : b ∈ trk h H := List.mem_filter.mpr ⟨List.mem_range.mpr (Heap.lt_size e'), by simp [q]⟩
    have z : (hidT h H).get? b = none := PySem.W.hideAll_none (trk h H) hm
    rw [z] at e; cases e
def allNews (g h : Heap) (L : Addr) : List (Addr × Obj) := (List.range h.objs.size).filterMap fun a => if a = L \/ (g.get? a).isSome = true then none else (h.get? a).map fun o => (a, o)
def rest (g h : Heap) (L d : Addr) : List (Addr × Obj) := (allNews g h L).filter fun p => decide (p.1 ≠ d)
end L2
namespace L2
open PySem PySem.Spec PyProof.Rows
structure Mod (K : PySem.W.Frag) (mg : Str -> Option Value) (base : Heap) : Prop where
  kin : K.In base
  glob : base.Ns mainGlobals mg
  blt : ∃ mb, base.Ns builtinsNs mb /\ ∀ x : Str, x ≠ "__name__" -> mb x = bootBuiltins x
  nolimit : base.NoLimit
structure Cx where
  prog : Program
  w : World
  K : PySem.W.Frag
  mg : Str -> Option Value
  base : Heap
  A : Around
  N : List Str
  s₀ : Shared
  H₀ : Hp
  env : Env
  outer : List Env
  stack : List Env
  ex : List Addr
  fn : Str -> Bool
  calm : Bool
  pn : List (Addr × Obj)
  xe : Value -> Shared -> Prop
def frs (l : List Env) : List Addr := l.filterMap (·.frame)
abbrev Cx.fs (X : Cx) : List Addr := frs X.outer
def Vis (sc : Scope) (x : Str) : Prop := sc.names.lookup x = some .local \/ sc.names.lookup x = some .cell \/ sc.names.lookup x = some .free
def Loc (sc : Scope) (x : Str) : Prop := sc.names.lookup x = some .local \/ sc.names.lookup x = some .cell
def Look (env : Env) (h : Heap) (m : Str -> Option Value) (x : Str) (u : Value) : Prop :=
  (env.kindOf x = some .local /\ m x = some u) \/ ((env.kindOf x = some .cell \/ env.kindOf x = some .free) /\ ∃ c, env.cells.lookup x = some c /\ h.IsCell c (some u))
structure Cx.Ok (X : Cx) : Prop where
  mod : Mod X.K X.mg X.base
  kind : X.env.scope.kind = .function
  glob : X.env.globals = mainGlobals
  blt : X.env.builtins = builtinsNs
  above : X.s₀.heap.objs.size <= X.env.locals
  inj : ∀ x y c, X.env.cells.lookup x = some c -> X.env.cells.lookup y = some c -> x = y
  has : ∀ x, (X.env.kindOf x = some .cell \/ X.env.kindOf x = some .free) -> ∃ c, X.env.cells.lookup x = some c
  cab : ∀ x c, X.fn x = true -> X.env.cells.lookup x = some c -> X.s₀.heap.objs.size <= c
  hd : X.calm = true -> X.A.handled = none
  frames : X.A.frames = some X.stack
  stk : X.stack = X.outer \/ (X.stack = X.env :: X.outer /\ X.env.frame = some X.env.locals)
  exf : ∀ b ∈ X.ex, b ≠ X.env.locals /\ ∀ x c, X.env.cells.lookup x = some c -> c ≠ b
  bs : ∀ b o, X.base.get? b = some o -> X.s₀.heap.get? b = some o /\ X.H₀ b = none
  bsz : X.base.objs.size <= X.s₀.heap.objs.size
  noex : ∀ b o, X.base.get? b = some o -> b ∉ X.ex
  exfs : ∀ b ∈ X.ex, b ∉ X.fs
  funs : X.s₀.heap.FunFrames X.base X.outer
  frf : ∀ b ∈ X.fs, X.H₀ b = none
structure Inv (X : Cx) (pins : List (Addr × Obj)) (σ : List (Option V)) (H : Hp) (s : Shared) : Prop where
  ok : X.Ok
  os : s.os = X.s₀.os
  bare : AllBare s.gens
  base : Un X.fs X.ex X.H₀ H X.s₀.heap s.heap
  loc : ∃ m, s.heap.Ns X.env.locals m /\ ∀ (i : Nat) (x : Str) (v : V), X.N[i]? = some x -> σ[i]? = some (some v) -> Vis X.env.scope x -> ∃ u, RelV v u /\ Look X.env s.heap m x u
  cell : ∀ x c, X.env.cells.lookup x = some c -> ∃ v, s.heap.IsCell c v
  free : H X.env.locals = none
  freeC : ∀ x c, X.env.cells.lookup x = some c -> H c = none
  pin : ∀ p ∈ X.pn ++ pins, s.heap.get? p.1 = some p.2 /\ H p.1 = none /\ p.1 ≠ X.env.locals /\ p.1 ∉ X.fs /\ ∀ v, p.2.data ≠ .cell v
  hok : HOk X.prog X.w H s.heap
  len : σ.length = X.N.length
section
variable {X : Cx} {pins : List (Addr × Obj)} {σ : List (Option V)} {H H' : Hp} {s : Shared} {h' : Heap}
theorem Cx.Ok.nofr (ok : X.Ok) {b : Addr} {o : Obj} (e : X.base.get? b = some o) : b ∉ X.fs := fun hb => by
  have := (ok.funs.mem hb).1
  rw [e] at this; cases this
theorem Inv.bs (I : Inv X pins σ H s) : ∀ b o, X.base.get? b = some o -> s.heap.get? b = some o /\ H b = none := fun b o e =>
  ⟨I.base.keep b o (I.ok.bs b o e).1 (I.ok.bs b o e).2 (I.ok.nofr e) (I.ok.noex b o e), I.base.free b o (I.ok.bs b o e).1 (I.ok.bs b o e).2 (I.ok.noex b o e)⟩
theorem Inv.bk (I : Inv X pins σ H s) : ∀ b o, X.base.get? b = some o -> s.heap.get? b = some o := fun b o e => (I.bs b o e).1
theorem Inv.mod (I : Inv X pins σ H s) : Mod X.K X.mg X.base := I.ok.mod
theorem Inv.kIn (I : Inv X pins σ H s) : X.K.In s.heap := I.ok.mod.kin.keeps I.bk
theorem Inv.lt (I : Inv X pins σ H s) : X.env.locals < s.heap.objs.size := let ⟨_, hn, _⟩ := I.loc; hn.lt
theorem Inv.sz (I : Inv X pins σ H s) : X.s₀.heap.objs.size <= s.heap.objs.size := Nat.le_trans I.ok.above (Nat.le_of_lt I.lt)
theorem Inv.nofs (I : Inv X pins σ H s) {a : Addr} (h : s.heap.objs.size <= a) : a ∉ X.fs := fun hb => by
  (refine Obt.and2 (I.ok.funs.mem hb) fun _ t_0 => Obt.ex1 t_0 fun o h_1 => Obt.and2 h_1 fun ho _ => ?_; clear h_1 t_0)
  exact absurd (Nat.lt_of_lt_of_le (Heap.lt_size ho) (Nat.le_trans I.sz h)) (Nat.lt_irrefl _)
theorem Inv.cne (I : Inv X pins σ H s) : ∀ x c, X.env.cells.lookup x = some c -> c ≠ X.env.locals := fun x c e z => by
  (refine Obt.ex1 (I.cell x c e) fun v h_0 => Obt.ex1 h_0 fun o h_1 => Obt.and2 h_1 fun ho hd => ?_; clear h_1 h_0)
  (refine Obt.ex1 I.loc fun m h_0 => Obt.and2 h_0 fun t_1 _ => Obt.ex3 t_1 fun o' es ep h_2 => Obt.and3 h_2 fun ho' hd' _ => ?_; clear h_2 t_1 h_0)
  rw [z, ho'] at ho; cases ho; rw [hd'] at hd; cases hd
theorem Inv.funs (I : Inv X pins σ H s) : s.heap.FunFrames X.base X.outer := by
  have all : ∀ (l : List Env), (∀ b ∈ frs l, b ∈ X.fs) -> X.s₀.heap.FunFrames X.base l -> s.heap.FunFrames X.base l := by
    intro l
    induction l with
    | nil => intro _ _; trivial
    | cons env r ih =>
      intro hs hl
      (refine Obt.and3 hl fun hk t_0 hr => Obt.ex2 t_0 fun L o h_1 => Obt.and4 h_1 fun hf hn ho hd => ?_; clear h_1 t_0 hl)
      have hL : L ∈ X.fs := hs L (by unfold frs; rw [List.filterMap_cons, hf]; exact List.mem_cons_self)
      (refine Obt.ex1 (I.base.slot L o ho (I.ok.frf L hL) hL fun z => I.ok.exfs L z hL) fun sl e => ?_)
      exact ⟨hk, ⟨L, _, hf, hn, e, hd⟩, ih (fun b hb => hs b (by unfold frs; rw [List.filterMap_cons, hf]; exact List.mem_cons_of_mem _ hb)) hr⟩
  exact all X.outer (fun _ hb => hb) I.ok.funs
theorem Inv.stack (I : Inv X pins σ H s) : s.heap.FunFrames X.base X.stack := by
  rcases I.ok.stk with e | ⟨e, hf⟩
  · rw [e]; exact I.funs
  · rw [e]
    (refine Obt.ex1 I.loc fun m h_0 => Obt.and2 h_0 fun hn _ => ?_; clear h_0)
    refine .cons (by rw [I.ok.kind]; decide) hf hn ?_ I.funs
    exact Heap.get?_none_of_le (Nat.le_trans I.ok.bsz I.ok.above)
theorem Inv.stkSub (I : Inv X pins σ H s) : ∀ b ∈ frs X.stack, b ∈ X.env.locals :: X.fs := fun b hb => by
  rcases I.ok.stk with e | ⟨e, hf⟩
  · rw [e] at hb; exact List.mem_cons_of_mem _ hb
  · rw [e] at hb
    unfold frs at hb
    rw [List.filterMap_cons, hf] at hb
    exact hb
theorem Inv.stkFree (I : Inv X pins σ H s) : ∀ b ∈ frs X.stack, H b = none := fun b hb => by
  rcases List.mem_cons.mp (I.stkSub b hb) with e | hb
  · rw [e]; exact I.free
  · (refine Obt.and2 (I.ok.funs.mem hb) fun _ t_0 => Obt.ex1 t_0 fun o h_1 => Obt.and2 h_1 fun ho _ => ?_; clear h_1 t_0)
    exact I.base.free b o ho (I.ok.frf b hb) fun z => I.ok.exfs b z hb
theorem Inv.step {g' : Array GenState} {t' : Nat} {d' : Drawn} {ch : List Addr} (I : Inv X pins σ H s)
    (hch : ∀ b ∈ ch, (b ∈ X.ex \/ X.s₀.heap.objs.size <= b) /\ b ≠ X.env.locals /\ (∀ x c, X.env.cells.lookup x = some c -> c ≠ b) /\ ∀ p ∈ X.pn ++ pins, p.1 ≠ b)
    (keep : ∀ b o, b ≠ X.env.locals -> b ∉ X.fs -> b ∉ ch -> s.heap.get? b = some o -> H b = none -> h'.get? b = some o)
    (slot : ∀ b o, b ≠ X.env.locals -> b ∈ X.fs -> b ∉ ch -> s.heap.get? b = some o -> H b = none -> ∃ sl, h'.get? b = some { o with slots := sl }) (free : ∀ b o, b ∉ ch -> s.heap.get? b = some o -> H b = none -> H' b = none)
    (there : ∀ b o, b ∉ ch -> s.heap.get? b = some o -> ∃ o', h'.get? b = some o')
    (tups : ∀ b xs, H b = some (.tup xs) -> H' b = some (.tup xs)) (frzs : ∀ b o u, H b = some (.frz o u) -> H' b = some (.frz o u)) (tbls : ∀ b ps, H b = some (.tbl ps) -> ∃ more, H' b = some (.tbl (ps ++ more)))
    (ns : ∀ m, s.heap.Ns X.env.locals m -> h'.Ns X.env.locals m) (hok : HOk X.prog X.w H' h') (hg : AllBare g') :
    Inv X pins σ H' { s with heap := h', gens := g', drawn := d', toks := t' } := by
  have neL : ∀ b o, X.s₀.heap.get? b = some o -> b ≠ X.env.locals := fun b o e => Nat.ne_of_lt (Nat.lt_of_lt_of_le (Heap.lt_size e) I.ok.above)
  have neC : ∀ b o, X.s₀.heap.get? b = some o -> b ∉ X.ex -> b ∉ ch := fun b o e hx hb => by
    rcases (hch b hb).1 with z | z
    · exact hx z
    · exact absurd (Nat.lt_of_lt_of_le (Heap.lt_size e) z) (Nat.lt_irrefl _)
  have cellK : ∀ x c, X.env.cells.lookup x = some c -> ∀ v, s.heap.IsCell c v -> h'.IsCell c v := fun x c e v ⟨o, ho, hd⟩ => by
    have nch : c ∉ ch := fun z => (hch c z).2.2.1 x c e rfl
    by_cases hc : c ∈ X.fs
    · (refine Obt.ex1 (slot c o (I.cne x c e) hc nch ho (I.freeC x c e)) fun sl q => ?_)
      exact ⟨_, q, hd⟩
    · exact ⟨o, keep c o (I.cne x c e) hc nch ho (I.freeC x c e), hd⟩
  refine ⟨I.ok, I.os, hg, ⟨fun b o e n hb hx => ?_, fun b o e n hb hx => ?_, fun b o e n hx => ?_, fun b o e hx => ?_, fun b xs e => tups b xs (I.base.tups b xs e), fun b o xs e => frzs b o xs (I.base.frzs b o xs e), fun b ps e => ?_⟩, ?_, fun x c e => ?_, ?_, fun x c e => ?_, fun p hp => ?_, hok, I.len⟩
  · exact keep b o (neL b o e) hb (neC b o e hx) (I.base.keep b o e n hb hx) (I.base.free b o e n hx)
  · (refine Obt.ex1 (I.base.slot b o e n hb hx) fun sl e1 => ?_)
    (refine Obt.ex1 (slot b _ (neL b o e) hb (neC b o e hx) e1 (I.base.free b o e n hx)) fun sl' e2 => ?_)
    exact ⟨sl', e2⟩
  · (refine Obt.ex1 (I.base.there b o e hx) fun o' e1 => ?_)
    exact free b o' (neC b o e hx) e1 (I.base.free b o e n hx)
  · (refine Obt.ex1 (I.base.there b o e hx) fun o' e1 => ?_)
    exact there b o' (neC b o e hx) e1
  · (refine Obt.ex1 (I.base.tbls b ps e) fun m1 e1 => ?_)
    (refine Obt.ex1 (tbls b _ e1) fun m2 e2 => ?_)
    exact ⟨m1 ++ m2, by rw [e2, Array.append_assoc]⟩
  · (refine Obt.ex1 I.loc fun m h_0 => Obt.and2 h_0 fun hn hl => ?_; clear h_0)
    refine ⟨m, ns m hn, fun i x v e1 e2 e3 => ?_⟩
    (refine Obt.ex1 (hl i x v e1 e2 e3) fun u h_0 => Obt.and2 h_0 fun r l => ?_; clear h_0)
    refine ⟨u, r, ?_⟩
    rcases l with l | ⟨k, c, e, z⟩
    · exact .inl l
    · exact .inr ⟨k, c, e, cellK x c e _ z⟩
  · (refine Obt.ex1 (I.cell x c e) fun v z => ?_)
    exact ⟨v, cellK x c e v z⟩
  · (refine Obt.ex1 I.loc fun m h_0 => Obt.and2 h_0 fun t_1 _ => Obt.ex3 t_1 fun o _ _ h_2 => Obt.and2 h_2 fun ho _ => ?_; clear h_2 t_1 h_0)
    exact free _ o (fun z => (hch _ z).2.1 rfl) ho I.free
  · (refine Obt.ex1 (I.cell x c e) fun v h_0 => Obt.ex1 h_0 fun o h_1 => Obt.and2 h_1 fun ho hd => ?_; clear h_1 h_0)
    exact free c o (fun z => (hch c z).2.2.1 x c e rfl) ho (I.freeC x c e)
  · (refine Obt.and5 (I.pin p hp) fun e n ne nf d => ?_)
    have nch : p.1 ∉ ch := fun z => (hch p.1 z).2.2.2 p hp rfl
    exact ⟨keep p.1 p.2 ne nf nch e n, free p.1 p.2 nch e n, ne, nf, d⟩
theorem Inv.un {t' : Nat} (I : Inv X pins σ H s) (u : Un X.fs [] H H' s.heap h') (hok : HOk X.prog X.w H' h') : Inv X pins σ H' { s with heap := h', toks := t' } := by
  (refine Obt.ex1 (id I.loc) fun m h_0 => Obt.and2 h_0 fun t_1 _ => Obt.ex3 t_1 fun o es ep h_2 => Obt.and2 h_2 fun ho r => ?_; clear h_2 t_1 h_0)
  (refine Obt.ex1 (u.any ho I.free (by simp)) fun sl hL => ?_)
  exact I.step (g' := s.gens) (d' := s.drawn) (ch := []) (fun _ z => nomatch z) (fun b o _ hb _ e n => u.keep b o e n hb (by simp)) (fun b o _ hb _ e n => u.slot b o e n hb (by simp)) (fun b o _ e n => u.free b o e n (by simp)) (fun b o _ e => u.there b o e (by simp)) u.tups u.frzs u.tbls (fun m' hm => by
    (refine Obt.ex3 hm fun o' es' ep' h_0 => Obt.and2 h_0 fun ho' r' => ?_; clear h_0 hm)
    rw [ho] at ho'; cases ho'
    exact ⟨_, es', ep', hL, r'⟩) hok I.bare
theorem Inv.call {g' : Array GenState} {t' : Nat} {d' : Drawn} {ch : List Addr} (I : Inv X pins σ H s) (u : Un (frs X.stack) ch H H' s.heap h') (hok : HOk X.prog X.w H' h') (hg : AllBare g')
    (hch : ∀ b ∈ ch, (b ∈ X.ex \/ X.s₀.heap.objs.size <= b) /\ b ≠ X.env.locals /\ (∀ x c, X.env.cells.lookup x = some c -> c ≠ b) /\ ∀ p ∈ X.pn ++ pins, p.1 ≠ b) :
    Inv X pins σ H' { s with heap := h', gens := g', drawn := d', toks := t' } := by
  (refine Obt.ex1 (id I.loc) fun m h_0 => Obt.and2 h_0 fun t_1 _ => Obt.ex3 t_1 fun o es ep h_2 => Obt.and2 h_2 fun ho r => ?_; clear h_2 t_1 h_0)
  (refine Obt.ex1 (u.any ho I.free fun z => (hch _ z).2.1 rfl) fun sl hL => ?_)
  exact I.step (ch := ch) hch (fun b o hL hb hc e n => u.keep b o e n (fun z => (List.mem_cons.mp (I.stkSub b z)).elim hL hb) hc) (fun b o _ _ hc e n => u.any e n hc) (fun b o hc e n => u.free b o e n hc) (fun b o hc e => u.there b o e hc) u.tups u.frzs u.tbls (fun m' hm => by
    (refine Obt.ex3 hm fun o' es' ep' h_0 => Obt.and2 h_0 fun ho' r' => ?_; clear h_0 hm)
    rw [ho] at ho'; cases ho'
    exact ⟨_, es', ep', hL, r'⟩) hok hg
theorem Inv.turned {t' : Nat} {it : Addr} (I : Inv X pins σ H s) (k : ∀ b o, b ≠ it -> s.heap.get? b = some o -> h'.get? b = some o) (hn : H it = none) (hL : it ≠ X.env.locals)
    (h1 : it ∈ X.ex \/ X.s₀.heap.objs.size <= it) (h2 : ∀ x c, X.env.cells.lookup x = some c -> c ≠ it) (h3 : ∀ p ∈ X.pn ++ pins, p.1 ≠ it) : Inv X pins σ H { s with heap := h', toks := t' } := by
  have nit : ∀ b u, H b = some u -> b ≠ it := fun b u e z => by rw [z, hn] at e; cases e
  refine I.step (g' := s.gens) (d' := s.drawn) (ch := [it]) (fun b hb => ?_) (fun b o _ _ hc e _ => k b o (fun z => hc (by simp [z])) e) (fun b o _ _ hc e _ => ⟨o.slots, k b o (fun z => hc (by simp [z])) e⟩) (fun _ _ _ _ n => n)
    (fun b o hc e => ⟨o, k b o (fun z => hc (by simp [z])) e⟩) (fun _ _ e => e) (fun _ _ _ e => e) (fun b ps e => ⟨#[], by rw [e]; simp⟩) (fun m hm => ?_) (fun b u e => ?_) I.bare
  · have e : b = it := by simpa using hb
    subst e
    exact ⟨h1, hL, h2, h3⟩
  · (refine Obt.ex3 hm fun o es ep h_0 => Obt.and2 h_0 fun ho r => ?_; clear h_0 hm)
    exact ⟨o, es, ep, k _ o (Ne.symm hL) ho, r⟩
  · refine (I.hok b u e).stay (fun c v hc q => k c v ?_ q) (fun _ q => q) fun _ _ q => q
    rcases hc with z | z
    · rw [z]; exact nit b u e
    · exact nit c _ z
theorem Inv.tok (I : Inv X pins σ H s) (t : Nat) : Inv X pins σ H { s with toks := t } := I.un (h' := s.heap) (t' := t) Un.refl I.hok
theorem Inv.kept {t' : Nat} (I : Inv X pins σ H s) (k : ∀ b u, s.heap.get? b = some u -> h'.get? b = some u) : Inv X pins σ H { s with heap := h', toks := t' } := I.un (Un.kept k) (I.hok.kept k)
theorem Inv.laid {a : Addr} {o : HO} {t' : Nat} (I : Inv X pins σ H s) (k : ∀ b u, s.heap.get? b = some u -> h'.get? b = some u) (hp : s.heap.objs.size <= a) (new : ObjOk X.prog X.w (upd H a o) h' a o) :
    Inv X pins σ (upd H a o) { s with heap := h', toks := t' } := I.un (Un.laid k hp (I.hok.fresh hp)) (I.hok.laid k hp new)
theorem Inv.write {x e : Addr} {o : HO} {t' : Nat} (I : Inv X pins σ H s) (mu : Mut (H x)) (he : e = x \/ H e = some (.own x)) (k : ∀ b u, b ≠ e -> s.heap.get? b = some u -> h'.get? b = some u) (heo : ∃ u, h'.get? e = some u)
    (new : ObjOk X.prog X.w (upd H x o) h' x o) : Inv X pins σ (upd H x o) { s with heap := h', toks := t' } := I.un (Un.write mu he k heo) (I.hok.write mu he k heo new)
theorem Inv.pins_of {pins' : List (Addr × Obj)} (I : Inv X pins σ H s) (h : ∀ p ∈ pins', s.heap.get? p.1 = some p.2 /\ H p.1 = none /\ p.1 ≠ X.env.locals /\ p.1 ∉ X.fs /\ ∀ v, p.2.data ≠ .cell v) : Inv X pins' σ H s :=
  ⟨I.ok, I.os, I.bare, I.base, I.loc, I.cell, I.free, I.freeC, fun p hp => (List.mem_append.mp hp).elim (fun z => I.pin p (List.mem_append_left _ z)) (h p), I.hok, I.len⟩
theorem nodup_ix {N : List Str} (hN : N.Nodup) {i j : Nat} {x : Str} (a : N[i]? = some x) (b : N[j]? = some x) : i = j := by
  (refine Obt.ex1 (List.getElem?_eq_some_iff.mp a) fun h1 e1 => ?_)
  (refine Obt.ex1 (List.getElem?_eq_some_iff.mp b) fun h2 e2 => ?_)
  exact (List.getElem_inj hN).mp (e1.trans e2.symm)
theorem store_ok2 {M : Model} {A : Around} {E : Value -> Shared -> Prop} {i : Nat} {x : Str} {v : V} {u : Value} {Q : Unit -> Shared -> Prop} (I : Inv X pins σ H s) (hN : X.N.Nodup) (hi : X.N[i]? = some x) (hx : Loc X.env.scope x) (r : RelV v u)
    (h : ∀ s', Inv X pins (σ.set i (some v)) H s' -> (∃ a, Heap.SameBut a s.heap s'.heap /\ (a = X.env.locals \/ X.env.cells.lookup x = some a)) -> Q () s') (hf : X.fn x = true \/ X.env.scope.names.lookup x = some .local := by first | exact .inl rfl | exact .inr rfl | assumption) : wpAny M A (storeName X.env x u) Q E s := by
  (refine Obt.ex1 (id I.loc) fun m h_0 => Obt.and2 h_0 fun hn hl => ?_; clear h_0)
  have hcls : (X.env.scope.kind == .class || (X.env.scope.kind == .module && X.env.locals != X.env.globals)) = false := by rw [I.ok.kind]; rfl
  have hiσ : i < σ.length := by rw [I.len]; exact (List.getElem?_eq_some_iff.mp hi).1
  have cne := I.cne
  have tracked : ∀ {a : Addr} {h' : Heap}, (∃ o, s.heap.get? a = some o /\ H a = none) -> Heap.SameBut a s.heap h' -> HOk X.prog X.w H h' := fun {a h'} ha hs b ob e => by
    (refine Obt.ex1 ha fun _ h_0 => Obt.and2 h_0 fun _ hfree => ?_; clear h_0 ha)
    refine (I.hok b ob e).stay (fun c w' hc q => (hs.2 c ?_).trans q) (fun _ q => q) fun _ _ q => q
    rintro rfl
    rcases hc with rfl | hc
    · rw [hfree] at e; cases e
    · rw [hfree] at hc; cases hc
  rcases hx with hk | hk
  · refine wpAny_storeName_local hk hn (fun h' hn' hs => ?_) hcls
    (refine Obt.ex3 (id hn) fun oL _ _ h_0 => Obt.and2 h_0 fun hoL _ => ?_; clear h_0)
    refine h _ ⟨I.ok, I.os, I.bare, ⟨fun b o e n hb hx => ?_, fun b o e n hb hx => ?_, I.base.free, fun b o e hx => ?_, I.base.tups, I.base.frzs, I.base.tbls⟩, ⟨_, hn', fun j y v' e1 e2 e3 => ?_⟩, fun y c e => ?_, I.free, I.freeC, fun p hp => ?_, tracked ⟨oL, hoL, I.free⟩ hs, by simpa using I.len⟩ ⟨_, hs, .inl rfl⟩
    · exact (hs.2 b (Nat.ne_of_lt (Nat.lt_of_lt_of_le (Heap.lt_size e) I.ok.above))).trans (I.base.keep b o e n hb hx)
    · (refine Obt.ex1 (I.base.slot b o e n hb hx) fun sl e1 => ?_)
      exact ⟨sl, (hs.2 b (Nat.ne_of_lt (Nat.lt_of_lt_of_le (Heap.lt_size e) I.ok.above))).trans e1⟩
    · (refine Obt.ex1 (I.base.there b o e hx) fun o' e1 => ?_)
      exact ⟨o', (hs.2 b (Nat.ne_of_lt (Nat.lt_of_lt_of_le (Heap.lt_size e) I.ok.above))).trans e1⟩
    · by_cases hj : j = i
      · subst hj
        rw [hi] at e1; cases e1
        rw [List.getElem?_set_self hiσ] at e2
        cases e2
        exact ⟨u, r, .inl ⟨hk, by simp⟩⟩
      · rw [List.getElem?_set_ne (Ne.symm hj)] at e2
        (refine Obt.ex1 (hl j y v' e1 e2 e3) fun u' h_0 => Obt.and2 h_0 fun r' q => ?_; clear h_0)
        refine ⟨u', r', ?_⟩
        rcases q with ⟨k, e⟩ | ⟨k, c, e, z⟩
        · refine .inl ⟨k, ?_⟩
          have : y ≠ x := fun e => hj (nodup_ix hN e1 (e ▸ hi))
          simp [this, e]
        · exact .inr ⟨k, c, e, z.sameBut hs (cne y c e)⟩
    · (refine Obt.ex1 (I.cell y c e) fun w' z => ?_)
      exact ⟨w', z.sameBut hs (cne y c e)⟩
    · (refine Obt.and5 (I.pin p hp) fun e n ne nf d => ?_)
      exact ⟨(hs.2 p.1 ne).trans e, n, ne, nf, d⟩
  · have hfn : X.fn x = true := by
      rcases hf with z | z
      · exact z
      · rw [z] at hk; cases hk
    (refine Obt.ex1 (I.ok.has x (.inl hk)) fun c hc => ?_)
    (refine Obt.ex1 (I.cell x c hc) fun w' z => ?_)
    refine wpAny_storeName_cell I.ok.kind hk hc z (fun h' hc' hs => ?_)
    (refine Obt.ex1 (id z) fun oc h_0 => Obt.and2 h_0 fun hoc hocd => ?_; clear h_0)
    refine h { s with heap := h' } ⟨I.ok, I.os, I.bare, ⟨fun b o e n hb hx => ?_, fun b o e n hb hx => ?_, I.base.free, fun b o e hx => ?_, I.base.tups, I.base.frzs, I.base.tbls⟩, ⟨m, hn.sameBut hs (Ne.symm (cne x c hc)), fun j y v' e1 e2 e3 => ?_⟩, fun y c' e => ?_, I.free, I.freeC, fun p hp => ?_, tracked ⟨oc, hoc, I.freeC x c hc⟩ hs, by simpa using I.len⟩ ⟨c, hs, .inr hc⟩
    · exact (hs.2 b (Nat.ne_of_lt (Nat.lt_of_lt_of_le (Heap.lt_size e) (I.ok.cab x c hfn hc)))).trans (I.base.keep b o e n hb hx)
    · (refine Obt.ex1 (I.base.slot b o e n hb hx) fun sl e1 => ?_)
      exact ⟨sl, (hs.2 b (Nat.ne_of_lt (Nat.lt_of_lt_of_le (Heap.lt_size e) (I.ok.cab x c hfn hc)))).trans e1⟩
    · (refine Obt.ex1 (I.base.there b o e hx) fun o' e1 => ?_)
      exact ⟨o', (hs.2 b (Nat.ne_of_lt (Nat.lt_of_lt_of_le (Heap.lt_size e) (I.ok.cab x c hfn hc)))).trans e1⟩
    · by_cases hj : j = i
      · subst hj
        rw [hi] at e1; cases e1
        rw [List.getElem?_set_self hiσ] at e2
        cases e2
        exact ⟨u, r, .inr ⟨.inl hk, c, hc, hc'⟩⟩
      · rw [List.getElem?_set_ne (Ne.symm hj)] at e2
        (refine Obt.ex1 (hl j y v' e1 e2 e3) fun u' h_0 => Obt.and2 h_0 fun r' q => ?_; clear h_0)
        refine ⟨u', r', ?_⟩
        rcases q with q | ⟨k, c', e, z'⟩
        · exact .inl q
        · refine .inr ⟨k, c', e, z'.sameBut hs ?_⟩
          rintro rfl
          exact hj (nodup_ix hN e1 (I.ok.inj _ _ _ e hc ▸ hi))
    · by_cases hcc : c' = c
      · subst hcc; exact ⟨_, hc'⟩
      · (refine Obt.ex1 (I.cell y c' e) fun w2 z2 => ?_)
        exact ⟨w2, z2.sameBut hs hcc⟩
    · (refine Obt.and5 (I.pin p hp) fun e n ne nf d => ?_)
      refine ⟨(hs.2 p.1 ?_).trans e, n, ne, nf, d⟩
      intro q
      rw [q, hoc] at e
      have q' : oc = p.2 := Option.some.inj e
      exact d w' (by rw [<- q']; exact hocd)
theorem store_ok {M : Model} {A : Around} {E : Value -> Shared -> Prop} {i : Nat} {x : Str} {v : V} {u : Value} {Q : Unit -> Shared -> Prop} (I : Inv X pins σ H s) (hN : X.N.Nodup) (hi : X.N[i]? = some x) (hx : Loc X.env.scope x) (r : RelV v u)
    (h : ∀ s', Inv X pins (σ.set i (some v)) H s' -> Q () s') (hf : X.fn x = true \/ X.env.scope.names.lookup x = some .local := by first | exact .inl rfl | exact .inr rfl | assumption) : wpAny M A (storeName X.env x u) Q E s :=
  store_ok2 I hN hi hx r (fun s' I' _ => h s' I') hf
theorem Inv.call' {s' : Shared} {ch : List Addr} (I : Inv X pins σ H s) (ho : s'.os = s.os) (u : Un (frs X.stack) ch H H' s.heap s'.heap) (hok : HOk X.prog X.w H' s'.heap) (hg : AllBare s'.gens)
    (hch : ∀ b ∈ ch, (b ∈ X.ex \/ X.s₀.heap.objs.size <= b) /\ b ≠ X.env.locals /\ (∀ x c, X.env.cells.lookup x = some c -> c ≠ b) /\ ∀ p ∈ X.pn ++ pins, p.1 ≠ b) : Inv X pins σ H' s' := by
  obtain ⟨h', g', d', t', o'⟩ := s'
  have e : o' = s.os := ho
  subst e
  exact I.call (g' := g') (t' := t') (d' := d') u hok hg hch
end
abbrev XK := Value -> Option Addr -> Hp -> Prop
abbrev St := List (Option V)
abbrev VK := V -> Hp -> Prop
abbrev TE := St -> Hp -> VK -> Prop
abbrev TT := St -> Hp -> (Bool -> Hp -> Prop) -> Prop
abbrev TA := St -> Hp -> (List V -> Hp -> Prop) -> Prop
structure Ends where
  nx : St -> Hp -> Prop
  rt : VK
  bk : St -> Hp -> Prop := fun _ _ => False
  ct : St -> Hp -> Prop := fun _ _ => False
abbrev TS := Ends -> St -> Hp -> Prop
def EP (X : Cx) (pins : List (Addr × Obj)) (σ : St) (Q : VK) (u : Value) (s' : Shared) : Prop := ∃ v H', Inv X pins σ H' s' /\ RelV v u /\ Q v H'
def TP (X : Cx) (pins : List (Addr × Obj)) (σ : St) (Q : Bool -> Hp -> Prop) (b : Bool) (s' : Shared) : Prop := ∃ H', Inv X pins σ H' s' /\ Q b H'
def AP (X : Cx) (pins : List (Addr × Obj)) (σ : St) (Q : List V -> Hp -> Prop) (us : List Value) (s' : Shared) : Prop := ∃ vs H', Inv X pins σ H' s' /\ Vals vs us /\ Q vs H'
def SP (X : Cx) (pins : List (Addr × Obj)) (D : Ends) (f : Flow) (s' : Shared) : Prop :=
  match f with
  | .next => ∃ σ' H', Inv X pins σ' H' s' /\ D.nx σ' H'
  | .brk => ∃ σ' H', Inv X pins σ' H' s' /\ D.bk σ' H'
  | .cont => ∃ σ' H', Inv X pins σ' H' s' /\ D.ct σ' H'
  | .ret u => ∃ v σ' H', Inv X pins σ' H' s' /\ RelV v u /\ D.rt v H'
def PE (X : Cx) (e : Expr) (t : TE) : Prop :=
  ∀ (pins : List (Addr × Obj)) (s : Shared) (σ : St) (H : Hp) (Q : VK), Inv X pins σ H s -> t σ H Q -> wpAny (model X.prog X.w) X.A (eval e X.env) (EP X pins σ Q) X.xe s
def PT (X : Cx) (e : Expr) (t : TT) : Prop :=
  ∀ (pins : List (Addr × Obj)) (s : Shared) (σ : St) (H : Hp) (Q : Bool -> Hp -> Prop), Inv X pins σ H s -> t σ H Q -> wpAny (model X.prog X.w) X.A (isTrue e X.env (eval e X.env)) (TP X pins σ Q) X.xe s
def PW (X : Cx) (e : Expr) (t : TT) : Prop :=
  ∀ (whole : Sem Value) (pins : List (Addr × Obj)) (s : Shared) (σ : St) (H : Hp) (Q : Bool -> Hp -> Prop), Inv X pins σ H s -> t σ H Q -> wpAny (model X.prog X.w) X.A (isTrue e X.env whole) (TP X pins σ Q) X.xe s
theorem PW.pt {X : Cx} {e : Expr} {t : TT} (h : PW X e t) : PT X e t := h _
def PA (X : Cx) (es : List Expr) (t : TA) : Prop :=
  ∀ (pos : Pos) (pins : List (Addr × Obj)) (s : Shared) (σ : St) (H : Hp) (Q : List V -> Hp -> Prop), Inv X pins σ H s -> t σ H Q -> wpAny (model X.prog X.w) X.A (spliced (backTo pos (starEach es X.env))) (AP X pins σ Q) X.xe s
def PS (X : Cx) (st : Stmt) (t : TS) : Prop :=
  ∀ (pins : List (Addr × Obj)) (s : Shared) (σ : St) (H : Hp) (D : Ends), Inv X pins σ H s -> t D σ H -> wpAny (model X.prog X.w) X.A (exec st X.env) (SP X pins D) X.xe s
def PSs (X : Cx) (st : List Stmt) (t : TS) : Prop :=
  ∀ (pins : List (Addr × Obj)) (s : Shared) (σ : St) (H : Hp) (D : Ends), Inv X pins σ H s -> t D σ H -> wpAny (model X.prog X.w) X.A (execs st X.env) (SP X pins D) X.xe s
theorem thn {α : Type} {t : Sem α} {Q Q' : α -> Shared -> Prop} {M : Model} {A : Around} {E : Value -> Shared -> Prop} {s : Shared} (h : wpAny M A t Q E s) (hQ : ∀ a s, Q a s -> Q' a s) : wpAny M A t Q' E s := wpAny_mono h hQ fun _ _ x => x
end L2
namespace L2
open PySem PySem.Spec PyProof.Rows
section
variable {X : Cx}
def tVar (i : Nat) : TE := fun σ H Q => ∃ v, σ[i]? = some (some v) /\ Q v H
def tC (v : V) : TE := fun _ H Q => Q v H
theorem pe_var {i : Nat} {x : Str} {pos : Pos} (hN : X.N[i]? = some x) (hv : Vis X.env.scope x) (hd : (x == ("__debug__" : Str)) = false := by decide) (hcd : (x == ("__classdict__" : Str)) = false := by decide) : PE X (.Name x pos) (tVar i) := by
  intro pins s σ H Q I h
  (refine Obt.ex1 h fun v h_0 => Obt.and2 h_0 fun e h => ?_; clear h_0)
  (refine Obt.ex1 I.loc fun m h_0 => Obt.and2 h_0 fun hn hl => ?_; clear h_0)
  (refine Obt.ex1 (hl i x v hN e hv) fun u h_0 => Obt.and2 h_0 fun r l => ?_; clear h_0)
  have fin : EP X pins σ Q u s := ⟨v, H, I, r, h⟩
  rcases l with ⟨hk, hm⟩ | ⟨hk, c, hc, hcell⟩
  · exact wpAny_Name (wpAny_loadName_local I.ok.kind hk hn hm fin) hd
  · rcases hk with hk | hk
    · exact wpAny_Name (wpAny_loadName_cell I.ok.kind hk hc hcell fin) hd
    · exact wpAny_Name (wpAny_loadName_free I.ok.kind hk hc hcell fin hcd) hd
theorem pe_int {i j pos} : PE X (.Constant (.int i) j pos) (tC (.int i)) := fun _ _ _ H _ I h => wpAny_Constant_int ⟨.int i, H, I.tok _, ⟨_, rfl⟩, h⟩
theorem pe_bl {b j pos} : PE X (.Constant (.bool b) j pos) (tC (.bl b)) := fun _ _ _ H _ I h => Constant_bool ⟨.bl b, H, I, rfl, h⟩
def Gl (X : Cx) (x : Str) : Prop := X.env.kindOf x = some .globalImplicit
theorem ld_glob {E : Value -> Shared -> Prop} {pins : List (Addr × Obj)} {s : Shared} {σ : St} {H : Hp} {x : Str} {u : Value} {pos : Pos} {Q : Value -> Shared -> Prop} (I : Inv X pins σ H s) (hg : Gl X x) (hm : X.mg x = some u) (h : Q u s)
    (hd : (x == ("__debug__" : Str)) = false := by decide) : wpAny (model X.prog X.w) X.A (eval (.Name x pos) X.env) Q E s :=
  Calls.Name_function_global I.ok.kind hg (Calls.loadGlobal_global (by rw [I.ok.glob]; exact I.mod.glob.keeps I.bk) hm h) hd
theorem ld_blt {E : Value -> Shared -> Prop} {pins : List (Addr × Obj)} {s : Shared} {σ : St} {H : Hp} {x : Str} {u : Value} {pos : Pos} {Q : Value -> Shared -> Prop} (I : Inv X pins σ H s) (hg : Gl X x) (hm : X.mg x = none) (hv : bootBuiltins x = some u) (h : Q u s)
    (hn : x ≠ "__name__" := by decide) (hd : (x == ("__debug__" : Str)) = false := by decide) : wpAny (model X.prog X.w) X.A (eval (.Name x pos) X.env) Q E s := by
  (refine Obt.ex1 I.mod.blt fun mb h_0 => Obt.and2 h_0 fun h1 h2 => ?_; clear h_0)
  exact Calls.Name_function_global I.ok.kind hg (Calls.loadGlobal_builtin (by rw [I.ok.glob]; exact I.mod.glob.keeps I.bk) hm (by rw [I.ok.blt]; exact h1.keeps I.bk) ((h2 x hn).trans hv) h) hd
theorem pe_glob {x : Str} {v : V} {u : Value} {pos : Pos} (hg : Gl X x) (hm : X.mg x = some u) (r : RelV v u) (hd : (x == ("__debug__" : Str)) = false := by decide) : PE X (.Name x pos) (tC v) :=
  fun _ _ _ H _ I h => ld_glob I hg hm ⟨v, H, I, r, h⟩ hd
theorem pe_bltn {x : Str} {v : V} {u : Value} {pos : Pos} (hg : Gl X x) (hm : X.mg x = none) (hv : bootBuiltins x = some u) (r : RelV v u) (hn : x ≠ "__name__" := by decide) (hd : (x == ("__debug__" : Str)) = false := by decide) : PE X (.Name x pos) (tC v) :=
  fun _ _ _ H _ I h => ld_blt I hg hm hv ⟨v, H, I, r, h⟩ hn hd
variable {a b : Expr} {ta tb : TE} {pos : Pos}
def PC (X : Cx) (op : CmpOp) (a b : Expr) (t : TE) : Prop :=
  ∀ (pins : List (Addr × Obj)) (s : Shared) (σ : St) (H : Hp) (Q : VK), Inv X pins σ H s -> t σ H Q ->
    wpAny (model X.prog X.w) X.A (eval a X.env) (fun v s₁ => wpAny (model X.prog X.w) X.A (eval b X.env) (fun u s₂ => wpAny (model X.prog X.w) X.A (compareOp op v u) (EP X pins σ Q) X.xe s₂) X.xe s₁) X.xe s
theorem nobehind (b : Expr) {op : CmpOp} (h : op ≠ .In) (h2 : op ≠ .NotIn) : behindInMarks op b = false := by
  have e1 : (op == CmpOp.In) = false := by cases op <;> first | rfl | exact absurd rfl h
  have e2 : (op == CmpOp.NotIn) = false := by cases op <;> first | rfl | exact absurd rfl h2
  cases b <;> simp [behindInMarks, e1, e2]
def tB (t : TE) : TT := fun σ H Q => t σ H fun x H1 => ∃ c, x = .bl c /\ Q c H1
theorem pe_cmp {op : CmpOp} {t : TE} (h : PC X op a b t) (h1 : behindInMarks op b = false := by first | exact nobehind _ (by decide) (by decide) | rfl) : PE X (.Compare a [op] [b] pos) t := fun pins s σ H Q I hw => wpAny_Compare1 (h pins s σ H Q I hw) h1
theorem pt_cmp {op : CmpOp} {t : TE} (h : PC X op a b t) (h1 : behindInMarks op b = false := by first | exact nobehind _ (by decide) (by decide) | rfl) : PT X (.Compare a [op] [b] pos) (tB t) := by
  intro pins s σ H Q I hw
  refine wpAny_isTrue_Compare1 (thn (h pins s σ H _ I hw) fun v s1 h1 => thn h1 fun u s2 h2 => thn h2 fun c s3 ⟨x, H1, I1, r1, q1⟩ => ?_) h1
  (refine Obt.ex1 q1 fun d h_0 => Obt.and2 h_0 fun e_1 q => ?_; subst e_1; clear h_0 q1)
  cases r1
  exact wpAny_truthy_bool ⟨H1, I1, q⟩
theorem pt_val {e : Expr} {t : TE} (h : PE X e t) (he : ∀ whole, isTrue e X.env whole = (do let v <- whole; standAt e.pos; holding [v] (truthy v)) := by intro _; rfl) : PT X e (tB t) := by
  intro pins s σ H Q I hw
  refine isTrue_plain (thn (h pins s σ H _ I hw) fun v s1 ⟨x, H1, I1, r1, q1⟩ => ?_) (he _)
  (refine Obt.ex1 q1 fun d h_0 => Obt.and2 h_0 fun e_1 q => ?_; subst e_1; clear h_0 q1)
  cases r1
  exact wpAny_truthy_bool ⟨H1, I1, q⟩
variable {tA tB' : TT} {rest : List Expr}
def tOr (t u : TT) : TT := fun σ H Q => t σ H fun c H1 => if c = true then Q true H1 else u σ H1 Q
def tNot (t : TT) : TT := fun σ H Q => t σ H fun c H1 => Q (!c) H1
theorem pw_or1 (ha : PT X a tA) : PW X (.BoolOp .Or [a] pos) tA := by
  intro wh pins s σ H Q I h
  refine isTrue_or (thn (ha pins s σ H Q I h) fun c s1 e => ?_)
  cases c with
  | false => exact isTrue_or_nil e
  | true => exact e
theorem pw_or (ha : PT X a tA) (hb : PW X (.BoolOp .Or (b :: rest) pos) tB') : PW X (.BoolOp .Or (a :: b :: rest) pos) (tOr tA tB') := by
  intro wh pins s σ H Q I h
  refine isTrue_or (thn (ha pins s σ H _ I h) fun c s1 ⟨H1, I1, q1⟩ => ?_)
  cases c with
  | true => exact ⟨H1, I1, q1⟩
  | false => exact hb wh pins s1 σ H1 Q I1 q1
theorem pt_not (ha : PT X a tA) : PT X (.UnaryOp .Not a pos) (tNot tA) := by
  intro pins s σ H Q I h
  exact isTrue_not (ha pins s σ H (fun c H1 => Q (!c) H1) I h)
def tAndV (ta tb : TE) : TE := fun σ H Q => ta σ H fun x H1 => ∃ c, x = .bl c /\ if c = true then tb σ H1 Q else Q (.bl false) H1
def tNotV (ta : TE) : TE := fun σ H Q => ta σ H fun x H1 => ∃ c, x = .bl c /\ Q (.bl (!c)) H1
theorem pe_one {op} {t : TE} (h : PE X a t) : PE X (.BoolOp op [a] pos) t := fun pins s σ H Q I hw => BoolOp_one (h pins s σ H Q I hw)
theorem pe_and (ha : PE X a ta) (hb : PE X (.BoolOp .And (b :: rest) pos) tb) : PE X (.BoolOp .And (a :: b :: rest) pos) (tAndV ta tb) := by
  intro pins s σ H Q I h
  refine BoolOp_and (thn (ha pins s σ H _ I h) fun v s1 ⟨x, H1, I1, r1, q1⟩ => ?_)
  obtain ⟨c, rfl, q1⟩ := q1
  cases r1
  refine wpAny_truthy_bool ?_
  cases c with
  | true => exact hb pins s1 σ H1 Q I1 q1
  | false => exact ⟨.bl false, H1, I1, rfl, q1⟩
theorem pe_not (ha : PE X a ta) : PE X (.UnaryOp .Not a pos) (tNotV ta) := by
  intro pins s σ H Q I h
  refine UnaryOp_ (thn (ha pins s σ H _ I h) fun v s1 ⟨x, H1, I1, r1, q1⟩ => ?_)
  obtain ⟨c, rfl, q1⟩ := q1
  cases r1
  exact not_of (wpAny_truthy_bool ⟨.bl (!c), H1, I1, rfl, q1⟩)
def tIf (t : TT) (ta tb : TE) : TE := fun σ H Q => t σ H fun c H1 => if c = true then ta σ H1 Q else tb σ H1 Q
theorem pe_ifExp {c : Expr} (hc : PT X c tA) (ha : PE X a ta) (hb : PE X b tb) : PE X (.IfExp c a b pos) (tIf tA ta tb) := by
  intro pins s σ H Q I h
  refine wpAny_IfExp (thn (hc pins s σ H _ I h) fun d s1 ⟨H1, I1, q1⟩ => ?_)
  cases d with
  | true => exact ha pins s1 σ H1 Q I1 q1
  | false => exact hb pins s1 σ H1 Q I1 q1
end
end L2
namespace L2
open PySem PySem.Spec PyProof.Rows
def SqL (K : PySem.W.Frag) (H : Hp) (a : Addr) (xs : List V) : Prop :=
  Rd H a (.lst xs) \/
    ∃ (o : Obj) (its : Array Value) (n : Nat), K.lookup a = some o /\ o.cls = .type "list" /\ o.dict = none /\ o.data = .seq its n /\ its.size <= sizeLine /\ Vals xs its.toList
def SqT (K : PySem.W.Frag) (H : Hp) (a : Addr) (xs : List V) : Prop :=
  Rd H a (.tup xs) \/
    ∃ (o : Obj) (its : Array Value) (n : Nat), K.lookup a = some o /\ o.cls = .type "tuple" /\ o.data = .seq its n /\ its.size <= sizeLine /\ Vals xs its.toList
def absV : Value -> Option V
  | .none => some .non
  | .bool b => some (.bl b)
  | .int i _ => some (.int i)
  | .str x _ => some (.str x)
  | .bytes b _ => some (.byt b)
  | .float b _ => some (.flt b)
  | .ref a => some (.ref a)
  | .type n => some (.ty n)
  | _ => none
theorem RelV.abs {x : V} {u : Value} (r : RelV x u) : absV u = some x := by
  cases x with
  | non => cases r; rfl
  | bl _ => cases r; rfl
  | int _ => (refine Obt.ex1 r fun t e_0 => ?_; subst e_0; clear r); rfl
  | str _ => (refine Obt.ex1 r fun t e_0 => ?_; subst e_0; clear r); rfl
  | byt _ => (refine Obt.ex1 r fun t e_0 => ?_; subst e_0; clear r); rfl
  | flt _ => (refine Obt.ex1 r fun t e_0 => ?_; subst e_0; clear r); rfl
  | ref _ => cases r; rfl
  | ty _ => cases r; rfl
theorem RelV.inj {x y : V} {u : Value} (r : RelV x u) (q : RelV y u) : x = y := Option.some.inj (r.abs.symm.trans q.abs)
theorem Vals.inj : ∀ {xs ys : List V} {us : List Value}, Vals xs us -> Vals ys us -> xs = ys
  | _, _, _, .nil, .nil => rfl
  | _, _, _, .cons r t, .cons r' t' => by rw [r.inj r', Vals.inj t t']
section
variable {X : Cx} {pins : List (Addr × Obj)} {σ : St} {H : Hp} {s : Shared} {a : Addr} {xs ys : List V}
theorem SqL.of {K : PySem.W.Frag} (h : H a = some (.lst xs)) : SqL K H a xs := .inl (.inl h)
theorem SqT.of {K : PySem.W.Frag} (h : H a = some (.tup xs)) : SqT K H a xs := .inl (.inl h)
theorem Inv.list (I : Inv X pins σ H s) (h : SqL X.K H a xs) : ∃ its : List Value, Vals xs its /\ PlainL s.heap a its.toArray /\ xs.length <= sizeLine := by
  rcases h with h | ⟨o, its, n, hk, hc, hd, hs, hz, r⟩
  · (refine Obt.and2 (h.ok I.hok) fun z t_0 => Obt.ex2 t_0 fun its n h_1 => Obt.and2 h_1 fun r e => ?_; clear h_1 t_0)
    exact ⟨its, r, ⟨_, n, e, rfl, rfl, rfl⟩, z⟩
  · refine ⟨its.toList, r, ⟨o, n, I.kIn a o hk, hc, hd, by simpa using hs⟩, ?_⟩
    have e := r.length
    simp only [Array.length_toList] at e
    omega
theorem Inv.tuple (I : Inv X pins σ H s) (h : SqT X.K H a xs) : ∃ its : List Value, Vals xs its /\ IsTup s.heap a its.toArray /\ xs.length <= sizeLine := by
  rcases h with h | ⟨o, its, n, hk, hc, hs, hz, r⟩
  · (refine Obt.and2 (h.ok I.hok) fun z t_0 => Obt.ex1 t_0 fun its h_1 => Obt.and2 h_1 fun r p => ?_; clear h_1 t_0)
    exact ⟨its, r, p, z⟩
  · refine ⟨its.toList, r, ⟨o, I.kIn a o hk, hc, n, by simpa using hs⟩, ?_⟩
    have e := r.length
    simp only [Array.length_toList] at e
    omega
theorem Inv.list_inj (I : Inv X pins σ H s) (h : SqL X.K H a xs) (h' : SqL X.K H a ys) : xs = ys := by
  (refine Obt.ex1 (I.list h) fun its h_0 => Obt.and3 h_0 fun r t_1 _ => Obt.ex2 t_1 fun o n h_2 => Obt.and4 h_2 fun e _ _ d => ?_; clear h_2 t_1 h_0)
  (refine Obt.ex1 (I.list h') fun its' h_0 => Obt.and3 h_0 fun r' t_1 _ => Obt.ex2 t_1 fun o' n' h_2 => Obt.and4 h_2 fun e' _ _ d' => ?_; clear h_2 t_1 h_0)
  rw [e] at e'; cases e'
  rw [d] at d'
  injection d' with d1 _
  have : its = its' := by simpa using congrArg Array.toList d1
  subst this
  exact r.inj r'
theorem Inv.tuple_inj (I : Inv X pins σ H s) (h : SqT X.K H a xs) (h' : SqT X.K H a ys) : xs = ys := by
  (refine Obt.ex1 (I.tuple h) fun its h_0 => Obt.and3 h_0 fun r t_1 _ => Obt.ex1 t_1 fun o h_2 => Obt.and3 h_2 fun e _ t_3 => Obt.ex1 t_3 fun n d => ?_; clear t_3 h_2 t_1 h_0)
  (refine Obt.ex1 (I.tuple h') fun its' h_0 => Obt.and3 h_0 fun r' t_1 _ => Obt.ex1 t_1 fun o' h_2 => Obt.and3 h_2 fun e' _ t_3 => Obt.ex1 t_3 fun n' d' => ?_; clear t_3 h_2 t_1 h_0)
  rw [e] at e'; cases e'
  rw [d] at d'
  injection d' with d1 _
  have : its = its' := by simpa using congrArg Array.toList d1
  subst this
  exact r.inj r'
end
abbrev Cx.wish (X : Cx) (E : Value -> Shared -> Prop) : Cx := { X with xe := E }
abbrev Cx.nox (X : Cx) : Cx := X.wish fun _ _ => False
theorem Cx.Ok.wish {X : Cx} (ok : X.Ok) (E : Value -> Shared -> Prop) : (X.wish E).Ok :=
  ⟨ok.mod, ok.kind, ok.glob, ok.blt, ok.above, ok.inj, ok.has, ok.cab, ok.hd, ok.frames, ok.stk, ok.exf, ok.bs, ok.bsz, ok.noex, ok.exfs, ok.funs, ok.frf⟩
theorem Cx.Ok.unwish {X : Cx} {E : Value -> Shared -> Prop} (ok : (X.wish E).Ok) : X.Ok :=
  ⟨ok.mod, ok.kind, ok.glob, ok.blt, ok.above, ok.inj, ok.has, ok.cab, ok.hd, ok.frames, ok.stk, ok.exf, ok.bs, ok.bsz, ok.noex, ok.exfs, ok.funs, ok.frf⟩
section
variable {X : Cx} {pins : List (Addr × Obj)} {σ : St} {H : Hp} {s : Shared} {E : Value -> Shared -> Prop}
theorem Inv.wish (I : Inv X pins σ H s) (E : Value -> Shared -> Prop) : Inv (X.wish E) pins σ H s := ⟨I.ok.wish E, I.os, I.bare, I.base, I.loc, I.cell, I.free, I.freeC, I.pin, I.hok, I.len⟩
theorem Inv.unwish (I : Inv (X.wish E) pins σ H s) : Inv X pins σ H s := ⟨I.ok.unwish, I.os, I.bare, I.base, I.loc, I.cell, I.free, I.freeC, I.pin, I.hok, I.len⟩
theorem SP.unwish {D : Ends} {f : Flow} {s' : Shared} (h : SP (X.wish E) pins D f s') : SP X pins D f s' := by
  cases f with
  | next => (refine Obt.ex2 h fun σ' H' h_0 => Obt.and2 h_0 fun I q => ?_; clear h_0 h); exact ⟨σ', H', I.unwish, q⟩
  | brk => (refine Obt.ex2 h fun σ' H' h_0 => Obt.and2 h_0 fun I q => ?_; clear h_0 h); exact ⟨σ', H', I.unwish, q⟩
  | cont => (refine Obt.ex2 h fun σ' H' h_0 => Obt.and2 h_0 fun I q => ?_; clear h_0 h); exact ⟨σ', H', I.unwish, q⟩
  | ret u => (refine Obt.ex3 h fun v σ' H' h_0 => Obt.and3 h_0 fun I r q => ?_; clear h_0 h); exact ⟨v, σ', H', I.unwish, r, q⟩
theorem PSs.nox {st : List Stmt} {t : TS} (h : PSs X.nox st t) : PSs X st t := fun pins s σ H D I hw =>
  wpAny_mono (h pins s σ H D (I.wish _) hw) (fun _ _ q => q.unwish) fun _ _ z => False.elim z
end
section
variable {X : Cx} {st : Stmt} {rest : List Stmt} {t u : TS} {e : Expr} {te : TE} {pos : Pos}
def tNext : TS := fun D σ H => D.nx σ H
def tSeq (t u : TS) : TS := fun D σ H => t { D with nx := u D } σ H
theorem pss_nil : PSs X [] tNext := fun _ _ σ H _ I h => wpAny_execs_nil ⟨σ, H, I, h⟩
theorem pss_cons (h1 : PS X st t) (h2 : PSs X rest u) : PSs X (st :: rest) (tSeq t u) := by
  intro pins s σ H D I h
  refine wpAny_execs_cons (thn (h1 pins s σ H { D with nx := u D } I h) fun f s1 q => ?_)
  cases f with
  | next =>
    (refine Obt.ex2 q fun σ' H' h_0 => Obt.and2 h_0 fun I' q => ?_; clear h_0)
    exact h2 pins s1 σ' H' D I' q
  | ret v => exact q
  | brk => exact q
  | cont => exact q
theorem pss_one (h1 : PS X st t) : PSs X [st] t := by
  intro pins s σ H D I h
  refine wpAny_execs_cons (thn (h1 pins s σ H D I h) fun f s1 q => ?_)
  cases f with
  | next => exact wpAny_execs_nil q
  | ret v => exact q
  | brk => exact q
  | cont => exact q
theorem Inv.quiet {pins : List (Addr × Obj)} {σ : St} {H : Hp} {s : Shared} (I : Inv X pins σ H s) : interactive X.env = false := by simp [interactive, I.ok.kind]
def tDrop (te : TE) : TS := fun D σ H => te σ H fun _ H1 => D.nx σ H1
theorem ps_expr (he : PE X e te) (hs : swapsWith e none pos.line X.env = pure false := by rfl) : PS X (.Expr e pos) (tDrop te) := by
  intro pins s σ H D I h
  exact wpAny_Expr_any (thn (he pins s σ H _ I h) fun v s1 ⟨x, H1, I1, r1, q1⟩ => ⟨σ, H1, I1, q1⟩) I.quiet hs
def tRet (te : TE) : TS := fun D σ H => te σ H D.rt
theorem ps_ret (he : PE X e te) : PS X (.Return (some e) pos) (tRet te) := by
  intro pins s σ H D I h
  exact wpAny_Return_some (thn (he pins s σ H _ I h) fun v s1 ⟨x, H1, I1, r1, q1⟩ => ⟨x, σ, H1, I1, r1, q1⟩)
def tIfS (c : TT) (t u : TS) : TS := fun D σ H => c σ H fun b H1 => if b = true then t D σ H1 else u D σ H1
theorem ps_if {c : Expr} {a b : List Stmt} {tc : TT} (hc : PT X c tc) (ha : PSs X a t) (hb : PSs X b u) : PS X (.If c a b pos) (tIfS tc t u) := by
  intro pins s σ H D I h
  refine wpAny_If (thn (hc pins s σ H _ I h) fun d s1 ⟨H1, I1, q1⟩ => ?_)
  cases d with
  | true => exact ha pins s1 σ H1 D I1 q1
  | false => exact hb pins s1 σ H1 D I1 q1
end
abbrev TG := V -> St -> Hp -> (St -> Hp -> Prop) -> Prop
abbrev TGs := List V -> St -> Hp -> (St -> Hp -> Prop) -> Prop
def PG (X : Cx) (target : Expr) (t : TG) : Prop :=
  ∀ (pins : List (Addr × Obj)) (s : Shared) (σ : St) (H : Hp) (v : V) (u : Value) (Q : St -> Hp -> Prop), Inv X pins σ H s -> RelV v u -> t v σ H Q ->
    wpAny (model X.prog X.w) X.A (assign target X.env u) (fun _ s' => ∃ σ' H', Inv X pins σ' H' s' /\ Q σ' H') X.xe s
def PGs (X : Cx) (ts : List Expr) (t : TGs) : Prop :=
  ∀ (pins : List (Addr × Obj)) (s : Shared) (σ : St) (H : Hp) (vs : List V) (us : List Value) (Q : St -> Hp -> Prop), Inv X pins σ H s -> Vals vs us -> t vs σ H Q ->
    wpAny (model X.prog X.w) X.A (assignInOrder ((assignEach ts X.env).map (·.2)) us) (fun _ s' => ∃ σ' H', Inv X pins σ' H' s' /\ Q σ' H') X.xe s
abbrev TSet := V -> V -> V -> Hp -> (Hp -> Prop) -> Prop
def PSet (X : Cx) (t : TSet) : Prop :=
  ∀ (pins : List (Addr × Obj)) (s : Shared) (σ : St) (H : Hp) (o i v : V) (ov iv u : Value) (Q : Hp -> Prop), Inv X pins σ H s -> RelV o ov -> RelV i iv -> RelV v u -> t o i v H Q ->
    wpAny (model X.prog X.w) X.A (setItem ov iv u) (fun _ s' => ∃ H', Inv X pins σ H' s' /\ Q H') X.xe s
section
variable {X : Cx} {pos : Pos}
def gName (i : Nat) : TG := fun v σ H Q => Q (σ.set i (some v)) H
theorem pg_name {i : Nat} {x : Str} (hN : X.N.Nodup) (hi : X.N[i]? = some x) (hx : Loc X.env.scope x) (hf : X.fn x = true \/ X.env.scope.names.lookup x = some .local := by first | exact .inl rfl | exact .inr rfl | assumption) : PG X (.Name x pos) (gName i) := by
  intro pins s σ H v u Q I r h
  exact wpAny_assign_Name (store_ok I hN hi hx r (fun s' I' => ⟨_, H, I', h⟩) hf)
def gNil : TGs := fun vs σ H Q => vs = [] /\ Q σ H
def gCons (t : TG) (u : TGs) : TGs := fun vs σ H Q => ∃ v r, vs = v :: r /\ t v σ H fun σ' H' => u r σ' H' Q
theorem pgs_nil : PGs X [] gNil := by
  intro pins s σ H vs us Q I r h
  obtain ⟨e, h⟩ := h
  subst e
  cases r
  exact assignInOrder_nil ⟨σ, H, I, h⟩
theorem pgs_cons {e : Expr} {es : List Expr} {t : TG} {u : TGs} (h1 : PG X e t) (h2 : PGs X es u)
    (hs : (assignEach (e :: es) X.env).map (·.2) = assign e X.env :: (assignEach es X.env).map (·.2) := by rfl) : PGs X (e :: es) (gCons t u) := by
  intro pins s σ H vs us Q I r h
  obtain ⟨v, vr, e1, h⟩ := h
  subst e1
  cases r with
  | cons r rr =>
    rw [hs]
    refine assignInOrder_cons (thn (h1 pins s σ H _ _ _ I r h) fun _ s1 ⟨σ1, H1, I1, q1⟩ => ?_)
    exact h2 pins s1 σ1 H1 _ _ Q I1 rr q1
def gTup (K : PySem.W.Frag) (n : Nat) (t : TGs) : TG := fun v σ H Q => ∃ a xs, v = .ref a /\ SqT K H a xs /\ xs.length = n /\ t xs σ H Q
theorem pg_tup {es : List Expr} {k : Nat} {t : TGs} {n : Nat} (hc : X.calm = true) (h : PGs X es t)
    (hn : (assignEach es X.env).length = n := by rfl) (hst : (assignEach es X.env).findIdx? (·.1) = none := by rfl) : PG X (.Tuple es k pos) (gTup X.K n t) := by
  intro pins s σ H v u Q I r hw
  obtain ⟨a, xs, e1, hq, hl, hw⟩ := hw
  subst e1
  cases r
  obtain ⟨its, rv, ht, hz⟩ := I.tuple hq
  refine assign_Tuple_tuple (I.ok.hd hc) ht (by simp [hn, <- hl, rv.length]) hst fun h' hx => ?_
  have I1 : Inv X pins σ H { s with heap := h' } := I.kept (t' := s.toks) fun b o e => hx b o (Nat.ne_of_lt (Heap.lt_size e)) e
  exact h pins _ σ H xs _ Q I1 (by simpa using rv) hw
def gSub (to ti : TE) (t : TSet) : TG := fun v σ H Q => to σ H fun o H1 => ti σ H1 fun i H2 => t o i v H2 fun H3 => Q σ H3
theorem pg_sub {o i : Expr} {to ti : TE} {t : TSet} (ho : PE X o to) (hi : PE X i ti) (hs : PSet X t)
    (ha : ∀ v, assign (.Subscript o i pos) X.env v = (do
      let ov <- holding [v] (eval o X.env)
      let iv <- holding [v, ov] (eval i X.env)
      standAt pos
      holding [v, ov, iv] (setItem ov iv v)
      release [v, ov, iv] []) := by intro _; rfl) : PG X (.Subscript o i pos) (gSub to ti t) := by
  intro pins s σ H v u Q I r h
  rw [ha]
  refine wpAny_bind (wpAny_holding (thn (ho pins s σ H _ I h) fun ov s1 ⟨x, H1, I1, r1, q1⟩ => ?_))
  refine wpAny_bind (wpAny_holding (thn (hi pins s1 σ H1 _ I1 q1) fun iv s2 ⟨y, H2, I2, r2, q2⟩ => ?_))
  refine wpAny_bind (wpAny_standAt (wpAny_bind (wpAny_holding (thn (hs pins s2 σ H2 x y v ov iv u _ I2 r1 r2 r q2) fun _ s3 ⟨H3, I3, q3⟩ => ?_))))
  exact wpAny_release ⟨σ, H3, I3, q3⟩
def tAsg (te : TE) (g : TG) : TS := fun D σ H => te σ H fun x H1 => g x σ H1 D.nx
theorem ps_asg {tg e : Expr} {te : TE} {g : TG} (he : PE X e te) (hg : PG X tg g) (hs : swapsWithSole [tg] e pos.line X.env = pure false := by rfl) (hw : swappedStores [tg] e X.env = pure none := by rfl)
    (h1 : (assignEach [tg] X.env).map (·.2) = [assign tg X.env] := by rfl) : PS X (.Assign [tg] e pos) (tAsg te g) := by
  intro pins s σ H D I h
  refine wpAny_Assign_stores (thn (he pins s σ H _ I h) fun v s1 ⟨x, H1, I1, r1, q1⟩ => ?_) hs hw
  rw [h1]
  exact thn (hg pins s1 σ H1 x v _ I1 r1 q1) fun _ s2 q => q
theorem ps_set {i : Nat} {x : Str} {e : Expr} {te : TE} {pos' : Pos} (hN : X.N.Nodup) (hi : X.N[i]? = some x) (hx : Loc X.env.scope x) (he : PE X e te) (hs : swapsWith e (some (.Name x pos')) pos.line X.env = pure false := by rfl) (hf : X.fn x = true \/ X.env.scope.names.lookup x = some .local := by first | exact .inl rfl | exact .inr rfl | assumption) :
    PS X (.Assign [.Name x pos'] e pos) (tAsg te (gName i)) := by
  intro pins s σ H D I h
  refine wpAny_Assign_Name (thn (he pins s σ H _ I h) fun v s1 ⟨y, H1, I1, r1, q1⟩ => ?_) hs
  exact store_ok I1 hN hi hx r1 (fun s2 I2 => ⟨_, H1, I2, q1⟩) hf
end
section
variable {X : Cx} {pos : Pos}
def tWhile (c : TT) (tb : TS) : TS := fun D σ H => ∃ W : Nat -> St -> Hp -> Prop, (∃ m, W m σ H) /\ ∀ m σ H, W m σ H ->
  c σ H fun b H1 => if b = true then ∃ N : St -> Hp -> Prop, (∀ σ' H', N σ' H' -> ∃ m', m' < m /\ W m' σ' H') /\ tb { D with nx := N, ct := N, bk := D.nx } σ H1 else D.nx σ H1
theorem ps_while {c : Expr} {body : List Stmt} {tc : TT} {tb : TS} (hp : PassesOwn (model X.prog X.w) X.A X.env X.xe) (hc : PT X c tc) (hb : PSs X body tb) : PS X (.While c body [] pos) (tWhile tc tb) := by
  intro pins s σ H D I h
  (refine Obt.ex1 h fun W h_0 => Obt.and2 h_0 fun t_1 turn => Obt.ex1 t_1 fun m0 w0 => ?_; clear t_1 h_0 h)
  refine wpAny_While (codeAny_whileLoop (fun n s' => ∃ σ' H', Inv X pins σ' H' s' /\ W n σ' H') ?_ m0 ⟨σ, H, I, w0⟩)
  (refine fun n s1 i_0 => Obt.ex2 i_0 fun σ1 H1 h_1 => Obt.and2 h_1 fun I1 w1 => ?_; clear h_1 i_0)
  refine wpAny_passesOwn hp (thn (hc pins s1 σ1 H1 _ I1 (turn n σ1 H1 w1)) fun b s2 ⟨H2, I2, q2⟩ => ?_)
  cases b with
  | true =>
    (refine Obt.ex1 q2 fun N h_0 => Obt.and2 h_0 fun hN q2 => ?_; clear h_0)
    rw [if_pos rfl]
    refine wpAny_passesOwn hp (thn (hb pins s2 σ1 H2 _ I2 q2) fun f s3 q3 => ?_)
    cases f with
    | next =>
      (refine Obt.ex2 q3 fun σ3 H3 h_0 => Obt.and2 h_0 fun I3 n3 => ?_; clear h_0 q3)
      (refine Obt.ex1 (hN σ3 H3 n3) fun m' h_0 => Obt.and2 h_0 fun hm w3 => ?_; clear h_0)
      exact ⟨m', hm, σ3, H3, I3, w3⟩
    | cont =>
      (refine Obt.ex2 q3 fun σ3 H3 h_0 => Obt.and2 h_0 fun I3 n3 => ?_; clear h_0 q3)
      (refine Obt.ex1 (hN σ3 H3 n3) fun m' h_0 => Obt.and2 h_0 fun hm w3 => ?_; clear h_0)
      exact ⟨m', hm, σ3, H3, I3, w3⟩
    | brk => exact q3
    | ret v => exact q3
  | false =>
    rw [if_neg Bool.false_ne_true]
    exact wpAny_execs_nil ⟨σ1, H2, I2, q2⟩
end
structure It where
  go : Nat -> Hp -> Prop
  yld : Nat -> Hp -> V -> Hp -> Prop
  stop : Nat -> Hp -> Prop
def FpOk (X : Cx) (pins : List (Addr × Obj)) (H : Hp) (b : Addr) : Prop :=
  H b = none /\ b ≠ X.env.locals /\ b ∉ X.fs /\ (b ∈ X.ex \/ X.s₀.heap.objs.size <= b) /\ (∀ x c, X.env.cells.lookup x = some c -> c ≠ b) /\ ∀ p ∈ X.pn ++ pins, p.1 ≠ b
theorem Inv.fpOk {X : Cx} {pins : List (Addr × Obj)} {σ : St} {H H' : Hp} {s : Shared} {b : Addr} (I : Inv X pins σ H s) (hb : s.heap.objs.size <= b) (hn : H' b = none) : FpOk X pins H' b := by
  refine ⟨hn, Nat.ne_of_gt (Nat.lt_of_lt_of_le I.lt hb), I.nofs hb, .inr (Nat.le_trans I.sz hb), fun x c e z => ?_, fun p hp z => ?_⟩
  · (refine Obt.ex1 (I.cell x c e) fun v q => ?_)
    exact absurd (Nat.lt_of_lt_of_le q.lt (by rw [z]; exact hb)) (Nat.lt_irrefl _)
  · exact absurd (Nat.lt_of_lt_of_le (Heap.lt_size (I.pin p hp).1) (by rw [z]; exact hb)) (Nat.lt_irrefl _)
structure Turn (P : Program) (w : World) (K : PySem.W.Frag) (tg : Expr) (J : It) (fp : List Addr) (it : Addr) (tn : Nat -> Heap -> Prop) : Prop where
  mem : it ∈ fp
  obj : ∀ i h, tn i h -> ∀ b ∈ fp, ∃ o, h.get? b = some o /\ ∀ v, o.data ≠ .cell v
  keep : ∀ i h h', tn i h -> (∀ b ∈ fp, ∀ o, h.get? b = some o -> h'.get? b = some o) -> tn i h'
  item : ∀ (X : Cx), X.prog = P -> X.w = w -> X.K = K -> X.calm = true -> ∀ (i : Nat) (pins : List (Addr × Obj)) (s : Shared) (σ : St) (H : Hp) (E : Value -> Shared -> Prop), Inv X pins σ H s -> (∀ b ∈ fp, FpOk X pins H b) -> tn i s.heap -> J.go i H ->
    wpAny (model P w) X.A (pyNext (.ref it)) (fun r s1 => ∃ u, r = some u /\
      wpAny (model P w) X.A (letOwnedTupleGo tg (.ref it) u) (fun _ s2 => ∃ x H', Inv X pins σ H' s2 /\ RelV x u /\ J.yld i H x H' /\ tn (i + 1) s2.heap /\ ∀ b ∈ fp, H' b = none) E s1) E s
  done : ∀ (X : Cx), X.prog = P -> X.w = w -> X.K = K -> X.calm = true -> ∀ (i : Nat) (pins : List (Addr × Obj)) (s : Shared) (σ : St) (H : Hp) (E : Value -> Shared -> Prop), Inv X pins σ H s -> (∀ b ∈ fp, FpOk X pins H b) -> tn i s.heap -> J.stop i H ->
    wpAny (model P w) X.A (pyNext (.ref it)) (fun r s1 => r = none /\ Inv X pins σ H s1) E s
  self : ∀ (A : Around) (i : Nat) (s : Shared) (Q : Value -> Shared -> Prop) (E : Value -> Shared -> Prop), tn i s.heap -> Q (.ref it) s -> wpAny (model P w) A (pyIter (.ref it)) Q E s
abbrev TI := St -> Hp -> (It -> Hp -> Prop) -> Prop
def PIE (X : Cx) (pins : List (Addr × Obj)) (σ : St) (tg : Expr) (R : It -> Hp -> Prop) (itv : Value) (s2 : Shared) : Prop :=
  ∃ (it : Addr) (fp : List Addr) (tn : Nat -> Heap -> Prop) (J : It) (H' : Hp), itv = .ref it /\ Inv X pins σ H' s2 /\ Turn X.prog X.w X.K tg J fp it tn /\ tn 0 s2.heap /\ (∀ b ∈ fp, FpOk X pins H' b) /\ R J H'
def PI (X : Cx) (tg iter : Expr) (wi : TI) : Prop :=
  ∀ (pins : List (Addr × Obj)) (s : Shared) (σ : St) (H : Hp) (R : It -> Hp -> Prop), Inv X pins σ H s -> wi σ H R ->
    wpAny (model X.prog X.w) X.A (eval iter X.env) (fun v s1 => wpAny (model X.prog X.w) X.A (pyIter v) (PIE X pins σ tg R) X.xe s1) X.xe s
theorem go_of {M : Model} {A : Around} {E : Value -> Shared -> Prop} {s : Shared} {tg : Expr} {it : Addr} {u : Value} {o : Obj} {n : String} {vs : Array Value} {Q : Unit -> Shared -> Prop} (ho : s.heap.get? it = some o) (hc : o.cls = .type n) (hd : o.data = .fields vs)
    (hn : ["enumerate", "zip", "dict_itemiterator", "dict_reverseitemiterator", "odict_iterator", "itertools.zip_longest", "itertools.pairwise"].contains n = false) (hQ : Q () s) : wpAny M A (letOwnedTupleGo tg (.ref it) u) Q E s := by
  unfold letOwnedTupleGo
  cases tg <;> first
    | exact wpAny_pure hQ
    | (cases u <;> first
        | exact wpAny_pure hQ
        | (refine wpAny_bind (wpAny_load ho ?_)
           rw [hc, hd]
           show wpAny M A (if (["enumerate", "zip", "dict_itemiterator", "dict_reverseitemiterator", "odict_iterator", "itertools.zip_longest", "itertools.pairwise"].contains n && vs[0]? == some (rawInt _)) = true then _ else _) Q E s
           rw [if_neg (by intro h; rw [hn, Bool.false_and] at h; cases h)]
           exact wpAny_pure hQ))
def Itl (K : PySem.W.Frag) (a : Addr) : It :=
  ⟨fun i H => ∃ xs x, SqL K H a xs /\ xs[i]? = some x, fun i H x H' => H' = H /\ ∀ xs, SqL K H a xs -> xs[i]? = some x, fun i H => ∃ xs, SqL K H a xs /\ xs.length <= i⟩
def Itt (K : PySem.W.Frag) (a : Addr) : It :=
  ⟨fun i H => ∃ xs x, SqT K H a xs /\ xs[i]? = some x, fun i H x H' => H' = H /\ ∀ xs, SqT K H a xs -> xs[i]? = some x, fun i H => ∃ xs, SqT K H a xs /\ xs.length <= i⟩
def Itr (lo : Int) (n : Nat) : It := ⟨fun i _ => i < n, fun i H x H' => H' = H /\ x = .int (lo + i), fun i _ => n <= i⟩
theorem turn_list {P : Program} {w : World} {K : PySem.W.Frag} {tg : Expr} (a it : Addr) : Turn P w K tg (Itl K a) [it] it (fun i h => h.IsListIter it a i) where
  mem := by simp
  obj := fun i h st b hb => by
    have e : b = it := by simpa using hb
    subst e
    (refine Obt.ex1 st fun o h_0 => Obt.and3 h_0 fun e c d => ?_; clear h_0 st)
    exact ⟨o, e, fun v z => by rw [d] at z; cases z⟩
  keep := fun i h h' st k => st.at fun o e => k it (by simp) o e
  item := by
    intro X hP hw hK hc i pins s σ H E I hf st hg
    subst hP hw hK
    (refine Obt.ex2 hg fun xs x h_0 => Obt.and2 h_0 fun hq hx => ?_; clear h_0 hg)
    (refine Obt.ex1 (I.list hq) fun its h_0 => Obt.and3 h_0 fun rv p hz => ?_; clear h_0)
    (refine Obt.ex1 (rv.get hx) fun u h_0 => Obt.and2 h_0 fun hu ru => ?_; clear h_0)
    (refine Obt.and6 (hf it (by simp)) fun f0 f1 f2 f3 f4 f5 => ?_)
    refine wpAny_pyNext_list_item st p.isList (x := u) (by simpa using hu) fun h' st' sb => ?_
    have I1 : Inv X pins σ H { s with heap := h' } := I.turned (t' := s.toks) (fun b o hb e => (sb.2 b hb).trans e) f0 f1 f3 f4 f5
    (refine Obt.ex1 (id st') fun o h_0 => Obt.and3 h_0 fun e c d => ?_; clear h_0)
    exact ⟨u, rfl, go_of (s := { s with heap := h' }) e c d (by decide) ⟨x, H, I1, ru, ⟨rfl, fun ys hy => by rw [I.list_inj hy hq]; exact hx⟩, st', fun b hb => (hf b hb).1⟩⟩
  done := by
    intro X hP hw hK hc i pins s σ H E I hf st hg
    subst hP hw hK
    (refine Obt.ex1 hg fun xs h_0 => Obt.and2 h_0 fun hq hx => ?_; clear h_0 hg)
    (refine Obt.ex1 (I.list hq) fun its h_0 => Obt.and3 h_0 fun rv p hz => ?_; clear h_0)
    (refine Obt.and6 (hf it (by simp)) fun f0 f1 f2 f3 f4 f5 => ?_)
    have hl := rv.length
    exact wpAny_pyNext_list_end (I.ok.hd hc) st p.isList (by simp; omega) fun h' eb => ⟨rfl, I.turned (t' := s.toks) (fun b o hb e => eb b o hb e) f0 f1 f3 f4 f5⟩
  self := fun _ _ _ _ _ st h => wpAny_pyIter_listiter st h
theorem turn_tuple {P : Program} {w : World} {K : PySem.W.Frag} {tg : Expr} (a it : Addr) : Turn P w K tg (Itt K a) [it] it (fun i h => h.IsTupleIter it a i) where
  mem := by simp
  obj := fun i h st b hb => by
    have e : b = it := by simpa using hb
    subst e
    (refine Obt.ex1 st fun o h_0 => Obt.and3 h_0 fun e c d => ?_; clear h_0 st)
    exact ⟨o, e, fun v z => by rw [d] at z; cases z⟩
  keep := fun i h h' st k => st.at fun o e => k it (by simp) o e
  item := by
    intro X hP hw hK hc i pins s σ H E I hf st hg
    subst hP hw hK
    (refine Obt.ex2 hg fun xs x h_0 => Obt.and2 h_0 fun hq hx => ?_; clear h_0 hg)
    (refine Obt.ex1 (I.tuple hq) fun its h_0 => Obt.and3 h_0 fun rv p hz => ?_; clear h_0)
    (refine Obt.ex1 (rv.get hx) fun u h_0 => Obt.and2 h_0 fun hu ru => ?_; clear h_0)
    (refine Obt.and6 (hf it (by simp)) fun f0 f1 f2 f3 f4 f5 => ?_)
    refine wpAny_pyNext_tuple_item st (show s.heap.IsTuple a its.toArray from p) (x := u) (by simpa using hu) fun h' st' sb => ?_
    have I1 : Inv X pins σ H { s with heap := h' } := I.turned (t' := s.toks) (fun b o hb e => (sb.2 b hb).trans e) f0 f1 f3 f4 f5
    (refine Obt.ex1 (id st') fun o h_0 => Obt.and3 h_0 fun e c d => ?_; clear h_0)
    exact ⟨u, rfl, go_of (s := { s with heap := h' }) e c d (by decide) ⟨x, H, I1, ru, ⟨rfl, fun ys hy => by rw [I.tuple_inj hy hq]; exact hx⟩, st', fun b hb => (hf b hb).1⟩⟩
  done := by
    intro X hP hw hK hc i pins s σ H E I hf st hg
    subst hP hw hK
    (refine Obt.ex1 hg fun xs h_0 => Obt.and2 h_0 fun hq hx => ?_; clear h_0 hg)
    (refine Obt.ex1 (I.tuple hq) fun its h_0 => Obt.and3 h_0 fun rv p hz => ?_; clear h_0)
    (refine Obt.and6 (hf it (by simp)) fun f0 f1 f2 f3 f4 f5 => ?_)
    have hl := rv.length
    exact wpAny_pyNext_tuple_end (I.ok.hd hc) st (show s.heap.IsTuple a its.toArray from p) (by simp; omega) fun h' eb => ⟨rfl, I.turned (t' := s.toks) (fun b o hb e => eb b o hb e) f0 f1 f3 f4 f5⟩
  self := fun _ _ _ _ _ st h => wpAny_pyIter_tupleiter st h
theorem turn_range {P : Program} {w : World} {K : PySem.W.Frag} {tg : Expr} (it : Addr) (lo : Int) (n : Nat) : Turn P w K tg (Itr lo n) [it] it (fun i h => IsRangeIter h it (lo + (i : Nat) * 1) ((n : Int) - (i : Nat)) 1) where
  mem := by simp
  obj := fun i h st b hb => by
    have e : b = it := by simpa using hb
    subst e
    exact ⟨_, st, fun v z => by
      have z' : Data.fields _ = Data.cell v := z
      cases z'⟩
  keep := fun i h h' st k => k it (by simp) _ st
  item := by
    intro X hP hw hK hc i pins s σ H E I hf st hg
    subst hP hw hK
    (refine Obt.and6 (hf it (by simp)) fun f0 f1 f2 f3 f4 f5 => ?_)
    have W := Walks.range (prog := X.prog) (w := X.w) (I.ok.hd hc) it lo 1 n
    refine W.item i s _ _ hg st fun v h' tk hv st' kk => ?_
    (refine Obt.ex1 hv fun t e_0 => ?_; subst e_0; clear hv)
    have I1 : Inv X pins σ H { s with heap := h', toks := tk } := I.turned (fun b o hb e => kk b o (by simpa using hb) e) f0 f1 f3 f4 f5
    refine ⟨_, rfl, go_of (s := { s with heap := h', toks := tk }) (n := "range_iterator") st' rfl rfl (by decide) ⟨.int (lo + i), H, I1, ⟨t, ?_⟩, ⟨rfl, rfl⟩, st', fun b hb => (hf b hb).1⟩⟩
    rw [Int.mul_one]
  done := by
    intro X hP hw hK hc i pins s σ H E I hf st hg
    subst hP hw hK
    (refine Obt.and6 (hf it (by simp)) fun f0 f1 f2 f3 f4 f5 => ?_)
    exact wpAny_pyNext_range_end (I.ok.hd hc) st (by have : n <= i := hg; omega) fun h' eb => ⟨rfl, I.turned (t' := s.toks) (fun b o hb e => eb b o hb e) f0 f1 f3 f4 f5⟩
  self := fun _ _ _ _ _ st h => wpAny_pyIter_rangeiter st h
end L2
namespace L2
open PySem PySem.Spec PyProof.Rows
section
variable {X : Cx} {tg : Expr}
def iList (K : PySem.W.Frag) (tl : TE) : TI := fun σ H R => tl σ H fun x H1 => ∃ a, x = .ref a /\ (∃ xs, SqL K H1 a xs) /\ R (Itl K a) H1
def iTup (K : PySem.W.Frag) (tl : TE) : TI := fun σ H R => tl σ H fun x H1 => ∃ a, x = .ref a /\ (∃ xs, SqT K H1 a xs) /\ R (Itt K a) H1
theorem pi_list {l : Expr} {tl : TE} (hl : PE X l tl) : PI X tg l (iList X.K tl) := by
  intro pins s σ H R I h
  refine thn (hl pins s σ H _ I h) fun v s1 ⟨x, H1, I1, r1, q1⟩ => ?_
  (refine Obt.ex1 q1 fun a h_0 => Obt.and3 h_0 fun e t_1 q => Obt.ex1 t_1 fun xs hq => ?_; clear t_1 h_0 q1)
  subst e
  cases r1
  (refine Obt.ex1 (I1.list hq) fun its h_0 => Obt.and3 h_0 fun rv p hz => ?_; clear h_0)
  refine wpAny_pyIter_list p.isList ?_
  refine ⟨s1.heap.objs.size, [s1.heap.objs.size], _, _, H1, rfl, I1.kept (t' := s1.toks) fun b o e => Heap.get?_push_of_some _ e, turn_list a _, ⟨_, Heap.get?_push_size _ rfl, rfl, rfl⟩, fun b hb => ?_, q⟩
  have e : b = s1.heap.objs.size := by simpa using hb
  subst e
  exact I1.fpOk (Nat.le_refl _) (I1.hok.fresh (Nat.le_refl _))
theorem pi_tup {l : Expr} {tl : TE} (hl : PE X l tl) : PI X tg l (iTup X.K tl) := by
  intro pins s σ H R I h
  refine thn (hl pins s σ H _ I h) fun v s1 ⟨x, H1, I1, r1, q1⟩ => ?_
  (refine Obt.ex1 q1 fun a h_0 => Obt.and3 h_0 fun e t_1 q => Obt.ex1 t_1 fun xs hq => ?_; clear t_1 h_0 q1)
  subst e
  cases r1
  (refine Obt.ex1 (I1.tuple hq) fun its h_0 => Obt.and3 h_0 fun rv p hz => ?_; clear h_0)
  refine wpAny_pyIter_tuple (show s1.heap.IsTuple a its.toArray from p) ?_
  refine ⟨s1.heap.objs.size, [s1.heap.objs.size], _, _, H1, rfl, I1.kept (t' := s1.toks) fun b o e => Heap.get?_push_of_some _ e, turn_tuple a _, ⟨_, Heap.get?_push_size _ rfl, rfl, rfl⟩, fun b hb => ?_, q⟩
  have e : b = s1.heap.objs.size := by simpa using hb
  subst e
  exact I1.fpOk (Nat.le_refl _) (I1.hok.fresh (Nat.le_refl _))
theorem range_it {pins : List (Addr × Obj)} {σ : St} {H : Hp} {s : Shared} {R : It -> Hp -> Prop} {E : Value -> Shared -> Prop} {lo hi : Int} {t u v : Tok} {tk : Nat} (I : Inv X pins σ H s) (h1 : -(2 ^ 62) <= lo) (h2 : lo < 2 ^ 62) (h3 : -(2 ^ 62) <= hi) (h4 : hi < 2 ^ 62)
    (q : R (Itr lo (hi - lo).toNat) H) : wpAny (model X.prog X.w) X.A (pyIter (.ref s.heap.objs.size)) (PIE X pins σ tg R) E { s with heap := s.heap.push { cls := .type "range", data := .fields #[.int lo t, .int hi u, .int 1 v] }, toks := tk } := by
  refine wpAny_pyIter_range (IsRange.new ..) (small_one h1 h2 h3 h4) ?_
  have I1 : Inv X pins σ H { s with heap := s.heap.push { cls := .type "range", data := .fields #[.int lo t, .int hi u, .int 1 v] }, toks := tk } := I.kept fun b o e => Heap.get?_push_of_some _ e
  refine ⟨(s.heap.push { cls := .type "range", data := .fields #[.int lo t, .int hi u, .int 1 v] }).objs.size, [(s.heap.push { cls := .type "range", data := .fields #[.int lo t, .int hi u, .int 1 v] }).objs.size], _, _, H, rfl,
    I1.kept (t' := tk) fun b o e => Heap.get?_push_of_some _ e, turn_range _ lo (hi - lo).toNat, ?_, fun b hb => ?_, q⟩
  · have e1 : lo + ((0 : Nat) : Int) * 1 = lo := by simp
    have e2 : (((hi - lo).toNat : Nat) : Int) - ((0 : Nat) : Int) = Builtin.Range.rangeSize lo hi 1 := by rw [rangeSize_one]; split <;> omega
    show IsRangeIter _ _ (lo + ((0 : Nat) : Int) * 1) ((((hi - lo).toNat : Nat) : Int) - ((0 : Nat) : Int)) 1
    rw [e1, e2]
    exact Heap.get?_push_size _ rfl
  · have e : b = (s.heap.push { cls := .type "range", data := .fields #[.int lo t, .int hi u, .int 1 v] }).objs.size := by simpa using hb
    subst e
    exact I1.fpOk (Nat.le_refl _) (I1.hok.fresh (Nat.le_refl _))
def iRng1 (ta : TA) : TI := fun σ H R => ta σ H fun vs H1 => ∃ j : Int, vs = [.int j] /\ -(2 ^ 62) <= j /\ j < 2 ^ 62 /\ R (Itr 0 j.toNat) H1
theorem pi_range1 {a : Expr} {ta : TA} {p pos : Pos} (hg : Gl X "range") (hm : X.mg "range" = none) (ha : PA X [a] ta) (hs : starEach [a] X.env = [(false, eval a X.env)] := by rfl) : PI X tg (.Call (.Name "range" p) [a] [] pos) (iRng1 ta) := by
  intro pins s σ H R I h
  refine Call_ (ld_blt I hg hm boot_range (PyProof.Rows.callWith_type1 (thn (ha pos pins s σ H _ I h) fun us s1 ⟨vs, H1, I1, r1, q1⟩ => ?_) hs rfl))
  obtain ⟨j, e, q1, q2, q⟩ := q1
  subst e
  cases r1 with
  | cons r rr =>
    cases rr
    obtain ⟨t, rfl⟩ := r
    exact call_range_1 (range_it I1 (by omega) (by omega) q1 q2 (by simpa using q))
def tFor (wi : TI) (g : TG) (tb : TS) : TS := fun D σ H => wi σ H fun J H1 => ∃ W : Nat -> Nat -> St -> Hp -> Prop, (∃ m, W 0 m σ H1) /\ ∀ i m σ H, W i m σ H ->
  (J.stop i H /\ D.nx σ H) \/ (J.go i H /\ ∃ N : St -> Hp -> Prop, (∀ σ' H', N σ' H' -> ∃ m', m' < m /\ W (i + 1) m' σ' H') /\ ∀ x H', J.yld i H x H' -> g x σ H' fun σ2 H2 => tb { D with nx := N, ct := N, bk := D.nx } σ2 H2)
def pinsAt (fp : List Addr) (h : Heap) : List (Addr × Obj) := fp.filterMap fun b => (h.get? b).map fun o => (b, o)
theorem mem_pinsAt {fp : List Addr} {h : Heap} {b : Addr} {o : Obj} (hb : b ∈ fp) (e : h.get? b = some o) : (b, o) ∈ pinsAt fp h := List.mem_filterMap.mpr ⟨b, hb, by rw [e]; rfl⟩
theorem of_pinsAt {fp : List Addr} {h : Heap} {p : Addr × Obj} (hp : p ∈ pinsAt fp h) : p.1 ∈ fp /\ h.get? p.1 = some p.2 := by
  (refine Obt.ex1 (List.mem_filterMap.mp hp) fun b h_0 => Obt.and2 h_0 fun hb e => ?_; clear h_0)
  cases q : h.get? b with
  | none => rw [q] at e; cases e
  | some o =>
    rw [q] at e
    have e' : (b, o) = p := Option.some.inj e
    subst e'
    exact ⟨hb, q⟩
theorem Inv.pinned {pins : List (Addr × Obj)} {σ : St} {H : Hp} {s : Shared} {fp : List Addr} (I : Inv X pins σ H s) (hf : ∀ b ∈ fp, FpOk X pins H b) (ho : ∀ b ∈ fp, ∃ o, s.heap.get? b = some o /\ ∀ v, o.data ≠ .cell v) : Inv X (pins ++ pinsAt fp s.heap) σ H s :=
  I.pins_of fun p hp => (List.mem_append.mp hp).elim (fun z => I.pin p (List.mem_append_right _ z)) fun z => by
    (refine Obt.and2 (of_pinsAt z) fun hb e => ?_)
    (refine Obt.and4 (hf p.1 hb) fun f0 f1 f2 _ => ?_)
    (refine Obt.ex1 (ho p.1 hb) fun o h_0 => Obt.and2 h_0 fun e' d => ?_; clear h_0)
    rw [e] at e'; cases e'
    exact ⟨e, f0, f1, f2, d⟩
theorem Inv.unpinned {pins pl : List (Addr × Obj)} {σ : St} {H : Hp} {s : Shared} (I : Inv X (pins ++ pl) σ H s) : Inv X pins σ H s := I.pins_of fun p hp => I.pin p (List.mem_append_right _ (List.mem_append_left _ hp))
theorem ps_for {iter : Expr} {body : List Stmt} {wi : TI} {g : TG} {tb : TS} {pos : Pos} (hp : PassesOwn (model X.prog X.w) X.A X.env X.xe) (hc : X.calm = true) (hi : PI X tg iter wi) (hg : PG X tg g) (hb : PSs X body tb)
    (hs : ∀ x, foldedSetIterable iter X.env x = pure x := by intro _; rfl) : PS X (.For tg iter body [] pos) (tFor wi g tb) := by
  intro pins s σ H D I h
  refine wpAny_For (thn (hi pins s σ H _ I h) fun v s1 h1 => thn h1 fun itv s2 h2 => ?_) hs
  (refine Obt.ex5 h2 fun it fp tn J H2 h_0 => Obt.and6 h_0 fun e I2 T st2 f2 t_1 => Obt.ex1 t_1 fun W h_2 => Obt.and2 h_2 fun t_3 turn => Obt.ex1 t_3 fun m0 w0 => ?_; clear t_3 h_2 t_1 h_0 h2)
  subst e
  have stat : ∀ {H' : Hp}, (∀ b ∈ fp, H' b = none) -> ∀ b ∈ fp, FpOk X pins H' b := fun hn b hb => ⟨hn b hb, (f2 b hb).2⟩
  refine codeAny_forLoop_any (fun n s' => ∃ i σ' H', Inv X pins σ' H' s' /\ tn i s'.heap /\ (∀ b ∈ fp, H' b = none) /\ W i n σ' H') ?_ m0 ⟨0, σ, H2, I2, st2, fun b hb => (f2 b hb).1, w0⟩
  (refine fun n s3 i_0 => Obt.ex3 i_0 fun i σ3 H3 h_1 => Obt.and4 h_1 fun I3 st3 fr3 w3 => ?_; clear h_1 i_0)
  rcases turn i n σ3 H3 w3 with ⟨stop, qn⟩ | ⟨go, N, hN, step⟩
  · refine wpAny_passesOwn hp (thn (T.done X rfl rfl rfl hc i pins s3 σ3 H3 X.xe I3 (stat fr3) st3 stop) fun r s4 ⟨hr, I4⟩ => ?_)
    subst hr
    exact wpAny_execs_nil ⟨σ3, H3, I4, qn⟩
  · refine wpAny_passesOwn hp (thn (T.item X rfl rfl rfl hc i pins s3 σ3 H3 X.xe I3 (stat fr3) st3 go) fun r s4 ⟨u, hr, h4⟩ => ?_)
    subst hr
    refine wpAny_passesOwn hp (thn h4 fun _ s5 ⟨x, H5, I5, r5, y5, st5, fr5⟩ => ?_)
    have I5' := I5.pinned (stat fr5) (T.obj _ _ st5)
    refine wpAny_passesOwn hp (thn (hg _ s5 σ3 H5 x u _ I5' r5 (step x H5 y5)) fun _ s6 ⟨σ6, H6, I6, q6⟩ => ?_)
    refine wpAny_passesOwn hp (thn (hb _ s6 σ6 H6 _ I6 q6) fun f s7 q7 => ?_)
    have again : ∀ {σ7 : St} {H7 : Hp}, Inv X (pins ++ pinsAt fp s5.heap) σ7 H7 s7 -> N σ7 H7 -> ∃ m, m < n /\ ∃ i σ' H', Inv X pins σ' H' s7 /\ tn i s7.heap /\ (∀ b ∈ fp, H' b = none) /\ W i m σ' H' := fun {σ7 H7} I7 n7 => by
      (refine Obt.ex1 (hN σ7 H7 n7) fun m' h_0 => Obt.and2 h_0 fun hm w7 => ?_; clear h_0)
      refine ⟨m', hm, i + 1, σ7, H7, I7.unpinned, T.keep _ _ _ st5 fun b hb o e => (I7.pin (b, o) (List.mem_append_right _ (List.mem_append_right _ (mem_pinsAt hb e)))).1, fun b hb => ?_, w7⟩
      (refine Obt.ex1 (T.obj _ _ st5 b hb) fun o h_0 => Obt.and2 h_0 fun e d => ?_; clear h_0)
      exact (I7.pin (b, o) (List.mem_append_right _ (List.mem_append_right _ (mem_pinsAt hb e)))).2.1
    cases f with
    | next => (refine Obt.ex2 q7 fun σ7 H7 h_0 => Obt.and2 h_0 fun I7 n7 => ?_; clear h_0 q7); exact again I7 n7
    | cont => (refine Obt.ex2 q7 fun σ7 H7 h_0 => Obt.and2 h_0 fun I7 n7 => ?_; clear h_0 q7); exact again I7 n7
    | brk => (refine Obt.ex2 q7 fun σ7 H7 h_0 => Obt.and2 h_0 fun I7 q7 => ?_; clear h_0); exact ⟨σ7, H7, I7.unpinned, q7⟩
    | ret v => (refine Obt.ex3 q7 fun x7 σ7 H7 h_0 => Obt.and3 h_0 fun I7 r7 q7 => ?_; clear h_0); exact ⟨x7, σ7, H7, I7.unpinned, r7, q7⟩
end
theorem for_list {K : PySem.W.Frag} {a : Addr} {xs : List V} {g : TG} {tb : TS} {D : Ends} {σ : St} {H : Hp} (Pv : Nat -> St -> Hp -> Prop) (h0 : Pv 0 σ H) (hl : ∀ i σ H, i <= xs.length -> Pv i σ H -> SqL K H a xs)
    (hs : ∀ i x σ H, xs[i]? = some x -> Pv i σ H -> g x σ H fun σ2 H2 => tb { D with nx := Pv (i + 1), ct := Pv (i + 1), bk := D.nx } σ2 H2) (hd : ∀ σ H, Pv xs.length σ H -> D.nx σ H) :
    ∃ W : Nat -> Nat -> St -> Hp -> Prop, (∃ m, W 0 m σ H) /\ ∀ i m σ H, W i m σ H ->
      ((Itl K a).stop i H /\ D.nx σ H) \/ ((Itl K a).go i H /\ ∃ N : St -> Hp -> Prop, (∀ σ' H', N σ' H' -> ∃ m', m' < m /\ W (i + 1) m' σ' H') /\ ∀ x H', (Itl K a).yld i H x H' -> g x σ H' fun σ2 H2 => tb { D with nx := N, ct := N, bk := D.nx } σ2 H2) := by
  refine ⟨fun i m σ H => m = xs.length - i /\ i <= xs.length /\ Pv i σ H, ⟨xs.length, by simp, Nat.zero_le _, h0⟩, ?_⟩
  (refine fun i m σ H i_0 => Obt.and3 i_0 fun e_1 hi p => ?_; subst e_1; clear i_0)
  have q := hl i σ H hi p
  by_cases hlt : i < xs.length
  · refine .inr ⟨⟨xs, xs[i], q, by simp [hlt]⟩, Pv (i + 1), fun σ' H' p' => ⟨xs.length - (i + 1), by omega, rfl, hlt, p'⟩, fun x H' y => ?_⟩
    (refine Obt.and2 y fun e y => ?_)
    subst e
    exact hs i x σ _ (y xs q) p
  · have e : i = xs.length := by omega
    subst e
    exact .inl ⟨⟨xs, q, Nat.le_refl _⟩, hd σ H p⟩
theorem for_tup {K : PySem.W.Frag} {a : Addr} {xs : List V} {g : TG} {tb : TS} {D : Ends} {σ : St} {H : Hp} (Pv : Nat -> St -> Hp -> Prop) (h0 : Pv 0 σ H) (hl : ∀ i σ H, i <= xs.length -> Pv i σ H -> SqT K H a xs)
    (hs : ∀ i x σ H, xs[i]? = some x -> Pv i σ H -> g x σ H fun σ2 H2 => tb { D with nx := Pv (i + 1), ct := Pv (i + 1), bk := D.nx } σ2 H2) (hd : ∀ σ H, Pv xs.length σ H -> D.nx σ H) :
    ∃ W : Nat -> Nat -> St -> Hp -> Prop, (∃ m, W 0 m σ H) /\ ∀ i m σ H, W i m σ H ->
      ((Itt K a).stop i H /\ D.nx σ H) \/ ((Itt K a).go i H /\ ∃ N : St -> Hp -> Prop, (∀ σ' H', N σ' H' -> ∃ m', m' < m /\ W (i + 1) m' σ' H') /\ ∀ x H', (Itt K a).yld i H x H' -> g x σ H' fun σ2 H2 => tb { D with nx := N, ct := N, bk := D.nx } σ2 H2) := by
  refine ⟨fun i m σ H => m = xs.length - i /\ i <= xs.length /\ Pv i σ H, ⟨xs.length, by simp, Nat.zero_le _, h0⟩, ?_⟩
  (refine fun i m σ H i_0 => Obt.and3 i_0 fun e_1 hi p => ?_; subst e_1; clear i_0)
  have q := hl i σ H hi p
  by_cases hlt : i < xs.length
  · refine .inr ⟨⟨xs, xs[i], q, by simp [hlt]⟩, Pv (i + 1), fun σ' H' p' => ⟨xs.length - (i + 1), by omega, rfl, hlt, p'⟩, fun x H' y => ?_⟩
    (refine Obt.and2 y fun e y => ?_)
    subst e
    exact hs i x σ _ (y xs q) p
  · have e : i = xs.length := by omega
    subst e
    exact .inl ⟨⟨xs, q, Nat.le_refl _⟩, hd σ H p⟩
theorem for_range {lo : Int} {n : Nat} {g : TG} {tb : TS} {D : Ends} {σ : St} {H : Hp} (Pv : Nat -> St -> Hp -> Prop) (h0 : Pv 0 σ H)
    (hs : ∀ i σ H, i < n -> Pv i σ H -> g (.int (lo + i)) σ H fun σ2 H2 => tb { D with nx := Pv (i + 1), ct := Pv (i + 1), bk := D.nx } σ2 H2) (hd : ∀ σ H, Pv n σ H -> D.nx σ H) :
    ∃ W : Nat -> Nat -> St -> Hp -> Prop, (∃ m, W 0 m σ H) /\ ∀ i m σ H, W i m σ H ->
      ((Itr lo n).stop i H /\ D.nx σ H) \/ ((Itr lo n).go i H /\ ∃ N : St -> Hp -> Prop, (∀ σ' H', N σ' H' -> ∃ m', m' < m /\ W (i + 1) m' σ' H') /\ ∀ x H', (Itr lo n).yld i H x H' -> g x σ H' fun σ2 H2 => tb { D with nx := N, ct := N, bk := D.nx } σ2 H2) := by
  refine ⟨fun i m σ H => m = n - i /\ i <= n /\ Pv i σ H, ⟨n, by simp, Nat.zero_le _, h0⟩, ?_⟩
  rintro i m σ H ⟨rfl, hi, p⟩
  by_cases hlt : i < n
  · refine .inr ⟨hlt, Pv (i + 1), fun σ' H' p' => ⟨n - (i + 1), by omega, rfl, hlt, p'⟩, fun x H' y => ?_⟩
    obtain ⟨e, y⟩ := y
    subst e y
    exact hs i σ _ hlt p
  · have e : i = n := by omega
    subst e
    exact .inl ⟨Nat.le_refl _, hd σ H p⟩
end L2
namespace L2
open PySem PySem.Spec PyProof.Rows
abbrev R2 := V -> V -> Hp -> VK -> Prop
def OpR (X : Cx) (f : Value -> Value -> Sem Value) (r : R2) : Prop :=
  ∀ (pins : List (Addr × Obj)) (s : Shared) (σ : St) (H : Hp) (x y : V) (v u : Value) (Q : VK), Inv X pins σ H s -> RelV x v -> RelV y u -> r x y H Q ->
    wpAny (model X.prog X.w) X.A (f v u) (EP X pins σ Q) X.xe s
def CallR (X : Cx) (f : Value) (r : List V -> Hp -> VK -> Prop) : Prop :=
  ∀ (pins : List (Addr × Obj)) (s : Shared) (σ : St) (H : Hp) (xs : List V) (us : List Value) (Q : VK), Inv X pins σ H s -> Vals xs us -> r xs H Q ->
    wpAny (model X.prog X.w) X.A (call f us) (EP X pins σ Q) X.xe s
def TruR (X : Cx) (r : V -> Hp -> (Bool -> Hp -> Prop) -> Prop) : Prop :=
  ∀ (pins : List (Addr × Obj)) (s : Shared) (σ : St) (H : Hp) (x : V) (v : Value) (Q : Bool -> Hp -> Prop), Inv X pins σ H s -> RelV x v -> r x H Q ->
    wpAny (model X.prog X.w) X.A (truthy v) (TP X pins σ Q) X.xe s
def tOp (r : R2) (ta tb : TE) : TE := fun σ H Q => ta σ H fun x H1 => tb σ H1 fun y H2 => r x y H2 Q
def rI (C : Int -> Int -> Prop) (g : Int -> Int -> V) : R2 := fun x y H Q => ∃ i j, x = .int i /\ y = .int j /\ C i j /\ Q (g i j) H
def rI0 (g : Int -> Int -> V) : R2 := fun x y H Q => ∃ i j, x = .int i /\ y = .int j /\ Q (g i j) H
section
variable {X : Cx} {a b c : Expr} {ta tb tc : TE} {pos : Pos}
theorem binT (ha : PE X a ta) (hb : PE X b tb) {pins : List (Addr × Obj)} {s : Shared} {σ : St} {H : Hp} {R : V -> V -> Hp -> Prop} (I : Inv X pins σ H s)
    (h : ta σ H fun x H1 => tb σ H1 fun y H2 => R x y H2) {Q : Value -> Shared -> Prop} {f : Value -> Value -> Sem Value}
    (hf : ∀ v u s2 x y H2, Inv X pins σ H2 s2 -> RelV x v -> RelV y u -> R x y H2 -> wpAny (model X.prog X.w) X.A (f v u) Q X.xe s2) :
    wpAny (model X.prog X.w) X.A (eval a X.env) (fun v s₁ => wpAny (model X.prog X.w) X.A (eval b X.env) (fun u s₂ => wpAny (model X.prog X.w) X.A (f v u) Q X.xe s₂) X.xe s₁) X.xe s := by
  refine thn (ha pins s σ H _ I h) fun v s1 ⟨x, H1, I1, r1, q1⟩ => ?_
  refine thn (hb pins s1 σ H1 _ I1 q1) fun u s2 ⟨y, H2, I2, r2, q2⟩ => ?_
  exact hf v u s2 x y H2 I2 r1 r2 q2
theorem pe_op {op : Operator} {r : R2} (ho : OpR X (binaryOp op) r) (ha : PE X a ta) (hb : PE X b tb) : PE X (.BinOp a op b pos) (tOp r ta tb) := by
  intro pins s σ H Q I h
  exact wpAny_BinOp (binT ha hb I h fun v u s2 x y H2 I2 rx ry q => ho pins s2 σ H2 x y v u Q I2 rx ry q)
theorem opI {f : Value -> Value -> Sem Value} {C : Int -> Int -> Prop} {g : Int -> Int -> Int}
    (rule : ∀ (i j : Int) (t u : Tok) (s : Shared) (Q : Value -> Shared -> Prop) (E : Value -> Shared -> Prop), C i j -> Q (.int (g i j) s.toks) { s with toks := s.toks + 1 } -> wpAny (model X.prog X.w) X.A (f (.int i t) (.int j u)) Q E s) :
    OpR X f (rI C fun i j => .int (g i j)) := by
  intro pins s σ H x y v u Q I rx ry h
  (refine Obt.ex2 h fun i j h_0 => Obt.and4 h_0 fun e_1 e_2 hc q => ?_; subst e_1; subst e_2; clear h_0 h)
  (refine Obt.ex1 rx fun t e_0 => ?_; subst e_0; clear rx)
  (refine Obt.ex1 ry fun t' e_0 => ?_; subst e_0; clear ry)
  exact rule i j t t' s _ _ hc ⟨.int (g i j), H, I.tok _, ⟨_, rfl⟩, q⟩
theorem opI0 {f : Value -> Value -> Sem Value} {g : Int -> Int -> Int}
    (rule : ∀ (i j : Int) (t u : Tok) (s : Shared) (Q : Value -> Shared -> Prop) (E : Value -> Shared -> Prop), Q (.int (g i j) s.toks) { s with toks := s.toks + 1 } -> wpAny (model X.prog X.w) X.A (f (.int i t) (.int j u)) Q E s) :
    OpR X f (rI0 fun i j => .int (g i j)) := by
  intro pins s σ H x y v u Q I rx ry h
  (refine Obt.ex2 h fun i j h_0 => Obt.and3 h_0 fun e_1 e_2 q => ?_; subst e_1; subst e_2; clear h_0 h)
  (refine Obt.ex1 rx fun t e_0 => ?_; subst e_0; clear rx)
  (refine Obt.ex1 ry fun t' e_0 => ?_; subst e_0; clear ry)
  exact rule i j t t' s _ _ ⟨.int (g i j), H, I.tok _, ⟨_, rfl⟩, q⟩
theorem opB0 {f : Value -> Value -> Sem Value} {g : Int -> Int -> Bool}
    (rule : ∀ (i j : Int) (t u : Tok) (s : Shared) (Q : Value -> Shared -> Prop) (E : Value -> Shared -> Prop), Q (.bool (g i j)) s -> wpAny (model X.prog X.w) X.A (f (.int i t) (.int j u)) Q E s) :
    OpR X f (rI0 fun i j => .bl (g i j)) := by
  intro pins s σ H x y v u Q I rx ry h
  (refine Obt.ex2 h fun i j h_0 => Obt.and3 h_0 fun e_1 e_2 q => ?_; subst e_1; subst e_2; clear h_0 h)
  (refine Obt.ex1 rx fun t e_0 => ?_; subst e_0; clear rx)
  (refine Obt.ex1 ry fun t' e_0 => ?_; subst e_0; clear ry)
  exact rule i j t t' s _ _ ⟨.bl (g i j), H, I, rfl, q⟩
def CDiv (i j : Int) : Prop := 0 < j /\ j < 1073741824
def CMul (i j : Int) : Prop := (-(2 ^ 64) < i /\ i < 2 ^ 64) \/ (-(2 ^ 64) < j /\ j < 2 ^ 64)
theorem CMul.ok {i j : Int} (h : CMul i j) : IntMulOk i j := by
  rcases h with ⟨h1, h2⟩ | ⟨h1, h2⟩
  · exact .of_left (intBits_le_64 h1 h2)
  · exact .of_right (intBits_le_64 h1 h2)
theorem op_add : OpR X (binaryOp .Add) (rI0 fun i j => .int (i + j)) := opI0 fun _ _ _ _ _ _ _ q => add_int q
theorem op_sub : OpR X (binaryOp .Sub) (rI0 fun i j => .int (i - j)) := opI0 fun _ _ _ _ _ _ _ q => sub_int q
theorem op_mul : OpR X (binaryOp .Mult) (rI CMul fun i j => .int (i * j)) := opI fun _ _ _ _ _ _ _ hc q => mul_int q hc.ok
theorem op_fdiv : OpR X (binaryOp .FloorDiv) (rI CDiv fun i j => .int (i / j)) := opI fun i j _ _ _ _ _ hc q => by
  have h1 : (0 : Int) < j := hc.1
  have h2 : j < 1073741824 := hc.2
  exact floordiv_int (by omega) (by rw [Int.fdiv_eq_ediv_of_nonneg i (by omega)]; exact q) (.inl (PyProof.noPylong_small (by omega)))
theorem op_mod : OpR X (binaryOp .Mod) (rI (fun _ j => 0 < j) fun i j => .int (i % j)) := opI fun i j _ _ _ _ _ hc q => by
  have h1 : (0 : Int) < j := hc
  exact mod_int' (by omega) (by rw [Int.fmod_eq_emod_of_nonneg i (by omega)]; exact q)
end
def scal : V -> V -> Bool
  | .non, .non => true | .non, .int _ => true | .int _, .non => true | .non, .bl _ => true | .bl _, .non => true | .non, .str _ => true | .str _, .non => true
  | .int _, .int _ => true | .bl _, .bl _ => true | .str _, .str _ => true | .byt _, .byt _ => true
  | .int _, .str _ => true | .str _, .int _ => true | .bl _, .str _ => true | .str _, .bl _ => true
  | _, _ => false
def rEq : R2 := fun x y H Q => scal x y = true /\ Q (.bl (decide (x = y))) H
def rNe : R2 := fun x y H Q => scal x y = true /\ Q (.bl (!decide (x = y))) H
theorem dec_int {i j : Int} : decide (V.int i = V.int j) = (i == j) := by
  rw [Bool.eq_iff_iff]
  simp
theorem dec_bl {i j : Bool} : decide (V.bl i = V.bl j) = (i == j) := by
  rw [Bool.eq_iff_iff]
  simp
theorem dec_str {i j : Str} : decide (V.str i = V.str j) = (i == j) := by
  rw [Bool.eq_iff_iff]
  simp
theorem dec_byt {i j : Array UInt8} : decide (V.byt i = V.byt j) = (i.toList == j.toList) := by
  rw [Bool.eq_iff_iff]
  cases i
  cases j
  simp
section
variable {X : Cx} {a b c : Expr} {ta tb tc : TE} {pos : Pos}
theorem fin_bl {pins : List (Addr × Obj)} {σ : St} {H : Hp} {s : Shared} {Q : VK} {k k' : Bool} (I : Inv X pins σ H s) (q : Q (.bl k) H) (e : k = k') : EP X pins σ Q (.bool k') s := by
  subst e
  exact ⟨.bl k, H, I, rfl, q⟩
theorem op_eq : OpR X (compareOp .Eq) rEq := by
  intro pins s σ H x y v u Q I rx ry h
  (refine Obt.and2 h fun hs q => ?_; clear h)
  cases x with
  | non =>
    cases rx
    cases y with
    | non => cases ry; exact PySem.EqNone.eq_none_none (fin_bl I q (by simp))
    | bl j => cases ry; exact PySem.EqNone.eq_none_bool (fin_bl I q (by simp))
    | int j => (refine Obt.ex1 ry fun t' e_0 => ?_; subst e_0; clear ry); exact PySem.EqNone.eq_none_int (fin_bl I q (by simp))
    | str j => (refine Obt.ex1 ry fun t' e_0 => ?_; subst e_0; clear ry); exact PySem.EqNone.eq_none_str (fin_bl I q (by simp))
    | _ => exact absurd (show false = true from hs) Bool.false_ne_true
  | bl i =>
    cases rx
    cases y with
    | non => cases ry; exact PySem.EqNone.eq_bool_none (fin_bl I q (by simp))
    | bl j => cases ry; exact eq_bool (fin_bl I q dec_bl)
    | str j => (refine Obt.ex1 ry fun t' e_0 => ?_; subst e_0; clear ry); exact PySem.EqMixed.eq_bool_str (fin_bl I q (by simp))
    | _ => exact absurd (show false = true from hs) Bool.false_ne_true
  | int i =>
    (refine Obt.ex1 rx fun t e_0 => ?_; subst e_0; clear rx)
    cases y with
    | non => cases ry; exact PySem.EqNone.eq_int_none (fin_bl I q (by simp))
    | int j => (refine Obt.ex1 ry fun t' e_0 => ?_; subst e_0; clear ry); exact eq_int (fin_bl I q dec_int)
    | str j => (refine Obt.ex1 ry fun t' e_0 => ?_; subst e_0; clear ry); exact PySem.EqMixed.eq_int_str (fin_bl I q (by simp))
    | _ => exact absurd (show false = true from hs) Bool.false_ne_true
  | str i =>
    (refine Obt.ex1 rx fun t e_0 => ?_; subst e_0; clear rx)
    cases y with
    | non => cases ry; exact PySem.EqNone.eq_str_none (fin_bl I q (by simp))
    | bl j => cases ry; exact PySem.EqMixed.eq_str_bool (fin_bl I q (by simp))
    | int j => (refine Obt.ex1 ry fun t' e_0 => ?_; subst e_0; clear ry); exact PySem.EqMixed.eq_str_int (fin_bl I q (by simp))
    | str j => (refine Obt.ex1 ry fun t' e_0 => ?_; subst e_0; clear ry); exact eq_str (fin_bl I q dec_str)
    | _ => exact absurd (show false = true from hs) Bool.false_ne_true
  | byt i =>
    (refine Obt.ex1 rx fun t e_0 => ?_; subst e_0; clear rx)
    cases y with
    | byt j => (refine Obt.ex1 ry fun t' e_0 => ?_; subst e_0; clear ry); exact PySem.W.eq_bytes (fin_bl I q dec_byt)
    | _ => exact absurd (show false = true from hs) Bool.false_ne_true
  | _ => cases y <;> exact absurd (show false = true from hs) Bool.false_ne_true
theorem op_ne : OpR X (compareOp .NotEq) rNe := by
  intro pins s σ H x y v u Q I rx ry h
  (refine Obt.and2 h fun hs q => ?_; clear h)
  cases x with
  | non =>
    cases rx
    cases y with
    | non => cases ry; exact PySem.EqNone.ne_none_none (fin_bl I q (by simp))
    | bl j => cases ry; exact PySem.EqNone.ne_none_bool (fin_bl I q (by simp))
    | int j => (refine Obt.ex1 ry fun t' e_0 => ?_; subst e_0; clear ry); exact PySem.EqNone.ne_none_int (fin_bl I q (by simp))
    | str j => (refine Obt.ex1 ry fun t' e_0 => ?_; subst e_0; clear ry); exact PySem.EqNone.ne_none_str (fin_bl I q (by simp))
    | _ => exact absurd (show false = true from hs) Bool.false_ne_true
  | bl i =>
    cases rx
    cases y with
    | non => cases ry; exact PySem.EqNone.ne_bool_none (fin_bl I q (by simp))
    | bl j => cases ry; exact ne_bool (fin_bl I q (congrArg not dec_bl))
    | str j => (refine Obt.ex1 ry fun t' e_0 => ?_; subst e_0; clear ry); exact PySem.EqMixed.ne_bool_str (fin_bl I q (by simp))
    | _ => exact absurd (show false = true from hs) Bool.false_ne_true
  | int i =>
    (refine Obt.ex1 rx fun t e_0 => ?_; subst e_0; clear rx)
    cases y with
    | non => cases ry; exact PySem.EqNone.ne_int_none (fin_bl I q (by simp))
    | int j => (refine Obt.ex1 ry fun t' e_0 => ?_; subst e_0; clear ry); exact ne_int (fin_bl I q (congrArg not dec_int))
    | str j => (refine Obt.ex1 ry fun t' e_0 => ?_; subst e_0; clear ry); exact PySem.EqMixed.ne_int_str (fin_bl I q (by simp))
    | _ => exact absurd (show false = true from hs) Bool.false_ne_true
  | str i =>
    (refine Obt.ex1 rx fun t e_0 => ?_; subst e_0; clear rx)
    cases y with
    | non => cases ry; exact PySem.EqNone.ne_str_none (fin_bl I q (by simp))
    | bl j => cases ry; exact PySem.EqMixed.ne_str_bool (fin_bl I q (by simp))
    | int j => (refine Obt.ex1 ry fun t' e_0 => ?_; subst e_0; clear ry); exact PySem.EqMixed.ne_str_int (fin_bl I q (by simp))
    | str j => (refine Obt.ex1 ry fun t' e_0 => ?_; subst e_0; clear ry); exact ne_str (fin_bl I q (congrArg not dec_str))
    | _ => exact absurd (show false = true from hs) Bool.false_ne_true
  | byt i =>
    (refine Obt.ex1 rx fun t e_0 => ?_; subst e_0; clear rx)
    cases y with
    | byt j => (refine Obt.ex1 ry fun t' e_0 => ?_; subst e_0; clear ry); exact PySem.W.ne_bytes (fin_bl I q (congrArg not dec_byt))
    | _ => exact absurd (show false = true from hs) Bool.false_ne_true
  | _ => cases y <;> exact absurd (show false = true from hs) Bool.false_ne_true
theorem op_lt : OpR X (compareOp .Lt) (rI0 fun i j => .bl (decide (i < j))) := opB0 fun _ _ _ _ _ _ _ q => lt_int q
theorem op_gt : OpR X (compareOp .Gt) (rI0 fun i j => .bl (decide (j < i))) := opB0 fun _ _ _ _ _ _ _ q => gt_int q
theorem nomark (b : Expr) {op : CmpOp} (h : op ≠ .In := by decide) (h2 : op ≠ .NotIn := by decide) : behindInMarks op b = false := by
  have e1 : (op == CmpOp.In) = false := by cases op <;> first | rfl | exact absurd rfl h
  have e2 : (op == CmpOp.NotIn) = false := by cases op <;> first | rfl | exact absurd rfl h2
  cases b <;> simp [behindInMarks, e1, e2]
theorem pe_cmpR {op : CmpOp} {r : R2} (ho : OpR X (compareOp op) r) (ha : PE X a ta) (hb : PE X b tb) (hm : behindInMarks op b = false) : PE X (.Compare a [op] [b] pos) (tOp r ta tb) := by
  intro pins s σ H Q I h
  exact wpAny_Compare1 (binT ha hb I h fun v u s2 x y H2 I2 rx ry q => ho pins s2 σ H2 x y v u Q I2 rx ry q) hm
def tTest (t : TE) : TT := fun σ H Q => t σ H fun x H' => ∃ k, x = .bl k /\ Q k H'
theorem pt_cmpR {op : CmpOp} {r : R2} (ho : OpR X (compareOp op) r) (ha : PE X a ta) (hb : PE X b tb) (hm : behindInMarks op b = false) : PT X (.Compare a [op] [b] pos) (tTest (tOp r ta tb)) := by
  intro pins s σ H Q I h
  refine wpAny_isTrue_Compare1 (thn (ha pins s σ H _ I h) fun v s1 ⟨x, H1, I1, r1, q1⟩ => thn (hb pins s1 σ H1 _ I1 q1) fun u s2 ⟨y, H2, I2, r2, q2⟩ =>
    thn (ho pins s2 σ H2 x y v u _ I2 r1 r2 q2) fun c s3 ⟨z, H3, I3, r3, k, e, q3⟩ => ?_) hm
  subst e
  cases r3
  exact wpAny_truthy_bool ⟨H3, I3, q3⟩
def TruV (K : PySem.W.Frag) (x : V) (H : Hp) (k : Bool) : Prop :=
  match x with
  | .non => k = false
  | .bl b => k = b
  | .int i => k = (i != 0)
  | .str y => y.length <= sizeLine /\ k = ((y.length : Int) != 0)
  | .byt y => y.size <= sizeLine /\ k = ((y.size : Int) != 0)
  | .ref p => (∃ xs, SqL K H p xs /\ k = !xs.isEmpty) \/ (∃ xs, SqT K H p xs /\ k = !xs.isEmpty) \/ ∃ kvs, H p = some (.dK kvs) /\ k = !kvs.isEmpty
  | _ => False
theorem isEmpty_kv {κ : Type} {kvs : List (κ × V)} {vs : List (κ × Value)} (r : KV kvs vs) : (!vs.isEmpty) = !kvs.isEmpty := by
  cases r <;> rfl
theorem isEmpty_of {xs : List V} {its : List Value} (r : Vals xs its) : (!its.toArray.isEmpty) = !xs.isEmpty := by
  cases r <;> simp
theorem line63 : (sizeLine : Nat) < 2 ^ 63 := by rw [sizeLine_eq]; decide
theorem tru_ok : TruR X (fun x H Q => ∃ k, TruV X.K x H k /\ Q k H) := by
  intro pins s σ H x v Q I rx h
  (refine Obt.ex1 h fun k h_0 => Obt.and2 h_0 fun e q => ?_; clear h_0 h)
  have hl := line63
  have hs : sizeLine = 16777216 := sizeLine_eq
  cases x with
  | non =>
    cases rx
    have e' : k = false := e
    subst e'
    exact truthy_none ⟨H, I, q⟩
  | bl b =>
    cases rx
    have e' : k = b := e
    subst e'
    exact wpAny_truthy_bool ⟨H, I, q⟩
  | int i =>
    (refine Obt.ex1 rx fun t e_0 => ?_; subst e_0; clear rx)
    have e' : k = (i != 0) := e
    subst e'
    exact PySem.P.truthy_int ⟨H, I, q⟩
  | str y =>
    (refine Obt.ex1 rx fun t e_0 => ?_; subst e_0; clear rx)
    obtain ⟨hy, e'⟩ : y.length <= sizeLine /\ k = ((y.length : Int) != 0) := e
    subst e'
    exact PySem.P.truthy_str (by omega) ⟨H, I.tok _, q⟩
  | byt y =>
    (refine Obt.ex1 rx fun t e_0 => ?_; subst e_0; clear rx)
    obtain ⟨hy, e'⟩ : y.size <= sizeLine /\ k = ((y.size : Int) != 0) := e
    subst e'
    exact PySem.W.truthy_bytes (by omega) ⟨H, I.tok _, q⟩
  | ref p =>
    cases rx
    have e' : (∃ xs, SqL X.K H p xs /\ k = !xs.isEmpty) \/ (∃ xs, SqT X.K H p xs /\ k = !xs.isEmpty) \/ ∃ kvs, H p = some (.dK kvs) /\ k = !kvs.isEmpty := e
    rcases e' with ⟨xs, hx, e'⟩ | ⟨xs, hx, e'⟩ | ⟨kvs, hx, e'⟩
    · subst e'
      (refine Obt.ex1 (I.list hx) fun its h_0 => Obt.and3 h_0 fun r pl hz => ?_; clear h_0)
      have hlen := r.length
      exact wpAny_truthy_list pl.isList (by simp only [List.size_toArray]; omega) ⟨H, I.tok _, by rw [isEmpty_of r]; exact q⟩
    · subst e'
      (refine Obt.ex1 (I.tuple hx) fun its h_0 => Obt.and3 h_0 fun r pl hz => ?_; clear h_0)
      have hlen := r.length
      exact truthy_tuple pl (by simp only [List.size_toArray]; omega) ⟨H, I.tok _, by rw [isEmpty_of r]; exact q⟩
    · subst e'
      obtain ⟨hz, hS, vs, r, m⟩ : kvs.length <= sizeLine /\ (p == sysModules) = false /\ ∃ vs, KV kvs vs /\ s.heap.DictOf (mixKind X.prog X.w) p vs := I.hok p _ hx
      have hlen : kvs.length = vs.length := Paired.length r
      exact wpAny_truthy_dict hS m (by omega) ⟨H, I.tok _, by rw [isEmpty_kv r]; exact q⟩
  | _ => exact (show False from e).elim
theorem pt_truth (ha : PE X a ta) (he : ∀ whole, isTrue a X.env whole = (do let v <- whole; standAt a.pos; holding [v] (truthy v))) :
    PT X a (fun σ H Q => ta σ H fun x H' => ∃ k, TruV X.K x H' k /\ Q k H') := by
  intro pins s σ H Q I h
  exact isTrue_plain (thn (ha pins s σ H _ I h) fun v s1 ⟨x, H1, I1, r1, q1⟩ => tru_ok pins s1 σ H1 x v Q I1 r1 q1) (he _)
theorem vals1 {x : V} {us : List Value} (r : Vals [x] us) : ∃ u, us = [u] /\ RelV x u := by
  cases r with
  | cons r1 r2 => cases r2; exact ⟨_, rfl, r1⟩
end
end L2
namespace L2
open PySem PySem.Spec PyProof.Rows
structure ObjM (h : Heap) (x dx C : Addr) (mA : Str -> Option Value) : Prop where
  obj : h.get? x = some (PySem.W.instObj C dx)
  ns : h.Ns1 dx mA
  ne : dx ≠ x
theorem lookIn_ns {h : Heap} {dx : Addr} {mA : Str -> Option Value} (n : h.Ns1 dx mA) : ∃ od, h.get? dx = some od /\ ∀ name, PySem.W.lookIn name od = some (mA name) := by
  (refine Obt.ex3 n fun o es ep h_0 => Obt.and5 h_0 fun ho hd hk _ hm => ?_; clear h_0 n)
  refine ⟨o, ho, fun name => ?_⟩
  have e := hm name
  unfold nsFind findBy at e
  rw [<- Array.find?_toList] at e
  unfold PySem.W.lookIn
  rw [hd]
  dsimp only
  split
  · rename_i y q
    rw [q] at e
    exact congrArg some e
  · rename_i q
    rw [q] at e
    have a : es.toList.any (·.refKey) = false := by
      rw [List.any_eq_false]
      intro y hy
      (refine Obt.ex2 (hk y (Array.mem_toList_iff.mp hy)) fun z t hkey => ?_)
      simp [DictEntry.refKey, hkey]
    have a' : ¬ es.toList.any (·.refKey) = true := by rw [a]; exact Bool.false_ne_true
    rw [if_neg a']
    exact congrArg some e
theorem ObjM.look {h : Heap} {x dx C : Addr} {mA : Str -> Option Value} (I : ObjM h x dx C mA) : ∃ od, PySem.W.InstAt h x (PySem.W.instObj C dx) C (some od) /\ ∀ name, PySem.W.lookIn name od = some (mA name) :=
  let ⟨od, ho, hl⟩ := lookIn_ns I.ns
  ⟨od, ⟨I.obj, rfl, rfl, ho⟩, hl⟩
section
variable {prog : Program} {w : World} {A : Around} {E : Value -> Shared -> Prop} {s : Shared} {K : PySem.W.Frag} {x dx C f : Addr} {mA : Str -> Option Value} {name : Str} {v : Value}
theorem get_map {expr : Bool} {Q : Value -> Shared -> Prop} (X : K.In s.heap) (I : ObjM s.heap x dx C mA) (hg : PySem.W.plainGet K C name = true) (hh : PySem.W.hasDictIn K C = true)
    (ha : PySem.W.findIn K (.ref C) name = some none) (hv : mA name = some v) (hv' : PySem.W.handedIn v = true) (h : Q v { s with toks := s.toks + 1 }) :
    wpAny (model prog w) A (getAttr (.ref x) name expr) Q E s := by
  (refine Obt.ex1 I.look fun od h_0 => Obt.and2 h_0 fun J hl => ?_; clear h_0)
  exact PySem.W.get_value X J (PySem.W.plainGet_of hg).1 (PySem.W.findObj_own hh ha rfl (by rw [hl, hv])) hv' h
theorem get_meth {pl : Sem Bool} {Q : Value × List Value -> Shared -> Prop} (X : K.In s.heap) (I : ObjM s.heap x dx C mA) (hg : PySem.W.plainGet K C name = true)
    (hf : PySem.W.findIn K (.ref C) name = some (some (.ref f))) (ht : PySem.W.isFn K (.ref f) = true) (hv : mA name = none) (h : Q (.ref f, [.ref x]) s) :
    wpAny (model prog w) A (getMethod (.ref x) name pl) Q E s := by
  (refine Obt.ex1 I.look fun od h_0 => Obt.and2 h_0 fun J hl => ?_; clear h_0)
  exact PySem.W.method_fn X J (PySem.W.plainGet_of hg).1 (PySem.W.plainGet_of hg).2 hf (beq_iff_eq.mp ht) (by show (PySem.W.lookIn name od).map (·.isSome) = some false; rw [hl, hv]; rfl) h
theorem set_map {ns : List Str} {Q : Unit -> Shared -> Prop} (X : K.In s.heap) (I : ObjM s.heap x dx C mA)
    (hs : PySem.W.findIn K (.ref C) "__setattr__" = some (some (.builtin "object.__setattr__"))) (hp : PySem.W.plainOver K C = true) (ht : PySem.W.takerIn K C name = some none) (hh : PySem.W.hasDictIn K C = true)
    (hw : PySem.Within mA ns) (hsz : ns.length <= sizeLine)
    (h : ∀ h', ObjM h' x dx C (fun y => if y = name then some v else mA y) -> Heap.SameBut dx s.heap h' -> Q () { s with heap := h', toks := s.toks + 2 }) :
    wpAny (model prog w) A (setAttr (.ref x) name v) Q E s := by
  (refine Obt.ex1 I.look fun od h_0 => Obt.and2 h_0 fun J hl => ?_; clear h_0)
  refine PySem.W.set_plain X J hs (PySem.W.osa_open (s := { s with toks := s.toks + 1 }) (r := none) X J hp ht fun b => ?_)
  (refine Obt.ex1 (PySem.W.any_some hh) fun cd h_0 => Obt.and2 h_0 fun hc hd' => ?_; clear h_0)
  have hx : s.heap.get? x = some ⟨.ref C, some dx, .plain, #[]⟩ := I.obj
  refine wpAny_bind (wpAny_pure (wpAny_bind (wpAny_bind (wpAny_loadPart hx (wpAny_bind (PySem.W.Looks.here (s := { s with toks := s.toks + 1 }) (PySem.W.looks_clsIn X hc) ?_))))))
  rw [hd']
  refine wpAny_pure (a := some dx) (wpAny_bind (wpAny_pure (wpAny_bind ?_)))
  refine wpAny_nsSet1 (s := { s with toks := s.toks + 1 }) I.ns fun h' hn2 hs2 => ?_
  (refine Obt.ex3 (hn2.count (PySem.Within.cons name v hw)) fun oD esD epD h_0 => Obt.and3 h_0 fun hoD hdD hcD => ?_; clear h_0)
  refine wpAny_bind (wpAny_lookBehind hoD (by rw [hdD]; exact pastItsLine_dict (Nat.le_trans hcD (by rw [List.length_cons]; omega))) ?_)
  exact wpAny_pure (h _ ⟨(hs2.2 _ (Ne.symm I.ne)).trans I.obj, hn2, I.ne⟩ hs2)
theorem make_map {R : Result -> Shared -> Prop} {vs : List Value} {kw : List (Str × Value)} (X : K.In s.heap) (hm : PySem.W.makesIn K C = true)
    (hi : PySem.W.findIn K (.ref C) "__init__" = some (some (.ref f))) (hf : PySem.W.typeIn K (.ref f) = some (.type "function"))
    (h : codeAny (model prog w) (A.under (.builtin "type.__call__" ⟨.ref C :: vs, kw⟩)) (.call (.ref f) ⟨.ref (s.heap.objs.size + 1) :: vs, kw⟩) (PySem.W.InitBack (s.heap.objs.size + 1) R)
      { s with heap := (s.heap.push PySem.W.emptyDict).push (PySem.W.instObj C s.heap.objs.size) }) :
    codeAny (model prog w) A (.call (.ref C) ⟨vs, kw⟩) R s := by
  obtain ⟨hh, g, d, t, os⟩ := s
  exact PySem.W.make_core (PySem.W.makes_of X hm) (PySem.W.looks_findIn X hi) (fun self => PySem.W.bind_fn X self hf) (.inl rfl) h
end
def putF (f : Str) (v : V) : List (Str × V) -> List (Str × V)
  | [] => [(f, v)]
  | (g, x) :: r => if g = f then (g, v) :: r else (g, x) :: putF f v r
theorem lookup_putF (f g : Str) (v : V) : ∀ fs : List (Str × V), (putF f v fs).lookup g = if g = f then some v else fs.lookup g
  | [] => by
    show List.lookup g [(f, v)] = _
    by_cases h : g = f
    · have hb : (g == f) = true := beq_iff_eq.mpr h
      simp only [List.lookup, hb, if_pos h]
    · have hb : (g == f) = false := beq_eq_false_iff_ne.mpr h
      simp only [List.lookup, hb, if_neg h]
  | (k, x) :: r => by
    have ih := lookup_putF f g v r
    rw [show putF f v ((k, x) :: r) = (if k = f then (k, v) :: r else (k, x) :: putF f v r) from rfl]
    by_cases hk : k = f
    · rw [if_pos hk]
      by_cases h : g = k
      · have hb : (g == k) = true := beq_iff_eq.mpr h
        simp only [List.lookup, hb, if_pos (h.trans hk)]
      · have hb : (g == k) = false := beq_eq_false_iff_ne.mpr h
        simp only [List.lookup, hb, if_neg (fun e : g = f => h (e.trans hk.symm))]
    · rw [if_neg hk]
      by_cases h : g = k
      · have hb : (g == k) = true := beq_iff_eq.mpr h
        simp only [List.lookup, hb, if_neg (fun e : g = f => hk (h.symm.trans e))]
      · have hb : (g == k) = false := beq_eq_false_iff_ne.mpr h
        simp only [List.lookup, hb]
        exact ih
theorem keys_putF (f : Str) (v : V) : ∀ fs : List (Str × V), f ∈ (putF f v fs).map (·.1) /\ ∀ g, g ∈ fs.map (·.1) -> g ∈ (putF f v fs).map (·.1)
  | [] => ⟨by simp [putF], fun g h => by simp at h⟩
  | (k, x) :: r => by
    (refine Obt.and2 (keys_putF f v r) fun i1 i2 => ?_)
    rw [show putF f v ((k, x) :: r) = (if k = f then (k, v) :: r else (k, x) :: putF f v r) from rfl]
    by_cases hk : k = f
    · rw [if_pos hk]
      subst hk
      exact ⟨by simp, fun g h => by simpa using h⟩
    · rw [if_neg hk]
      refine ⟨?_, fun g h => ?_⟩
      · rw [List.map_cons]
        exact List.mem_cons_of_mem _ i1
      · rw [List.map_cons] at h ⊢
        rcases List.mem_cons.mp h with e | e
        · exact List.mem_cons.mpr (.inl e)
        · exact List.mem_cons_of_mem _ (i2 g e)
theorem length_putF (f : Str) (v : V) : ∀ fs : List (Str × V), (putF f v fs).length <= fs.length + 1
  | [] => by simp [putF]
  | (k, x) :: r => by
    have ih := length_putF f v r
    rw [show putF f v ((k, x) :: r) = (if k = f then (k, v) :: r else (k, x) :: putF f v r) from rfl]
    by_cases hk : k = f
    · rw [if_pos hk, List.length_cons, List.length_cons]; omega
    · rw [if_neg hk, List.length_cons, List.length_cons]; omega
theorem RelO.some_of {v : V} {o : Option Value} (r : RelO (some v) o) : ∃ u, o = some u /\ RelV v u := by
  cases o with
  | none => exact (show False from r).elim
  | some u => exact ⟨u, rfl, r⟩
theorem RelO.none_of {o : Option Value} (r : RelO none o) : o = none := by
  cases o with
  | none => rfl
  | some u => exact (show False from r).elim
theorem handed_of {v : V} {u : Value} (r : RelV v u) : PySem.W.handedIn u = true := by
  cases v with
  | non => cases (show u = Value.none from r); rfl
  | bl b => cases (show u = Value.bool b from r); rfl
  | int i => (refine Obt.ex1 ((show ∃ t, u = Value.int i t from r)) fun t e => ?_); cases e; rfl
  | str x => (refine Obt.ex1 ((show ∃ t, u = Value.str x t from r)) fun t e => ?_); cases e; rfl
  | byt b => (refine Obt.ex1 ((show ∃ t, u = Value.bytes b t from r)) fun t e => ?_); cases e; rfl
  | flt b => (refine Obt.ex1 ((show ∃ t, u = Value.float b t from r)) fun t e => ?_); cases e; rfl
  | ref a => cases (show u = Value.ref a from r); rfl
  | ty n => cases (show u = Value.type n from r); rfl
section
variable {P : Program} {w : World} {H H' : Hp} {h h' : Heap} {a C dx : Addr} {fs fs' : List (Str × V)}
theorem ins_get (hok : HOk P w H h) (e : H a = some (.ins C dx fs)) : ∃ mA, ObjM h a dx C mA /\ (∀ f, RelO (fs.lookup f) (mA f)) /\ PySem.Within mA (fs.map (·.1)) /\ fs.length <= 1000 /\ H dx = some (.own a) := by
  (refine Obt.and5 ((show ObjOk P w H h a (.ins C dx fs) from hok a _ e)) fun d z ne ob t_0 => Obt.ex1 t_0 fun mA h_1 => Obt.and3 h_1 fun n r q => ?_; clear h_1 t_0)
  exact ⟨mA, ⟨ob, n, ne⟩, r, q, z, d⟩
end
structure Cls (K : PySem.W.Frag) (C : Addr) : Prop where
  pg : PySem.W.plainGet K C Str.empty = true
  hd : PySem.W.hasDictIn K C = true
  po : PySem.W.plainOver K C = true
  sa : PySem.W.findIn K (.ref C) "__setattr__" = some (some (.builtin "object.__setattr__"))
theorem Cls.get {K : PySem.W.Frag} {C : Addr} (c : Cls K C) (f : Str) : PySem.W.plainGet K C f = true := c.pg
def NoAttr (K : PySem.W.Frag) (C : Addr) (f : Str) : Prop := PySem.W.findIn K (.ref C) f = some none
theorem NoAttr.taker {K : PySem.W.Frag} {C : Addr} {f : Str} (n : NoAttr K C f) : PySem.W.takerIn K C f = some none := by
  unfold PySem.W.takerIn
  rw [show PySem.W.findIn K (.ref C) f = some none from n]
  rfl
structure Con (K : PySem.W.Frag) (C : Addr) (f : Str) (v : V) (u : Value) : Prop where
  at_ : PySem.W.findIn K (.ref C) f = some (some u)
  rel : RelV v u
  get : PySem.W.specialIn K u "__get__" = some none
  cp : PySem.W.copiedNames.contains f = false
structure Meth (K : PySem.W.Frag) (C : Addr) (m : Str) (f : Addr) : Prop where
  at_ : PySem.W.findIn K (.ref C) m = some (some (.ref f))
  fn : PySem.W.isFn K (.ref f) = true
  kp : PySem.W.keepIn K (.ref f) = true
section
variable {X : Cx} {pins : List (Addr × Obj)} {σ : St} {H : Hp} {s : Shared} {a C dx : Addr} {fs : List (Str × V)} {f : Str} {v : V} {A : Around} {E : Value -> Shared -> Prop}
theorem getattr_ok {b : Bool} {Q : Value -> Shared -> Prop} (I : Inv X pins σ H s) (e : H a = some (.ins C dx fs)) (c : Cls X.K C) (n : NoAttr X.K C f) (l : fs.lookup f = some v)
    (h : ∀ u s', Inv X pins σ H s' -> RelV v u -> Q u s') : wpAny (model X.prog X.w) A (getAttr (.ref a) f b) Q E s := by
  (refine Obt.ex1 (ins_get I.hok e) fun mA h_0 => Obt.and5 h_0 fun O r _ _ _ => ?_; clear h_0)
  (refine Obt.ex1 (RelO.some_of (v := v) (o := mA f) (by rw [<- l]; exact r f)) fun u h_0 => Obt.and2 h_0 fun hu ru => ?_; clear h_0)
  exact get_map I.kIn O (c.get f) c.hd n hu (handed_of ru) (h u _ (I.tok _) ru)
theorem getmeth_ok {m : Str} {g : Addr} {pl : Sem Bool} {Q : Value × List Value -> Shared -> Prop} (I : Inv X pins σ H s) (e : H a = some (.ins C dx fs)) (c : Cls X.K C) (k : Meth X.K C m g) (l : fs.lookup m = none)
    (h : Q (.ref g, [.ref a]) s) : wpAny (model X.prog X.w) A (getMethod (.ref a) m pl) Q E s := by
  (refine Obt.ex1 (ins_get I.hok e) fun mA h_0 => Obt.and5 h_0 fun O r _ _ _ => ?_; clear h_0)
  have hn : mA m = none := RelO.none_of (by rw [<- l]; exact r m)
  exact get_meth I.kIn O (c.get m) k.at_ k.fn hn h
theorem setattr_ok {y : V} {u : Value} {Q : Unit -> Shared -> Prop} (I : Inv X pins σ H s) (e : H a = some (.ins C dx fs)) (c : Cls X.K C) (n : NoAttr X.K C f) (hl : fs.length < 1000) (ry : RelV y u)
    (h : ∀ s', Inv X pins σ (upd H a (.ins C dx (putF f y fs))) s' -> Q () s') : wpAny (model X.prog X.w) A (setAttr (.ref a) f u) Q E s := by
  (refine Obt.ex1 (ins_get I.hok e) fun mA h_0 => Obt.and5 h_0 fun O r wi _ ho => ?_; clear h_0)
  have hz : (fs.map (·.1)).length <= sizeLine := by rw [List.length_map, sizeLine_eq]; omega
  refine set_map I.kIn O c.sa c.po n.taker c.hd wi hz fun h' O' sb => h _ ?_
  have hd : ∃ o, h'.get? dx = some o := let ⟨o, _, _, e', _⟩ := O'.ns; ⟨o, e'⟩
  refine I.write (x := a) (e := dx) (by rw [e]; exact True.intro) (.inr ho) (fun b q hb z => (sb.2 b hb).trans z) hd ?_
  refine ⟨by rw [upd_ne O.ne]; exact ho, ?_, O.ne, O'.obj, _, O'.ns, fun g => ?_, fun g hg => ?_⟩
  · have := length_putF f y fs; omega
  · show RelO ((putF f y fs).lookup g) (if g = f then some u else mA g)
    rw [lookup_putF]
    by_cases q : g = f
    · rw [if_pos q, if_pos q]; exact ry
    · rw [if_neg q, if_neg q]; exact r g
  · by_cases q : g = f
    · rw [q]; exact (keys_putF f y fs).1
    · refine (keys_putF f y fs).2 g (wi g fun z => hg ?_)
      show (if g = f then some u else mA g) = none
      rw [if_neg q]; exact z
theorem Inv.made (I : Inv X pins σ H s) : Inv X pins σ (upd (upd H s.heap.objs.size (.own (s.heap.objs.size + 1))) (s.heap.objs.size + 1) (.ins C s.heap.objs.size []))
    { s with heap := (s.heap.push PySem.W.emptyDict).push (PySem.W.instObj C s.heap.objs.size) } := by
  have e1 : (s.heap.push PySem.W.emptyDict).get? s.heap.objs.size = some PySem.W.emptyDict := Heap.get?_push_size s.heap rfl
  have e2 : ((s.heap.push PySem.W.emptyDict).push (PySem.W.instObj C s.heap.objs.size)).get? (s.heap.objs.size + 1) = some (PySem.W.instObj C s.heap.objs.size) := by
    have := Heap.get?_push_size (s.heap.push PySem.W.emptyDict) (o := PySem.W.instObj C s.heap.objs.size) rfl
    rwa [Heap.size_push] at this
  have e3 : (s.heap.push PySem.W.emptyDict).Ns s.heap.objs.size (fun _ => none) := ⟨PySem.W.emptyDict, #[], _, e1, rfl, (fun e he => absurd he (by simp)), fun _ => rfl⟩
  have I1 := I.laid (a := s.heap.objs.size) (o := .own (s.heap.objs.size + 1)) (h' := s.heap.push PySem.W.emptyDict) (t' := s.toks) (fun b u q => Heap.get?_push_of_some _ q) (Nat.le_refl _) ⟨_, e1⟩
  refine I1.laid (a := s.heap.objs.size + 1) (o := .ins C s.heap.objs.size []) (t' := s.toks) (fun b u q => Heap.get?_push_of_some _ q) (Nat.le_of_eq (Heap.size_push _ _)) ?_
  have ne : s.heap.objs.size ≠ s.heap.objs.size + 1 := Nat.ne_of_lt (Nat.lt_succ_self _)
  refine ⟨by rw [upd_ne ne, upd_same], Nat.zero_le _, ne, e2, fun _ => none, (Heap.Ns1.of_empty e3).at fun o q => Heap.get?_push_of_some _ q, fun _ => True.intro, fun y hy => absurd rfl hy⟩
theorem attr_of {prog : Program} {w : World} {env : Env} {e : Expr} {f : Str} {pos : Pos} {s : Shared} {Q : Value -> Shared -> Prop} (hb : attributeBase e f env (eval e env) = eval e env)
    (h : wpAny (model prog w) A (eval e env) (fun o s₁ => wpAny (model prog w) A (getAttr o f true) Q E s₁) E s) : wpAny (model prog w) A (eval (.Attribute e f pos) env) Q E s :=
  Attribute_any_ h (by rw [arm_eval_Attribute, hb])
end
def tFld (K : PySem.W.Frag) (ta : TE) (f : Str) : TE := fun σ H Q => ta σ H fun x H1 => ∃ a C dx fs v, x = .ref a /\ H1 a = some (.ins C dx fs) /\ Cls K C /\ NoAttr K C f /\ fs.lookup f = some v /\ Q v H1
def sFld (K : PySem.W.Frag) (ta tv : TE) (f : Str) : TS := fun D σ H => tv σ H fun y H1 => ta σ H1 fun x H2 => ∃ a C dx fs, x = .ref a /\ H2 a = some (.ins C dx fs) /\ Cls K C /\ NoAttr K C f /\ fs.length < 1000 /\
  D.nx σ (upd H2 a (.ins C dx (putF f y fs)))
section
variable {X : Cx} {o e value : Expr} {f : Str} {pos pos' tpos : Pos} {ta tv : TE}
theorem pe_fld (he : PE X e ta) (hb : attributeBase e f X.env (eval e X.env) = eval e X.env) : PE X (.Attribute e f pos) (tFld X.K ta f) := by
  intro pins s σ H Q I h
  refine attr_of hb (thn (he pins s σ H _ I h) fun u s1 ⟨x, H1, I1, rx, a, C, dx, fs, v, ex, ea, c, n, l, q⟩ => ?_)
  subst ex
  obtain rfl : u = Value.ref a := rx
  exact getattr_ok I1 ea c n l fun u' s2 I2 ru => ⟨v, H1, I2, ru, q⟩
theorem ps_fld (ha : PE X o ta) (hv : PE X value tv) (hs : swapsWith value (some (.Attribute o f pos')) pos.line X.env = pure false) : PS X (.Assign [.Attribute o f pos'] value pos) (sFld X.K ta tv f) := by
  intro pins s σ H D I h
  refine plainObj_wpAny_Assign_Attribute (thn (hv pins s σ H _ I h) fun u s1 ⟨y, H1, I1, ry, q⟩ => thn (ha pins s1 σ H1 _ I1 q) fun ov s2 ⟨x, H2, I2, rx, a, C, dx, fs, ex, ea, c, n, l, q2⟩ => ?_) hs
  subst ex
  obtain rfl : ov = Value.ref a := rx
  exact setattr_ok I2 ea c n l ry fun s3 I3 => ⟨σ, _, I3, q2⟩
end
section
variable {X : Cx} {pins : List (Addr × Obj)} {σ : St} {H : Hp} {s : Shared} {A : Around} {E : Value -> Shared -> Prop} {Q : Value -> Shared -> Prop} {c : Value} {b : Bool}
inductive TyOf (K : PySem.W.Frag) (H : Hp) : V -> Value -> Prop where
  | non : TyOf K H .non (.type "NoneType")
  | bl (x : Bool) : TyOf K H (.bl x) (.type "bool")
  | int (i : Int) : TyOf K H (.int i) (.type "int")
  | str (x : Str) : TyOf K H (.str x) (.type "str")
  | flt (x : UInt64) : TyOf K H (.flt x) (.type "float")
  | lst {a : Addr} {xs : List V} (e : H a = some (.lst xs)) : TyOf K H (.ref a) (.type "list")
  | frz {a : Addr} {o : Obj} {xs : List V} (e : H a = some (.frz o (.lst xs))) : TyOf K H (.ref a) (.type "list")
  | tup {a : Addr} {xs : List V} (e : H a = some (.tup xs)) : TyOf K H (.ref a) (.type "tuple")
  | dK {a : Addr} {kvs : List (Key × V)} (e : H a = some (.dK kvs)) : TyOf K H (.ref a) (.type "dict")
  | dT {a : Addr} {kvs : List (List Key × V)} (e : H a = some (.dT kvs)) : TyOf K H (.ref a) (.type "dict")
  | ins {a C dx : Addr} {fs : List (Str × V)} (e : H a = some (.ins C dx fs)) (cl : Cls K C) (ha : PySem.W.findIn K (.ref C) "__class__" = some (some (.builtin "object.__class__")))
      (hn : PySem.W.specialIn K (.builtin "object.__class__") "__get__" = some (some (.builtin "getset_descriptor.__get__"))) (htk : PySem.W.takesIn K (.builtin "object.__class__") = some true)
      (hm : PySem.W.mroIn K C (.type "object") = some true) : TyOf K H (.ref a) (.ref C)
theorem isinst_ok {x : V} {u t : Value} (I : Inv X pins σ H s) (rx : RelV x u) (ty : TyOf X.K H x t) (e : PySem.W.kitOne X.K t c = some b) (h : ∀ tk, Q (.bool b) { s with toks := tk }) :
    wpAny (model X.prog X.w) A (call (.builtin "isinstance") [u, c]) Q E s := by
  cases ty with
  | non => cases (show u = Value.none from rx); exact PySem.W.kia_one PySem.W.kitx_none I.kIn True.intro e (fun z => nomatch z) h
  | bl y => cases (show u = Value.bool y from rx); exact PySem.W.kia_one PySem.W.kitx_bool I.kIn True.intro e (fun z => nomatch z) h
  | int i => (refine Obt.ex1 ((show ∃ t, u = Value.int i t from rx)) fun t q => ?_); cases q; exact PySem.W.kia_one PySem.W.kitx_int I.kIn True.intro e (fun z => nomatch z) h
  | str y => (refine Obt.ex1 ((show ∃ t, u = Value.str y t from rx)) fun t q => ?_); cases q; exact PySem.W.kia_one PySem.W.kitx_str I.kIn True.intro e (fun z => nomatch z) h
  | flt y => (refine Obt.ex1 ((show ∃ t, u = Value.float y t from rx)) fun t q => ?_); cases q; exact PySem.W.kia_one PySem.W.kitx_float I.kIn True.intro e (fun z => nomatch z) h
  | @lst a xs ea =>
    cases (show u = Value.ref a from rx)
    (refine Obt.and2 ((show ObjOk X.prog X.w H s.heap a (.lst xs) from I.hok a _ ea)) fun _ t_0 => Obt.ex2 t_0 fun _ n h_1 => Obt.and2 h_1 fun _ h1 => ?_; clear h_1 t_0)
    exact PySem.W.kia_one PySem.W.kitx_list I.kIn ⟨_, h1, rfl⟩ e (fun z => nomatch z) h
  | @frz a ob xs ea =>
    cases (show u = Value.ref a from rx)
    (refine Obt.and3 ((show ObjOk X.prog X.w H s.heap a (.frz ob (.lst xs)) from I.hok a _ ea)) fun _ _ t_0 => Obt.ex2 t_0 fun _ n h_1 => Obt.and2 h_1 fun _ h1 => ?_; clear h_1 t_0)
    exact PySem.W.kia_one PySem.W.kitx_list I.kIn ⟨_, h1, rfl⟩ e (fun z => nomatch z) h
  | @tup a xs ea =>
    cases (show u = Value.ref a from rx)
    (refine Obt.and2 ((show ObjOk X.prog X.w H s.heap a (.tup xs) from I.hok a _ ea)) fun _ t_0 => Obt.ex1 t_0 fun _ h_1 => Obt.and2 h_1 fun _ p => ?_; clear h_1 t_0)
    (refine Obt.ex1 p fun o h_0 => Obt.and3 h_0 fun h1 h2 _ => ?_; clear h_0 p)
    exact PySem.W.kia_one PySem.W.kitx_tuple I.kIn ⟨o, h1, h2⟩ e (fun z => nomatch z) h
  | @dK a kvs ea =>
    cases (show u = Value.ref a from rx)
    (refine Obt.and3 ((show ObjOk X.prog X.w H s.heap a (.dK kvs) from I.hok a _ ea)) fun _ _ t_0 => Obt.ex1 t_0 fun vs h_1 => Obt.and2 h_1 fun _ p => ?_; clear h_1 t_0)
    (refine Obt.ex3 p fun o es ep h_0 => Obt.and3 h_0 fun h1 h2 _ => ?_; clear h_0 p)
    exact PySem.W.kia_one PySem.W.kitx_dict I.kIn ⟨o, h1, h2.1⟩ e (fun z => nomatch z) h
  | @dT a kvs ea =>
    cases (show u = Value.ref a from rx)
    (refine Obt.and3 ((show ObjOk X.prog X.w H s.heap a (.dT kvs) from I.hok a _ ea)) fun _ _ t_0 => Obt.ex1 t_0 fun xs h_1 => Obt.and2 h_1 fun _ t_2 => Obt.ex3 t_2 fun o es ep h_3 => Obt.and3 h_3 fun h1 h2 _ => ?_; clear h_3 t_2 h_1 t_0)
    exact PySem.W.kia_one PySem.W.kitx_dict I.kIn ⟨o, h1, h2.1⟩ e (fun z => nomatch z) h
  | @ins a C dx fs ea cl ha hn htk hm =>
    cases (show u = Value.ref a from rx)
    (refine Obt.ex1 (ins_get I.hok ea) fun mA h_0 => Obt.and2 h_0 fun O _ => ?_; clear h_0)
    (refine Obt.ex1 O.look fun od h_0 => Obt.and2 h_0 fun J _ => ?_; clear h_0)
    exact PySem.W.kia_one (PySem.W.kitx_own (cl.get _) cl.hd ha hn htk hm) I.kIn J e (fun z => nomatch z) h
end
end L2
namespace L2
open PySem PySem.Spec PyProof.Rows
structure Room (k : Nat) (A : Around) : Prop where
  hd : A.handled = none
  dp : A.depth + 3 * k + 5 < recursionLimit
  un : A.units + 16 * k + 200 < cLine
theorem Room.mono {j k : Nat} {A : Around} (r : Room k A) (h : j <= k) : Room j A := ⟨r.hd, by have := r.dp; omega, by have := r.un; omega⟩
theorem Room.deeper {k : Nat} {A : Around} (r : Room (k + 1) A) (env : Env) : Room k (A.deeper env) :=
  ⟨r.hd, by have := r.dp; show A.depth + 1 + 3 * k + 5 < _; omega, by have := r.un; show A.units + 3 + 16 * k + 200 < _; omega⟩
theorem make_depth {A : Around} {C : Addr} {us : List Value} {kw : List (Str × Value)} : (A.under (.builtin "type.__call__" ⟨.ref C :: us, kw⟩)).depth = A.depth + 1 := by
  first | rfl | simp [Around.under, Code.weight, Code.isCreation, Code.isGuard, Code.isCaller, Code.frames, Code.isFrame, guardIds]
theorem make_units {A : Around} {C : Addr} {us : List Value} {kw : List (Str × Value)} : (A.under (.builtin "type.__call__" ⟨.ref C :: us, kw⟩)).units = A.units + 1 := by
  first | rfl | simp [Around.under, Code.cUnits, Code.frames, Code.isFrame]
theorem Room.make {k : Nat} {A : Around} (r : Room (k + 1) A) (C : Addr) (us : List Value) (kw : List (Str × Value)) : Room k (A.under (.builtin "type.__call__" ⟨.ref C :: us, kw⟩)) :=
  ⟨r.hd, by have := r.dp; rw [make_depth]; omega, by have := r.un; rw [make_units]; omega⟩
theorem Room.depth {k : Nat} {A : Around} (r : Room k A) : A.depth < recursionLimit := by have := r.dp; omega
theorem Room.units {k : Nat} {A : Around} (r : Room k A) : A.units + 64 < cLine := by have := r.un; omega
def tNil : TA := fun _ H Q => Q [] H
def tCons (ta : TE) (tr : TA) : TA := fun σ H Q => ta σ H fun x H1 => tr σ H1 fun xs H2 => Q (x :: xs) H2
section
variable {X : Cx} {e : Expr} {es : List Expr} {te : TE} {t : TA} {pos : Pos}
theorem pa_nil : PA X [] tNil := fun _ _ _ _ H Q I h => Calls.spliced_nil ⟨[], H, I, .nil, h⟩
theorem pa_cons (ha : PE X e te) (hr : PA X es t) (hs : starEach (e :: es) X.env = (false, eval e X.env) :: starEach es X.env := by rfl) : PA X (e :: es) (tCons te t) := by
  intro pos pins s σ H Q I h
  rw [hs]
  show wpAny _ _ (spliced ((false, eval e X.env) :: backTo pos (starEach es X.env))) _ _ s
  refine Calls.spliced_cons (thn (ha pins s σ H _ I h) fun u s1 ⟨x, H1, I1, r1, q1⟩ => ?_)
  exact thn (hr pos pins s1 σ H1 _ I1 q1) fun us s2 ⟨xs, H2, I2, r2, q2⟩ => ⟨x :: xs, H2, I2, .cons r1 r2, q2⟩
def tTup (t : TA) : TE := fun σ H Q => t σ H fun xs H1 => xs.length <= sizeLine /\ ∀ p, H1 p = none -> Q (.ref p) (upd H1 p (.tup xs))
def tLst (t : TA) : TE := fun σ H Q => t σ H fun xs H1 => xs.length <= sizeLine /\ ∀ p, H1 p = none -> Q (.ref p) (upd H1 p (.lst xs))
theorem pe_tup {x1} (h : PA X es t) : PE X (.Tuple es x1 pos) (tTup t) := by
  intro pins s σ H Q I hq
  refine wpAny_Tuple_spliced (thn (h pos pins s σ H _ I hq) fun us s1 ⟨xs, H1, I1, r, z, q⟩ => ⟨by rw [<- r.length]; exact z, ?_⟩)
  have hf : H1 s1.heap.objs.size = none := I1.hok.fresh (Nat.le_refl _)
  refine ⟨.ref s1.heap.objs.size, upd H1 s1.heap.objs.size (.tup xs), I1.laid (t' := s1.toks) (fun b u e => Heap.get?_push_of_some _ e) (Nat.le_refl _) ?_, rfl, q _ hf⟩
  exact ⟨z, us, r, ⟨_, Heap.get?_push_size _ rfl, rfl, _, rfl⟩⟩
theorem pe_lst (h : PA X es t) : PE X (.List es pos) (tLst t) := by
  intro pins s σ H Q I hq
  refine wpAny_List_spliced (thn (h pos pins s σ H _ I hq) fun us s1 ⟨xs, H1, I1, r, z, q⟩ => ⟨by rw [<- r.length]; exact z, ?_⟩)
  have hf : H1 s1.heap.objs.size = none := I1.hok.fresh (Nat.le_refl _)
  refine ⟨.ref s1.heap.objs.size, upd H1 s1.heap.objs.size (.lst xs), I1.laid (t' := s1.toks) (fun b u e => Heap.get?_push_of_some _ e) (Nat.le_refl _) ?_, rfl, q _ hf⟩
  exact ⟨z, us, 0, r, Heap.get?_push_size _ rfl⟩
end
abbrev Sp := List V -> Hp -> VK -> XK -> Prop
abbrev CXT := List Env -> Hp -> Shared -> XK -> Value -> Shared -> Prop
structure Env0 (P : Program) (w : World) (K : PySem.W.Frag) (mg : Str -> Option Value) (base : Heap) (A : Around) (outer : List Env) (s : Shared) (H : Hp) : Prop where
  frames : A.frames = some outer
  mod : Mod K mg base
  bs : ∀ b o, base.get? b = some o -> s.heap.get? b = some o /\ H b = none
  bsz : base.objs.size <= s.heap.objs.size
  funs : s.heap.FunFrames base outer
  frf : ∀ b ∈ frs outer, H b = none
  hok : HOk P w H s.heap
  bare : AllBare s.gens
def CE (outer : List Env) (P : Program) (w : World) (H : Hp) (s : Shared) (Q : VK) (u : Value) (s' : Shared) : Prop :=
  ∃ v H', s'.os = s.os /\ AllBare s'.gens /\ Un (frs outer) [] H H' s.heap s'.heap /\ HOk P w H' s'.heap /\ RelV v u /\ Q v H'
def CR (CX : CXT) (outer : List Env) (P : Program) (w : World) (H : Hp) (s : Shared) (Q : VK) (E : XK) (r : Result) (s' : Shared) : Prop :=
  match r with
  | .ok (.ret u) => CE outer P w H s Q u s'
  | .ok _ => False
  | .error e => CX outer H s E e s'
structure FnOk (P : Program) (w : World) (K : PySem.W.Frag) (mg : Str -> Option Value) (base : Heap) (CX : CXT) (k : Nat) (f : Addr) (fd : FuncData) (ps : List Str) (sp : Sp) : Prop where
  len : ∀ vs H Q E, sp vs H Q E -> vs.length = ps.length
  run : ∀ (A : Around) (outer : List Env) (s : Shared) (H : Hp) (args : Args) (us : List Value) (vs : List V) (Q : VK) (E : XK), Room k A -> Env0 P w K mg base A outer s H -> BindsTo s fd args (ps.zip us) -> Vals vs us -> sp vs H Q E ->
    codeAny (model P w) A (.call (.ref f) args) (CR CX outer P w H s Q E) s
theorem Env0.make {P : Program} {w : World} {K : PySem.W.Frag} {mg : Str -> Option Value} {base : Heap} {A : Around} {outer : List Env} {s : Shared} {H : Hp} (e : Env0 P w K mg base A outer s H) (C : Addr) (us : List Value) (kw : List (Str × Value)) :
    Env0 P w K mg base (A.under (.builtin "type.__call__" ⟨.ref C :: us, kw⟩)) outer s H := ⟨by first | exact e.frames | (simpa [Around.under, Code.envs, Code.isFrame, pushEnvs] using e.frames), e.mod, e.bs, e.bsz, e.funs, e.frf, e.hok, e.bare⟩
section
variable {X : Cx} {pins : List (Addr × Obj)} {σ : St} {H : Hp} {s s' : Shared}
theorem Inv.env0 (I : Inv X pins σ H s) : Env0 X.prog X.w X.K X.mg X.base X.A X.stack s H :=
  ⟨I.ok.frames, I.ok.mod, I.bs, Nat.le_trans I.ok.bsz I.sz, I.stack, I.stkFree, I.hok, I.bare⟩
theorem Inv.after {Q : VK} {u : Value} (I : Inv X pins σ H s) (h : CE X.stack X.prog X.w H s Q u s') : EP X pins σ Q u s' := by
  (refine Obt.ex2 h fun v H' h_0 => Obt.and6 h_0 fun os bare un hok r q => ?_; clear h_0 h)
  obtain ⟨hh, g, d, t, os'⟩ := s'
  obtain rfl : os' = s.os := os
  exact ⟨v, H', I.call (h' := hh) (g' := g) (d' := d) (t' := t) (ch := []) un hok bare (fun b z => absurd z (by simp)), r, q⟩
end
def tCall (sp : Sp) (dvs : List V) (E : XK) (t : TA) : TE := fun σ H Q => t σ H fun vs H1 => sp (vs ++ dvs) H1 Q E
def tMeth (C : Addr) (m : Str) (sp : Sp) (dvs : List V) (E : XK) (ta : TE) (t : TA) : TE := fun σ H Q => ta σ H fun x H1 => ∃ a dx fs, x = .ref a /\ H1 a = some (.ins C dx fs) /\ fs.lookup m = none /\
  t σ H1 fun vs H2 => sp (x :: (vs ++ dvs)) H2 Q E
def tMake (C : Addr) (sp : Sp) (dvs : List V) (E : XK) (t : TA) : TE := fun σ H Q => t σ H fun vs H1 => ∀ x dx, H1 x = none -> H1 dx = none -> dx ≠ x ->
  sp (.ref x :: (vs ++ dvs)) (upd (upd H1 dx (.own x)) x (.ins C dx [])) (fun v H2 => v = .non /\ Q (.ref x) H2) E
def Binds (K : PySem.W.Frag) (fd : FuncData) (ps : List Str) (ds : List Value) : Prop :=
  ∀ (s : Shared) (us : List Value), K.In s.heap -> (us ++ ds).length = ps.length -> BindsTo s fd ⟨us, []⟩ (ps.zip (us ++ ds))
theorem Binds.all {K : PySem.W.Frag} {fd : FuncData} {ps : List Str} (h : ∀ us : List Value, us.length = ps.length -> bindArgs fd ⟨us, []⟩ = pure (ps.zip us)) : Binds K fd ps [] := fun s us _ hl => by
  rw [List.append_nil] at hl ⊢
  exact .of_eq (h us hl)
def Passes (CX : CXT) (X : Cx) (E : XK) : Prop := ∀ (pins : List (Addr × Obj)) (σ : St) (H : Hp) (s : Shared) (e : Value) (s' : Shared), Inv X pins σ H s -> CX X.stack H s E e s' -> X.xe e s'
section
variable {X : Cx} {CX : CXT} {k : Nat} {f C : Addr} {fd : FuncData} {ps : List Str} {sp : Sp} {dvs : List V} {ds : List Value} {E : XK} {x m : Str} {p pos apos : Pos} {e o : Expr} {es : List Expr} {ta : TE} {t : TA}
theorem run_fn {pins : List (Addr × Obj)} {σ : St} {H : Hp} {s : Shared} {Q : VK} {us : List Value} {vs : List V} (F : FnOk X.prog X.w X.K X.mg X.base CX k f fd ps sp) (hr : Room k X.A) (hb : Binds X.K fd ps ds) (hd : Vals dvs ds) (hx : Passes CX X E)
    (I : Inv X pins σ H s) (r : Vals vs us) (h : sp (vs ++ dvs) H Q E) : wpAny (model X.prog X.w) X.A (call (.ref f) us) (EP X pins σ Q) X.xe s := by
  have r2 : Vals (vs ++ dvs) (us ++ ds) := r.append hd
  have hl : (us ++ ds).length = ps.length := by rw [<- r2.length]; exact F.len _ _ _ _ h
  refine wpAny_call (codeAny_mono (F.run X.A X.stack s H ⟨us, []⟩ (us ++ ds) (vs ++ dvs) Q E hr I.env0 (hb s us I.kIn hl) r2 h) fun r s' hq => ?_)
  cases r with
  | error e => exact hx pins σ H s e s' I hq
  | ok fl =>
    cases fl with
    | ret u => exact I.after hq
    | next => exact False.elim hq
    | brk => exact False.elim hq
    | cont => exact False.elim hq
theorem pe_call (F : FnOk X.prog X.w X.K X.mg X.base CX k f fd ps sp) (hr : Room k X.A) (hg : Gl X x) (hm : X.mg x = some (.ref f)) (hk : PySem.W.keepIn X.K (.ref f) = true) (hb : Binds X.K fd ps ds) (hd : Vals dvs ds) (hx : Passes CX X E)
    (ha : PA X (e :: es) t) (hdb : (x == ("__debug__" : Str)) = false := by decide) (he : starEach (e :: es) X.env = (false, eval e X.env) :: starEach es X.env := by rfl) (hpl : (backTo pos (starEach es X.env)).any (·.1) = false := by rfl) :
    PE X (.Call (.Name x p) (e :: es) [] pos) (tCall sp dvs E t) := by
  intro pins s σ H Q I h
  refine wpAny_Call_Name_kw (ld_glob I hg hm ?_ hdb)
  refine PySem.W.callWith_K (h₀ := X.base) I.ok.mod.kin hk (thn (ha pos pins s σ H _ I h) fun us s1 ⟨vs, H1, I1, r, q⟩ => ⟨I1.kIn, ?_⟩) he hpl
  exact run_fn F hr hb hd hx I1 r q
theorem pe_meth {pl : Sem Bool} (he : PE X o ta) (c : Cls X.K C) (hm : Meth X.K C m f) (F : FnOk X.prog X.w X.K X.mg X.base CX k f fd ps sp) (hr : Room k X.A) (hb : Binds X.K fd ps ds) (hd : Vals dvs ds) (hx : Passes CX X E) (ha : PA X (e :: es) t)
    (hst : starEach (e :: es) X.env = (false, eval e X.env) :: starEach es X.env := by rfl) (hpl : (backTo pos (starEach es X.env)).any (·.1) = false := by rfl)
    (ht : eval (.Call (.Attribute o m apos) (e :: es) [] pos) X.env = (do
      let ov <- eval o X.env
      standAt apos.atName
      let (f, first) <- holding [ov] (getMethod ov m pl)
      callWith pos f first (backTo pos (starEach (e :: es) X.env)) (backToKw pos (keywordEach [] X.env))) := by rfl) :
    PE X (.Call (.Attribute o m apos) (e :: es) [] pos) (tMeth C m sp dvs E ta t) := by
  intro pins s σ H Q I h
  refine PySem.W.methodCall_KW (pl := pl) (thn (he pins s σ H _ I h) fun u s1 ⟨x, H1, I1, rx, a, dx, fs, ex, ea, l, q⟩ => ?_) ht
  subst ex
  obtain rfl : u = Value.ref a := rx
  refine getmeth_ok I1 ea c hm l ?_
  refine PySem.W.callWith_K (first := [.ref a]) (h₀ := X.base) I.ok.mod.kin hm.kp (thn (ha pos pins s1 σ H1 _ I1 q) fun us s2 ⟨vs, H2, I2, r, q2⟩ => ⟨I2.kIn, ?_⟩) hst hpl
  exact run_fn (us := .ref a :: us) (vs := .ref a :: vs) F hr hb hd hx I2 (.cons rfl r) q2
theorem pe_meth0 {pl : Sem Bool} (he : PE X o ta) (c : Cls X.K C) (hm : Meth X.K C m f) (F : FnOk X.prog X.w X.K X.mg X.base CX k f fd ps sp) (hr : Room k X.A) (hb : Binds X.K fd ps ds) (hd : Vals dvs ds) (hx : Passes CX X E)
    (ht : eval (.Call (.Attribute o m apos) [] [] pos) X.env = (do
      let ov <- eval o X.env
      standAt apos.atName
      let (f, first) <- holding [ov] (getMethod ov m pl)
      callWith pos f first (backTo pos (starEach [] X.env)) (backToKw pos (keywordEach [] X.env))) := by rfl) :
    PE X (.Call (.Attribute o m apos) [] [] pos) (tMeth C m sp dvs E ta tNil) := by
  intro pins s σ H Q I h
  refine PySem.W.methodCall_KW (pl := pl) (thn (he pins s σ H _ I h) fun u s1 ⟨x, H1, I1, rx, a, dx, fs, ex, ea, l, q⟩ => ?_) ht
  subst ex
  obtain rfl : u = Value.ref a := rx
  refine getmeth_ok I1 ea c hm l ?_
  exact PySem.W.callWith_K0 (first := [.ref a]) I1.kIn hm.kp (run_fn (us := [.ref a]) (vs := [.ref a]) F hr hb hd hx I1 (.cons rfl .nil) q)
structure Mk (K : PySem.W.Frag) (C f : Addr) : Prop where
  makes : PySem.W.makesIn K C = true
  init : PySem.W.findIn K (.ref C) "__init__" = some (some (.ref f))
  fn : PySem.W.isFn K (.ref f) = true
  kp : PySem.W.keepIn K (.ref C) = true
theorem run_make {pins : List (Addr × Obj)} {σ : St} {H : Hp} {s : Shared} {Q : VK} {us : List Value} {vs : List V} (M : Mk X.K C f) (F : FnOk X.prog X.w X.K X.mg X.base CX k f fd ps sp) (hr : Room (k + 1) X.A) (hb : Binds X.K fd ps ds) (hd : Vals dvs ds)
    (hx : Passes CX X E) (I : Inv X pins σ H s) (r : Vals vs us)
    (h : ∀ x dx, H x = none -> H dx = none -> dx ≠ x -> sp (.ref x :: (vs ++ dvs)) (upd (upd H dx (.own x)) x (.ins C dx [])) (fun v H2 => v = .non /\ Q (.ref x) H2) E) :
    wpAny (model X.prog X.w) X.A (call (.ref C) us) (EP X pins σ Q) X.xe s := by
  have hq := h (s.heap.objs.size + 1) s.heap.objs.size (I.hok.fresh (Nat.le_succ _)) (I.hok.fresh (Nat.le_refl _)) (Nat.ne_of_lt (Nat.lt_succ_self _))
  have I2 := Inv.made (C := C) I
  have r2 : Vals (V.ref (s.heap.objs.size + 1) :: (vs ++ dvs)) (Value.ref (s.heap.objs.size + 1) :: (us ++ ds)) := .cons rfl (r.append hd)
  have hl : (Value.ref (s.heap.objs.size + 1) :: us ++ ds).length = ps.length := by
    have e := r2.length
    rw [F.len _ _ _ _ hq] at e
    exact e.symm
  refine wpAny_call (make_map (f := f) I.kIn M.makes M.init (beq_iff_eq.mp M.fn) (codeAny_mono (F.run _ X.stack _ _ ⟨Value.ref (s.heap.objs.size + 1) :: us, []⟩ (Value.ref (s.heap.objs.size + 1) :: (us ++ ds)) _ _ E (hr.make C us [])
    (I2.env0.make C us []) (hb _ (Value.ref (s.heap.objs.size + 1) :: us) I2.kIn hl) r2 hq) fun r s' hq' => ?_))
  cases r with
  | error e => exact hx pins σ _ _ e s' I2 hq'
  | ok fl =>
    cases fl with
    | ret u =>
      (refine Obt.ex2 (I2.after hq') fun v H' h_0 => Obt.and4 h_0 fun I3 rv ev q3 => ?_; clear h_0)
      subst ev
      exact ⟨rv, ⟨V.ref (s.heap.objs.size + 1), H', I3, rfl, q3⟩⟩
    | next => exact False.elim hq'
    | brk => exact False.elim hq'
    | cont => exact False.elim hq'
theorem pe_make (M : Mk X.K C f) (F : FnOk X.prog X.w X.K X.mg X.base CX k f fd ps sp) (hr : Room (k + 1) X.A) (hg : Gl X x) (hm : X.mg x = some (.ref C)) (hb : Binds X.K fd ps ds) (hd : Vals dvs ds) (hx : Passes CX X E)
    (ha : PA X (e :: es) t) (hdb : (x == ("__debug__" : Str)) = false := by decide) (he : starEach (e :: es) X.env = (false, eval e X.env) :: starEach es X.env := by rfl) (hpl : (backTo pos (starEach es X.env)).any (·.1) = false := by rfl) :
    PE X (.Call (.Name x p) (e :: es) [] pos) (tMake C sp dvs E t) := by
  intro pins s σ H Q I h
  refine wpAny_Call_Name_kw (ld_glob I hg hm ?_ hdb)
  refine PySem.W.callWith_K (h₀ := X.base) I.ok.mod.kin M.kp (thn (ha pos pins s σ H _ I h) fun us s1 ⟨vs, H1, I1, r, q⟩ => ⟨I1.kIn, ?_⟩) he hpl
  exact run_make M F hr hb hd hx I1 r q
end
section
variable {X : Cx} {CX : CXT} {k : Nat} {f C : Addr} {fd : FuncData} {ps ks : List Str} {sp : Sp} {E : XK} {x m : Str} {p pos apos kpos : Pos} {e o : Expr} {es : List Expr} {kws : List Keyword} {te ta : TE} {t tk : TA} {nm : Option Str}
structure KBinds (K : PySem.W.Frag) (fd : FuncData) (ps ks : List Str) (g : List Value -> List Value -> List Value) (gV : List V -> List V -> List V) : Prop where
  to : ∀ (s : Shared) (us ws : List Value), K.In s.heap -> (g us ws).length = ps.length -> BindsTo s fd ⟨us, ks.zip ws⟩ (ps.zip (g us ws))
  rel : ∀ {vs : List V} {us : List Value} {zs : List V} {ws : List Value}, Vals vs us -> Vals zs ws -> Vals (gV vs zs) (g us ws)
variable {g : List Value -> List Value -> List Value} {gV : List V -> List V -> List V}
end
structure FnScope (N P : List Str) (sc : Scope) : Prop where
  kind : sc.kind = .function
  co : sc.isCoroutine = false
  gen : sc.isGenerator = false
  nd : N.Nodup
  pre : N.take P.length = P
  par : ∀ x ∈ P, sc.names.lookup x = some .local \/ sc.names.lookup x = some .cell
  nofree : ∀ y ∈ sc.names, y.2 ≠ .free
theorem bindL_out {kindOf : Str -> Option NameKind} {x : Str} : ∀ {binds : List (Str × Value)} {m : Str -> Option Value}, (∀ v, (x, v) ∉ binds) -> bindL kindOf binds m x = m x
  | [], _, _ => rfl
  | (n, v) :: r, m, h => by
    unfold bindL
    rw [bindL_out fun w hw => h w (List.mem_cons_of_mem _ hw)]
    split
    · have : x ≠ n := by rintro rfl; exact h v List.mem_cons_self
      simp [this]
    · rfl
theorem bindC_out {kindOf : Str -> Option NameKind} {x : Str} : ∀ {binds : List (Str × Value)} {m : Str -> Option Value}, (∀ v, (x, v) ∉ binds) -> bindC kindOf binds m x = m x
  | [], _, _ => rfl
  | (n, v) :: r, m, h => by
    unfold bindC
    rw [bindC_out fun w hw => h w (List.mem_cons_of_mem _ hw)]
    split
    · rfl
    · have : x ≠ n := by rintro rfl; exact h v List.mem_cons_self
      simp [this]
theorem bindL_get {kindOf : Str -> Option NameKind} {x : Str} {v : Value} : ∀ {P : List Str} {vs : List Value} {i : Nat} {m : Str -> Option Value}, P.Nodup -> P[i]? = some x -> vs[i]? = some v -> kindOf x = some .local ->
    bindL kindOf (P.zip vs) m x = some v
  | [], _, _, _, _, h, _, _ => by simp at h
  | _ :: _, [], _, _, _, _, h, _ => by simp at h
  | p :: P, w :: vs, 0, m, nd, h1, h2, hk => by
    simp at h1 h2; subst h1; subst h2
    show bindL kindOf ((p, w) :: P.zip vs) m p = _
    unfold bindL
    rw [bindL_out fun v hv => (List.nodup_cons.mp nd).1 (List.of_mem_zip hv).1, if_pos hk]
    simp
  | p :: P, w :: vs, i + 1, m, nd, h1, h2, hk => by
    show bindL kindOf ((p, w) :: P.zip vs) m x = _
    unfold bindL
    exact bindL_get (i := i) (List.nodup_cons.mp nd).2 (by simpa using h1) (by simpa using h2) hk
theorem bindC_get {kindOf : Str -> Option NameKind} {x : Str} {v : Value} : ∀ {P : List Str} {vs : List Value} {i : Nat} {m : Str -> Option Value}, P.Nodup -> P[i]? = some x -> vs[i]? = some v -> kindOf x ≠ some .local ->
    bindC kindOf (P.zip vs) m x = some v
  | [], _, _, _, _, h, _, _ => by simp at h
  | _ :: _, [], _, _, _, _, h, _ => by simp at h
  | p :: P, w :: vs, 0, m, nd, h1, h2, hk => by
    simp at h1 h2; subst h1; subst h2
    show bindC kindOf ((p, w) :: P.zip vs) m p = _
    unfold bindC
    rw [bindC_out fun v hv => (List.nodup_cons.mp nd).1 (List.of_mem_zip hv).1, if_neg hk]
    simp
  | p :: P, w :: vs, i + 1, m, nd, h1, h2, hk => by
    show bindC kindOf ((p, w) :: P.zip vs) m x = _
    unfold bindC
    exact bindC_get (i := i) (List.nodup_cons.mp nd).2 (by simpa using h1) (by simpa using h2) hk
def start (N : List Str) (vs : List V) : St := vs.map some ++ List.replicate (N.length - vs.length) none
def cxOf (CX : CXT) (P : Program) (w : World) (K : PySem.W.Frag) (mg : Str -> Option Value) (base : Heap) (N : List Str) (qual : Str) (scope : Scope) (f : Addr) (cd : Value) (A : Around) (outer : List Env) (s : Shared) (H : Hp) (E : XK) : Cx where
  prog := P
  w := w
  K := K
  mg := mg
  base := base
  A := A.deeper (envOfC qual scope s.heap.objs.size f cd)
  N := N
  s₀ := s
  H₀ := H
  env := envOfC qual scope s.heap.objs.size f cd
  outer := outer
  stack := envOfC qual scope s.heap.objs.size f cd :: outer
  ex := []
  calm := true
  fn := fun _ => true
  pn := []
  xe := fun e s' => wpAny (model P w) (A.deeper (envOfC qual scope s.heap.objs.size f cd)) (leaving (envOfC qual scope s.heap.objs.size f cd) e) (fun _ s'' => CX outer H s E e s'') (fun e' s'' => CX outer H s E e' s'') s'
theorem cell_has {sc : Scope} {n : Nat} {x : Str} (h : sc.names.lookup x = some .cell) : ∃ c, (cellsFrom n sc.names []).lookup x = some c := by
  have q := PySem.W.cellsFrom_some sc.names n [] (.inl h)
  exact Option.isSome_iff_exists.mp q
theorem inv_start {CX : CXT} {P : Program} {w : World} {K : PySem.W.Frag} {mg : Str -> Option Value} {base : Heap} {N ps : List Str} {qual : Str} {scope : Scope} {f : Addr} {cd : Value} {A : Around} {outer : List Env} {s s1 : Shared} {H : Hp} {E : XK} {us : List Value} {vs : List V}
    (S : FnScope N ps scope) (hd : A.handled = none) (e0 : Env0 P w K mg base A outer s H) (hl : vs.length = ps.length) (r : Vals vs us)
    (x : InCallC s s.heap.objs.size (bindL (envOfC qual scope s.heap.objs.size f cd).kindOf (ps.zip us) fun _ => none) (cellsFrom (s.heap.objs.size + 1) scope.names []) (bindC (envOfC qual scope s.heap.objs.size f cd).kindOf (ps.zip us) fun _ => none) s1) :
    Inv (cxOf CX P w K mg base N qual scope f cd A outer s H E) [] (start N vs) H s1 := by
  have hpl : ps.length <= N.length := by have := congrArg List.length S.pre; rw [List.length_take] at this; omega
  (refine Obt.ex2 x.done fun h1 tk h_0 => Obt.and2 h_0 fun e_1 hk => ?_; subst e_1; clear h_0)
  have noA : ∀ b : Addr, b ∉ (cxOf CX P w K mg base N qual scope f cd A outer s H E).ex := fun b z => absurd (show b ∈ ([] : List Addr) from z) (by simp)
  refine ⟨⟨e0.mod, S.kind, rfl, rfl, Nat.le_refl _, fun y z c h1 h2 => ?_, fun y hy => ?_, fun y c _ h => ?_, fun _ => hd, Around.frames_deeper e0.frames, .inr ⟨rfl, rfl⟩, fun b z => absurd z (noA b), e0.bs, e0.bsz, fun b _ _ => noA b, fun b z => absurd z (noA b), e0.funs, e0.frf⟩,
    rfl, e0.bare, Un.kept hk, ⟨_, x.toInCall.ns, fun i y v h1 h2 h3 => ?_⟩, fun y c h => ⟨_, x.cell y c h⟩, e0.hok.fresh (Nat.le_refl _), fun y c h => ?_, fun p hp => absurd (show p ∈ ([] : List (Addr × Obj)) from hp) (by simp), e0.hok.kept hk, ?_⟩
  · exact name_of_addr x.apart (PySem.mem_of_lookup h1) (PySem.mem_of_lookup h2)
  · have hy : scope.names.lookup y = some .cell \/ scope.names.lookup y = some .free := hy
    rcases hy with hy | hy
    · exact cell_has hy
    · exact absurd rfl (S.nofree _ (PySem.mem_of_lookup hy))
  · exact Nat.le_of_lt (x.above y c (PySem.mem_of_lookup h))
  · have hi : i < vs.length := by
      unfold start at h2
      by_cases hi : i < vs.length
      · exact hi
      · rw [List.getElem?_append_right (by simpa using hi)] at h2
        rw [List.getElem?_replicate] at h2
        split at h2 <;> cases h2
    have ha : vs[i]? = some v := by
      unfold start at h2
      rw [List.getElem?_append_left (by simpa using hi), List.getElem?_map] at h2
      cases e : vs[i]? with
      | none => rw [e] at h2; cases h2
      | some a => rw [e] at h2; cases h2; rfl
    (refine Obt.ex1 (r.get ha) fun u h_0 => Obt.and2 h_0 fun hu rv => ?_; clear h_0)
    have hp : ps[i]? = some y := by
      rw [<- S.pre, List.getElem?_take_of_lt (by omega)]; exact h1
    have ndP : ps.Nodup := by rw [<- S.pre]; exact S.nd.sublist (List.take_sublist _ _)
    refine ⟨u, rv, ?_⟩
    rcases S.par y (List.mem_of_getElem? hp) with k | k
    · exact .inl ⟨k, bindL_get ndP hp hu k⟩
    · (refine Obt.ex1 (cell_has (n := s.heap.objs.size + 1) k) fun c e => ?_)
      refine .inr ⟨.inl k, c, e, ?_⟩
      have q := x.cell y c e
      rw [bindC_get ndP hp hu (by show scope.names.lookup y ≠ _; rw [k]; decide)] at q
      exact q
  · exact e0.hok.fresh (Nat.le_of_lt (x.above y c (PySem.mem_of_lookup h)))
  · unfold start
    show _ = N.length
    rw [List.length_append, List.length_map, List.length_replicate]
    omega
theorem fn_of {CX : CXT} {P : Program} {w : World} {K : PySem.W.Frag} {mg : Str -> Option Value} {base : Heap} {k : Nat} {f : Addr} {name qual : Str} {params : Arguments} {body : List Stmt} {scope : Scope} {dV kV doc pm cdv ct oc : Value} {an od : Option Addr}
    {osl : Array (Option Value)} {N ps : List Str} {sp : Sp} (lk : K.lookup f = some ⟨oc, od, .func (PySem.W.fnOf name qual params body scope dV kV doc pm an cdv ct), osl⟩) (hcd : PySem.W.codeIn K cdv qual = true) (S : FnScope N ps scope)
    (len : ∀ vs H Q E, sp vs H Q E -> vs.length = ps.length)
    (hbody : ∀ (A : Around) (outer : List Env) (s : Shared) (H : Hp) (vs : List V) (Q : VK) (E : XK), Room k (A.deeper (envOfC qual scope s.heap.objs.size f cdv)) -> sp vs H Q E ->
      ∃ t, PSs (cxOf CX P w K mg base N qual scope f cdv A outer s H E) body t /\ t { nx := fun _ H' => Q .non H', rt := Q } (start N vs) H) :
    FnOk P w K mg base CX (k + 1) f (PySem.W.fnOf name qual params body scope dV kV doc pm an cdv ct) ps sp := by
  refine ⟨len, fun A outer s H args us vs Q E hr e0 hb r hsp => ?_⟩
  have hl := len _ _ _ _ hsp
  have KX : K.In s.heap := e0.mod.kin.keeps fun b o e => (e0.bs b o e).1
  have lim : s.heap.NoLimit := e0.mod.nolimit.keeps fun b o e => (e0.bs b o e).1
  have hkind : ∀ y ∈ ps.zip us, scope.names.lookup y.1 = some .local \/ (scope.names.lookup y.1 = some .cell /\ ((cellsFrom (s.heap.objs.size + 1) scope.names []).lookup y.1).isSome = true) := fun ⟨n, v⟩ hy => by
    rcases S.par n (List.of_mem_zip hy).1 with q | q
    · exact .inl q
    · exact .inr ⟨q, PySem.W.cellsFrom_some _ _ _ (.inl q)⟩
  refine codeAny_call_function hr.depth (KX _ _ lk) rfl S.co S.gen rfl (PySem.W.codeRec_of KX hcd) (hb _ _ _ _ ?_)
  refine wpAny_newFunctionEnv_cells S.kind hkind fun env he s1 x => ?_
  subst he
  refine ⟨lim.keeps x.toInCall.keep, codeAny_func ?_⟩
  (refine Obt.ex1 (hbody A outer s H vs Q E (hr.deeper _) hsp) fun t h_0 => Obt.and2 h_0 fun ht hq => ?_; clear h_0)
  have I : Inv (cxOf CX P w K mg base N qual scope f cdv A outer s H E) [] (start N vs) H s1 := inv_start S hr.hd e0 hl r x
  refine wpAny_mono (ht [] s1 (start N vs) H _ I hq) (fun fl s' hs => ?_) fun e s' hs => hs
  have fin : ∀ {σ' : St} {H' : Hp} {v : V} {u : Value}, Inv (cxOf CX P w K mg base N qual scope f cdv A outer s H E) [] σ' H' s' -> RelV v u -> Q v H' -> CE outer P w H s Q u s' :=
    fun {σ' H' v u} J rv q => ⟨v, H', J.os, J.bare, J.base, J.hok, rv, q⟩
  cases fl with
  | ret u =>
    (refine Obt.ex3 hs fun v σ' H' h_0 => Obt.and3 h_0 fun J rv q => ?_; clear h_0 hs)
    exact fin J rv q
  | next =>
    (refine Obt.ex2 hs fun σ' H' h_0 => Obt.and2 h_0 fun J q => ?_; clear h_0 hs)
    exact fin (v := V.non) (u := Value.none) J rfl q
  | brk =>
    (refine Obt.ex2 hs fun _ _ h_0 => Obt.and2 h_0 fun _ q => ?_; clear h_0 hs)
    exact False.elim q
  | cont =>
    (refine Obt.ex2 hs fun _ _ h_0 => Obt.and2 h_0 fun _ q => ?_; clear h_0 hs)
    exact False.elim q
end L2
namespace L2
open PySem PySem.Spec PyProof.Rows
section
variable {X : Cx} {x : Str} {p pos : Pos} {e : Expr} {es : List Expr} {t : TA} {id T : String} {r : List V -> Hp -> VK -> Prop}
def tCB (r : List V -> Hp -> VK -> Prop) (t : TA) : TE := fun σ H Q => t σ H fun vs H1 => r vs H1 Q
theorem pe_callB (hc : CallR X (.builtin id) r) (hg : Gl X x) (hm : X.mg x = none) (hv : bootBuiltins x = some (.builtin id)) (ha : PA X (e :: es) t) (hn : x ≠ "__name__" := by decide) (hdb : (x == ("__debug__" : Str)) = false := by decide)
    (he : starEach (e :: es) X.env = (false, eval e X.env) :: starEach es X.env := by rfl) (hpl : (backTo pos (starEach es X.env)).any (·.1) = false := by rfl) : PE X (.Call (.Name x p) (e :: es) [] pos) (tCB r t) := by
  intro pins s σ H Q I h
  refine wpAny_Call_Name_kw (ld_blt I hg hm hv ?_ hn hdb)
  exact PyProof.Rows.callWith_builtin1 (thn (ha pos pins s σ H _ I h) fun us s1 ⟨vs, H1, I1, r1, q1⟩ => hc pins s1 σ H1 vs us Q I1 r1 q1) he hpl
theorem pe_callTy (hc : CallR X (.type T) r) (hg : Gl X x) (hm : X.mg x = none) (hv : bootBuiltins x = some (.type T)) (ha : PA X (e :: es) t) (hn : x ≠ "__name__" := by decide) (hdb : (x == ("__debug__" : Str)) = false := by decide)
    (he : starEach (e :: es) X.env = (false, eval e X.env) :: starEach es X.env := by rfl) (hpl : (backTo pos (starEach es X.env)).any (·.1) = false := by rfl) : PE X (.Call (.Name x p) (e :: es) [] pos) (tCB r t) := by
  intro pins s σ H Q I h
  refine wpAny_Call_Name_kw (ld_blt I hg hm hv ?_ hn hdb)
  exact PyProof.Rows.callWith_type1 (thn (ha pos pins s σ H _ I h) fun us s1 ⟨vs, H1, I1, r1, q1⟩ => hc pins s1 σ H1 vs us Q I1 r1 q1) he hpl
end
end L2
namespace HT
open PySem PyProof.Rows
section
open PySem.SeqAt
open PySem.AutoSeq1 (wpAny_loadPart')
open PySem.MeetsSeq PySem.MeetsSeq2 PySem.MeetsSeq3
end
section
variable {prog : Program} {w : World} {A : Around} {E : Value -> Shared -> Prop} {s : Shared}
def sIx (n d : Nat) : Option Int -> Nat
  | none => d
  | some v => if v < 0 then (v + (n : Int)).toNat else min v.toNat n
theorem sIx_none (n d : Nat) : sIx n d none = d := rfl
theorem sIx_nat (n d k : Nat) : sIx n d (some (k : Int)) = min k n := by
  show (if (k : Int) < 0 then ((k : Int) + (n : Int)).toNat else min (k : Int).toNat n) = min k n
  rw [if_neg (by omega), Int.toNat_natCast]
end
end HT
namespace L2
open PySem PySem.Spec PyProof.Rows
abbrev TO := St -> Hp -> (Option Int -> Hp -> Prop) -> Prop
def PO (X : Cx) (e : Option Expr) (t : TO) : Prop :=
  ∀ (pins : List (Addr × Obj)) (s : Shared) (σ : St) (H : Hp) (Q : Option Int -> Hp -> Prop), Inv X pins σ H s -> t σ H Q ->
    wpAny (model X.prog X.w) X.A (evalPart e X.env) (fun u s' => ∃ o H', Inv X pins σ H' s' /\ IsPart u o /\ Q o H') X.xe s
def tNoPart : TO := fun _ H Q => Q none H
def tPart (t : TE) : TO := fun σ H Q => t σ H fun x H1 => ∃ i, x = .int i /\ Q (some i) H1
section
variable {X : Cx} {e : Expr} {te : TE} {lo hi : Option Expr} {tl th : TO} {pos p2 : Pos}
theorem po_none : PO X none tNoPart := by
  intro pins s σ H Q I h
  rw [evalPart_none]
  exact wpAny_pure ⟨none, H, I, .none, h⟩
theorem po_some (h : PE X e te) : PO X (some e) (tPart te) := by
  intro pins s σ H Q I hw
  rw [evalPart_some]
  refine thn (h pins s σ H _ I hw) fun u s1 ⟨x, H1, I1, r1, q1⟩ => ?_
  (refine Obt.ex1 q1 fun i h_0 => Obt.and2 h_0 fun e_1 q => ?_; subst e_1; clear h_0 q1)
  (refine Obt.ex1 r1 fun t e_0 => ?_; subst e_0; clear r1)
  exact ⟨some i, H1, I1, .int i t, q⟩
def SlR (X : Cx) (r : V -> Option Int -> Option Int -> Hp -> VK -> Prop) : Prop :=
  ∀ (pins : List (Addr × Obj)) (s : Shared) (σ : St) (H : Hp) (x : V) (v vl vu : Value) (lo hi : Option Int) (sl : Addr) (Q : VK), Inv X pins σ H s -> RelV x v -> s.heap.IsSliceOf sl vl vu .none -> IsPart vl lo -> IsPart vu hi -> r x lo hi H Q ->
    ∃ T id, typeLookup (.type T) "__getitem__" = pure (some (.builtin id)) /\ s.TypeIs v T /\ wpAny (model X.prog X.w) X.A (getItem v (.ref sl)) (EP X pins σ Q) X.xe s
def tSl (r : V -> Option Int -> Option Int -> Hp -> VK -> Prop) (te : TE) (tl th : TO) : TE := fun σ H Q => te σ H fun x H1 => tl σ H1 fun l H2 => th σ H2 fun u H3 => r x l u H3 Q
theorem pe_slice {r : V -> Option Int -> Option Int -> Hp -> VK -> Prop} (hr : SlR X r) (he : PE X e te) (hl : PO X lo tl) (hu : PO X hi th) : PE X (.Subscript e (.Slice lo hi none p2) pos) (tSl r te tl th) := by
  intro pins s σ H Q I h
  refine Subscript_ (thn (he pins s σ H _ I h) fun v s1 ⟨x, H1, I1, r1, q1⟩ => ?_)
  refine wpAny_Slice (thn (hl pins s1 σ H1 _ I1 q1) fun vl s2 ⟨l, H2, I2, pl, q2⟩ => thn (hu pins s2 σ H2 _ I2 q2) fun vu s3 ⟨u, H3, I3, pu, q3⟩ => ?_)
  rw [evalPart_none]
  refine wpAny_pure ?_
  have I4 : Inv X pins σ H3 { s3 with heap := s3.heap.push { cls := .type "slice", data := .fields #[vl, vu, .none] } } := I3.kept (t' := s3.toks) fun b ob q => Heap.get?_push_of_some _ q
  (refine Obt.ex2 (hr pins { s3 with heap := s3.heap.push { cls := .type "slice", data := .fields #[vl, vu, .none] } } σ H3 x v vl vu l u s3.heap.objs.size Q I4 r1 (Heap.IsSliceOf.new ..) pl pu q3) fun T id h_0 => Obt.and3 h_0 fun hT ht hg => ?_; clear h_0)
  show wpAny (model X.prog X.w) X.A (subscriptTail e (.Slice lo hi none p2) v (.ref s3.heap.objs.size)) (EP X pins σ Q) X.xe { s3 with heap := s3.heap.push { cls := .type "slice", data := .fields #[vl, vu, .none] } }
  exact tail_any (ops := [.ref s3.heap.objs.size, v]) ht hT hg (by with_unfolding_all rfl)
def cutV (xs : List V) (lo hi : Option Int) : List V := (xs.drop (HT.sIx xs.length 0 lo)).take (HT.sIx xs.length xs.length hi - HT.sIx xs.length 0 lo)
theorem cutV_length (xs : List V) (lo hi : Option Int) : (cutV xs lo hi).length <= xs.length := by
  unfold cutV
  rw [List.length_take, List.length_drop]
  omega
end
end L2
namespace L2
open PySem PySem.Spec PyProof.Rows
def ixN (n : Nat) (i : Int) : Option Nat := if 0 <= i then (if i < n then some i.toNat else none) else if -(n : Int) <= i then some (i + n).toNat else none
def atI {α : Type} (xs : List α) (i : Int) : Option α := (ixN xs.length i).bind fun j => xs[j]?
theorem ixN_seq {n : Nat} {i : Int} {j : Nat} (h : ixN n i = some j) : seqIndex? i n = some j /\ j < n /\ -(n : Int) <= i /\ i < n := by
  unfold ixN at h
  by_cases h0 : 0 <= i
  · rw [if_pos h0] at h
    by_cases h1 : i < n
    · rw [if_pos h1] at h
      have e : i.toNat = j := Option.some.inj h
      exact ⟨by rw [seqIndex_of h0 h1, e], by omega, by omega, h1⟩
    · rw [if_neg h1] at h; cases h
  · rw [if_neg h0] at h
    by_cases h1 : -(n : Int) <= i
    · rw [if_pos h1] at h
      have e : (i + n).toNat = j := Option.some.inj h
      exact ⟨by rw [seqIndex_neg (by omega) h1, e], by omega, h1, by omega⟩
    · rw [if_neg h1] at h; cases h
theorem atI_get {α : Type} {xs : List α} {i : Int} {v : α} (h : atI xs i = some v) : ∃ j, seqIndex? i xs.length = some j /\ xs[j]? = some v /\ j < xs.length /\ -(xs.length : Int) <= i /\ i < xs.length := by
  unfold atI at h
  cases e : ixN xs.length i with
  | none => rw [e] at h; cases h
  | some j =>
    rw [e] at h
    (refine Obt.and4 (ixN_seq e) fun h1 h2 h3 h4 => ?_)
    exact ⟨j, h1, h, h2, h3, h4⟩
theorem atI_nat {α : Type} {xs : List α} {j : Nat} {v : α} (h : xs[j]? = some v) : atI xs (j : Int) = some v := by
  have hj : j < xs.length := (List.getElem?_eq_some_iff.mp h).1
  have e : ixN xs.length (j : Int) = some j := by
    unfold ixN
    rw [if_pos (by omega), if_pos (by omega)]; simp
  unfold atI; rw [e]; exact h
def PlainIx (b : Expr) : Prop := ∀ o i, subscripted b false o i = operate [o, i] (getItem o i)
def IxR (X : Cx) (r : R2) : Prop :=
  ∀ (value slice : Expr) (pins : List (Addr × Obj)) (s : Shared) (σ : St) (H : Hp) (x y : V) (v u : Value) (Q : VK), Inv X pins σ H s -> RelV x v -> RelV y u -> r x y H Q ->
    subscripted slice false v u = operate [v, u] (getItem v u) -> wpAny (model X.prog X.w) X.A (subscriptTail value slice v u) (EP X pins σ Q) X.xe s
def MtR (X : Cx) (id : String) (r : V -> List V -> Hp -> VK -> Prop) : Prop :=
  ∀ (pins : List (Addr × Obj)) (s : Shared) (σ : St) (H : Hp) (x : V) (xs : List V) (v : Value) (us : List Value) (Q : VK), Inv X pins σ H s -> RelV x v -> Vals xs us -> r x xs H Q ->
    wpAny (model X.prog X.w) X.A (call (.builtin id) (v :: us)) (EP X pins σ Q) X.xe s
section
variable {X : Cx} {a b : Expr} {ta tb : TE} {pos : Pos}
theorem pe_ix {r : R2} (hr : IxR X r) (ha : PE X a ta) (hb : PE X b tb) (hs : PlainIx b) : PE X (.Subscript a b pos) (tOp r ta tb) := by
  intro pins s σ H Q I h
  exact Subscript_ (binT ha hb I h fun v u s2 x y H2 I2 rx ry q => hr a b pins s2 σ H2 x y v u Q I2 rx ry q (hs _ _))
def rIxL (K : PySem.W.Frag) : R2 := fun x y H Q => ∃ p xs i v, x = .ref p /\ y = .int i /\ SqL K H p xs /\ atI xs i = some v /\ Q v H
def rIxT (K : PySem.W.Frag) : R2 := fun x y H Q => ∃ p xs i v, x = .ref p /\ y = .int i /\ SqT K H p xs /\ atI xs i = some v /\ Q v H
theorem ix_list : IxR X (rIxL X.K) := by
  intro value slice pins s σ H x y v u Q I rx ry h hs
  (refine Obt.ex4 h fun p xs i z h_0 => Obt.and5 h_0 fun e_1 e_2 hq he q => ?_; subst e_1; subst e_2; clear h_0 h)
  cases rx
  (refine Obt.ex1 ry fun t e_0 => ?_; subst e_0; clear ry)
  (refine Obt.ex1 (I.list hq) fun its h_0 => Obt.and3 h_0 fun r pl hz => ?_; clear h_0)
  (refine Obt.ex1 (atI_get he) fun j h_0 => Obt.and5 h_0 fun h1 h2 h3 h4 h5 => ?_; clear h_0)
  (refine Obt.ex1 (r.get h2) fun w h_0 => Obt.and2 h_0 fun ew rw' => ?_; clear h_0)
  have hl := r.length
  have hn := line63
  have fin : EP X pins σ Q w s := ⟨z, H, I, rw', q⟩
  by_cases h0 : 0 <= i
  · have hj : i.toNat = j := by
      rw [seqIndex_of h0 h5] at h1
      exact Option.some.inj h1
    exact item_listR pl.isList h0 (by omega) (by rw [hj]; simpa using ew) fin hs
  · have hj : (i + (its.toArray.size : Int)).toNat = j := by
      rw [seqIndex_neg (by omega) h4] at h1
      rw [List.size_toArray, <- hl]
      exact Option.some.inj h1
    exact subscriptTail_builtinR (x := w) pl.isList.typeIs slot_list_getitem.lookup
      (wpAny_getItem_list_neg (Q := fun r s' => r = w /\ EP X pins σ Q r s') pl.isList (by omega) (by rw [List.size_toArray] <;> omega) (by omega) (by rw [hj]; simpa using ew) ⟨rfl, fin⟩) hs
theorem ix_tup : IxR X (rIxT X.K) := by
  intro value slice pins s σ H x y v u Q I rx ry h hs
  (refine Obt.ex4 h fun p xs i z h_0 => Obt.and5 h_0 fun e_1 e_2 hq he q => ?_; subst e_1; subst e_2; clear h_0 h)
  cases rx
  (refine Obt.ex1 ry fun t e_0 => ?_; subst e_0; clear ry)
  (refine Obt.ex1 (I.tuple hq) fun its h_0 => Obt.and3 h_0 fun r pl hz => ?_; clear h_0)
  (refine Obt.ex1 (atI_get he) fun j h_0 => Obt.and5 h_0 fun h1 h2 h3 h4 h5 => ?_; clear h_0)
  (refine Obt.ex1 (r.get h2) fun w h_0 => Obt.and2 h_0 fun ew rw' => ?_; clear h_0)
  have hl := r.length
  have hn := line63
  have fin : EP X pins σ Q w s := ⟨z, H, I, rw', q⟩
  exact subscriptTail_builtinR (x := w) pl.typeIs slot_tuple_getitem.lookup
    (getItem_tuple (j := j) (Q := fun r s' => r = w /\ EP X pins σ Q r s') pl (by omega) (by omega) (by rw [List.size_toArray, <- hl]; exact h1) (by simpa using ew) ⟨rfl, fin⟩) hs
theorem mapSeq_set (its : List Value) (n j : Nat) (u : Value) : Obj.mapSeq (·.setIfInBounds j u) { cls := .type "list", data := .seq its.toArray n } = { cls := .type "list", data := .seq (its.set j u).toArray n } := by
  simp [Obj.mapSeq]
theorem Inv.lst {pins : List (Addr × Obj)} {σ : St} {H : Hp} {s : Shared} {p : Addr} {xs : List V} (I : Inv X pins σ H s) (h : H p = some (.lst xs)) :
    ∃ (its : List Value) (n : Nat), Vals xs its /\ s.heap.get? p = some { cls := .type "list", data := .seq its.toArray n } /\ xs.length <= sizeLine := by
  (refine Obt.and2 (I.hok p _ h) fun z t_0 => Obt.ex2 t_0 fun its n h_1 => Obt.and2 h_1 fun r e => ?_; clear h_1 t_0)
  exact ⟨its, n, r, e, z⟩
theorem Inv.lstUpd {pins : List (Addr × Obj)} {σ : St} {H : Hp} {s : Shared} {p : Addr} {xs ys : List V} {its its' : List Value} {n n' : Nat} {f : Obj -> Obj} (I : Inv X pins σ H s) (h : H p = some (.lst xs))
    (ho : s.heap.get? p = some { cls := .type "list", data := .seq its.toArray n }) (hf : f { cls := .type "list", data := .seq its.toArray n } = { cls := .type "list", data := .seq its'.toArray n' }) (r : Vals ys its') (hz : ys.length <= sizeLine) (t : Nat) :
    Inv X pins σ (upd H p (.lst ys)) { s with heap := s.heap.update p f, toks := t } := by
  have e : (s.heap.update p f).get? p = some { cls := .type "list", data := .seq its'.toArray n' } := by
    rw [Heap.get?_update_self f ho (by rw [hf] <;> rfl), hf]
  refine I.write (x := p) (e := p) (by rw [h]; trivial) (.inl rfl) (fun b u hb q => (Heap.get?_update_other _ _ (Ne.symm hb)).trans q) ⟨_, e⟩ ?_
  exact ⟨hz, its', n', r, e⟩
def rSetL : V -> V -> V -> Hp -> (Hp -> Prop) -> Prop := fun o i v H Q => ∃ p xs k j, o = .ref p /\ i = .int k /\ H p = some (.lst xs) /\ ixN xs.length k = some j /\ Q (upd H p (.lst (xs.set j v)))
theorem set_list : PSet X rSetL := by
  intro pins s σ H o i v ov iv u Q I ro ri rv h
  (refine Obt.ex4 h fun p xs k j h_0 => Obt.and5 h_0 fun e_1 e_2 hp hj q => ?_; subst e_1; subst e_2; clear h_0 h)
  cases ro
  (refine Obt.ex1 ri fun t e_0 => ?_; subst e_0; clear ri)
  (refine Obt.ex2 (I.lst hp) fun its n h_0 => Obt.and3 h_0 fun r ho hz => ?_; clear h_0)
  (refine Obt.and4 (ixN_seq hj) fun h1 h2 h3 h4 => ?_)
  have hl := r.length
  have hn := line63
  have I' : Inv X pins σ (upd H p (.lst (xs.set j v))) { s with heap := s.heap.update p (Obj.mapSeq (·.setIfInBounds j u)) } :=
    I.lstUpd hp ho (mapSeq_set its n j u) (r.set rv j) (by rw [List.length_set]; exact hz) s.toks
  by_cases h0 : 0 <= k
  · have hk : k.toNat = j := by
      rw [seqIndex_of h0 h4] at h1
      exact Option.some.inj h1
    exact PySem.W.ki_setAt ho h0 (by omega) (by rw [List.size_toArray, <- hl]; exact h4) (by rw [hk]; exact ⟨_, I', q⟩)
  · have hk : (k + (its.toArray.size : Int)).toNat = j := by
      rw [seqIndex_neg (by omega) h3] at h1
      rw [List.size_toArray, <- hl]
      exact Option.some.inj h1
    exact PySem.W.ki_setBack ho (by omega) (by rw [List.size_toArray, <- hl]; exact h3) (by omega) (by rw [hk]; exact ⟨_, I', q⟩)
theorem slice_bounds (lo hi : Option Int) (n : Nat) : (sliceBounds lo hi none n).1 = ((HT.sIx n 0 lo : Nat) : Int) /\ (sliceBounds lo hi none n).2.1 = ((HT.sIx n n hi : Nat) : Int) /\ (sliceBounds lo hi none n).2.2 = 1 := by
  refine ⟨?_, ?_, rfl⟩
  · cases lo with
    | none => simp [sliceBounds, HT.sIx]
    | some i =>
      simp only [sliceBounds, HT.sIx, Option.getD_none, show (1 : Int) > 0 by decide, if_true]
      by_cases h : i < 0
      · simp only [h, if_true] <;> omega
      · simp only [h, if_false] <;> omega
  · cases hi with
    | none => simp [sliceBounds, HT.sIx]
    | some i =>
      simp only [sliceBounds, HT.sIx, Option.getD_none, show (1 : Int) > 0 by decide, if_true]
      by_cases h : i < 0
      · simp only [h, if_true] <;> omega
      · simp only [h, if_false] <;> omega
theorem slicePick_cut (its : List Value) (lo hi : Option Int) : slicePick its.toArray lo hi none = ((its.drop (HT.sIx its.length 0 lo)).take (HT.sIx its.length its.length hi - HT.sIx its.length 0 lo)).toArray := by
  (refine Obt.and3 (slice_bounds lo hi its.toArray.size) fun h1 h2 h3 => ?_)
  unfold slicePick
  rw [h1, h2, h3]
  simp only [sliceRange_one, pick_run, List.size_toArray] <;> rfl
def rSlL (K : PySem.W.Frag) : V -> Option Int -> Option Int -> Hp -> VK -> Prop := fun x lo hi H Q => ∃ a xs, x = .ref a /\ SqL K H a xs /\ ∀ p, H p = none -> Q (.ref p) (upd H p (.lst (cutV xs lo hi)))
theorem sl_list : SlR X (rSlL X.K) := by
  intro pins s σ H x v vl vu lo hi sl Q I rx hs pl pu h
  (refine Obt.ex2 h fun a xs h_0 => Obt.and3 h_0 fun e_1 hx q => ?_; subst e_1; clear h_0 h)
  cases rx
  (refine Obt.ex1 (I.list hx) fun its h_0 => Obt.and3 h_0 fun r ht hz => ?_; clear h_0)
  have hlen := r.length
  refine ⟨"list", _, slot_list_getitem.lookup, ht.isList.typeIs, ?_⟩
  refine wpAny_getItem_list_slice ht.isList hs pl pu .none (by simp) ?_ (by rw [List.size_toArray] <;> omega)
  rw [slicePick_cut, <- hlen]
  refine ⟨.ref s.heap.objs.size, _, I.laid (t' := s.toks) (o := .lst (cutV xs lo hi)) (fun b ob q => Heap.get?_push_of_some _ q) (Nat.le_refl _) ?_, rfl, q _ (I.hok.fresh (Nat.le_refl _))⟩
  exact ⟨Nat.le_trans (cutV_length xs lo hi) hz, _, 0, (r.drop (HT.sIx xs.length 0 lo)).take (HT.sIx xs.length xs.length hi - HT.sIx xs.length 0 lo), Heap.get?_push_size _ rfl⟩
theorem call_len_seq : CallR X (.builtin "len") (fun xs H Q => ∃ p ys, xs = [.ref p] /\ (SqL X.K H p ys \/ SqT X.K H p ys) /\ Q (.int ys.length) H) := by
  intro pins s σ H xs us Q I r h
  (refine Obt.ex2 h fun p ys h_0 => Obt.and3 h_0 fun e_1 hq q => ?_; subst e_1; clear h_0 h)
  (refine Obt.ex1 (vals1 r) fun u h_0 => Obt.and2 h_0 fun e_1 rx => ?_; subst e_1; clear h_0)
  cases rx
  have hn := line63
  rcases hq with hq | hq
  · (refine Obt.ex1 (I.list hq) fun its h_0 => Obt.and3 h_0 fun r' pl hz => ?_; clear h_0)
    have hlen := r'.length
    exact Calls.call_len_list pl.isList (by simp only [List.size_toArray] <;> omega) ⟨.int ys.length, H, I.tok _, ⟨s.toks + 1, by rw [List.size_toArray, hlen]⟩, q⟩
  · (refine Obt.ex1 (I.tuple hq) fun its h_0 => Obt.and3 h_0 fun r' pl hz => ?_; clear h_0)
    have hlen := r'.length
    exact len_tuple pl (by simp only [List.size_toArray] <;> omega) ⟨.int ys.length, H, I.tok _, ⟨s.toks + 1, by rw [List.size_toArray, hlen]⟩, q⟩
theorem call_list_of : CallR X (.type "list") (fun xs H Q => ∃ p ys, xs = [.ref p] /\ (SqL X.K H p ys \/ SqT X.K H p ys) /\ ∀ l, H l = none -> Q (.ref l) (upd H l (.lst ys))) := by
  intro pins s σ H xs us Q I r h
  (refine Obt.ex2 h fun p ys h_0 => Obt.and3 h_0 fun e_1 hq q => ?_; subst e_1; clear h_0 h)
  (refine Obt.ex1 (vals1 r) fun u h_0 => Obt.and2 h_0 fun e_1 rx => ?_; subst e_1; clear h_0)
  cases rx
  have fin : ∀ (its : List Value), Vals ys its -> ys.length <= sizeLine -> ∀ (h' : Heap) (c' : Nat), (∀ b o', s.heap.get? b = some o' -> h'.get? b = some o') ->
      h'.get? s.heap.objs.size = some { cls := .type "list", dict := none, data := .seq its.toArray c', slots := #[] } -> EP X pins σ Q (.ref s.heap.objs.size) { s with heap := h' } := fun its r' hz h' c' kp e =>
    ⟨.ref s.heap.objs.size, _, I.laid (t' := s.toks) kp (Nat.le_refl _) (show ObjOk X.prog X.w _ h' _ (.lst ys) from ⟨hz, its, c', r', e⟩), rfl, q _ (I.hok.fresh (Nat.le_refl _))⟩
  rcases hq with hq | hq
  · (refine Obt.ex1 (I.list hq) fun its h_0 => Obt.and3 h_0 fun r' pl hz => ?_; clear h_0)
    have hlen := r'.length
    (refine Obt.ex1 pl.isList fun o h_0 => Obt.and3 h_0 fun ho hc t_1 => Obt.ex1 t_1 fun n hd => ?_; clear t_1 h_0)
    exact call_list_seq p (.inl rfl) ho hc hd (fun h' c' kp e => fin its r' hz h' c' kp e) (by simp only [List.size_toArray] <;> omega)
  · (refine Obt.ex1 (I.tuple hq) fun its h_0 => Obt.and3 h_0 fun r' pl hz => ?_; clear h_0)
    have hlen := r'.length
    (refine Obt.ex1 pl fun o h_0 => Obt.and3 h_0 fun ho hc t_1 => Obt.ex1 t_1 fun n hd => ?_; clear t_1 h_0 pl)
    exact call_list_seq p (.inr rfl) ho hc hd (fun h' c' kp e => fin its r' hz h' c' kp e) (by simp only [List.size_toArray] <;> omega)
theorem call_tuple_of : CallR X (.type "tuple") (fun xs H Q => ∃ p ys, xs = [.ref p] /\ ((SqL X.K H p ys /\ ∀ l, H l = none -> Q (.ref l) (upd H l (.tup ys))) \/ (SqT X.K H p ys /\ Q (.ref p) H))) := by
  intro pins s σ H xs us Q I r h
  obtain ⟨p, ys, rfl, h⟩ := h
  (refine Obt.ex1 (vals1 r) fun u h_0 => Obt.and2 h_0 fun e_1 rx => ?_; subst e_1; clear h_0)
  cases rx
  rcases h with ⟨hq, q⟩ | ⟨hq, q⟩
  · (refine Obt.ex1 (I.list hq) fun its h_0 => Obt.and3 h_0 fun r' pl hz => ?_; clear h_0)
    have hlen := r'.length
    refine call_tuple_list pl.isList (fun h' kp => ?_) (by simp only [List.size_toArray] <;> omega)
    have I1 : Inv X pins σ H { s with heap := h' } := I.kept (t' := s.toks) kp
    have I2 : Inv X pins σ (upd H h'.objs.size (.tup ys)) { s with heap := h'.push { cls := .type "tuple", data := .seq its.toArray } } :=
      I1.laid (t' := s.toks) (fun b o e => Heap.get?_push_of_some _ e) (Nat.le_refl _) (show ObjOk X.prog X.w _ _ _ (.tup ys) from ⟨hz, its, r', IsTup.new _ _⟩)
    exact ⟨.ref h'.objs.size, _, I2, rfl, q _ (I1.hok.fresh (Nat.le_refl _))⟩
  · (refine Obt.ex1 (I.tuple hq) fun its h_0 => Obt.and3 h_0 fun r' pl hz => ?_; clear h_0)
    exact call_tuple_same pl ⟨.ref p, H, I, rfl, q⟩
def tyV (K : PySem.W.Frag) (T : String) (x : V) (H : Hp) : Prop := match x with
  | .str _ => T = "str"
  | .int _ => T = "int"
  | .ref p => (T = "list" /\ ∃ xs, SqL K H p xs) \/ (T = "tuple" /\ ∃ o, K.lookup p = some o /\ o.cls = .type "tuple" /\ o.dict = none) \/
      (T = "dict" /\ ((∃ kvs, H p = some (.dK kvs)) \/ ∃ kvs, H p = some (.dT kvs))) \/ (T = "set" /\ ∃ S n, H p = some (.set S n))
  | _ => False
theorem tyV_is {pins : List (Addr × Obj)} {σ : St} {H : Hp} {s : Shared} {T : String} {x : V} {v : Value} (I : Inv X pins σ H s) (r : RelV x v) (ty : tyV X.K T x H) :
    s.TypeIs v T /\ ∀ a, v = .ref a -> ∃ ob, s.heap.get? a = some ob /\ ob.dict = none := by
  cases x with
  | str z =>
    (refine Obt.ex1 r fun t e_0 => ?_; subst e_0; clear r)
    cases (show T = "str" from ty)
    exact ⟨typeIs_str s z t, fun _ e => nomatch e⟩
  | int i =>
    (refine Obt.ex1 r fun t e_0 => ?_; subst e_0; clear r)
    cases (show T = "int" from ty)
    exact ⟨typeIs_int s i t, fun _ e => nomatch e⟩
  | ref p =>
    cases r
    rcases ty with ⟨rfl, xs, hq⟩ | ⟨rfl, o, hk, hc, hd⟩ | ⟨rfl, hk⟩ | ⟨rfl, S, n, hk⟩
    · (refine Obt.ex1 (I.list hq) fun its h_0 => Obt.and3 h_0 fun _ pl _ => ?_; clear h_0)
      refine ⟨pl.isList.typeIs, fun a e => ?_⟩
      cases e
      (refine Obt.ex2 pl fun o n h_0 => Obt.and4 h_0 fun e c hd _ => ?_; clear h_0 pl)
      exact ⟨o, e, hd⟩
    · refine ⟨⟨o, I.kIn p o hk, hc⟩, fun a e => ?_⟩
      cases e
      exact ⟨o, I.kIn _ o hk, hd⟩
    · have z : ∃ o, s.heap.get? p = some o /\ o.ExactDict := by
        rcases hk with ⟨kvs, hk⟩ | ⟨kvs, hk⟩
        · (refine Obt.and3 (I.hok p _ hk) fun _ _ t_0 => Obt.ex1 t_0 fun _ h_1 => Obt.and2 h_1 fun _ t_2 => Obt.ex3 t_2 fun o _ _ h_3 => Obt.and3 h_3 fun e ex _ => ?_; clear h_3 t_2 h_1 t_0)
          exact ⟨o, e, ex⟩
        · (refine Obt.and3 (I.hok p _ hk) fun _ _ t_0 => Obt.ex1 t_0 fun _ h_1 => Obt.and2 h_1 fun _ t_2 => Obt.ex3 t_2 fun o _ _ h_3 => Obt.and3 h_3 fun e ex _ => ?_; clear h_3 t_2 h_1 t_0)
          exact ⟨o, e, ex⟩
      (refine Obt.ex1 z fun o h_0 => Obt.and2 h_0 fun e ex => ?_; clear h_0 z)
      refine ⟨⟨o, e, ex.1⟩, fun a e2 => ?_⟩
      cases e2
      exact ⟨o, e, ex.2.1⟩
    · (refine Obt.ex4 (I.hok p _ hk) fun o _ _ _ h_0 => Obt.and3 h_0 fun e ex _ => ?_; clear h_0)
      refine ⟨⟨o, e, ex.1⟩, fun a e2 => ?_⟩
      cases e2
      exact ⟨o, e, ex.2.1⟩
  | _ => exact False.elim ty
def tBM0 (K : PySem.W.Frag) (T : String) (r : V -> List V -> Hp -> VK -> Prop) (to : TE) : TE := fun σ H Q => to σ H fun x H1 => tyV K T x H1 /\ r x [] H1 Q
def tBM (K : PySem.W.Frag) (T : String) (r : V -> List V -> Hp -> VK -> Prop) (to : TE) (t : TA) : TE := fun σ H Q => to σ H fun x H1 => tyV K T x H1 /\ t σ H1 fun xs H2 => r x xs H2 Q
variable {o e : Expr} {es : List Expr} {to : TE} {t : TA} {name : Str} {apos cpos : Pos} {T id : String} {r : V -> List V -> Hp -> VK -> Prop}
theorem pe_bm0 (pa : PlainAttrs T) (slot : Slot T name id) (hty : typeOf (.builtin id) = pure (.type "method_descriptor")) (hm : MtR X id r) (ho : PE X o to)
    (hbase : attributeBase o name X.env (eval o X.env) = eval o X.env := by rfl) (hline : (apos.endLine == cpos.line) = true := by rfl) : PE X (.Call (.Attribute o name apos) [] [] cpos) (tBM0 X.K T r to) := by
  intro pins s σ H Q I h
  refine wpAny_Call_method0_late hbase hline (thn (ho pins s σ H _ I h) fun v s1 ⟨x, H1, I1, r1, ty, q1⟩ => ?_)
  (refine Obt.and2 (tyV_is I1 r1 ty) fun h1 h2 => ?_)
  exact ⟨T, id, pa, slot, hty, h1, h2, Calls.callWith_builtin rfl (PySem.evalArgs_none (hm pins s1 σ H1 x [] v [] Q I1 r1 .nil q1))⟩
theorem pe_bm (pa : PlainAttrs T) (slot : Slot T name id) (hty : typeOf (.builtin id) = pure (.type "method_descriptor")) (hm : MtR X id r) (ho : PE X o to) (ha : PA X (e :: es) t)
    (hbase : attributeBase o name X.env (eval o X.env) = eval o X.env := by rfl)
    (hfew : ((backTo cpos (starEach (e :: es) X.env)).all (fun x => !x.1) && (backToKw cpos (keywordEach [] X.env)).all (fun x => x.1.isSome)
      && decide ((e :: es).length + ([] : List Keyword).length + (if ([] : List Keyword).isEmpty then 0 else 1) < 30)) = true := by rfl)
    (hline : (apos.endLine == cpos.line) = true := by rfl) (hs : starEach (e :: es) X.env = (false, eval e X.env) :: starEach es X.env := by rfl) (hplain : (backTo cpos (starEach es X.env)).any (·.1) = false := by rfl) :
    PE X (.Call (.Attribute o name apos) (e :: es) [] cpos) (tBM X.K T r to t) := by
  intro pins s σ H Q I h
  refine wpAny_Call_method_late hbase hfew hline rfl (thn (ho pins s σ H _ I h) fun v s1 ⟨x, H1, I1, r1, ty, q1⟩ => ?_)
  (refine Obt.and2 (tyV_is I1 r1 ty) fun h1 h2 => ?_)
  refine ⟨T, id, pa, slot, hty, h1, h2, ?_⟩
  have hA := ha cpos pins s1 σ H1 _ I1 q1
  rw [hs] at hA ⊢
  refine Calls.callWith_builtin (by show (false || (backTo cpos (starEach es X.env)).any (·.1)) = false; rw [hplain] <;> rfl) (Calls.evalArgs_plain ?_)
  exact thn hA fun us s2 ⟨vs, H2, I2, r2, q2⟩ => hm pins s2 σ H2 x vs v us Q I2 r1 r2 q2
/- xs.append(e), list.index on a module's tuple .. are MtR facts of 06m -/
end
end L2
namespace L2
open PySem PySem.Spec PyProof.Rows
def MtM (X : Cx) (id : String) (r : V -> List V -> Hp -> VK -> Prop) : Prop :=
  ∀ (pins : List (Addr × Obj)) (s : Shared) (σ : St) (H : Hp) (x : V) (xs : List V) (v : Value) (us : List Value) (Q : VK), Inv X pins σ H s -> RelV x v -> Vals xs us -> r x xs H Q ->
    wpAny (model X.prog X.w) X.A (call (.builtin id) (v :: us)) (EP X pins σ Q) X.xe s
theorem Vals.one : ∀ {x : V} {us : List Value}, Vals [x] us -> ∃ u, us = [u] /\ RelV x u
  | _, _, .cons r .nil => ⟨_, rfl, r⟩
theorem Vals.two : ∀ {x y : V} {us : List Value}, Vals [x, y] us -> ∃ u v, us = [u, v] /\ RelV x u /\ RelV y v
  | _, _, _, .cons r (.cons q .nil) => ⟨_, _, rfl, r, q⟩
theorem Vals.zero : ∀ {us : List Value}, Vals [] us -> us = []
  | _, .nil => rfl
theorem Vals.dropLast {xs : List V} {us : List Value} (h : Vals xs us) : Vals xs.dropLast us.dropLast := by
  induction h with
  | nil => exact .nil
  | cons r t ih =>
    cases t with
    | nil => exact .nil
    | cons q t' => exact .cons r ih
theorem erase_last {α : Type} (l : List α) : l.eraseIdx (l.length - 1) = l.dropLast := by
  induction l with
  | nil => rfl
  | cons a r ih =>
    cases r with
    | nil => rfl
    | cons b r =>
      have e : (a :: b :: r).length - 1 = ((b :: r).length - 1) + 1 := by
        have h1 : (a :: b :: r).length = r.length + 2 := rfl
        have h2 : (b :: r).length = r.length + 1 := rfl
        omega
      rw [e, List.eraseIdx_cons_succ, ih]
      all_goals rfl
section
variable {X : Cx} {pins : List (Addr × Obj)} {σ : St} {H : Hp} {s : Shared} {l b : Addr} {xs ys zs : List V}
theorem Inv.lset {its its' : List Value} {n : Nat} {f : Array Value -> Array Value} {t' : Nat} (I : Inv X pins σ H s) (hH : H l = some (.lst xs))
    (e : s.heap.get? l = some { cls := .type "list", data := .seq its.toArray n }) (hf : f its.toArray = its'.toArray) (hv : Vals ys its') (hz : ys.length <= sizeLine) :
    Inv X pins σ (upd H l (.lst ys)) { s with heap := s.heap.update l (Obj.mapSeq f), toks := t' } := by
  have q := PySem.IsL.update e f
  rw [hf] at q
  refine I.write (x := l) (e := l) (by rw [hH]; exact trivial) (.inl rfl) (fun b' u hb hu => (Heap.get?_update_other s.heap (Obj.mapSeq f) (Ne.symm hb)).trans hu) ⟨_, q⟩ ?_
  exact ⟨hz, its', _, hv, q⟩
theorem Inv.lnew {its : List Value} {t' : Nat} (I : Inv X pins σ H s) (hv : Vals ys its) (hz : ys.length <= sizeLine) :
    Inv X pins σ (upd H s.heap.objs.size (.lst ys)) { s with heap := s.heap.push { cls := .type "list", data := .seq its.toArray }, toks := t' } :=
  I.laid (fun _ _ q => Heap.get?_push_of_some _ q) (Nat.le_refl _) ⟨hz, its, 0, hv, Heap.get?_push_size _ rfl⟩
theorem Inv.fresh (I : Inv X pins σ H s) : H s.heap.objs.size = none := I.hok.fresh (Nat.le_refl _)
theorem Inv.lstM (I : Inv X pins σ H s) (hH : H l = some (.lst xs)) : xs.length <= sizeLine /\ ∃ (its : List Value) (n : Nat), Vals xs its /\ xs.length = its.length /\ s.heap.get? l = some { cls := .type "list", data := .seq its.toArray n } := by
  (refine Obt.and2 (I.hok l _ hH) fun z t_0 => Obt.ex2 t_0 fun its n h_1 => Obt.and2 h_1 fun r e => ?_; clear h_1 t_0)
  exact ⟨z, its, n, r, r.length, e⟩
theorem notLongL {n : Nat} (h : n <= sizeLine) : Builtin.List.listTooLong n = false := by
  unfold Builtin.List.listTooLong
  exact decide_eq_false (by omega)
end
section
variable {X : Cx}
def rAppend : V -> List V -> Hp -> VK -> Prop := fun x vs H Q => ∃ l xs y, x = .ref l /\ vs = [y] /\ H l = some (.lst xs) /\ xs.length < sizeLine /\ Q .non (upd H l (.lst (xs ++ [y])))
theorem mt_append : MtM X "list.append" rAppend := by
  intro pins s σ H x vs v us Q I rx rv h
  (refine Obt.ex3 h fun l xs y h_0 => Obt.and5 h_0 fun e_1 e_2 hH hz q => ?_; subst e_1; subst e_2; clear h_0 h)
  cases rx
  (refine Obt.ex1 rv.one fun u h_0 => Obt.and2 h_0 fun e_1 ru => ?_; subst e_1; clear h_0)
  (refine Obt.and2 (I.lstM hH) fun z t_0 => Obt.ex2 t_0 fun its n h_1 => Obt.and3 h_1 fun r hl e => ?_; clear h_1 t_0)
  refine call_meets F.slot_list_append ⟨_, e, rfl⟩ F.entry_list_append (F.args_list_append_2 _ _) (PySem.list_append l its.toArray n u (by rw [List.size_toArray]; omega)) ⟨e, ?_⟩
  refine ⟨.non, _, I.lset (its' := its ++ [u]) hH e (by simp) (r.append (.cons ru .nil)) ?_, rfl, q⟩
  rw [List.length_append, List.length_singleton]
  omega
def rExtend : V -> List V -> Hp -> VK -> Prop := fun x vs H Q => ∃ l b xs zs, x = .ref l /\ vs = [.ref b] /\ H l = some (.lst xs) /\ H b = some (.lst zs) /\ xs.length + zs.length <= sizeLine /\ Q .non (upd H l (.lst (xs ++ zs)))
theorem mt_extend : MtM X "list.extend" rExtend := by
  intro pins s σ H x vs v us Q I rx rv h
  (refine Obt.ex4 h fun l b xs zs h_0 => Obt.and6 h_0 fun e_1 e_2 hH hB hz q => ?_; subst e_1; subst e_2; clear h_0 h)
  cases rx
  (refine Obt.ex1 rv.one fun u h_0 => Obt.and2 h_0 fun e_1 ru => ?_; subst e_1; clear h_0)
  cases ru
  (refine Obt.and2 (I.lstM hH) fun z t_0 => Obt.ex2 t_0 fun its n h_1 => Obt.and3 h_1 fun r hl e => ?_; clear h_1 t_0)
  (refine Obt.and2 (I.lstM hB) fun z2 t_0 => Obt.ex2 t_0 fun its2 n2 h_1 => Obt.and3 h_1 fun r2 hl2 e2 => ?_; clear h_1 t_0)
  have hsz : its.toArray.size + its2.toArray.size <= sizeLine := by rw [List.size_toArray, List.size_toArray]; omega
  have hlong : ¬ (!its.toArray.isEmpty && Builtin.List.listTooLong (its.toArray.size + its2.toArray.size)) = true := by
    rw [notLongL hsz, Bool.and_false]
    exact Bool.false_ne_true
  refine call_meets F.slot_list_extend ⟨_, e, rfl⟩ F.entry_list_extend (F.args_list_extend_2 _ _)
    (AutoSeq1.list_extend_list_list_0 l its.toArray n b its2.toArray n2 hlong (by rw [List.size_toArray]; omega) (by omega)) ⟨e, e2, ?_⟩
  refine ⟨.non, _, I.lset (its' := its ++ its2) hH e (by simp) (r.append r2) ?_, rfl, q⟩
  rw [List.length_append]
  omega
def rPop : V -> List V -> Hp -> VK -> Prop := fun x vs H Q => ∃ l xs y, x = .ref l /\ vs = [] /\ H l = some (.lst xs) /\ xs[xs.length - 1]? = some y /\ Q y (upd H l (.lst xs.dropLast))
theorem mt_pop : MtM X "list.pop" rPop := by
  intro pins s σ H x vs v us Q I rx rv h
  (refine Obt.ex3 h fun l xs y h_0 => Obt.and5 h_0 fun e_1 e_2 hH hy q => ?_; subst e_1; subst e_2; clear h_0 h)
  cases rx
  have hus := rv.zero
  subst hus
  (refine Obt.and2 (I.lstM hH) fun z t_0 => Obt.ex2 t_0 fun its n h_1 => Obt.and3 h_1 fun r hl e => ?_; clear h_1 t_0)
  (refine Obt.ex1 (r.get hy) fun u h_0 => Obt.and2 h_0 fun hu ru => ?_; clear h_0)
  have hy' : its.toArray[its.toArray.size - 1]? = some u := by
    show its.toArray[its.length - 1]? = some u
    rw [<- Array.getElem?_toList, <- hl]
    exact hu
  refine call_meets F.slot_list_pop ⟨_, e, rfl⟩ F.entry_list_pop (F.args_list_pop_1 _) (MeetsSeq.list_pop_last l its.toArray n u hy' (by rw [List.size_toArray]; omega)) ⟨e, ?_⟩
  refine ⟨y, _, I.lset (its' := its.dropLast) hH e ?_ r.dropLast ?_, ru, q⟩
  · show its.toArray.eraseIdxIfInBounds (its.toArray.size - 1) = its.dropLast.toArray
    rw [List.size_toArray, List.eraseIdxIfInBounds_toArray, erase_last]
  · rw [List.length_dropLast]
    omega
def rCat : R2 := fun x y H Q => ∃ l b xs zs, x = .ref l /\ y = .ref b /\ H l = some (.lst xs) /\ H b = some (.lst zs) /\ xs.length + zs.length <= sizeLine /\ ∀ p, H p = none -> Q (.ref p) (upd H p (.lst (xs ++ zs)))
theorem op_cat : OpR X (binaryOp .Add) rCat := by
  intro pins s σ H x y v u Q I rx ry h
  (refine Obt.ex4 h fun l b xs zs h_0 => Obt.and6 h_0 fun e_1 e_2 hH hB hz q => ?_; subst e_1; subst e_2; clear h_0 h)
  cases rx
  cases ry
  (refine Obt.and2 (I.lstM hH) fun z t_0 => Obt.ex2 t_0 fun its n h_1 => Obt.and3 h_1 fun r hl e => ?_; clear h_1 t_0)
  (refine Obt.and2 (I.lstM hB) fun z2 t_0 => Obt.ex2 t_0 fun its2 n2 h_1 => Obt.and3 h_1 fun r2 hl2 e2 => ?_; clear h_1 t_0)
  refine PySem.P.add_list e e2 ?_ (by rw [List.size_toArray, List.size_toArray]; omega)
  have ea : its.toArray ++ its2.toArray = (its ++ its2).toArray := by simp
  rw [ea]
  exact ⟨.ref _, _, I.lnew (t' := s.toks) (r.append r2) (by rw [List.length_append]; omega), rfl, q _ I.fresh⟩
end
section
variable {prog : Program} {w : World} {A : Around} {E : Value -> Shared -> Prop} {s : Shared}
end
section
variable {X : Cx}
end
end L2
namespace Att
open PySem PySem.W PySem.Calls PyProof.Rows
theorem ints_of_wellAll {P : Params} {h : Heap} : ∀ (ns : List Int) (vs : List Value), WellAll P h vs (ns.map WData.int) -> IntsAre vs ns := by
  intro ns
  induction ns with
  | nil =>
    intro vs w
    rw [List.map_nil] at w
    cases w
    exact .nil
  | cons n ns ih =>
    intro vs w
    rw [List.map_cons] at w
    cases w with
    | cons a b =>
      cases a
      exact .cons _ _ (ih _ b)
theorem script_of {l : OpenLaw} {n : Nat} (hn : l.most = some n) {P : Params} {h : Heap} {args : List WData} {vals : List Value}
    (hpre : l.row.toRowW.claim.pre args = true) (hwl : WellAll P h vals args) :
    ∃ a vs ns, vals = [Value.ref a] /\ args = [WData.list (ns.map WData.int)] /\ h.get? a = some { cls := .type "list", data := .seq vs.toArray } /\ IntsAre vs ns /\ ns.length <= n := by
  have hsh : WShape.hasAll [] args [.list .int] = true := (pre_splitW hpre).1
  have hc : l.pre.holds [] { args := args } = true := (pre_splitW hpre).2
  (refine Obt.ex2 (hasAllW_cons hsh) fun d r h_0 => Obt.and3 h_0 fun e_1 h1 h2 => ?_; subst e_1; clear h_0)
  obtain rfl := hasAllW_nil h2
  (refine Obt.ex1 (hasW_list h1) fun xs h_0 => Obt.and2 h_0 fun e_1 h3 => ?_; subst e_1; clear h_0)
  (refine Obt.ex1 (items_int h3) fun ns e_0 => ?_; subst e_0)
  have hlen : ns.length <= n := by
    unfold OpenLaw.pre at hc
    have h4 : (WTm.not (.lt (.lit (.int (n : Int))) (.len (.arg 0)))).holds [] { args := [.list (ns.map .int)] } = true := by
      have h4 := (holds_andW hc).1
      rw [hn] at h4
      exact h4
    have h5 := condW_of h4 (w_not (w_lt w_lit (w_len_list (w_arg rfl))))
    rw [List.length_map] at h5
    refine Nat.le_of_not_lt fun q => ?_
    have q' : (n : Int) < ((ns.length : Nat) : Int) := by omega
    first
      | (rw [decide_eq_true q'] at h5; exact absurd h5 (by decide))
      | (simp at h5; omega)
  cases hwl with
  | cons w1 w2 =>
    cases w2
    cases w1 with
    | list ho hall => exact ⟨_, _, ns, rfl, rfl, ho, ints_of_wellAll ns _ hall, hlen⟩
theorem post_true (l : OpenLaw) (args : List WData) : l.row.toRowW.claim.post args (.bool true) args = true :=
  postW_of (r := l.row.toRowW) (X := (true == true))
    (show WShape.has [] (.bool true) .bool = true by first | rfl | decide | simp [WShape.has, WShape.arms, WShape.armsAll])
    (show (WTm.eq .res (.lit (.bool true))).value [] { args := args, res := some (.bool true), after := args } = some (.bool (true == true)) from w_eq_bool (w_res rfl) w_lit) rfl
theorem attach_call {l : OpenLaw} {n : Nat} {q : Program} {loose : List Str} {XP : (Str -> Option Value) -> Heap -> Prop} {YP : World -> Heap -> Prop} {d : DefRec}
    (hn : l.most = some n) (hdf : d.params.defaults = [])
    (call : ∀ (w : World) (s₀ s₁ : Shared) (mg mb : Str -> Option Value) (fa : Addr) (o : Obj) (pm cd doc : Value) (a : Addr) (vs : List Value) (ns : List Int),
      Ground q loose [] XP w s₀ mg mb s₁.heap -> YP w s₁.heap ->
      s₁.heap.get? fa = some o -> o.data = .func (docDef d.name d.params d.body d.scope pm cd doc) -> s₁.heap.CodeRec cd d.name -> mg d.name = some (.ref fa) ->
      s₁.heap.get? a = some { cls := .type "list", data := .seq vs.toArray } -> IntsAre vs ns -> ns.length <= n -> s₁.gens = #[] ->
      codeAny (model l.prog w) callerA (.call (.ref fa) ⟨[.ref a], []⟩) (fun r s' => r = .ok (.ret (.bool true)) /\ OldK s₁.heap s'.heap /\ s'.os = s₁.os /\ AllBare s'.gens) s₁) :
    WalkO q loose XP YP l.row.toRowW d [] (fun f vs => PySem.call f vs) := by
  intro w s₀ s₁ mg mb G Y fa o pm cd doc dV kV ho hd hcd hD hmg hg args vals as hpre hlay hrd hwl hlo
  obtain rfl : dV = .none := Dflts.none hD hdf
  obtain rfl : kV = .none := Dflts.noKw hD
  (refine Obt.ex3 (script_of hn hpre hwl) fun a vs ns h_0 => Obt.and5 h_0 fun e_1 e_2 hobj hints hlen => ?_; subst e_1; subst e_2; clear h_0)
  refine enter_call (codeAny_mono (call w s₀ s₁ mg mb fa o pm cd doc a vs ns G Y ho (fd_plain hd) hcd hmg hobj hints hlen hg) fun r s' hq => ?_)
  (refine Obt.and4 hq fun e_0 h2 h3 h4 => ?_; subst e_0; clear hq)
  exact ⟨.inl ⟨.bool true, .bool true, [], rfl, fun _ => rfl, .bool true, post_true l _, fun _ => ⟨List.Pairwise.nil, fun _ hm => (nomatch hm)⟩⟩, h2, h3, h4⟩
section
variable {prog : Program} {w : World} {A : Around} {E : Value -> Shared -> Prop} {s : Shared} {K : Frag}
def ledger (h : Heap) (L d : Addr) : List (Addr × Obj) := (List.range h.objs.size).filterMap fun a => if a = L \/ a = d then none else (h.get? a).map fun o => (a, o)
end
end Att
namespace L2
open PySem PySem.Spec PyProof.Rows
theorem vals_ints : ∀ {vs : List Value} {ns : List Int}, IntsAre vs ns -> Vals (ns.map V.int) vs
  | _, _, .nil => .nil
  | _, _, .cons n t h => .cons ⟨t, rfl⟩ (vals_ints h)
def Only (H : Hp) : Prop := ∀ b, H b = none \/ ∃ o xs, H b = some (.frz o (.lst xs))
theorem law_call {P : Program} {w : World} {K : PySem.W.Frag} {mg mb : Str -> Option Value} {CX : CXT} {k : Nat} {fa a : Addr} {fd : FuncData} {x : Str} {sp : Sp} {s₁ : Shared} {vs : List Value} {ns : List Int}
    (KX : K.In s₁.heap) (hns : s₁.heap.Ns mainGlobals mg) (hb : s₁.heap.Ns builtinsNs mb) (hbb : ∀ x : Str, x ≠ "__name__" -> mb x = bootBuiltins x) (hlim : s₁.heap.NoLimit) (hg : s₁.gens = #[])
    (ha : s₁.heap.get? a = some { cls := .type "list", data := .seq vs.toArray }) (hi : IntsAre vs ns) (hl : ns.length <= sizeLine) (hr : Room k callerA)
    (F : ∀ base : Heap, K.In base -> base.Ns mainGlobals mg -> FnOk P w K mg base CX k fa fd [x] sp) (hbind : ∀ (s : Shared) (u : Value), BindsTo s fd ⟨[u], []⟩ [(x, u)])
    (hsp : ∀ H : Hp, Only H -> SqL K H a (ns.map V.int) -> sp [.ref a] H (fun v _ => v = .bl true) fun _ _ _ => False)
    (hCX : ∀ H e s', CX [] H s₁ (fun _ _ _ => False) e s' -> False) :
    codeAny (model P w) callerA (.call (.ref fa) ⟨[.ref a], []⟩) (fun r s' => r = .ok (.ret (.bool true)) /\ OldK s₁.heap s'.heap /\ s'.os = s₁.os /\ AllBare s'.gens) s₁ := by
  have rv := vals_ints hi
  have lenV := hi.length
  have core : ∀ H : Hp, Only H -> SqL K H a (ns.map V.int) -> HOk P w H s₁.heap -> (∀ b, H b ≠ none -> b = a) -> (H a ≠ none -> K.lookup a = none) ->
      codeAny (model P w) callerA (.call (.ref fa) ⟨[.ref a], []⟩) (fun r s' => r = .ok (.ret (.bool true)) /\ OldK s₁.heap s'.heap /\ s'.os = s₁.os /\ AllBare s'.gens) s₁ := by
    intro H hO hS hok hA hK
    have base_of : ∀ {b : Addr} {o : Obj}, s₁.heap.get? b = some o -> H b = none -> (hidT s₁.heap H).get? b = some o := fun e n => hidT_get e n
    have noA : ∀ {b : Addr} {o : Obj} {es : Array DictEntry} {ep : Nat}, s₁.heap.get? b = some o -> o.data = .dict es ep -> H b = none := fun {b o es ep} e d => by
      cases q : H b with
      | none => rfl
      | some u =>
        have e' : b = a := hA b (by rw [q]; simp)
        subst e'
        rw [ha] at e; cases e
        have d' : Data.seq vs.toArray _ = Data.dict es ep := d
        cases d'
    have nsK : ∀ {b : Addr} {m : Str -> Option Value}, s₁.heap.Ns b m -> (hidT s₁.heap H).Ns b m := fun {b m} ⟨o, es, ep, e, d, r⟩ => ⟨o, es, ep, base_of e (noA e d), d, r⟩
    have hKb : K.In (hidT s₁.heap H) := fun b o e => base_of (KX b o e) (by
      cases q : H b with
      | none => rfl
      | some u =>
        have e' : b = a := hA b (by rw [q]; simp)
        subst e'
        rw [hK (by rw [q]; simp)] at e; cases e)
    have hM : Mod K mg (hidT s₁.heap H) := ⟨hKb, nsK hns, ⟨mb, nsK hb, hbb⟩, let ⟨mc, h1, h2⟩ := hlim; ⟨mc, nsK h1, h2⟩⟩
    have e0 : Env0 P w K mg (hidT s₁.heap H) callerA [] s₁ H := ⟨rfl, hM, fun b o e => of_hidT e, Nat.le_of_eq (hidT_size _ _), trivial, fun b hb => absurd (show b ∈ ([] : List Addr) from hb) (by simp), hok, .of_eq hg⟩
    refine codeAny_mono ((F _ hKb (nsK hns)).run callerA [] s₁ H ⟨[.ref a], []⟩ [.ref a] [.ref a] _ _ hr e0 (hbind s₁ (.ref a)) (.cons rfl .nil) (hsp H hO hS)) fun r s' h => ?_
    cases r with
    | error e => exact (hCX H e s' h).elim
    | ok fl =>
      cases fl with
      | next => exact False.elim h
      | brk => exact False.elim h
      | cont => exact False.elim h
      | ret u =>
        (refine Obt.ex2 h fun v H' h_0 => Obt.and6 h_0 fun os bare un hok' r' q => ?_; clear h_0 h)
        have q' : v = .bl true := q
        subst q'
        obtain rfl : u = Value.bool true := r'
        refine ⟨rfl, OldK.of_keep fun b o e => ?_, os, bare⟩
        cases q : H b with
        | none => exact un.keep b o e q (by intro z; exact absurd (show b ∈ ([] : List Addr) from z) (by simp)) (by simp)
        | some u =>
          rcases hO b with z | ⟨ob, xs, z⟩
          · rw [q] at z; cases z
          · have z2 := un.frzs b ob _ z
            (refine Obt.and2 (hok b _ z) fun e1 _ => ?_)
            (refine Obt.and2 (hok' b _ z2) fun e2 _ => ?_)
            rw [e] at e1; cases e1
            exact e2
  cases hk : K.lookup a with
  | some o =>
    have e := KX a o hk
    rw [ha] at e
    cases e
    refine core (fun _ => none) (fun _ => .inl rfl) (.inr ⟨_, vs.toArray, _, hk, rfl, rfl, rfl, by rw [List.size_toArray, lenV]; exact hl, by simpa using rv⟩) (fun b u z => by have z' : (none : Option HO) = some u := z; cases z') (fun b z => absurd rfl z) fun z => absurd rfl z
  | none =>
    refine core (fun b => if b = a then some (.frz { cls := .type "list", data := .seq vs.toArray } (.lst (ns.map V.int))) else none) (fun b => ?_) (.inl (.inr ⟨{ cls := .type "list", data := .seq vs.toArray }, if_pos rfl⟩)) (fun b u z => ?_) (fun b z => ?_) fun _ => hk
    · by_cases hb : b = a
      · exact .inr ⟨_, _, if_pos hb⟩
      · exact .inl (if_neg hb)
    · by_cases hb : b = a
      · have z' := (if_pos hb).symm.trans z
        cases z'
        subst hb
        exact ⟨ha, by rw [List.length_map]; exact hl, vs, _, rv, ha⟩
      · have z' := (if_neg hb).symm.trans z
        cases z'
    · by_cases hb : b = a
      · exact hb
      · exact absurd (if_neg hb) z
end L2
namespace L2
open PySem PySem.Spec PyProof.Rows
theorem walk_of {l : PySem.W.OpenLaw} {n k : Nat} {q : Program} {loose : List Str} {XP : (Str -> Option Value) -> Heap -> Prop} {YP : World -> Heap -> Prop} {d : DefRec} {K : Params -> PySem.W.Frag} {CX : World -> CXT} {sp : World -> Sp} {x : Str}
    (hn : l.most = some n) (hn2 : n <= sizeLine) (hdf : d.params.defaults = []) (hr : Room k callerA)
    (hY : ∀ (w : World) (h : Heap), YP w h -> (K w.params).In h)
    (F : ∀ (w : World) (mg : Str -> Option Value) (fa : Addr) (h : Heap), (K w.params).In h -> h.Ns mainGlobals mg -> mg d.name = some (.ref fa) ->
      ∃ fd : FuncData, (∀ (s : Shared) (u : Value), BindsTo s fd ⟨[u], []⟩ [(x, u)]) /\
        ∀ base : Heap, (K w.params).In base -> base.Ns mainGlobals mg -> FnOk l.prog w (K w.params) mg base (CX w) k fa fd [x] (sp w))
    (hsp : ∀ (w : World) (H : Hp) (a : Addr) (ns : List Int), ns.length <= n -> Only H -> SqL (K w.params) H a (ns.map V.int) -> sp w [.ref a] H (fun v _ => v = .bl true) fun _ _ _ => False)
    (hCX : ∀ (w : World) (H : Hp) (s : Shared) (e : Value) (s' : Shared), CX w [] H s (fun _ _ _ => False) e s' -> False) :
    PySem.W.WalkO q loose XP YP l.row.toRowW d [] (fun f vs => PySem.call f vs) := by
  refine Att.attach_call hn hdf fun w s₀ s₁ mg mb fa o pm cd doc a vs ns G Y ho hd hcd hmg hobj hints hlen hg => ?_
  have KX := hY w _ Y
  (refine Obt.ex1 (F w mg fa _ KX G.T.g hmg) fun fd h_0 => Obt.and2 h_0 fun hb hF => ?_; clear h_0)
  exact law_call KX G.T.g G.T.b G.T.builtins G.T.nolimit hg hobj hints (Nat.le_trans hlen hn2) hr hF hb (fun H hO hS => hsp w H a ns hlen hO hS) fun H e s' => hCX w H s₁ e s'
end L2
namespace L2
open PySem PySem.Spec PyProof.Rows
def inClass (s : Stmt) (j : Nat) : Stmt := match s with
  | .ClassDef _ _ _ body _ _ _ _ _ _ _ => body.getD j (.Pass ⟨0, 0, 0, 0⟩)
  | _ => .Pass ⟨0, 0, 0, 0⟩
def defArgs (s : Stmt) : Arguments := match s with
  | .FunctionDef _ a _ _ _ _ _ _ _ _ => a
  | _ => { posonlyargs := [], args := [], vararg := none, kwonlyargs := [], kw_defaults := [], kwarg := none, defaults := [] }
def defBody (s : Stmt) : List Stmt := match s with
  | .FunctionDef _ _ b _ _ _ _ _ _ _ => b
  | _ => []
def defScope (s : Stmt) : Scope := match s with
  | .FunctionDef _ _ _ _ _ _ sc _ _ _ => sc
  | _ => { kind := .function, names := [], isGenerator := false, isCoroutine := false }
abbrev CX0 : CXT := fun _ _ _ _ _ _ => False
abbrev E0 : XK := fun _ _ _ => False
theorem pass0 {X : Cx} : Passes CX0 X E0 := fun _ _ _ _ _ _ _ h => h.elim
structure Fun (K : PySem.W.Frag) (x qual : Str) (st : Stmt) (f : Addr) (fd : FuncData) : Prop where
  ex : ∃ (oc : Value) (od : Option Addr) (kV doc pm : Value) (an : Option Addr) (cdv ct : Value) (osl : Array (Option Value)),
    fd = PySem.W.fnOf x qual (defArgs st) (defBody st) (defScope st) .none kV doc pm an cdv ct /\ K.lookup f = some ⟨oc, od, .func fd, osl⟩ /\ PySem.W.codeIn K cdv qual = true
  kp : PySem.W.keepIn K (.ref f) = true
section
variable {P : Program} {w : World} {K : PySem.W.Frag} {mg : Str -> Option Value} {base : Heap}
end
theorem hu_of {A : Around} {k : Nat} (hr : Room k A) : A.units + 1 < cLine := Nat.lt_of_le_of_lt (Nat.add_le_add_left (by decide : 1 <= 64) _) hr.units
theorem small1000 {n : Nat} (h : n <= 1000) : n < sizeLine := Nat.lt_of_le_of_lt h (by decide)
section
variable {X : Cx}
theorem pv (i : Nat) {x : Str} {pos : Pos} (hN : X.N[i]? = some x := by rfl) (hv : Vis X.env.scope x := by first | exact Or.inl rfl | exact Or.inr (Or.inl rfl) | exact Or.inr (Or.inr rfl)) (hd : (x == ("__debug__" : Str)) = false := by decide)
    (hcd : (x == ("__classdict__" : Str)) = false := by decide) : PE X (.Name x pos) (tVar i) := pe_var hN hv hd hcd
end
theorem iteF {A B : Prop} (h : B) : if false = true then A else B := by
  rw [if_neg Bool.false_ne_true]
  exact h
theorem iteT {A B : Prop} (h : A) : if true = true then A else B := by
  rw [if_pos rfl]
  exact h
theorem ite2 {c A B : Prop} [Decidable c] (h1 : c -> A) (h2 : ¬ c -> B) : if c then A else B := by
  by_cases h : c
  · rw [if_pos h]
    exact h1 h
  · rw [if_neg h]
    exact h2 h
def Same (H H' : Hp) : Prop := ∀ b o, H b = some o -> H' b = some o
theorem Same.trans {H H1 H2 : Hp} (a : Same H H1) (b : Same H1 H2) : Same H H2 := fun c o h => b c o (a c o h)
theorem Same.free {H H' : Hp} (e : Same H H') {l : Addr} (h : H' l = Option.none) : H l = Option.none := by
  cases q : H l with
  | none => rfl
  | some o =>
    rw [e l o q] at h
    cases h
theorem Same.seq {K : PySem.W.Frag} {H H' : Hp} {a : Addr} {xs : List V} (e : Same H H') (h : SqL K H a xs) : SqL K H' a xs := by
  rcases h with (h | ⟨o, h⟩) | h
  · exact .inl (.inl (e _ _ h))
  · exact .inl (.inr ⟨o, e _ _ h⟩)
  · exact .inr h
end L2
set_option Elab.async false
set_option linter.all false
set_option maxRecDepth 100000
namespace L2
open PySem PySem.Spec PyProof.Rows
def closList (cells : List (Str × Addr)) : List (Str × NameKind) -> List (Str × Addr) -> List (Str × Addr)
  | [], cs => cs
  | (n, k) :: r, cs => closList cells r (if k == .free then (n, (cells.lookup n).getD 0) :: cs else cs)
theorem closureFor_eq {scope : Scope} {env : Env} (h : ∀ y ∈ scope.names, y.2 = .free -> ∃ c, env.cells.lookup y.1 = some c) :
    closureFor scope env = pure (closList env.cells scope.names []) := by
  have all : ∀ (ns : List (Str × NameKind)) (cs : List (Str × Addr)), (∀ y ∈ ns, y.2 = .free -> ∃ c, env.cells.lookup y.1 = some c) ->
      (forIn ns cs (fun (x : Str × NameKind) (r : List (Str × Addr)) => (match x with
        | (name, kind) => if (kind == NameKind.free) = true then (do let c <- cellOf env name; pure (ForInStep.yield ((name, c) :: r))) else pure (ForInStep.yield r) : Sem (ForInStep (List (Str × Addr))))) : Sem (List (Str × Addr)))
      = pure (closList env.cells ns cs) := by
    intro ns
    induction ns with
    | nil => intro cs _; rfl
    | cons y r ih =>
      intro cs hy
      obtain ⟨n, k⟩ := y
      rw [List.forIn_cons]
      by_cases hk : k = .free
      · subst hk
        (refine Obt.ex1 (hy (n, .free) List.mem_cons_self rfl) fun c e => ?_)
        have e' : env.cells.lookup n = some c := e
        have e1 : cellOf env n = pure c := by unfold cellOf; rw [e']
        simp only [beq_self_eq_true, if_true, e1, pure_bind]
        rw [ih _ fun z hz => hy z (List.mem_cons_of_mem _ hz)]
        simp only [closList, beq_self_eq_true, if_true, e', Option.getD_some]
      · have hb : (k == NameKind.free) = false := by simpa using hk
        simp only [hb, Bool.false_eq_true, if_false, pure_bind]
        rw [ih _ fun z hz => hy z (List.mem_cons_of_mem _ hz)]
        simp only [closList, hb, Bool.false_eq_true, if_false]
  unfold closureFor
  have q := all scope.names [] h
  simp only [bind_pure]
  exact q
theorem closList_some (cells : List (Str × Addr)) {x : Str} {c : Addr} : ∀ (ns : List (Str × NameKind)) (cs : List (Str × Addr)), (closList cells ns cs).lookup x = some c ->
    ((x, NameKind.free) ∈ ns /\ (cells.lookup x).getD 0 = c) \/ cs.lookup x = some c
  | [], _, h => .inr h
  | (n, k) :: r, cs, h => by
    rcases closList_some cells r _ h with ⟨h1, h2⟩ | h1
    · exact .inl ⟨List.mem_cons_of_mem _ h1, h2⟩
    · by_cases hk : k = .free
      · subst hk
        simp only [beq_self_eq_true, if_true] at h1
        by_cases hx : x = n
        · subst hx
          simp only [List.lookup_cons, beq_self_eq_true] at h1
          exact .inl ⟨List.mem_cons_self, Option.some.inj h1⟩
        · have hb : (x == n) = false := by simpa using hx
          simp only [List.lookup_cons, hb] at h1
          exact .inr h1
      · have hb : (k == NameKind.free) = false := by simpa using hk
        simp only [hb, Bool.false_eq_true, if_false] at h1
        exact .inr h1
theorem closList_has (cells : List (Str × Addr)) {x : Str} {c : Addr} (e : cells.lookup x = some c) : ∀ (ns : List (Str × NameKind)) (cs : List (Str × Addr)), ((x, NameKind.free) ∈ ns \/ cs.lookup x = some c) ->
    (closList cells ns cs).lookup x = some c
  | [], _, h => by
    rcases h with h | h
    · cases h
    · exact h
  | (n, k) :: r, cs, h => by
    refine closList_has cells e r _ ?_
    rcases h with h | h
    · rcases List.mem_cons.mp h with z | z
      · cases z
        right
        simp only [beq_self_eq_true, if_true, List.lookup_cons, e, Option.getD_some]
      · exact .inl z
    · right
      by_cases hk : (k == NameKind.free) = true
      · rw [if_pos hk]
        by_cases hx : x = n
        · subst hx
          simp only [List.lookup_cons, beq_self_eq_true, e, Option.getD_some]
        · have hb : (x == n) = false := by simpa using hx
          simp only [List.lookup_cons, hb]
          exact h
      · rw [if_neg hk]
        exact h
theorem relabel_free {env : Env} : ∀ {names : List (Str × NameKind)} {x : Str}, names.lookup x = some .free ->
    (names.map fun (n, k) => if (k == NameKind.free && env.scope.kind == .function && env.kindOf n == some .cell) then (n, NameKind.cell) else (n, k)).lookup x = some .cell \/
    (names.map fun (n, k) => if (k == NameKind.free && env.scope.kind == .function && env.kindOf n == some .cell) then (n, NameKind.cell) else (n, k)).lookup x = some .free
  | [], _, h => by simp at h
  | (n, k) :: r, x, h => by
    have ih := @relabel_free env r x
    show List.lookup x ((if (k == NameKind.free && env.scope.kind == .function && env.kindOf n == some .cell) = true then (n, NameKind.cell) else (n, k)) :: _) = _ \/
      List.lookup x ((if (k == NameKind.free && env.scope.kind == .function && env.kindOf n == some .cell) = true then (n, NameKind.cell) else (n, k)) :: _) = _
    cases hx : x == n with
    | true =>
      simp only [List.lookup_cons, hx] at h
      cases h
      by_cases hc : (NameKind.free == NameKind.free && env.scope.kind == .function && env.kindOf n == some .cell) = true
      · rw [if_pos hc]; simp only [List.lookup_cons, hx]; first | exact .inl trivial | exact .inl rfl
      · rw [if_neg hc]; simp only [List.lookup_cons, hx]; first | exact .inr trivial | exact .inr rfl
    | false =>
      simp only [List.lookup_cons, hx] at h
      by_cases hc : (k == NameKind.free && env.scope.kind == .function && env.kindOf n == some .cell) = true
      · rw [if_pos hc]; simp only [List.lookup_cons, hx]; exact ih h
      · rw [if_neg hc]; simp only [List.lookup_cons, hx]; exact ih h
theorem relabel_back {env : Env} : ∀ {names : List (Str × NameKind)} {x : Str} {k' : NameKind}, k' = .cell \/ k' = .free -> (∀ y ∈ names, y.2 ≠ .cell) ->
    (names.map fun (n, k) => if (k == NameKind.free && env.scope.kind == .function && env.kindOf n == some .cell) then (n, NameKind.cell) else (n, k)).lookup x = some k' -> (x, NameKind.free) ∈ names
  | [], _, _, _, _, h => by simp at h
  | (n, k) :: r, x, k', hk', hn, h => by
    have ih := @relabel_back env r x k' hk' (fun y hy => hn y (List.mem_cons_of_mem _ hy))
    have h' : List.lookup x ((if (k == NameKind.free && env.scope.kind == .function && env.kindOf n == some .cell) = true then (n, NameKind.cell) else (n, k)) :: (r.map fun (n, k) => if (k == NameKind.free && env.scope.kind == .function && env.kindOf n == some .cell) then (n, NameKind.cell) else (n, k))) = some k' := h
    have hkc : k ≠ .cell := hn (n, k) List.mem_cons_self
    cases hx : x == n with
    | true =>
      have hxn : x = n := by simpa using hx
      subst hxn
      by_cases hc : (k == NameKind.free && env.scope.kind == .function && env.kindOf x == some .cell) = true
      · have hk : k = .free := by
          simp only [Bool.and_eq_true, beq_iff_eq] at hc
          exact hc.1.1
        subst hk
        exact List.mem_cons_self
      · rw [if_neg hc] at h'
        simp only [List.lookup_cons, beq_self_eq_true] at h'
        have hk : k = k' := Option.some.inj h'
        rcases hk' with z | z
        · exact absurd (hk.trans z) hkc
        · rw [hk, z]; exact List.mem_cons_self
    | false =>
      refine List.mem_cons_of_mem _ (ih ?_)
      by_cases hc : (k == NameKind.free && env.scope.kind == .function && env.kindOf n == some .cell) = true
      · rw [if_pos hc] at h'
        simpa only [List.lookup_cons, hx] using h'
      · rw [if_neg hc] at h'
        simpa only [List.lookup_cons, hx] using h'
def blockSt (ix : List (Option Nat)) (σ : St) : St := ix.map fun o => match o with
  | none => none
  | some i => (σ[i]?).join
structure BlkScope (NX : List Str) (scX : Scope) (N : List Str) (ix : List (Option Nat)) (sc : Scope) : Prop where
  kind : sc.kind = .function
  nd : N.Nodup
  nocell : ∀ y ∈ sc.names, y.2 ≠ .cell
  locs : ∀ y ∈ sc.names, y.2 = .local -> sc.names.lookup y.1 = some .local
  free : ∀ y ∈ sc.names, y.2 = .free -> scX.names.lookup y.1 = some .cell \/ scX.names.lookup y.1 = some .free
  len : ix.length = N.length
  at_ : ∀ p ∈ N.zip ix, ∀ i, p.2 = some i -> NX[i]? = some p.1 /\ sc.names.lookup p.1 = some .free
def cxComp (X : Cx) (N : List Str) (scope : Scope) (fp : List Addr) (s : Shared) (H : Hp) (C : Addr) : Cx :=
  { prog := X.prog, w := X.w, K := X.K, mg := X.mg, base := X.base, A := X.A, N := N, s₀ := s, H₀ := H, env := compEnvC scope (closList X.env.cells scope.names []) C X.env, outer := X.stack, stack := X.stack, ex := fp, fn := fun _ => false, calm := X.calm, pn := X.pn, xe := fun _ _ => False }
theorem mem_lookup_free {names : List (Str × NameKind)} {x : Str} (h : names.lookup x = some .free) : (x, NameKind.free) ∈ names := PySem.mem_of_lookup h
section
variable {X : Cx} {pins : List (Addr × Obj)} {σ : St} {H : Hp} {s : Shared} {N : List Str} {ix : List (Option Nat)} {scope : Scope} {fp : List Addr}
theorem BlkScope.clos (S : BlkScope X.N X.env.scope N ix scope) (ok : X.Ok) : ∀ y ∈ scope.names, y.2 = .free -> ∃ c, X.env.cells.lookup y.1 = some c := fun y hy hf => ok.has y.1 (S.free y hy hf)
theorem inv_block {D C : Addr} {h' : Heap} {tk : Nat} {m : Str -> Option Value} (I : Inv X pins σ H s) (S : BlkScope X.N X.env.scope N ix scope) (hf : ∀ b ∈ fp, FpOk X pins H b)
    (hfo : ∀ b ∈ fp, ∃ o, s.heap.get? b = some o /\ ∀ v, o.data ≠ .cell v)
    (hD : s.heap.objs.size <= D) (hC : s.heap.objs.size <= C) (hDC : D ≠ C) (hk : ∀ b o, s.heap.get? b = some o -> h'.get? b = some o) (hns : h'.Ns C m)
    (hl : ∃ n, h'.get? D = some { cls := .type "list", data := .seq ([] : List Value).toArray n }) :
    Inv (cxComp X N scope fp s H C) pins (blockSt ix σ) (upd H D (.lst [])) { s with heap := h', toks := tk } := by
  have fresh : ∀ {a : Addr}, s.heap.objs.size <= a -> H a = none := fun h => I.hok.fresh h
  have cl_of : ∀ x c, (closList X.env.cells scope.names []).lookup x = some c -> X.env.cells.lookup x = some c := fun x c e => by
    rcases closList_some _ _ _ e with ⟨h1, h2⟩ | h1
    · (refine Obt.ex1 (S.clos I.ok _ h1 rfl) fun c' e' => ?_)
      have e'' : X.env.cells.lookup x = some c' := e'
      rw [e''] at h2
      rw [e'']
      exact congrArg some h2
    · simp at h1
  have ltO : ∀ {b : Addr} {o : Obj}, s.heap.get? b = some o -> b < s.heap.objs.size := fun e => Heap.lt_size e
  have neC : ∀ {b : Addr} {o : Obj}, s.heap.get? b = some o -> b ≠ C := fun e => Nat.ne_of_lt (Nat.lt_of_lt_of_le (ltO e) hC)
  have neD : ∀ {b : Addr} {o : Obj}, s.heap.get? b = some o -> b ≠ D := fun e => Nat.ne_of_lt (Nat.lt_of_lt_of_le (ltO e) hD)
  have cellG : ∀ x c, X.env.cells.lookup x = some c -> ∃ o, s.heap.get? c = some o := fun x c e => by
    (refine Obt.ex1 (I.cell x c e) fun v h_0 => Obt.ex1 h_0 fun o h_1 => Obt.and2 h_1 fun ho _ => ?_; clear h_1 h_0)
    exact ⟨o, ho⟩
  refine ⟨⟨I.ok.mod, ?_, I.ok.glob, I.ok.blt, hC, fun x y c e1 e2 => I.ok.inj x y c (cl_of x c e1) (cl_of y c e2), fun x hx => ?_, fun x c h _ => ?_, I.ok.hd, I.ok.frames, .inl rfl, fun b hb => ?_, I.bs, Nat.le_trans I.ok.bsz I.sz, fun b o e hb => ?_, fun b hb hb2 => ?_, I.stack, I.stkFree⟩,
    rfl, I.bare, Un.laid hk hD (fresh hD), ⟨m, hns, fun j x v e1 e2 e3 => ?_⟩, fun x c e => ?_, ?_, fun x c e => ?_, fun p hp => ?_, I.hok.laid hk hD ?_, ?_⟩
  · exact S.kind
  · have hx' : (x, NameKind.free) ∈ scope.names := by
      rcases hx with hx | hx
      · exact relabel_back (.inl rfl) S.nocell hx
      · exact relabel_back (.inr rfl) S.nocell hx
    (refine Obt.ex1 (S.clos I.ok _ hx' rfl) fun c e => ?_)
    exact ⟨c, closList_has _ e _ _ (.inl hx')⟩
  · exact absurd (show false = true from h) Bool.false_ne_true
  · (refine Obt.and6 (hf b hb) fun f0 f1 f2 f3 f4 f5 => ?_)
    (refine Obt.ex1 (hfo b hb) fun o h_0 => Obt.and2 h_0 fun e _ => ?_; clear h_0)
    exact ⟨neC e, fun x c ec => f4 x c (cl_of x c ec)⟩
  · (refine Obt.and6 (hf b hb) fun f0 f1 f2 f3 f4 f5 => ?_)
    rcases f3 with z | z
    · exact I.ok.noex b o e z
    · exact absurd (Nat.lt_of_lt_of_le (Heap.lt_size (I.ok.bs b o e).1) z) (Nat.lt_irrefl _)
  · (refine Obt.and6 (hf b hb) fun f0 f1 f2 f3 f4 f5 => ?_)
    rcases List.mem_cons.mp (I.stkSub b hb2) with z | z
    · exact f1 z
    · exact f2 z
  · -- a name's value
    (refine Obt.ex1 (id I.loc) fun mX h_0 => Obt.and2 h_0 fun hnX hlX => ?_; clear h_0)
    have hj : (blockSt ix σ)[j]? = some (some v) := e2
    unfold blockSt at hj
    rw [List.getElem?_map] at hj
    cases ej : ix[j]? with
    | none => rw [ej] at hj; cases hj
    | some o =>
      rw [ej] at hj
      cases o with
      | none => cases hj
      | some i =>
        have hj' : (σ[i]?).join = some v := Option.some.inj hj
        have hz : (x, some i) ∈ N.zip ix := List.mem_iff_getElem?.mpr ⟨j, by rw [List.getElem?_zip_eq_some]; exact ⟨e1, ej⟩⟩
        (refine Obt.and2 (S.at_ _ hz i rfl) fun hNi hfr => ?_)
        have hmem := mem_lookup_free hfr
        have hσ : σ[i]? = some (some v) := by
          cases q : σ[i]? with
          | none => rw [q] at hj'; cases hj'
          | some w' =>
            rw [q] at hj'
            have q' : w' = some v := hj'
            rw [q']
        have hvx : X.env.scope.names.lookup x = some .cell \/ X.env.scope.names.lookup x = some .free := S.free _ hmem rfl
        (refine Obt.ex1 (hlX i x v hNi hσ (.inr hvx)) fun u h_0 => Obt.and2 h_0 fun r lk => ?_; clear h_0)
        refine ⟨u, r, .inr ⟨?_, ?_⟩⟩
        · exact relabel_free hfr
        · rcases lk with ⟨k, _⟩ | ⟨k, c, ec, ci⟩
          · have k' : X.env.scope.names.lookup x = some .local := k
            rcases hvx with z | z
            · rw [z] at k'; cases k'
            · rw [z] at k'; cases k'
          · (refine Obt.ex1 ci fun oc h_0 => Obt.and2 h_0 fun hoc hocd => ?_; clear h_0 ci)
            exact ⟨c, closList_has _ ec _ _ (.inl hmem), oc, hk c oc hoc, hocd⟩
  · (refine Obt.ex1 (I.cell x c (cl_of x c e)) fun v h_0 => Obt.ex1 h_0 fun o h_1 => Obt.and2 h_1 fun ho hd => ?_; clear h_1 h_0)
    exact ⟨v, o, hk c o ho, hd⟩
  · show upd H D (.lst []) C = none
    rw [upd_ne (Ne.symm hDC)]
    exact fresh hC
  · (refine Obt.ex1 (cellG x c (cl_of x c e)) fun o ho => ?_)
    rw [upd_ne (neD ho)]
    exact I.freeC x c (cl_of x c e)
  · (refine Obt.and5 (I.pin p hp) fun e n ne nf d => ?_)
    refine ⟨hk _ _ e, by rw [upd_ne (neD e)]; exact n, neC e, fun z => ?_, d⟩
    rcases List.mem_cons.mp (I.stkSub p.1 z) with q | q
    · exact ne q
    · exact nf q
  · (refine Obt.ex1 hl fun n hl => ?_)
    exact ⟨Nat.zero_le _, [], n, .nil, hl⟩
  · show (blockSt ix σ).length = N.length
    unfold blockSt
    rw [List.length_map]
    exact S.len
end
end L2
set_option Elab.async false
set_option linter.all false
set_option maxRecDepth 100000
namespace L2
open PySem PySem.Spec PyProof.Rows
theorem compLoop_by {prog : Program} {w : World} {A : Around} {R : Result -> Shared -> Prop} {s : Shared} {elt target iter : Expr} {scope : Scope} {pos : Pos} {it acc : Value} {env : Env} (I : Nat -> Shared -> Prop)
    (turn : ∀ n s, I n s -> wpAny (model prog w) A (pyNext it) (fun r s₁ => match r with
      | none => R (.ok .next) s₁
      | some v => wpAny (model prog w) A (letOwnedTupleGo target it v) (fun _ s₁' => wpAny (model prog w) A (assign target env v) (fun _ s₂ => wpAny (model prog w) A (eval elt env) (fun x s₃ =>
          wpAny (model prog w) A (call (.builtin "list.append") [acc, x]) (fun _ s₄ => ∃ m, m < n /\ I m s₄) (fun _ _ => False) s₃)
          (fun _ _ => False) s₂) (fun _ _ => False) s₁') (fun _ _ => False) s₁) (fun _ _ => False) s)
    (n : Nat) (h : I n s) :
    codeAny (model prog w) A (.compLoop (.ListComp elt [⟨target, iter, [], 0⟩] scope pos) 0 it acc env) R s := by
  refine codeAny_loop rfl I (fun n s hI => ?_) n h
  show wpAny _ _ ((compTurn (.ListComp elt [⟨target, iter, [], 0⟩] scope pos) 0 it acc env).onRaise (fun x => do noteFrame x env; theTreesLotGoes x)) _ _ s
  refine wpAny_noted ?_
  rw [compTurn_list1]
  refine wpAny_bind (wpAny_standAt (wpAny_bind (wpAny_mono (turn n s hI) (fun r s₁ h₁ => ?_) fun _ _ h' => h'.elim)))
  cases r with
  | none => exact wpAny_pure h₁
  | some v =>
    refine wpAny_bind (wpAny_mono h₁ (fun _ s₁' h₁' => ?_) fun _ _ h' => h'.elim)
    exact wpAny_bind (wpAny_mono h₁' (fun _ s₂ h₂ => wpAny_bind (wpAny_bind (wpAny_mono h₂ (fun x s₃ h₃ => wpAny_bind (wpAny_mono h₃
      (fun _ s₄ h₄ => wpAny_pure (wpAny_pure ⟨rfl, h₄⟩)) fun _ _ h' => h'.elim)) fun _ _ h' => h'.elim))) fun _ _ h' => h'.elim)
def CompW (J : It) (ix : List (Option Nat)) (g : TG) (te : TE) (σ : St) (H : Hp) (Qd : Addr -> Hp -> Prop) : Prop :=
  ∀ D, H D = none -> ∃ W : Nat -> Nat -> St -> Hp -> Prop, (∃ m, W 0 m (blockSt ix σ) (upd H D (.lst []))) /\ ∀ i m σ' H', W i m σ' H' ->
    (J.stop i H' /\ Qd D H') \/ (J.go i H' /\ ∀ x H2, J.yld i H' x H2 -> g x σ' H2 fun σ3 H3 => te σ3 H3 fun y H4 => ∃ ys, H4 D = some (.lst ys) /\ ys.length < sizeLine /\ ∃ m', m' < m /\ W (i + 1) m' σ3 (upd H4 D (.lst (ys ++ [y]))))
section
variable {X : Cx} {pins : List (Addr × Obj)} {σ : St} {H : Hp} {s : Shared} {N : List Str} {ix : List (Option Nat)} {scope : Scope} {fp : List Addr} {tg elt iter : Expr} {pos spos : Pos} {J : It} {it : Addr} {tn : Nat -> Heap -> Prop} {g : TG} {te : TE} {wi : TI}
theorem comp_run {Qd : Addr -> Hp -> Prop} {RR : Value -> Addr -> Result -> Shared -> Prop} {E : Value -> Shared -> Prop} (I : Inv X pins σ H s) (hc : X.calm = true) (S : BlkScope X.N X.env.scope N ix scope) (T : Turn X.prog X.w X.K tg J fp it tn) (st : tn 0 s.heap) (f2 : ∀ b ∈ fp, FpOk X pins H b)
    (hg : ∀ C, PG (cxComp X N scope fp s H C) tg g) (he : ∀ C, PE (cxComp X N scope fp s H C) elt te) (hW : CompW J ix g te σ H Qd)
    (hR : ∀ D C s' H' m, Inv X pins σ H' s' -> s'.heap.Ns C m -> FpOk X pins H' C -> Qd D H' -> RR (.ref D) C (.ok .next) s') :
    wpAny (model X.prog X.w) X.A (newList []) (fun acc s₃ => wpAny (model X.prog X.w) X.A (newFunctionEnv scope X.env.globals (closList X.env.cells scope.names []) [] X.env.qual none .none (some X.env)) (fun cenv s₄ =>
      codeAny (model X.prog X.w) X.A (.compStart (.ListComp elt [⟨tg, iter, [], 0⟩] scope pos) 0 (.ref it) acc { cenv with scope := relabel scope X.env }) (RR acc cenv.locals) s₄) E s₃) E s := by
  refine wpAny_newObj_type (wpAny_newFunctionEnv S.nocell (by intro y hy; simp at hy) (fun h₁ hns₁ hsb₁ => ?_) S.kind)
  dsimp only at hns₁ hsb₁ ⊢
  generalize hH2 : s.heap.push { cls := .type "list", dict := none, data := .seq ([] : List Value).toArray } = H2 at hns₁ hsb₁ ⊢
  have hC : H2.objs.size = s.heap.objs.size + 1 := by rw [<- hH2, Heap.size_push]
  have hDC : s.heap.objs.size ≠ H2.objs.size := by rw [hC]; exact Nat.ne_of_lt (Nat.lt_succ_self _)
  have hCle : s.heap.objs.size <= H2.objs.size := by rw [hC]; exact Nat.le_succ _
  have below : ∀ b, b < s.heap.objs.size -> b ≠ H2.objs.size := fun b hb => by rw [hC]; exact Nat.ne_of_lt (Nat.lt_succ_of_lt hb)
  have old : ∀ b o, s.heap.get? b = some o -> h₁.get? b = some o := fun b o e => hsb₁.extBut b o (below b (Heap.lt_size e)) (Heap.get?_push_of_some _ (hH2 ▸ Heap.get?_push_of_some _ e))
  have hacc : ∃ n, h₁.get? s.heap.objs.size = some { cls := .type "list", data := .seq ([] : List Value).toArray n } := ⟨_, hsb₁.extBut _ _ hDC (Heap.get?_push_of_some _ (hH2 ▸ Heap.get?_push_size _ rfl))⟩
  have st1 : tn 0 h₁ := T.keep _ _ _ st fun b _ o e => old b o e
  have fo : ∀ b ∈ fp, ∃ o, s.heap.get? b = some o /\ ∀ v, o.data ≠ .cell v := T.obj _ _ st
  have I0 : Inv (cxComp X N scope fp s H H2.objs.size) pins (blockSt ix σ) (upd H s.heap.objs.size (.lst [])) { s with heap := h₁, toks := s.toks + ([] : List (Str × Value)).length } :=
    inv_block I S f2 fo (Nat.le_refl _) hCle hDC old hns₁ hacc
  have freshD : H s.heap.objs.size = none := I.hok.fresh (Nat.le_refl _)
  (refine Obt.ex1 (hW s.heap.objs.size freshD) fun W h_0 => Obt.and2 h_0 fun t_1 turn => Obt.ex1 t_1 fun m0 w0 => ?_; clear t_1 h_0)
  have cl_ne : ∀ b ∈ fp, b ≠ H2.objs.size := fun b hb => by
    (refine Obt.ex1 (fo b hb) fun o h_0 => Obt.and2 h_0 fun e _ => ?_; clear h_0)
    exact below b (Heap.lt_size e)
  have stat : ∀ {H' : Hp}, (∀ b ∈ fp, H' b = none) -> ∀ b ∈ fp, FpOk (cxComp X N scope fp s H H2.objs.size) pins H' b := fun hn b hb => by
    (refine Obt.and6 (f2 b hb) fun f0 f1 f3 f4 f5 f6 => ?_)
    exact ⟨hn b hb, cl_ne b hb, I0.ok.exfs b hb, .inl hb, (I0.ok.exf b hb).2, f6⟩
  have fr0 : ∀ b ∈ fp, (upd H s.heap.objs.size (.lst [])) b = none := fun b hb => by
    (refine Obt.ex1 (fo b hb) fun o h_0 => Obt.and2 h_0 fun e _ => ?_; clear h_0)
    rw [upd_ne (Nat.ne_of_lt (Heap.lt_size e))]
    exact (f2 b hb).1
  have loop : codeAny (model X.prog X.w) X.A (.compLoop (.ListComp elt [⟨tg, iter, [], 0⟩] scope pos) 0 (.ref it) (.ref s.heap.objs.size) (compEnvC scope (closList X.env.cells scope.names []) H2.objs.size X.env))
      (RR (.ref s.heap.objs.size) H2.objs.size) { s with heap := h₁, toks := s.toks + ([] : List (Str × Value)).length } := by
    refine compLoop_by (fun n s' => ∃ i σ' H', Inv (cxComp X N scope fp s H H2.objs.size) pins σ' H' s' /\ tn i s'.heap /\ (∀ b ∈ fp, H' b = none) /\ W i n σ' H') ?_ m0 ⟨0, _, _, I0, st1, fr0, w0⟩
    (refine fun n s3 i_0 => Obt.ex3 i_0 fun i σ3 H3 h_1 => Obt.and4 h_1 fun I3 st3 fr3 w3 => ?_; clear h_1 i_0)
    rcases turn i n σ3 H3 w3 with ⟨stop, qn⟩ | ⟨go, step⟩
    · refine thn (T.done (cxComp X N scope fp s H H2.objs.size) rfl rfl rfl hc i pins s3 σ3 H3 _ I3 (stat fr3) st3 stop) fun r s4 ⟨hr, I4⟩ => ?_
      subst hr
      (refine Obt.ex1 (id I4.loc) fun m4 h_0 => Obt.and2 h_0 fun hn4 _ => ?_; clear h_0)
      refine hR _ _ s4 H3 m4 ?_ hn4 (I.fpOk hCle I4.free) qn
      exact I.call' (ch := fp) I4.os I4.base I4.hok I4.bare fun b hb => by
        (refine Obt.and6 (f2 b hb) fun f0 f1 f3 f4 f5 f6 => ?_)
        exact ⟨f4, f1, f5, f6⟩
    · refine thn (T.item (cxComp X N scope fp s H H2.objs.size) rfl rfl rfl hc i pins s3 σ3 H3 _ I3 (stat fr3) st3 go) fun r s4 ⟨u, hr, h4⟩ => ?_
      subst hr
      refine thn h4 fun _ s5 ⟨x, H5, I5, r5, y5, st5, fr5⟩ => ?_
      have I5' := I5.pinned (stat fr5) (T.obj _ _ st5)
      refine thn (hg _ _ s5 σ3 H5 x u _ I5' r5 (step x H5 y5)) fun _ s6 ⟨σ6, H6, I6, q6⟩ => ?_
      refine thn (he _ _ s6 σ6 H6 _ I6 q6) fun yv s7 ⟨y, H7, I7, r7, ys, hD7, hz7, m', hm, w7⟩ => ?_
      refine thn (mt_append (X := cxComp X N scope fp s H H2.objs.size) _ s7 σ6 H7 (.ref s.heap.objs.size) [y] (.ref s.heap.objs.size) [yv] (fun _ H8 => W (i + 1) m' σ6 H8) I7 rfl (.cons r7 .nil) ⟨_, ys, y, rfl, rfl, hD7, hz7, w7⟩) fun _ s8 ⟨_, H8, I8, _, w8⟩ => ?_
      refine ⟨m', hm, i + 1, σ6, H8, I8.unpinned, T.keep _ _ _ st5 fun b hb o e => (I8.pin (b, o) (List.mem_append_right _ (List.mem_append_right _ (mem_pinsAt hb e)))).1, fun b hb => ?_, w8⟩
      (refine Obt.ex1 (T.obj _ _ st5 b hb) fun o h_0 => Obt.and2 h_0 fun e d => ?_; clear h_0)
      exact (I8.pin (b, o) (List.mem_append_right _ (List.mem_append_right _ (mem_pinsAt hb e)))).2.1
  exact codeAny_compStart_list loop (T.self _ _ _ _ _ st1 loop)
def tComp (ix : List (Option Nat)) (wi : TI) (g : TG) (te : TE) : TE := fun σ H Q => wi σ H fun J H1 => CompW J ix g te σ H1 fun D H' => Q (.ref D) H'
theorem pe_comp (hc : X.calm = true) (S : BlkScope X.N X.env.scope N ix scope) (hi : PI X tg iter wi) (hg : ∀ fp s H C, PG (cxComp X N scope fp s H C) tg g) (he : ∀ fp s H C, PE (cxComp X N scope fp s H C) elt te)
    (hs : ∀ x, foldedSetIterable iter X.env x = pure x := by intro _; rfl) : PE X (.ListComp elt [⟨tg, iter, [], 0⟩] scope pos) (tComp ix wi g te) := by
  intro pins s σ H Q I h
  rw [eval_ListComp]
  refine wpAny_comprehension_free (use := none) rfl hs (closureFor_eq (S.clos I.ok)) S.kind S.locs (thn (hi pins s σ H _ I h) fun v s1 h1 => thn h1 fun itv s2 h2 => ?_)
  (refine Obt.ex5 h2 fun it fp tn J H2 h_0 => Obt.and6 h_0 fun e I2 T st2 f2 hW => ?_; clear h_0 h2)
  subst e
  refine comp_run (RR := fun acc C => compPost (model X.prog X.w) X.A X.xe none (EP X pins σ Q) acc C) I2 hc S T st2 f2 (hg _ _ _) (he _ _ _) hW ?_
  intro D C s' H' m I' hn fC q
  exact ⟨m, hn, fun h' sb => ⟨.ref D, H', I'.turned (t' := s'.toks) (fun b o hb e => (sb.2 b hb).trans e) fC.1 fC.2.1 fC.2.2.2.1 fC.2.2.2.2.1 fC.2.2.2.2.2, rfl, q⟩⟩
theorem ps_setComp {i : Nat} {y : Str} {py : Pos} (hc : X.calm = true) (hN : X.N.Nodup) (hyi : X.N[i]? = some y) (hy : Loc X.env.scope y) (S : BlkScope X.N X.env.scope N ix scope) (hi : PI X tg iter wi) (hg : ∀ fp s H C, PG (cxComp X N scope fp s H C) tg g) (he : ∀ fp s H C, PE (cxComp X N scope fp s H C) elt te)
    (hsw : swapsWith (.ListComp elt [⟨tg, iter, [], 0⟩] scope pos) (some (.Name y py)) spos.line X.env = pure true := by rfl)
    (hf : X.fn y = true \/ X.env.scope.names.lookup y = some .local := by first | exact .inl rfl | exact .inr rfl | assumption)
    (hs : ∀ x, foldedSetIterable iter X.env x = pure x := by intro _; rfl) : PS X (.Assign [.Name y py] (.ListComp elt [⟨tg, iter, [], 0⟩] scope pos) spos) (tAsg (tComp ix wi g te) (gName i)) := by
  intro pins s σ H D I h
  rw [exec_Assign_Name_used _ _ _ _ hsw]
  refine wpAny_bind (wpAny_standAt (wpAny_bind ?_))
  show wpAny _ X.A (do let _ <- comprehension (.ListComp elt [⟨tg, iter, [], 0⟩] scope pos) scope X.env _ (newList []) false (eval iter X.env) (some (assign (.Name y py) X.env))) _ _ s
  refine wpAny_bind (wpAny_mono (wpAny_comprehension_free (use := some (assign (.Name y py) X.env)) (Q := fun _ s' => SP X pins D .next s') rfl hs (closureFor_eq (S.clos I.ok)) S.kind S.locs
    (thn (hi pins s σ H _ I h) fun v s1 h1 => thn h1 fun itv s2 h2 => ?_)) (fun _ s' hq => wpAny_pure (wpAny_pure hq)) fun _ _ e => e)
  (refine Obt.ex5 h2 fun it fp tn J H2 h_0 => Obt.and6 h_0 fun e I2 T st2 f2 hW => ?_; clear h_0 h2)
  subst e
  refine comp_run (RR := fun acc C => compPost (model X.prog X.w) X.A X.xe (some (assign (.Name y py) X.env)) (fun _ s' => SP X pins D .next s') acc C) I2 hc S T st2 f2 (hg _ _ _) (he _ _ _) hW ?_
  intro Dl C s' H' m I' hn fC q
  show wpAny _ X.A (assign (.Name y py) X.env (.ref Dl)) _ _ s'
  refine wpAny_assign_Name (store_ok2 I' hN hyi hy (v := .ref Dl) rfl (fun s2 I2' hsb => ?_) hf)
  (refine Obt.ex1 hsb fun a h_0 => Obt.and2 h_0 fun sb ha => ?_; clear h_0 hsb)
  refine ⟨m, hn.sameBut sb ?_, fun h3 sb3 => ⟨_, H', I2'.turned (t' := s2.toks) (fun b o hb e => (sb3.2 b hb).trans e) fC.1 fC.2.1 fC.2.2.2.1 fC.2.2.2.2.1 fC.2.2.2.2.2, q⟩⟩
  rcases ha with z | z
  · rw [z]; exact fC.2.1
  · exact Ne.symm (fC.2.2.2.2.1 _ _ z)
end
theorem comp_range {lo : Int} {n : Nat} {ix : List (Option Nat)} {te : TE} {σ : St} {H : Hp} {Qd : Addr -> Hp -> Prop} (Pv : Addr -> Nat -> List V -> Hp -> Prop)
    (h0 : ∀ D, H D = none -> Pv D 0 [] (upd H D (.lst [])))
    (hs : ∀ D i ys H' (Q' : VK), H D = none -> i < n -> H' D = some (.lst ys) -> Pv D i ys H' -> (∀ y H4, H4 D = some (.lst ys) -> ys.length < sizeLine -> Pv D (i + 1) (ys ++ [y]) (upd H4 D (.lst (ys ++ [y]))) -> Q' y H4) ->
      te ((blockSt ix σ).set 0 (some (.int (lo + i)))) H' Q')
    (hd : ∀ D ys H', H D = none -> H' D = some (.lst ys) -> Pv D n ys H' -> Qd D H') : CompW (Itr lo n) ix (gName 0) te σ H Qd := by
  intro D hD
  refine ⟨fun i m σ' H' => m = n - i /\ i <= n /\ (σ' = blockSt ix σ \/ ∃ t, σ' = (blockSt ix σ).set 0 t) /\ ∃ ys, H' D = some (.lst ys) /\ Pv D i ys H', ⟨n, by simp, Nat.zero_le _, .inl rfl, [], upd_same, h0 D hD⟩, ?_⟩
  (refine fun i m σ' H' i_0 => Obt.and4 i_0 fun e_1 hi hσ t_2 => Obt.ex1 t_2 fun ys h_3 => Obt.and2 h_3 fun hy p => ?_; subst e_1; clear h_3 t_2 i_0)
  by_cases hlt : i < n
  · refine .inr ⟨hlt, fun x H2 y => ?_⟩
    (refine Obt.and2 y fun e1 e2 => ?_; clear y)
    subst e1
    subst e2
    have es : σ'.set 0 (some (V.int (lo + i))) = (blockSt ix σ).set 0 (some (V.int (lo + i))) := by
      rcases hσ with z | ⟨t, z⟩
      · rw [z]
      · rw [z, List.set_set]
    show te (σ'.set 0 (some (V.int (lo + i)))) _ _
    rw [es]
    refine hs D i ys _ _ hD hlt hy p fun y H4 h4 hz p4 => ⟨ys, h4, hz, n - (i + 1), by omega, rfl, hlt, .inr ⟨_, rfl⟩, ys ++ [y], upd_same, p4⟩
  · have e : i = n := by omega
    subst e
    exact .inl ⟨Nat.le_refl _, hd D ys H' hD hy p⟩
theorem comp_list {K : PySem.W.Frag} {a : Addr} {xs : List V} {ix : List (Option Nat)} {te : TE} {σ : St} {H : Hp} {Qd : Addr -> Hp -> Prop} (Pv : Addr -> Nat -> List V -> Hp -> Prop)
    (h0 : ∀ D, H D = none -> Pv D 0 [] (upd H D (.lst [])))
    (hl : ∀ D i ys H', i <= xs.length -> Pv D i ys H' -> SqL K H' a xs)
    (hs : ∀ D i x ys H' (Q' : VK), H D = none -> xs[i]? = some x -> H' D = some (.lst ys) -> Pv D i ys H' -> (∀ y H4, H4 D = some (.lst ys) -> ys.length < sizeLine -> Pv D (i + 1) (ys ++ [y]) (upd H4 D (.lst (ys ++ [y]))) -> Q' y H4) ->
      te ((blockSt ix σ).set 0 (some x)) H' Q')
    (hd : ∀ D ys H', H D = none -> H' D = some (.lst ys) -> Pv D xs.length ys H' -> Qd D H') : CompW (Itl K a) ix (gName 0) te σ H Qd := by
  intro D hD
  refine ⟨fun i m σ' H' => m = xs.length - i /\ i <= xs.length /\ (σ' = blockSt ix σ \/ ∃ t, σ' = (blockSt ix σ).set 0 t) /\ ∃ ys, H' D = some (.lst ys) /\ Pv D i ys H', ⟨xs.length, by simp, Nat.zero_le _, .inl rfl, [], upd_same, h0 D hD⟩, ?_⟩
  (refine fun i m σ' H' i_0 => Obt.and4 i_0 fun e_1 hi hσ t_2 => Obt.ex1 t_2 fun ys h_3 => Obt.and2 h_3 fun hy p => ?_; subst e_1; clear h_3 t_2 i_0)
  have q := hl D i ys H' hi p
  by_cases hlt : i < xs.length
  · refine .inr ⟨⟨xs, xs[i], q, by simp [hlt]⟩, fun x H2 y => ?_⟩
    (refine Obt.and2 y fun e1 e2 => ?_; clear y)
    subst e1
    have ex := e2 xs q
    have es : σ'.set 0 (some x) = (blockSt ix σ).set 0 (some x) := by
      rcases hσ with z | ⟨t, z⟩
      · rw [z]
      · rw [z, List.set_set]
    show te (σ'.set 0 (some x)) _ _
    rw [es]
    refine hs D i x ys _ _ hD ex hy p fun y H4 h4 hz p4 => ⟨ys, h4, hz, xs.length - (i + 1), by omega, rfl, hlt, .inr ⟨_, rfl⟩, ys ++ [y], upd_same, p4⟩
  · have e : i = xs.length := by omega
    subst e
    exact .inl ⟨⟨xs, q, Nat.le_refl _⟩, hd D ys H' hD hy p⟩
section
variable {X : Cx}
def rIsi (K : PySem.W.Frag) : List V -> Hp -> VK -> Prop := fun xs H Q => ∃ x n t b, xs = [x, .ty n] /\ TyOf K H x t /\ PySem.W.kitOne K t (.type n) = some b /\ Q (.bl b) H
theorem call_isi : CallR X (.builtin "isinstance") (rIsi X.K) := by
  intro pins s σ H xs us Q I r h
  (refine Obt.ex4 h fun x n t b h_0 => Obt.and4 h_0 fun e_1 ty e q => ?_; subst e_1; clear h_0 h)
  (refine Obt.ex2 r.two fun u v h_0 => Obt.and3 h_0 fun e_1 ru rv => ?_; subst e_1; clear h_0)
  cases (show v = Value.type n from rv)
  exact isinst_ok I ru ty e fun tk => ⟨.bl b, H, I.tok tk, rfl, q⟩
end
section
variable {prog : Program} {w : World} {A : Around} {E : Value -> Shared -> Prop} {s : Shared}
end
section
variable {X : Cx} {pos : Pos}
end
end L2
set_option Elab.async false
set_option linter.all false
set_option maxRecDepth 100000
namespace HT
open PySem PySem.Spec PyProof.Rows
section
variable {prog : Program} {w : World} {A : Around} {E : Value -> Shared -> Prop} {s : Shared}
end
end HT
namespace L2
open PySem PySem.Spec PyProof.Rows
section
variable {X : Cx}
end
structure FunD (K : PySem.W.Frag) (x qual : Str) (st : Stmt) (dV : Value) (f : Addr) (fd : FuncData) : Prop where
  ex : ∃ (oc : Value) (od : Option Addr) (kV doc pm : Value) (an : Option Addr) (cdv ct : Value) (osl : Array (Option Value)),
    fd = PySem.W.fnOf x qual (defArgs st) (defBody st) (defScope st) dV kV doc pm an cdv ct /\ K.lookup f = some ⟨oc, od, .func fd, osl⟩ /\ PySem.W.codeIn K cdv qual = true
  kp : PySem.W.keepIn K (.ref f) = true
section
variable {P : Program} {w : World} {K : PySem.W.Frag} {mg : Str -> Option Value} {base : Heap}
theorem FunD.ok {x qual : Str} {st : Stmt} {dV : Value} {f : Addr} {fd : FuncData} {N ps : List Str} {k : Nat} {sp : Sp} (F : FunD K x qual st dV f fd) (S : FnScope N ps (defScope st)) (len : ∀ vs H Q E, sp vs H Q E -> vs.length = ps.length)
    (hbody : ∀ (cdv : Value) (A : Around) (outer : List Env) (s : Shared) (H : Hp) (vs : List V) (Q : VK) (E : XK), Room k (A.deeper (envOfC qual (defScope st) s.heap.objs.size f cdv)) -> sp vs H Q E ->
      ∃ t, PSs (cxOf CX0 P w K mg base N qual (defScope st) f cdv A outer s H E).nox (defBody st) t /\ t { nx := fun _ H' => Q .non H', rt := Q } (start N vs) H) : FnOk P w K mg base CX0 (k + 1) f fd ps sp := by
  (refine Obt.ex8 F.ex fun oc od kV doc pm an cdv ct h_0 => Obt.ex1 h_0 fun osl h_1 => Obt.and3 h_1 fun e_2 lk hcd => ?_; subst e_2; clear h_1 h_0)
  refine fn_of lk hcd S len fun A outer s H vs Q E hr hsp => ?_
  (refine Obt.ex1 (hbody cdv A outer s H vs Q E hr hsp) fun t h_0 => Obt.and2 h_0 fun h q => ?_; clear h_0)
  exact ⟨t, h.nox, q⟩
theorem FunD.binds {x qual : Str} {st : Stmt} {f : Addr} {fd : FuncData} {ps : List Str} (F : FunD K x qual st .none f fd)
    (h : ∀ (kV doc pm : Value) (an : Option Addr) (cdv ct : Value) (us : List Value), us.length = ps.length -> bindArgs (PySem.W.fnOf x qual (defArgs st) (defBody st) (defScope st) .none kV doc pm an cdv ct) ⟨us, []⟩ = pure (ps.zip us)) : Binds K fd ps [] := by
  (refine Obt.ex8 F.ex fun oc od kV doc pm an cdv ct h_0 => Obt.ex1 h_0 fun osl h_1 => Obt.and3 h_1 fun e_2 lk hcd => ?_; subst e_2; clear h_1 h_0)
  exact .all (h kV doc pm an cdv ct)
theorem fund_mk {x qual : Str} {st : Stmt} {f : Addr} {oc : Value} {od an : Option Addr} {osl : Array (Option Value)} {dV kV doc pm cdv ct : Value} (l : K.lookup f = some ⟨oc, od, .func (PySem.W.fnOf x qual (defArgs st) (defBody st) (defScope st) dV kV doc pm an cdv ct), osl⟩)
    (c : PySem.W.codeIn K cdv qual = true) (k : PySem.W.keepIn K (.ref f) = true) : FunD K x qual st dV f (PySem.W.fnOf x qual (defArgs st) (defBody st) (defScope st) dV kV doc pm an cdv ct) := ⟨⟨oc, od, kV, doc, pm, an, cdv, ct, osl, rfl, l, c⟩, k⟩
structure DefOk (P : Program) (w : World) (K : PySem.W.Frag) (mg : Str -> Option Value) (base : Heap) (x : Str) (k : Nat) (ps : List Str) (dvs : List V) (sp : Sp) : Prop where
  ex : ∃ (f : Addr) (fd : FuncData) (ds : List Value), mg x = some (.ref f) /\ PySem.W.keepIn K (.ref f) = true /\ Vals dvs ds /\ Binds K fd ps ds /\ FnOk P w K mg base CX0 k f fd ps sp
end
section
variable {X : Cx} {x : Str} {j k : Nat} {ps : List Str} {dvs : List V} {sp : Sp} {p pos : Pos} {e : Expr} {es : List Expr} {t : TA}
theorem pe_cd (G : DefOk X.prog X.w X.K X.mg X.base x k ps dvs sp) (hr : Room j X.A) (ha : PA X (e :: es) t) (hx : ∀ e s, X.xe e s = False := by intro _ _; rfl) (hkj : k <= j := by decide) (hg : Gl X x := by rfl) (hdb : (x == ("__debug__" : Str)) = false := by decide)
    (he : starEach (e :: es) X.env = (false, eval e X.env) :: starEach es X.env := by rfl) (hpl : (backTo pos (starEach es X.env)).any (·.1) = false := by rfl) :
    PE X (.Call (.Name x p) (e :: es) [] pos) (tCall sp dvs E0 t) := by
  (refine Obt.ex3 G.ex fun f fd ds h_0 => Obt.and5 h_0 fun hm hk hd hb F => ?_; clear h_0)
  exact pe_call F (hr.mono hkj) hg hm hk hb hd (fun _ _ _ _ _ _ _ h => h.elim) ha hdb he hpl
end
theorem kit_int_int (K : PySem.W.Frag) : PySem.W.kitOne K (.type "int") (.type "int") = some true := by with_unfolding_all rfl
theorem kit_int_bool (K : PySem.W.Frag) : PySem.W.kitOne K (.type "int") (.type "bool") = some false := by with_unfolding_all rfl
theorem same_new {H : Hp} {p : Addr} (h : H p = none) (o : HO) : Same H (upd H p o) := fun b u q => by rw [upd_ne (ne_of_none q h)]; exact q
theorem small {n : Nat} (h : n <= 1000) : n <= sizeLine := Nat.le_of_lt (small1000 h)
theorem bt_len : bootBuiltins "len" = some (.builtin "len") := by decide +kernel
theorem bt_isinstance : bootBuiltins "isinstance" = some (.builtin "isinstance") := by decide +kernel
theorem bt_any : bootBuiltins "any" = some (.builtin "any") := by decide +kernel
theorem bt_sorted : bootBuiltins "sorted" = some (.builtin "sorted") := by decide +kernel
theorem bt_int : bootBuiltins "int" = some (.type "int") := by decide +kernel
theorem bt_bool : bootBuiltins "bool" = some (.type "bool") := by decide +kernel
theorem bt_tuple : bootBuiltins "tuple" = some (.type "tuple") := by decide +kernel
theorem bt_list : bootBuiltins "list" = some (.type "list") := by decide +kernel
theorem bt_dict : bootBuiltins "dict" = some (.type "dict") := by decide +kernel
theorem bt_set : bootBuiltins "set" = some (.type "set") := by decide +kernel
theorem bt_reversed : bootBuiltins "reversed" = some (.type "reversed") := by decide +kernel
end L2
set_option Elab.async false
set_option linter.all false
set_option maxRecDepth 100000
namespace L2
open PySem PySem.Spec PyProof.Rows
section
variable {X : Cx}
end
def Itv (K : PySem.W.Frag) (a : Addr) (n : Nat) : It :=
  ⟨fun i H => i < n /\ ∃ xs, SqL K H a xs /\ xs.length = n, fun i H x H' => H' = H /\ ∀ xs, SqL K H a xs -> xs[n - 1 - i]? = some x, fun i H => i = n⟩
theorem turn_rev {P : Program} {w : World} {K : PySem.W.Frag} {tg : Expr} (a it : Addr) (n : Nat) : Turn P w K tg (Itv K a n) [it] it (fun i h => i <= n /\ PySem.Heap.IsRevIter h it a ((n : Int) - 1 - (i : Int))) where
  mem := by simp
  obj := fun i h st b hb => by
    have e : b = it := by simpa using hb
    subst e
    (refine Obt.and2 st fun _ t_0 => Obt.ex1 t_0 fun o h_1 => Obt.and3 h_1 fun e c d => ?_; clear h_1 t_0 st)
    exact ⟨o, e, fun v z => by rw [d] at z; cases z⟩
  keep := fun i h h' st k => ⟨st.1, st.2.at fun o e => k it (by simp) o e⟩
  item := by
    intro X hP hw hK hc i pins s σ H E I hf st hg
    subst hP hw hK
    (refine Obt.and2 hg fun hi t_0 => Obt.ex1 t_0 fun xs h_1 => Obt.and2 h_1 fun hq hn => ?_; clear h_1 t_0 hg)
    (refine Obt.ex1 (I.list hq) fun its h_0 => Obt.and3 h_0 fun rv p hz => ?_; clear h_0)
    have hj : n - 1 - i < xs.length := by omega
    (refine Obt.ex1 (rv.get (i := n - 1 - i) (x := xs[n - 1 - i]) (by simp [hj])) fun u h_0 => Obt.and2 h_0 fun hu ru => ?_; clear h_0)
    (refine Obt.and6 (hf it (by simp)) fun f0 f1 f2 f3 f4 f5 => ?_)
    have e : (n : Int) - 1 - (i : Int) = ((n - 1 - i : Nat) : Int) := by omega
    have st2 := st.2
    rw [e] at st2
    refine wpAny_pyNext_rev_item st2 p.isList (x := u) (by simpa using hu) fun h' st' sb => ?_
    have I1 : Inv X pins σ H { s with heap := h' } := I.turned (t' := s.toks) (fun b o hb e => (sb.2 b hb).trans e) f0 f1 f3 f4 f5
    (refine Obt.ex1 (id st') fun o h_0 => Obt.and3 h_0 fun eo c d => ?_; clear h_0)
    refine ⟨u, rfl, go_of (s := { s with heap := h' }) eo c d (by decide) ⟨xs[n - 1 - i], H, I1, ru, ⟨rfl, fun ys hy => by rw [I.list_inj hy hq]; simp [hj]⟩, ⟨by omega, ?_⟩, fun b hb => (hf b hb).1⟩⟩
    have e2 : (n : Int) - 1 - ((i + 1 : Nat) : Int) = ((n - 1 - i : Nat) : Int) - 1 := by omega
    rw [e2]
    exact st'
  done := by
    intro X hP hw hK hc i pins s σ H E I hf st hg
    subst hP hw hK
    have hg' : i = n := hg
    (refine Obt.and6 (hf it (by simp)) fun f0 f1 f2 f3 f4 f5 => ?_)
    have e : (n : Int) - 1 - (i : Int) = -1 := by omega
    have st2 := st.2
    rw [e] at st2
    exact wpAny_pyNext_rev_end (I.ok.hd hc) st2 fun h' eb => ⟨rfl, I.turned (t' := s.toks) (fun b o hb e => eb b o hb e) f0 f1 f3 f4 f5⟩
  self := fun _ _ _ _ _ st h => wpAny_pyIter_revIter st.2 h
section
variable {X : Cx} {tg : Expr}
def iRev (K : PySem.W.Frag) (ta : TA) : TI := fun σ H R => ta σ H fun vs H1 => ∃ a xs, vs = [.ref a] /\ SqL K H1 a xs /\ R (Itv K a xs.length) H1
theorem pi_rev {a : Expr} {ta : TA} {p pos : Pos} (hg : Gl X "reversed") (hm : X.mg "reversed" = none) (ha : PA X [a] ta) (hs : starEach [a] X.env = [(false, eval a X.env)] := by rfl) : PI X tg (.Call (.Name "reversed" p) [a] [] pos) (iRev X.K ta) := by
  intro pins s σ H R I h
  refine Call_ (ld_blt I hg hm bt_reversed (PyProof.Rows.callWith_type1 (thn (ha pos pins s σ H _ I h) fun us s1 ⟨vs, H1, I1, r1, q1⟩ => ?_) hs rfl))
  (refine Obt.ex2 q1 fun l xs h_0 => Obt.and3 h_0 fun e hq q => ?_; clear h_0 q1)
  subst e
  cases r1 with
  | cons r rr =>
    cases rr
    cases r
    (refine Obt.ex1 (I1.list hq) fun its h_0 => Obt.and3 h_0 fun rv pl hz => ?_; clear h_0)
    have hlen := rv.length
    refine call_reversed_list pl.isList ?_
    have I2 : Inv X pins σ H1 { s1 with heap := s1.heap.push (revObj l ((its.toArray.size : Int) - 1)) } := I1.kept (t' := s1.toks) fun b o e => Heap.get?_push_of_some _ e
    have hit : PySem.Heap.IsRevIter (s1.heap.push (revObj l ((its.toArray.size : Int) - 1))) s1.heap.objs.size l ((xs.length : Int) - 1 - ((0 : Nat) : Int)) := by
      refine ⟨_, Heap.get?_push_size _ rfl, rfl, ?_⟩
      have e : ((its.toArray.size : Int) - 1) = (xs.length : Int) - 1 - ((0 : Nat) : Int) := by rw [List.size_toArray]; omega
      rw [<- e]
      rfl
    refine wpAny_pyIter_revIter hit ?_
    refine ⟨s1.heap.objs.size, [s1.heap.objs.size], _, _, H1, rfl, I2, turn_rev l _ xs.length, ⟨Nat.zero_le _, hit⟩, fun b hb => ?_, q⟩
    have e : b = s1.heap.objs.size := by simpa using hb
    subst e
    exact I1.fpOk (Nat.le_refl _) (I1.hok.fresh (Nat.le_refl _))
end
theorem for_rev {K : PySem.W.Frag} {a : Addr} {xs : List V} {g : TG} {tb : TS} {D : Ends} {σ : St} {H : Hp} (Pv : Nat -> St -> Hp -> Prop) (h0 : Pv 0 σ H) (hl : ∀ i σ H, i <= xs.length -> Pv i σ H -> SqL K H a xs)
    (hs : ∀ i x σ H, i < xs.length -> xs[xs.length - 1 - i]? = some x -> Pv i σ H -> g x σ H fun σ2 H2 => tb { D with nx := Pv (i + 1), ct := Pv (i + 1), bk := D.nx } σ2 H2) (hd : ∀ σ H, Pv xs.length σ H -> D.nx σ H) :
    ∃ W : Nat -> Nat -> St -> Hp -> Prop, (∃ m, W 0 m σ H) /\ ∀ i m σ H, W i m σ H ->
      ((Itv K a xs.length).stop i H /\ D.nx σ H) \/ ((Itv K a xs.length).go i H /\ ∃ N : St -> Hp -> Prop, (∀ σ' H', N σ' H' -> ∃ m', m' < m /\ W (i + 1) m' σ' H') /\ ∀ x H', (Itv K a xs.length).yld i H x H' -> g x σ H' fun σ2 H2 => tb { D with nx := N, ct := N, bk := D.nx } σ2 H2) := by
  refine ⟨fun i m σ H => m = xs.length - i /\ i <= xs.length /\ Pv i σ H, ⟨xs.length, by simp, Nat.zero_le _, h0⟩, ?_⟩
  (refine fun i m σ H i_0 => Obt.and3 i_0 fun e_1 hi p => ?_; subst e_1; clear i_0)
  have q := hl i σ H hi p
  by_cases hlt : i < xs.length
  · refine .inr ⟨⟨hlt, xs, q, rfl⟩, Pv (i + 1), fun σ' H' p' => ⟨xs.length - (i + 1), by omega, rfl, hlt, p'⟩, fun x H' y => ?_⟩
    (refine Obt.and2 y fun e y => ?_)
    subst e
    exact hs i x σ _ hlt (y xs q) p
  · have e : i = xs.length := by omega
    subst e
    exact .inl ⟨rfl, hd σ H p⟩
theorem while_W {c : TT} {tb : TS} {D : Ends} {σ : St} {H : Hp} (Pv : Nat -> St -> Hp -> Prop) (h0 : ∃ m, Pv m σ H)
    (hs : ∀ m σ H, Pv m σ H -> c σ H fun b H1 => if b = true then ∃ N : St -> Hp -> Prop, (∀ σ' H', N σ' H' -> ∃ m', m' < m /\ Pv m' σ' H') /\ tb { D with nx := N, ct := N, bk := D.nx } σ H1 else D.nx σ H1) : tWhile c tb D σ H := ⟨Pv, h0, hs⟩
end L2
set_option Elab.async false
set_option linter.all false
set_option maxRecDepth 100000
namespace L2
open PySem PySem.Spec PyProof.Rows
section
variable {X : Cx} {pins : List (Addr × Obj)} {σ : St} {H : Hp} {s : Shared}
end
section
variable {X : Cx} {tg : Expr}
end
section
variable {X : Cx}
end
end L2
set_option Elab.async false
set_option linter.all false
set_option maxRecDepth 100000
namespace PySem
section
variable {prog : Program} {w : World} {A : Around} {R : Result -> Shared -> Prop} {I : Addr} {fp wr : List Addr} {n : Nat} {P : Nat -> Value -> Prop} {St : Nat -> Heap -> Prop}
end
section
variable {prog : Program} {w : World} {A : Around} {E : Value -> Shared -> Prop} {s : Shared}
end
end PySem
namespace L2
open PySem PySem.Spec PyProof.Rows
section
variable {X : Cx}
variable {p pos kpos : Pos} {e d : Expr} {ta : TA} {td : TE}
end
section
variable {prog : Program} {w : World} {A : Around} {E : Value -> Shared -> Prop} {s : Shared}
end
section
variable {X : Cx} {e : Expr} {te : TE} {lo hi : Option Expr} {st : Expr} {tl th ts : TO} {pos p2 : Pos}
end
section
variable {X : Cx} {tg : Expr}
def iSeq (K : PySem.W.Frag) (tl : TE) : TI := fun σ H R => tl σ H fun x H1 => ∃ a, x = .ref a /\ (((∃ xs, SqL K H1 a xs) /\ R (Itl K a) H1) \/ ((∃ xs, SqT K H1 a xs) /\ R (Itt K a) H1))
theorem pi_seq {l : Expr} {tl : TE} (hl : PE X l tl) : PI X tg l (iSeq X.K tl) := by
  intro pins s σ H R I h
  refine thn (hl pins s σ H _ I h) fun v s1 ⟨x, H1, I1, r1, q1⟩ => ?_
  obtain ⟨a, rfl, q | q⟩ := q1
  · cases r1
    (refine Obt.and2 q fun t_0 q => Obt.ex1 t_0 fun xs hx => ?_; clear t_0)
    (refine Obt.ex1 (I1.list hx) fun its h_0 => Obt.and3 h_0 fun rv p hz => ?_; clear h_0)
    refine wpAny_pyIter_list p.isList ?_
    have I2 : Inv X pins σ H1 { s1 with heap := s1.heap.push { cls := .type "list_iterator", data := .fields #[.ref a, .int 0 0] } } := I1.kept (t' := s1.toks) fun b o e => Heap.get?_push_of_some _ e
    refine ⟨s1.heap.objs.size, [s1.heap.objs.size], _, _, H1, rfl, I2, turn_list a _, ⟨_, Heap.get?_push_size _ rfl, rfl, rfl⟩, fun b hb => ?_, q⟩
    rw [List.mem_singleton.mp hb]
    exact I1.fpOk (Nat.le_refl _) (I1.hok.fresh (Nat.le_refl _))
  · cases r1
    (refine Obt.and2 q fun t_0 q => Obt.ex1 t_0 fun xs hx => ?_; clear t_0)
    (refine Obt.ex1 (I1.tuple hx) fun its h_0 => Obt.and3 h_0 fun rv p hz => ?_; clear h_0)
    refine wpAny_pyIter_tuple (show s1.heap.IsTuple a its.toArray from p) ?_
    have I2 : Inv X pins σ H1 { s1 with heap := s1.heap.push { cls := .type "tuple_iterator", data := .fields #[.ref a, .int 0 0] } } := I1.kept (t' := s1.toks) fun b o e => Heap.get?_push_of_some _ e
    refine ⟨s1.heap.objs.size, [s1.heap.objs.size], _, _, H1, rfl, I2, turn_tuple a _, ⟨_, Heap.get?_push_size _ rfl, rfl, rfl⟩, fun b hb => ?_, q⟩
    rw [List.mem_singleton.mp hb]
    exact I1.fpOk (Nat.le_refl _) (I1.hok.fresh (Nat.le_refl _))
end
theorem comp_tup {K : PySem.W.Frag} {a : Addr} {xs : List V} {ix : List (Option Nat)} {te : TE} {σ : St} {H : Hp} {Qd : Addr -> Hp -> Prop} (Pv : Addr -> Nat -> List V -> Hp -> Prop)
    (h0 : ∀ D, H D = none -> Pv D 0 [] (upd H D (.lst [])))
    (hl : ∀ D i ys H', i <= xs.length -> Pv D i ys H' -> SqT K H' a xs)
    (hs : ∀ D i x ys H' (Q' : VK), H D = none -> xs[i]? = some x -> H' D = some (.lst ys) -> Pv D i ys H' -> (∀ y H4, H4 D = some (.lst ys) -> ys.length < sizeLine -> Pv D (i + 1) (ys ++ [y]) (upd H4 D (.lst (ys ++ [y]))) -> Q' y H4) ->
      te ((blockSt ix σ).set 0 (some x)) H' Q')
    (hd : ∀ D ys H', H D = none -> H' D = some (.lst ys) -> Pv D xs.length ys H' -> Qd D H') : CompW (Itt K a) ix (gName 0) te σ H Qd := by
  intro D hD
  refine ⟨fun i m σ' H' => m = xs.length - i /\ i <= xs.length /\ (σ' = blockSt ix σ \/ ∃ t, σ' = (blockSt ix σ).set 0 t) /\ ∃ ys, H' D = some (.lst ys) /\ Pv D i ys H', ⟨xs.length, by simp, Nat.zero_le _, .inl rfl, [], upd_same, h0 D hD⟩, ?_⟩
  (refine fun i m σ' H' i_0 => Obt.and4 i_0 fun e_1 hi hσ t_2 => Obt.ex1 t_2 fun ys h_3 => Obt.and2 h_3 fun hy p => ?_; subst e_1; clear h_3 t_2 i_0)
  have q := hl D i ys H' hi p
  by_cases hlt : i < xs.length
  · refine .inr ⟨⟨xs, xs[i], q, by simp [hlt]⟩, fun x H2 y => ?_⟩
    (refine Obt.and2 y fun e1 e2 => ?_; clear y)
    subst e1
    have ex := e2 xs q
    have es : σ'.set 0 (some x) = (blockSt ix σ).set 0 (some x) := by
      rcases hσ with z | ⟨t, z⟩
      · rw [z]
      · rw [z, List.set_set]
    show te (σ'.set 0 (some x)) _ _
    rw [es]
    refine hs D i x ys _ _ hD ex hy p fun y H4 h4 hz p4 => ⟨ys, h4, hz, xs.length - (i + 1), by omega, rfl, hlt, .inr ⟨_, rfl⟩, ys ++ [y], upd_same, p4⟩
  · have e : i = xs.length := by omega
    subst e
    exact .inl ⟨⟨xs, q, Nat.le_refl _⟩, hd D ys H' hD hy p⟩
section
variable {X : Cx}
theorem ix_tupK (K : PySem.W.Frag) (h : X.K = K := by rfl) : IxR X (rIxT K) := by subst h; exact ix_tup
end
end L2
set_option Elab.async false
set_option linter.all false
set_option maxRecDepth 100000
namespace L2
open PySem PySem.Spec PyProof.Rows
section
variable {κ : Type} [DecidableEq κ]
def valV (kvs : List (κ × V)) (k : κ) : Option V := (kvs.find? fun kv => decide (kv.1 = k)).map (·.2)
def putK (kvs : List (κ × V)) (k : κ) (v : V) : List (κ × V) :=
  if (kvs.any fun kv => decide (kv.1 = k)) = true then kvs.map (fun kv => if kv.1 = k then (kv.1, v) else kv) else kvs ++ [(k, v)]
theorem valV_pos {p : κ × V} {r : List (κ × V)} {k : κ} (e : p.1 = k) : valV (p :: r) k = some p.2 := by simp [valV, List.find?_cons, e]
theorem valV_neg {p : κ × V} {r : List (κ × V)} {k : κ} (e : ¬ p.1 = k) : valV (p :: r) k = valV r k := by simp [valV, List.find?_cons, e]
theorem valV_any (k : κ) : ∀ kvs : List (κ × V), (kvs.any fun kv => decide (kv.1 = k)) = (valV kvs k).isSome
  | [] => rfl
  | p :: r => by
    rw [List.any_cons]
    by_cases e : p.1 = k
    · simp only [valV_pos e, decide_eq_true e, Bool.true_or, Option.isSome_some]
    · rw [valV_neg e, decide_eq_false e, Bool.false_or]; exact valV_any k r
theorem length_putK (kvs : List (κ × V)) (k : κ) (v : V) : (putK kvs k v).length <= kvs.length + 1 := by
  unfold putK
  split
  · rw [List.length_map]; omega
  · rw [List.length_append, List.length_cons, List.length_nil]; omega
theorem RelO.isSome_eq {o : Option V} {u : Option Value} (r : RelO o u) : o.isSome = u.isSome := by
  cases o with
  | none => cases u with
    | none => rfl
    | some _ => exact (show False from r).elim
  | some _ => cases u with
    | none => exact (show False from r).elim
    | some _ => rfl
theorem RelO.getD {o : Option V} {u : Option Value} {d : V} {d' : Value} (r : RelO o u) (rd : RelV d d') : RelV (o.getD d) (u.getD d') := by
  cases o with
  | none => cases u with
    | none => exact rd
    | some _ => exact (show False from r).elim
  | some _ => cases u with
    | none => exact (show False from r).elim
    | some _ => exact r
theorem KV.val {kvs : List (κ × V)} {vs : List (κ × Value)} (r : KV kvs vs) (k : κ) : RelO (valV kvs k) (valueAt vs k) := by
  unfold KV at r
  induction r with
  | nil => exact True.intro
  | @cons p q ps qs h t ih =>
    (refine Obt.and2 h fun h1 h2 => ?_; clear h)
    by_cases e : p.1 = k
    · have e' : q.1 = k := h1.symm.trans e
      have b : valueAt (q :: qs) k = some q.2 := by simp [valueAt, List.find?_cons, e']
      rw [valV_pos e, b]; exact h2
    · have e' : ¬ q.1 = k := fun z => e (h1.trans z)
      have b : valueAt (q :: qs) k = valueAt qs k := by simp [valueAt, List.find?_cons, e']
      rw [valV_neg e, b]; exact ih
theorem KV.any {kvs : List (κ × V)} {vs : List (κ × Value)} (r : KV kvs vs) (k : κ) : (kvs.any fun kv => decide (kv.1 = k)) = vs.any fun kv => decide (kv.1 = k) := by
  unfold KV at r
  induction r with
  | nil => rfl
  | cons h t ih => rw [List.any_cons, List.any_cons, ih, h.1]
theorem KV.repl {kvs : List (κ × V)} {vs : List (κ × Value)} (r : KV kvs vs) (k : κ) {y : V} {u : Value} (ry : RelV y u) :
    KV (kvs.map fun kv => if kv.1 = k then (kv.1, y) else kv) (vs.map fun kv => if kv.1 = k then (kv.1, u) else kv) := by
  unfold KV at r ⊢
  induction r with
  | nil => exact .nil
  | @cons p q ps qs h t ih =>
    rw [List.map_cons, List.map_cons]
    refine .cons ?_ ih
    (refine Obt.and2 h fun h1 h2 => ?_; clear h)
    by_cases e : p.1 = k
    · rw [if_pos e, if_pos (h1.symm.trans e)]; exact ⟨h1, ry⟩
    · rw [if_neg e, if_neg (fun z => e (h1.trans z))]; exact ⟨h1, h2⟩
theorem KV.put {kvs : List (κ × V)} {vs : List (κ × Value)} (r : KV kvs vs) (k : κ) {y : V} {u : Value} (ry : RelV y u) : KV (putK kvs k y) (stored vs k u) := by
  unfold putK stored
  rw [r.any k]
  by_cases e : (vs.any fun kv => decide (kv.1 = k)) = true
  · rw [if_pos e, if_pos e]; exact r.repl k ry
  · rw [if_neg e, if_neg e]; exact Paired.snoc r ⟨rfl, ry⟩
theorem KV.length {kvs : List (κ × V)} {vs : List (κ × Value)} (r : KV kvs vs) : kvs.length = vs.length := Paired.length r
end
theorem kV_is {P : Program} {w : World} {k : Key} {u : Value} (r : RelV (kV k) u) : (mixKind P w).is k u = true := by
  cases k with
  | inl i => (refine Obt.ex1 ((show ∃ t, u = Value.int i t from r)) fun t e => ?_); subst e; exact mixKind_int P w i t
  | inr x => (refine Obt.ex1 ((show ∃ t, u = Value.str x t from r)) fun t e => ?_); subst e; exact mixKind_str P w x t
theorem items_are {P : Program} {w : World} : ∀ {ks : List Key} {us : List Value}, Vals (ks.map kV) us -> ItemsAre (mixKind P w) ks us
  | [], _, r => by rw [List.map_nil] at r; cases r; exact .nil
  | k :: ks, _, r => by
    rw [List.map_cons] at r
    cases r with
    | cons h t => exact .cons (kV_is h) (items_are t)
abbrev KT (H : Hp) : List (List Key × V) -> List (List Key × Addr × Value) -> Prop := Paired fun p q => p.1 = q.1 /\ H q.2.1 = some (.tup (p.1.map kV)) /\ RelV p.2 q.2.2
theorem KT.val {H : Hp} {kvs : List (List Key × V)} {xs : List (List Key × Addr × Value)} (r : KT H kvs xs) (k : List Key) : RelO (valV kvs k) ((atKey xs k).map (·.2)) := by
  induction r with
  | nil => exact True.intro
  | @cons p q ps qs h t ih =>
    (refine Obt.and3 h fun h1 _ h2 => ?_; clear h)
    by_cases e : p.1 = k
    · have e' : q.1 = k := h1.symm.trans e
      have b : atKey (q :: qs) k = some q.2 := by simp [atKey, List.find?_cons, e']
      rw [valV_pos e, b]; exact h2
    · have e' : ¬ q.1 = k := fun z => e (h1.trans z)
      have b : atKey (q :: qs) k = atKey qs k := by simp [atKey, List.find?_cons, e']
      rw [valV_neg e, b]; exact ih
theorem KT.repl {H : Hp} {kvs : List (List Key × V)} {xs : List (List Key × Addr × Value)} (r : KT H kvs xs) (k : List Key) {y : V} {u : Value} (ry : RelV y u) :
    KT H (kvs.map fun kv => if kv.1 = k then (kv.1, y) else kv) (xs.map (putAt k u)) := by
  induction r with
  | nil => exact .nil
  | @cons p q ps qs h t ih =>
    rw [List.map_cons, List.map_cons]
    refine .cons ?_ ih
    (refine Obt.and3 h fun h1 h2 h3 => ?_; clear h)
    unfold putAt
    by_cases e : p.1 = k
    · rw [if_pos e, if_pos (h1.symm.trans e)]; exact ⟨h1, h2, ry⟩
    · rw [if_neg e, if_neg (fun z => e (h1.trans z))]; exact ⟨h1, h2, h3⟩
theorem KT.put {H : Hp} {kvs : List (List Key × V)} {xs : List (List Key × Addr × Value)} (r : KT H kvs xs) (k : List Key) {b : Addr} {y : V} {u : Value} (hb : H b = some (.tup (k.map kV))) (ry : RelV y u) :
    KT H (putK kvs k y) (storedH xs k b u) := by
  have e : (kvs.any fun kv => decide (kv.1 = k)) = (atKey xs k).isSome := by
    rw [valV_any, (r.val k).isSome_eq, Option.isSome_map]
  unfold putK storedH
  rw [e]
  by_cases q : (atKey xs k).isSome = true
  · rw [if_pos q, if_pos q]; exact r.repl k ry
  · rw [if_neg q, if_neg q]; exact Paired.snoc r ⟨rfl, hb, ry⟩
theorem KT.keeps {H H' : Hp} {kvs : List (List Key × V)} {xs : List (List Key × Addr × Value)} (r : KT H kvs xs) (ht : ∀ b ys, H b = some (.tup ys) -> H' b = some (.tup ys)) : KT H' kvs xs :=
  Paired.mapP r fun _ _ z => ⟨z.1, ht _ _ z.2.1, z.2.2⟩
section
variable {P : Program} {w : World} {H : Hp} {h : Heap} {a : Addr}
theorem rd_of {u : HO} (ok : HOk P w H h) (e : Rd H a u) : ObjOk P w H h a u := e.ok ok
theorem dk_rd {kvs : List (Key × V)} (ok : HOk P w H h) (e : Rd H a (.dK kvs)) : kvs.length <= sizeLine /\ (a == sysModules) = false /\ ∃ vs, KV kvs vs /\ h.DictOf (mixKind P w) a vs :=
  show ObjOk P w H h a (.dK kvs) from rd_of ok e
theorem dk_of {kvs : List (Key × V)} (ok : HOk P w H h) (e : H a = some (.dK kvs)) : kvs.length <= sizeLine /\ (a == sysModules) = false /\ ∃ vs, KV kvs vs /\ h.DictOf (mixKind P w) a vs := dk_rd ok (.inl e)
theorem key_of {ks : List Key} (ok : HOk P w H h) (e : H a = some (.tup (ks.map kV))) : (tupleKind (mixKind P w)).is h ks a := by
  (refine Obt.and2 ((show ObjOk P w H h a (.tup (ks.map kV)) from ok a _ e)) fun _ t_0 => Obt.ex1 t_0 fun its h_1 => Obt.and2 h_1 fun r t_2 => Obt.ex1 t_2 fun o h_3 => Obt.and3 h_3 fun h1 h2 t_4 => Obt.ex1 t_4 fun n h3 => ?_; clear t_4 h_3 t_2 h_1 t_0)
  exact ⟨o, its.toArray, n, h1, h2, h3, by simpa using items_are r⟩
theorem dt_rd {kvs : List (List Key × V)} (ok : HOk P w H h) (e : Rd H a (.dT kvs)) : kvs.length <= sizeLine /\ (a == sysModules) = false /\
    ∃ xs, KT H kvs xs /\ h.DictOfH (tupleKind (mixKind P w)) a xs := by
  (refine Obt.and3 ((show ObjOk P w H h a (.dT kvs) from rd_of ok e)) fun z y t_0 => Obt.ex1 t_0 fun xs h_1 => Obt.and2 h_1 fun r t_2 => Obt.ex3 t_2 fun o es ep h_3 => Obt.and5 h_3 fun h1 h2 h3 h4 h5 => ?_; clear h_3 t_2 h_1 t_0)
  refine ⟨z, y, xs, r, o, es, ep, h1, h2, h3, h4, fun x hx => ?_, h5⟩
  have all : ∀ {l : List (List Key × V)} {m : List (List Key × Addr × Value)}, KT H l m -> ∀ x ∈ m, (tupleKind (mixKind P w)).is h x.1 x.2.1 := by
    intro l m q
    induction q with
    | nil => intro x hx; exact nomatch hx
    | @cons p q ps qs hq t ih =>
      intro x hx
      rcases List.mem_cons.mp hx with e | hx
      · subst e
        exact key_of ok (by rw [<- hq.1]; exact hq.2.1)
      · exact ih x hx
  exact all r x hx
theorem dt_of {kvs : List (List Key × V)} (ok : HOk P w H h) (e : H a = some (.dT kvs)) : kvs.length <= sizeLine /\ (a == sysModules) = false /\
    ∃ xs, KT H kvs xs /\ h.DictOfH (tupleKind (mixKind P w)) a xs := dt_rd ok (.inl e)
end
def DGet (H : Hp) (a : Addr) (y : V) (r : Option V) : Prop :=
  (∃ kvs k, Rd H a (.dK kvs) /\ y = kV k /\ r = valV kvs k) \/ ∃ kvs k b, Rd H a (.dT kvs) /\ y = .ref b /\ H b = some (.tup (k.map kV)) /\ r = valV kvs k
def DPut (H : Hp) (a : Addr) (y v : V) (H' : Hp) : Prop :=
  (∃ kvs k, H a = some (.dK kvs) /\ y = kV k /\ kvs.length < sizeLine /\ H' = upd H a (.dK (putK kvs k v))) \/
  ∃ kvs k b, H a = some (.dT kvs) /\ y = .ref b /\ H b = some (.tup (k.map kV)) /\ kvs.length < sizeLine /\ H' = upd H a (.dT (putK kvs k v))
theorem DGet.k {H : Hp} {a : Addr} {kvs : List (Key × V)} {k : Key} (e : H a = some (.dK kvs)) : DGet H a (kV k) (valV kvs k) := .inl ⟨kvs, k, .inl e, rfl, rfl⟩
theorem DPut.k {H : Hp} {a : Addr} {kvs : List (Key × V)} {k : Key} {v : V} (e : H a = some (.dK kvs)) (hl : kvs.length < sizeLine) : DPut H a (kV k) v (upd H a (.dK (putK kvs k v))) := .inl ⟨kvs, k, e, rfl, hl, rfl⟩
section
variable {X : Cx} {pins : List (Addr × Obj)} {σ : St} {H : Hp} {s : Shared} {a : Addr} {y v : V} {u r : Value} {o : Option V} {A : Around} {E : Value -> Shared -> Prop}
theorem Inv.big (I : Inv X pins σ H s) : sysModules < s.heap.objs.size := by
  have h : mainGlobals < s.heap.objs.size := (I.mod.glob.keeps I.bk).lt
  exact Nat.lt_trans (by decide) h
theorem d_in {Q : Value -> Shared -> Prop} (hu : A.units + 1 < cLine) (I : Inv X pins σ H s) (g : DGet H a y o) (ry : RelV y u) (h : ∀ s', Inv X pins σ H s' -> Q (.bool o.isSome) s') :
    wpAny (model X.prog X.w) A (compareOp .In u (.ref a)) Q E s := by
  rcases g with ⟨kvs, k, e, ey, l⟩ | ⟨kvs, k, b, e, ey, eb, l⟩
  · subst ey
    (refine Obt.and3 (dk_rd I.hok e) fun z hd t_0 => Obt.ex1 t_0 fun vs h_1 => Obt.and2 h_1 fun rel dd => ?_; clear h_1 t_0)
    refine wpAny_in_of (kV_is ry) hd dd.mapOf ?_
    rw [<- (rel.val k).isSome_eq, <- l]
    exact h _ (I.tok _)
  · subst ey
    cases (show u = Value.ref b from ry)
    (refine Obt.and3 (dt_rd I.hok e) fun z hd t_0 => Obt.ex1 t_0 fun xs h_1 => Obt.and2 h_1 fun rel dd => ?_; clear h_1 t_0)
    refine wpAny_in_heap (tupleKind_room_in1 hu) (key_of I.hok eb) hd dd ?_
    have q := (rel.val k).isSome_eq
    rw [Option.isSome_map] at q
    rw [<- q, <- l]
    exact h _ (I.tok _)
theorem d_notIn {Q : Value -> Shared -> Prop} (hu : A.units + 1 < cLine) (I : Inv X pins σ H s) (g : DGet H a y o) (ry : RelV y u) (h : ∀ s', Inv X pins σ H s' -> Q (.bool (!o.isSome)) s') :
    wpAny (model X.prog X.w) A (compareOp .NotIn u (.ref a)) Q E s := by
  rcases g with ⟨kvs, k, e, ey, l⟩ | ⟨kvs, k, b, e, ey, eb, l⟩
  · subst ey
    (refine Obt.and3 (dk_rd I.hok e) fun z hd t_0 => Obt.ex1 t_0 fun vs h_1 => Obt.and2 h_1 fun rel dd => ?_; clear h_1 t_0)
    refine wpAny_notIn_of (kV_is ry) hd dd.mapOf ?_
    rw [<- (rel.val k).isSome_eq, <- l]
    exact h _ (I.tok _)
  · subst ey
    cases (show u = Value.ref b from ry)
    (refine Obt.and3 (dt_rd I.hok e) fun z hd t_0 => Obt.ex1 t_0 fun xs h_1 => Obt.and2 h_1 fun rel dd => ?_; clear h_1 t_0)
    refine wpAny_notIn_heap (tupleKind_room_in1 hu) (key_of I.hok eb) hd dd ?_
    have q := (rel.val k).isSome_eq
    rw [Option.isSome_map] at q
    rw [<- q, <- l]
    exact h _ (I.tok _)
theorem d_write {h' : Heap} {t' : Nat} {ob : HO} (I : Inv X pins σ H s) (mu : Mut (H a)) (hs : Heap.SameBut a s.heap h') (he : ∃ q, h'.get? a = some q) (new : ObjOk X.prog X.w (upd H a ob) h' a ob) :
    Inv X pins σ (upd H a ob) { s with heap := h', toks := t' } :=
  I.write (x := a) (e := a) mu (.inl rfl) (fun b q hb z => (hs.2 b hb).trans z) he new
theorem dk_new {P : Program} {w : World} {H' : Hp} {h' : Heap} {kvs : List (Key × V)} {vs : List (Key × Value)} (z : kvs.length <= sizeLine) (hd : (a == sysModules) = false) (rel : KV kvs vs) (dd : h'.DictOf (mixKind P w) a vs) :
    ObjOk P w H' h' a (.dK kvs) := ⟨z, hd, vs, rel, dd⟩
theorem d_setItem {H' : Hp} {Q : Unit -> Shared -> Prop} (hu : A.units + 1 < cLine) (I : Inv X pins σ H s) (g : DPut H a y v H') (ry : RelV y u) (rv : RelV v r) (h : ∀ s', Inv X pins σ H' s' -> Q () s') :
    wpAny (model X.prog X.w) A (setItem (.ref a) u r) Q E s := by
  rcases g with ⟨kvs, k, e, ey, l, eH⟩ | ⟨kvs, k, b, e, ey, eb, l, eH⟩
  · subst ey eH
    (refine Obt.and3 (dk_of I.hok e) fun z hd t_0 => Obt.ex1 t_0 fun vs h_1 => Obt.and2 h_1 fun rel dd => ?_; clear h_1 t_0)
    have hz : vs.length <= sizeLine := by rw [<- rel.length]; exact z
    have hl : (putK kvs k v).length <= sizeLine := by have := length_putK kvs k v; omega
    refine wpAny_setItem_pairs (hsz := hz) (kV_is ry) dd fun h' dd' hs => h _ ?_
    have he : ∃ q, h'.get? a = some q := let ⟨q, _, _, hq, _⟩ := dd'; ⟨q, hq⟩
    exact d_write I (by rw [e]; exact True.intro) hs he (dk_new hl hd (rel.put k rv) dd')
  · subst ey eH
    cases (show u = Value.ref b from ry)
    (refine Obt.and3 (dt_of I.hok e) fun z hd t_0 => Obt.ex1 t_0 fun xs h_1 => Obt.and2 h_1 fun rel dd => ?_; clear h_1 t_0)
    have hz : xs.length <= sizeLine := by rw [<- Paired.length rel]; exact z
    have hl : (putK kvs k v).length <= sizeLine := by have := length_putK kvs k v; omega
    refine wpAny_setItem_heap (hsz := hz) (tupleKind_room_in1 hu) (key_of I.hok eb) dd fun h' dd' hs => h _ ?_
    (refine Obt.ex3 dd' fun q es ep h_0 => Obt.and6 h_0 fun hq h2 h3 h4 _ h5 => ?_; clear h_0 dd')
    refine d_write I (by rw [e]; exact True.intro) hs ⟨q, hq⟩ ⟨hl, hd, _, (rel.put k eb rv).keeps fun c ys ec => ?_, q, es, ep, hq, h2, h3, h4, h5⟩
    rw [upd_ne (ne_of ec e (fun z => nomatch z))]
    exact ec
end
section
variable {X : Cx} {pins : List (Addr × Obj)} {σ : St} {H : Hp} {s : Shared} {a : Addr} {kvs : List (Key × V)} {k : Key} {u : Value} {A : Around} {E : Value -> Shared -> Prop}
end
def tDIn (ty td : TE) : TE := fun σ H Q => ty σ H fun y H1 => td σ H1 fun x H2 => ∃ a o, x = .ref a /\ DGet H2 a y o /\ Q (.bl o.isSome) H2
def tDNotIn (ty td : TE) : TE := fun σ H Q => ty σ H fun y H1 => td σ H1 fun x H2 => ∃ a o, x = .ref a /\ DGet H2 a y o /\ Q (.bl (!o.isSome)) H2
def sDPut (td ty tv : TE) : TS := fun D σ H => tv σ H fun v H1 => td σ H1 fun x H2 => ty σ H2 fun y H3 => ∃ a H4, x = .ref a /\ DPut H3 a y v H4 /\ D.nx σ H4
section
variable {X : Cx} {o i e value : Expr} {pos pos' tpos : Pos} {td ty tv : TE}
theorem pc_din (hu : X.A.units + 1 < cLine) (hi : PE X i ty) (ho : PE X o td) : PC X .In i o (tDIn ty td) := by
  intro pins s σ H Q I h
  refine thn (hi pins s σ H _ I h) fun iv s1 ⟨y, H1, I1, ry, q1⟩ => thn (ho pins s1 σ H1 _ I1 q1) fun u s2 ⟨x, H2, I2, rx, a, ov, ex, g, q2⟩ => ?_
  subst ex
  obtain rfl : u = Value.ref a := rx
  exact d_in hu I2 g ry fun s3 I3 => ⟨.bl ov.isSome, H2, I3, rfl, q2⟩
theorem pc_dnotin (hu : X.A.units + 1 < cLine) (hi : PE X i ty) (ho : PE X o td) : PC X .NotIn i o (tDNotIn ty td) := by
  intro pins s σ H Q I h
  refine thn (hi pins s σ H _ I h) fun iv s1 ⟨y, H1, I1, ry, q1⟩ => thn (ho pins s1 σ H1 _ I1 q1) fun u s2 ⟨x, H2, I2, rx, a, ov, ex, g, q2⟩ => ?_
  subst ex
  obtain rfl : u = Value.ref a := rx
  exact d_notIn hu I2 g ry fun s3 I3 => ⟨.bl (!ov.isSome), H2, I3, rfl, q2⟩
theorem ps_dput (hu : X.A.units + 1 < cLine) (ho : PE X o td) (hi : PE X i ty) (hv : PE X value tv) (hs : swapsWith value (some (.Subscript o i pos')) pos.line X.env = pure false) :
    PS X (.Assign [.Subscript o i pos'] value pos) (sDPut td ty tv) := by
  intro pins s σ H D I h
  refine wpAny_Assign_Subscript (thn (hv pins s σ H _ I h) fun r s1 ⟨v, H1, I1, rv, q1⟩ => thn (ho pins s1 σ H1 _ I1 q1) fun u s2 ⟨x, H2, I2, rx, q2⟩ => thn (hi pins s2 σ H2 _ I2 q2) fun iv s3 ⟨y, H3, I3, ry, a, H4, ex, g, q3⟩ => ?_) hs
  subst ex
  obtain rfl : u = Value.ref a := rx
  exact d_setItem hu I3 g ry rv fun s4 I4 => ⟨σ, H4, I4, q3⟩
end
theorem dk_empty {P : Program} {w : World} {H : Hp} (h : Heap) (hb : sysModules < h.objs.size) : ObjOk P w H (h.push { cls := .type "dict", data := .dict #[] }) h.objs.size (.dK []) :=
  ⟨Nat.zero_le _, beq_eq_false_iff_ne.mpr (Ne.symm (Nat.ne_of_lt hb)), [], .nil, Heap.DictOf.new h⟩
def tDNewK : TE := fun _ H Q => ∀ p, H p = none -> Q (.ref p) (upd H p (.dK []))
section
variable {X : Cx} {pos : Pos}
theorem pe_dnewK : PE X (.Dict [] [] pos) tDNewK := fun pins s σ H Q I h =>
  wpAny_Dict_empty ⟨.ref s.heap.objs.size, _, I.laid (a := s.heap.objs.size) (o := .dK []) (t' := s.toks) (fun _ _ q => Heap.get?_push_of_some _ q) (Nat.le_refl _) (dk_empty s.heap I.big), rfl, h _ (I.hok.fresh (Nat.le_refl _))⟩
end
def mergeK (kvs more : List (Key × V)) : List (Key × V) := more.foldl (fun acc kv => putK acc kv.1 kv.2) kvs
theorem KV.merge : ∀ {more : List (Key × V)} {rs : List (Key × Value)} {kvs : List (Key × V)} {vs : List (Key × Value)}, KV more rs -> KV kvs vs -> KV (mergeK kvs more) (merged vs rs) := by
  intro more rs kvs vs r
  unfold KV at r
  induction r generalizing kvs vs with
  | nil => intro q; exact q
  | @cons p q ps qs h t ih =>
    intro r0
    have e : KV (putK kvs p.1 p.2) (stored vs q.1 q.2) := by
      have := r0.put p.1 h.2
      rw [<- h.1]; exact this
    exact ih e
theorem length_mergeK : ∀ (more kvs : List (Key × V)), (mergeK kvs more).length <= kvs.length + more.length
  | [], kvs => by show kvs.length <= kvs.length + 0; omega
  | p :: r, kvs => by
    have h1 := length_mergeK r (putK kvs p.1 p.2)
    have h2 := length_putK kvs p.1 p.2
    show (mergeK (putK kvs p.1 p.2) r).length <= _
    rw [List.length_cons]; omega
structure M1 (X : Cx) (o : Expr) (m : Str) (apos : Pos) (e : Expr) (cpos : Pos) : Prop where
  base : attributeBase o m X.env (eval o X.env) = eval o X.env
  few : ((backTo cpos (starEach [e] X.env)).all (fun x => !x.1) && (backToKw cpos (keywordEach [] X.env)).all (fun x => x.1.isSome)
    && decide (([e] : List Expr).length + ([] : List Keyword).length + (if ([] : List Keyword).isEmpty then 0 else 1) < 30)) = true
  line : (apos.endLine == cpos.line) = true
  trees : backTo cpos (starEach [e] X.env) = [(false, eval e X.env)]
structure M2 (X : Cx) (o : Expr) (m : Str) (apos : Pos) (e f : Expr) (cpos : Pos) : Prop where
  base : attributeBase o m X.env (eval o X.env) = eval o X.env
  few : ((backTo cpos (starEach [e, f] X.env)).all (fun x => !x.1) && (backToKw cpos (keywordEach [] X.env)).all (fun x => x.1.isSome)
    && decide (([e, f] : List Expr).length + ([] : List Keyword).length + (if ([] : List Keyword).isEmpty then 0 else 1) < 30)) = true
  line : (apos.endLine == cpos.line) = true
  trees : backTo cpos (starEach [e, f] X.env) = [(false, eval e X.env), (false, eval f X.env)]
def IsD (H : Hp) (a : Addr) : Prop := (∃ kvs, Rd H a (.dK kvs)) \/ ∃ kvs, Rd H a (.dT kvs)
theorem isD_at {X : Cx} {pins : List (Addr × Obj)} {σ : St} {H : Hp} {s : Shared} {a : Addr} (I : Inv X pins σ H s) (d : IsD H a) :
    s.TypeIs (.ref a) "dict" /\ (∀ b, Value.ref a = .ref b -> ∃ ob, s.heap.get? b = some ob /\ ob.dict = none) /\ (a == sysModules) = false := by
  rcases d with ⟨kvs, e⟩ | ⟨kvs, e⟩
  · (refine Obt.and3 (dk_rd I.hok e) fun _ hd t_0 => Obt.ex1 t_0 fun vs h_1 => Obt.and2 h_1 fun _ dd => ?_; clear h_1 t_0)
    refine ⟨dd.typeIs, fun b q => ?_, hd⟩
    cases q
    (refine Obt.ex3 dd fun ob _ _ h_0 => Obt.and3 h_0 fun h1 h2 _ => ?_; clear h_0 dd)
    exact ⟨ob, h1, h2.2.1⟩
  · (refine Obt.and3 (dt_rd I.hok e) fun _ hd t_0 => Obt.ex1 t_0 fun xs h_1 => Obt.and2 h_1 fun _ dd => ?_; clear h_1 t_0)
    refine ⟨dd.typeIs, fun b q => ?_, hd⟩
    cases q
    (refine Obt.ex3 dd fun ob _ _ h_0 => Obt.and3 h_0 fun h1 h2 _ => ?_; clear h_0 dd)
    exact ⟨ob, h1, h2.2.1⟩
section
variable {X : Cx} {pins : List (Addr × Obj)} {σ : St} {H : Hp} {s : Shared} {a : Addr} {y d : V} {u r : Value} {o : Option V} {A : Around} {E : Value -> Shared -> Prop}
theorem d_get2 {Q : Value -> Shared -> Prop} (hu : A.units + 1 < cLine) (I : Inv X pins σ H s) (g : DGet H a y o) (ry : RelV y u) (rd : RelV d r) (h : ∀ w' s', Inv X pins σ H s' -> RelV (o.getD d) w' -> Q w' s') :
    wpAny (model X.prog X.w) A (call (.builtin "dict.get") [.ref a, u, r]) Q E s := by
  rcases g with ⟨kvs, k, e, ey, l⟩ | ⟨kvs, k, b, e, ey, eb, l⟩
  · subst ey
    (refine Obt.and3 (dk_rd I.hok e) fun z hd t_0 => Obt.ex1 t_0 fun vs h_1 => Obt.and2 h_1 fun rel dd => ?_; clear h_1 t_0)
    refine call_meetsIn PySem.F.slot_dict_get dd.typeIs PySem.F.entry_dict_get (PySem.F.args_dict_get_3 _ _ _) (meets_dict_get_default (mixKind X.prog X.w) a (kV_is ry) hd r) ⟨_, dd.mapOf, h _ _ (I.tok _) ?_⟩
    rw [l]
    exact (rel.val k).getD rd
  · subst ey
    cases (show u = Value.ref b from ry)
    (refine Obt.and3 (dt_rd I.hok e) fun z hd t_0 => Obt.ex1 t_0 fun xs h_1 => Obt.and2 h_1 fun rel dd => ?_; clear h_1 t_0)
    refine call_meetsIn PySem.F.slot_dict_get dd.typeIs PySem.F.entry_dict_get (PySem.F.args_dict_get_3 _ _ _) (meetsH_dict_get_default (tupleKind (mixKind X.prog X.w)) a b hd r) ⟨tupleKind_room_in1 hu, k, xs, key_of I.hok eb, dd, h _ _ (I.tok _) ?_⟩
    rw [l]
    exact (rel.val k).getD rd
end
def tDGet2 (td ty tx : TE) : TE := fun σ H Q => td σ H fun x H1 => ∃ a, x = .ref a /\ IsD H1 a /\ ty σ H1 fun y H2 => tx σ H2 fun z H3 => ∃ o, DGet H3 a y o /\ Q (o.getD z) H3
section
variable {X : Cx} {o e f : Expr} {apos cpos : Pos} {td ty tx : TE}
theorem pe_dget2 (hu : X.A.units + 1 < cLine) (ho : PE X o td) (he : PE X e ty) (hf : PE X f tx) (m : M2 X o "get" apos e f cpos) : PE X (.Call (.Attribute o "get" apos) [e, f] [] cpos) (tDGet2 td ty tx) := by
  intro pins s σ H Q I h
  refine wpAny_Call_method m.base m.few m.line PySem.F.plainAttrs_dict PySem.F.slot_dict_get PySem.F.type_dict_get (thn (ho pins s σ H _ I h) fun u s1 ⟨x, H1, I1, rx, a, ex, d, q1⟩ => ?_)
  subst ex
  obtain rfl : u = Value.ref a := rx
  (refine Obt.and3 (isD_at I1 d) fun t1 t2 _ => ?_)
  refine ⟨t1, t2, ?_⟩
  rw [m.trees]
  refine Calls.callWith_builtin rfl (Calls.evalArgs_plain (Calls.spliced_cons (thn (he pins s1 σ H1 _ I1 q1) fun iv s2 ⟨y, H2, I2, ry, q2⟩ =>
    Calls.spliced_cons (thn (hf pins s2 σ H2 _ I2 q2) fun fv s3 ⟨z, H3, I3, rz, ov, g, q3⟩ => Calls.spliced_nil ?_))))
  exact d_get2 hu I3 g ry rz fun w' s4 I4 rw' => ⟨_, H3, I4, rw', q3⟩
end
section
variable {X : Cx} {pins : List (Addr × Obj)} {σ : St} {H : Hp} {s : Shared} {a : Addr} {kvs : List (Key × V)} {A : Around} {E : Value -> Shared -> Prop}
end
section
variable {X : Cx} {pins : List (Addr × Obj)} {σ : St} {H : Hp} {s : Shared} {a : Addr} {y : V} {u : Value} {A : Around} {E : Value -> Shared -> Prop}
end
end L2
namespace L2
open PySem PySem.Spec PyProof.Rows
section
variable {κ : Type} [DecidableEq κ]
theorem nd_snoc : ∀ {l : List κ} {k : κ}, l.Nodup -> ¬ k ∈ l -> (l ++ [k]).Nodup
  | [], k, _, _ => by simp
  | a :: r, k, h, hk => by
    (refine Obt.and2 (List.nodup_cons.mp h) fun h1 h2 => ?_)
    show (a :: (r ++ [k])).Nodup
    refine List.nodup_cons.mpr ⟨fun m => ?_, nd_snoc h2 fun m => hk (List.mem_cons.mpr (Or.inr m))⟩
    rcases List.mem_append.mp m with q | q
    · exact h1 q
    · exact hk (List.mem_cons.mpr (Or.inl (List.mem_singleton.mp q).symm))
end
end L2
set_option Elab.async false
set_option linter.all false
set_option maxRecDepth 100000
namespace PySem
open Sem (wp)
open Builtin
end PySem
namespace L2
open PySem PySem.Spec PyProof.Rows
section
variable {X : Cx}
end
inductive Pl (H : Hp) : V -> Prop where
  | non : Pl H .non
  | bl (b : Bool) : Pl H (.bl b)
  | int (i : Int) : Pl H (.int i)
  | str (x : Str) : Pl H (.str x)
  | lst {a : Addr} {xs : List V} (e : H a = some (.lst xs)) : Pl H (.ref a)
  | tup {a : Addr} {xs : List V} (e : H a = some (.tup xs)) : Pl H (.ref a)
  | dK {a : Addr} {kvs : List (Key × V)} (e : H a = some (.dK kvs)) : Pl H (.ref a)
structure PEW (X : Cx) (e : Expr) (t : TE) : Prop where
  out : PE X e t
structure PAW (X : Cx) (es : List Expr) (t : TA) : Prop where
  out : PA X es t
structure PTW (X : Cx) (e : Expr) (t : TT) : Prop where
  out : PT X e t
structure PSW (X : Cx) (s : Stmt) (t : TS) : Prop where
  out : PS X s t
structure PSsW (X : Cx) (s : List Stmt) (t : TS) : Prop where
  out : PSs X s t
section
variable {X : Cx} {a b e : Expr} {es : List Expr} {ta tb te : TE} {t : TA} {pos : Pos}
theorem wa_nil : PAW X [] tNil := ⟨pa_nil⟩
theorem wa_cons (ha : PEW X e te) (hr : PAW X es t) (hs : starEach (e :: es) X.env = (false, eval e X.env) :: starEach es X.env := by rfl) : PAW X (e :: es) (tCons te t) := ⟨pa_cons ha.out hr.out hs⟩
theorem w_lst (h : PAW X es t) : PEW X (.List es pos) (tLst t) := ⟨pe_lst h.out⟩
theorem w_ix {r : R2} (hr : IxR X r) (ha : PEW X a ta) (hb : PEW X b tb) (hs : PlainIx b) : PEW X (.Subscript a b pos) (tOp r ta tb) := ⟨pe_ix hr ha.out hb.out hs⟩
variable {st : Stmt} {rest : List Stmt} {ts us : TS}
theorem ws_nil : PSsW X [] tNext := ⟨pss_nil⟩
theorem ws_cons (h1 : PSW X st ts) (h2 : PSsW X rest us) : PSsW X (st :: rest) (tSeq ts us) := ⟨pss_cons h1.out h2.out⟩
theorem ws_one (h1 : PSW X st ts) : PSsW X [st] ts := ⟨pss_one h1.out⟩
theorem w_ret (he : PEW X e te) : PSW X (.Return (some e) pos) (tRet te) := ⟨ps_ret he.out⟩
theorem w_set {i : Nat} {x : Str} {pos' : Pos} (hN : X.N.Nodup) (hi : X.N[i]? = some x) (hx : Loc X.env.scope x) (he : PEW X e te) (hs : swapsWith e (some (.Name x pos')) pos.line X.env = pure false := by rfl) (hf : X.fn x = true \/ X.env.scope.names.lookup x = some .local := by first | exact .inl rfl | exact .inr rfl | assumption) :
    PSW X (.Assign [.Name x pos'] e pos) (tAsg te (gName i)) := ⟨ps_set hN hi hx he.out hs hf⟩
theorem w_if {c : Expr} {a b : List Stmt} {tc : TT} {u : TS} (hc : PTW X c tc) (ha : PSsW X a ts) (hb : PSsW X b u) : PSW X (.If c a b pos) (tIfS tc ts u) := ⟨ps_if hc.out ha.out hb.out⟩
theorem w_for {tg iter : Expr} {body : List Stmt} {wi : TI} {g : TG} {tb : TS} (hp : PassesOwn (model X.prog X.w) X.A X.env X.xe) (hc : X.calm = true) (hi : PI X tg iter wi) (hg : PG X tg g) (hb : PSsW X body tb)
    (hs : ∀ x, foldedSetIterable iter X.env x = pure x := by intro _; rfl) : PSW X (.For tg iter body [] pos) (tFor wi g tb) := ⟨ps_for hp hc hi hg hb.out hs⟩
theorem body_w {b : List Stmt} {R : TS -> Prop} (h : PSsW X b ts) (r : R ts) : ∃ t, PSs X b t /\ R t := ⟨ts, h.out, r⟩
end
end L2
set_option Elab.async false
set_option linter.all false
set_option maxRecDepth 100000
namespace L2
open PySem PySem.Spec PyProof.Rows
def CX1 (P : Program) (w : World) : CXT := fun outer H s E e s' => ∃ (ea t C : Addr) (B : Heap) (H' : Hp), e = .ref ea /\ s'.os = s.os /\ AllBare s'.gens /\ Un (frs outer) [] H H' s.heap s'.heap /\ HOk P w H' B /\
  Heap.FlyingW B outer ea (.ref C) (.ref t) s'.heap /\ (∀ b o, s.heap.get? b = some o -> b ∉ frs outer -> ∃ o', B.get? b = some o') /\ H' ea = none /\ E (.ref C) none H'
section
variable {P : Program} {w : World} {K : PySem.W.Frag} {mg : Str -> Option Value} {base : Heap} {N : List Str} {qual : Str} {scope : Scope} {f : Addr} {cd : Value} {A : Around} {outer : List Env} {s : Shared} {H : Hp} {E : XK}
end
end L2
set_option Elab.async false
set_option linter.all false
set_option maxRecDepth 100000
namespace L2
open PySem PySem.Spec PyProof.Rows
section
variable {X : Cx} {x : Str} {j k : Nat} {ps : List Str} {dvs : List V} {sp : Sp} {p pos cpos : Pos} {e : Expr} {es : List Expr} {t : TA} {C : Addr} {E : XK}
end
structure DefX (P : Program) (w : World) (K : PySem.W.Frag) (mg : Str -> Option Value) (base : Heap) (x : Str) (k : Nat) (ps : List Str) (dvs : List V) (sp : Sp) : Prop where
  ex : ∃ (f : Addr) (fd : FuncData) (ds : List Value), mg x = some (.ref f) /\ PySem.W.keepIn K (.ref f) = true /\ Vals dvs ds /\ Binds K fd ps ds /\ FnOk P w K mg base (CX1 P w) k f fd ps sp
section
variable {X : Cx} {x : Str} {j k : Nat} {ps : List Str} {dvs : List V} {sp : Sp} {p pos : Pos} {e : Expr} {es : List Expr} {t : TA} {E : XK}
end
section
variable {P : Program} {w : World} {K : PySem.W.Frag} {mg : Str -> Option Value} {base : Heap}
end
section
variable {X : Cx} {e v1 v2 : Expr} {es rest : List Expr} {pos : Pos} {te : TE} {n : Nat}
end
end L2
set_option Elab.async false
set_option linter.all false
set_option maxRecDepth 100000
namespace L2
open PySem PySem.Spec PySem.W PySem.Builtin PySem.Builtin.Getset_descriptor
structure XCls (K : PySem.W.Frag) (C : Addr) : Prop where
  ga : findIn K (.ref C) "__getattribute__" = some (some (.builtin "BaseException.__getattribute__"))
  gt : findIn K (.ref C) "__getattr__" = some none
  cl : findIn K (.ref C) "__class__" = some (some (.builtin "object.__class__"))
  gg : specialIn K (.builtin "object.__class__") "__get__" = some (some (.builtin "getset_descriptor.__get__"))
  tk : takesIn K (.builtin "object.__class__") = some true
  ob : mroIn K C (.type "object") = some true
  be : mroIn K C (.type "BaseException") = some true
  ci : (clsIn K C).isSome = true
section
variable {prog : Program} {w : World} {A : Around} {E : Value -> Shared -> Prop} {s : Shared} {K : PySem.W.Frag} {ea C : Addr} {ob : Obj}
end
end L2
set_option Elab.async false
set_option linter.all false
set_option maxRecDepth 100000
namespace L2
open PySem PySem.Spec PyProof.Rows
section
variable {X : Cx} {pins : List (Addr × Obj)} {σ : St} {H : Hp} {s : Shared} {E : XK} {ea : Addr}
abbrev TX := Ends -> XK -> St -> Hp -> Prop
end
section
variable {X : Cx} {x : Str} {j k : Nat} {ps : List Str} {dvs : List V} {sp : Sp} {p pos : Pos} {e : Expr} {es : List Expr} {t : TA} {E : XK}
end
section
variable {P : Program} {w : World} {fs : List Addr} {H H1 : Hp} {h h1 : Heap} {ea C : Addr} {o : HO}
end
section
variable {X : Cx} {pins : List (Addr × Obj)} {σ : St} {H : Hp} {s : Shared} {E : XK}
end
section
variable {X : Cx} {pins : List (Addr × Obj)} {σ : St} {H : Hp} {s s' : Shared} {E : XK} {C F : Addr} {i : Nat} {x n : Str} {np pos hpos : Pos} {body : List Stmt} {b₀ : Stmt} {suite : List Stmt} {tb : TX} {ts : TS}
end
end L2
set_option Elab.async false
set_option linter.all false
set_option maxRecDepth 100000
namespace L2
open PySem PySem.Spec PyProof.Rows
structure RoomH (k : Nat) (A : Around) : Prop where
  dp : A.depth + 3 * k + 5 < recursionLimit
  un : A.units + 16 * k + 200 < cLine
structure FnOkH (P : Program) (w : World) (K : PySem.W.Frag) (mg : Str -> Option Value) (base : Heap) (CX : CXT) (k : Nat) (f : Addr) (fd : FuncData) (ps : List Str) (sp : Sp) : Prop where
  len : ∀ vs H Q E, sp vs H Q E -> vs.length = ps.length
  run : ∀ (A : Around) (outer : List Env) (s : Shared) (H : Hp) (args : Args) (us : List Value) (vs : List V) (Q : VK) (E : XK), RoomH k A -> Env0 P w K mg base A outer s H -> BindsTo s fd args (ps.zip us) -> Vals vs us -> sp vs H Q E ->
    codeAny (model P w) A (.call (.ref f) args) (CR CX outer P w H s Q E) s
structure DefH (P : Program) (w : World) (K : PySem.W.Frag) (mg : Str -> Option Value) (base : Heap) (x : Str) (k : Nat) (ps : List Str) (dvs : List V) (sp : Sp) : Prop where
  ex : ∃ (f : Addr) (fd : FuncData) (ds : List Value), mg x = some (.ref f) /\ PySem.W.keepIn K (.ref f) = true /\ Vals dvs ds /\ Binds K fd ps ds /\ FnOkH P w K mg base CX0 k f fd ps sp
section
variable {P : Program} {w : World} {K : PySem.W.Frag} {mg : Str -> Option Value} {base : Heap}
end
section
variable {X : Cx} {x : Str} {j k : Nat} {ps : List Str} {dvs : List V} {sp : Sp} {p pos : Pos} {e : Expr} {es : List Expr} {t : TA}
end
section
variable {X : Cx}
end
end L2
set_option Elab.async false
set_option linter.all false
set_option maxRecDepth 100000
namespace L2
open PySem PySem.Spec PyProof.Rows
section
variable {X : Cx}
def clsV : V -> Option Value
  | .ref a => some (.ref a)
  | .ty n => some (.type n)
  | _ => none
theorem clsV_rel {c : V} {cv u : Value} (e : clsV c = some cv) (r : RelV c u) : u = cv := by
  cases c <;> first | cases e
  · exact r
  · exact r
end
end L2
set_option Elab.async false
set_option linter.all false
set_option maxRecDepth 100000
namespace L2
open PySem PySem.Spec PyProof.Rows
section
variable {prog : Program} {w : World} {A : Around} {E : Value -> Shared -> Prop} {s : Shared} {it l S : Addr} {items : Array Value}
end
section
variable {X : Cx} {a : Expr} {ta : TA} {p p2 pos pos2 : Pos}
end
end L2
set_option Elab.async false
set_option linter.all false
set_option maxRecDepth 100000
namespace L2
open PySem PySem.Spec PyProof.Rows
section
variable {X : Cx}
end
end L2
set_option Elab.async false
set_option linter.all false
set_option maxRecDepth 100000
namespace L2
open PySem PySem.Spec PyProof.Rows
theorem compLoop_byI {prog : Program} {w : World} {A : Around} {R : Result -> Shared -> Prop} {s : Shared} {elt target iter cond : Expr} {scope : Scope} {pos : Pos} {it acc : Value} {env : Env} (I : Nat -> Shared -> Prop)
    (turn : ∀ n s, I n s -> wpAny (model prog w) A (pyNext it) (fun r s₁ => match r with
      | none => R (.ok .next) s₁
      | some v => wpAny (model prog w) A (letOwnedTupleGo target it v) (fun _ s₁' => wpAny (model prog w) A (assign target env v) (fun _ s₂ => wpAny (model prog w) A (isTrue cond env (eval cond env)) (fun ok s₂' =>
          if ok = true then wpAny (model prog w) A (eval elt env) (fun x s₃ =>
          wpAny (model prog w) A (call (.builtin "list.append") [acc, x]) (fun _ s₄ => ∃ m, m < n /\ I m s₄) (fun _ _ => False) s₃)
          (fun _ _ => False) s₂' else ∃ m, m < n /\ I m s₂') (fun _ _ => False) s₂) (fun _ _ => False) s₁') (fun _ _ => False) s₁) (fun _ _ => False) s)
    (n : Nat) (h : I n s) :
    codeAny (model prog w) A (.compLoop (.ListComp elt [⟨target, iter, [cond], 0⟩] scope pos) 0 it acc env) R s := by
  refine codeAny_loop rfl I (fun n s hI => ?_) n h
  show wpAny _ _ ((compTurn (.ListComp elt [⟨target, iter, [cond], 0⟩] scope pos) 0 it acc env).onRaise (fun x => do noteFrame x env; theTreesLotGoes x)) _ _ s
  refine wpAny_noted ?_
  rw [compTurn_list]
  refine wpAny_bind (wpAny_standAt (wpAny_bind (wpAny_mono (turn n s hI) (fun r s₁ h₁ => ?_) fun _ _ h' => h'.elim)))
  cases r with
  | none => exact wpAny_pure h₁
  | some v =>
    refine wpAny_bind (wpAny_mono h₁ (fun _ s₁' h₁' => ?_) fun _ _ h' => h'.elim)
    refine wpAny_bind (wpAny_mono h₁' (fun _ s₂ h₂ => wpAny_bind (wpAny_mono (wpAny_tests_one h₂) (fun ok s₃ h₃ => ?_) fun _ _ h' => h'.elim)) fun _ _ h' => h'.elim)
    cases ok with
    | false => exact wpAny_pure ⟨rfl, h₃⟩
    | true => exact wpAny_bind (wpAny_bind (wpAny_mono h₃ (fun x s₄ h₄ => wpAny_bind (wpAny_mono h₄ (fun _ s₅ h₅ => wpAny_pure (wpAny_pure ⟨rfl, h₅⟩)) fun _ _ h' => h'.elim)) fun _ _ h' => h'.elim))
def CompWI (J : It) (ix : List (Option Nat)) (g : TG) (tc : TT) (te : TE) (σ : St) (H : Hp) (Qd : Addr -> Hp -> Prop) : Prop :=
  ∀ D, H D = none -> ∃ W : Nat -> Nat -> St -> Hp -> Prop, (∃ m, W 0 m (blockSt ix σ) (upd H D (.lst []))) /\ ∀ i m σ' H', W i m σ' H' ->
    (J.stop i H' /\ Qd D H') \/ (J.go i H' /\ ∀ x H2, J.yld i H' x H2 -> g x σ' H2 fun σ3 H3 => tc σ3 H3 fun b H4 => if b = true then te σ3 H4 fun y H5 => ∃ ys, H5 D = some (.lst ys) /\ ys.length < sizeLine /\ ∃ m', m' < m /\ W (i + 1) m' σ3 (upd H5 D (.lst (ys ++ [y]))) else ∃ m', m' < m /\ W (i + 1) m' σ3 H4)
section
variable {X : Cx} {pins : List (Addr × Obj)} {σ : St} {H : Hp} {s : Shared} {N : List Str} {ix : List (Option Nat)} {scope : Scope} {fp : List Addr} {tg elt iter cond : Expr} {tc : TT} {pos spos : Pos} {J : It} {it : Addr} {tn : Nat -> Heap -> Prop} {g : TG} {te : TE} {wi : TI}
theorem comp_runI {Qd : Addr -> Hp -> Prop} {RR : Value -> Addr -> Result -> Shared -> Prop} {E : Value -> Shared -> Prop} (I : Inv X pins σ H s) (hc : X.calm = true) (S : BlkScope X.N X.env.scope N ix scope) (T : Turn X.prog X.w X.K tg J fp it tn) (st : tn 0 s.heap) (f2 : ∀ b ∈ fp, FpOk X pins H b)
    (hg : ∀ C, PG (cxComp X N scope fp s H C) tg g) (ht : ∀ C, PT (cxComp X N scope fp s H C) cond tc) (he : ∀ C, PE (cxComp X N scope fp s H C) elt te) (hW : CompWI J ix g tc te σ H Qd)
    (hR : ∀ D C s' H' m, Inv X pins σ H' s' -> s'.heap.Ns C m -> FpOk X pins H' C -> Qd D H' -> RR (.ref D) C (.ok .next) s') :
    wpAny (model X.prog X.w) X.A (newList []) (fun acc s₃ => wpAny (model X.prog X.w) X.A (newFunctionEnv scope X.env.globals (closList X.env.cells scope.names []) [] X.env.qual none .none (some X.env)) (fun cenv s₄ =>
      codeAny (model X.prog X.w) X.A (.compStart (.ListComp elt [⟨tg, iter, [cond], 0⟩] scope pos) 0 (.ref it) acc { cenv with scope := relabel scope X.env }) (RR acc cenv.locals) s₄) E s₃) E s := by
  refine wpAny_newObj_type (wpAny_newFunctionEnv S.nocell (by intro y hy; simp at hy) (fun h₁ hns₁ hsb₁ => ?_) S.kind)
  dsimp only at hns₁ hsb₁ ⊢
  generalize hH2 : s.heap.push { cls := .type "list", dict := none, data := .seq ([] : List Value).toArray } = H2 at hns₁ hsb₁ ⊢
  have hC : H2.objs.size = s.heap.objs.size + 1 := by rw [<- hH2, Heap.size_push]
  have hDC : s.heap.objs.size ≠ H2.objs.size := by rw [hC]; exact Nat.ne_of_lt (Nat.lt_succ_self _)
  have hCle : s.heap.objs.size <= H2.objs.size := by rw [hC]; exact Nat.le_succ _
  have below : ∀ b, b < s.heap.objs.size -> b ≠ H2.objs.size := fun b hb => by rw [hC]; exact Nat.ne_of_lt (Nat.lt_succ_of_lt hb)
  have old : ∀ b o, s.heap.get? b = some o -> h₁.get? b = some o := fun b o e => hsb₁.extBut b o (below b (Heap.lt_size e)) (Heap.get?_push_of_some _ (hH2 ▸ Heap.get?_push_of_some _ e))
  have hacc : ∃ n, h₁.get? s.heap.objs.size = some { cls := .type "list", data := .seq ([] : List Value).toArray n } := ⟨_, hsb₁.extBut _ _ hDC (Heap.get?_push_of_some _ (hH2 ▸ Heap.get?_push_size _ rfl))⟩
  have st1 : tn 0 h₁ := T.keep _ _ _ st fun b _ o e => old b o e
  have fo : ∀ b ∈ fp, ∃ o, s.heap.get? b = some o /\ ∀ v, o.data ≠ .cell v := T.obj _ _ st
  have I0 : Inv (cxComp X N scope fp s H H2.objs.size) pins (blockSt ix σ) (upd H s.heap.objs.size (.lst [])) { s with heap := h₁, toks := s.toks + ([] : List (Str × Value)).length } :=
    inv_block I S f2 fo (Nat.le_refl _) hCle hDC old hns₁ hacc
  have freshD : H s.heap.objs.size = none := I.hok.fresh (Nat.le_refl _)
  (refine Obt.ex1 (hW s.heap.objs.size freshD) fun W h_0 => Obt.and2 h_0 fun t_1 turn => Obt.ex1 t_1 fun m0 w0 => ?_; clear t_1 h_0)
  have cl_ne : ∀ b ∈ fp, b ≠ H2.objs.size := fun b hb => by
    (refine Obt.ex1 (fo b hb) fun o h_0 => Obt.and2 h_0 fun e _ => ?_; clear h_0)
    exact below b (Heap.lt_size e)
  have stat : ∀ {H' : Hp}, (∀ b ∈ fp, H' b = none) -> ∀ b ∈ fp, FpOk (cxComp X N scope fp s H H2.objs.size) pins H' b := fun hn b hb => by
    (refine Obt.and6 (f2 b hb) fun f0 f1 f3 f4 f5 f6 => ?_)
    exact ⟨hn b hb, cl_ne b hb, I0.ok.exfs b hb, .inl hb, (I0.ok.exf b hb).2, f6⟩
  have fr0 : ∀ b ∈ fp, (upd H s.heap.objs.size (.lst [])) b = none := fun b hb => by
    (refine Obt.ex1 (fo b hb) fun o h_0 => Obt.and2 h_0 fun e _ => ?_; clear h_0)
    rw [upd_ne (Nat.ne_of_lt (Heap.lt_size e))]
    exact (f2 b hb).1
  have loop : codeAny (model X.prog X.w) X.A (.compLoop (.ListComp elt [⟨tg, iter, [cond], 0⟩] scope pos) 0 (.ref it) (.ref s.heap.objs.size) (compEnvC scope (closList X.env.cells scope.names []) H2.objs.size X.env))
      (RR (.ref s.heap.objs.size) H2.objs.size) { s with heap := h₁, toks := s.toks + ([] : List (Str × Value)).length } := by
    refine compLoop_byI (fun n s' => ∃ i σ' H', Inv (cxComp X N scope fp s H H2.objs.size) pins σ' H' s' /\ tn i s'.heap /\ (∀ b ∈ fp, H' b = none) /\ W i n σ' H') ?_ m0 ⟨0, _, _, I0, st1, fr0, w0⟩
    (refine fun n s3 i_0 => Obt.ex3 i_0 fun i σ3 H3 h_1 => Obt.and4 h_1 fun I3 st3 fr3 w3 => ?_; clear h_1 i_0)
    rcases turn i n σ3 H3 w3 with ⟨stop, qn⟩ | ⟨go, step⟩
    · refine thn (T.done (cxComp X N scope fp s H H2.objs.size) rfl rfl rfl hc i pins s3 σ3 H3 _ I3 (stat fr3) st3 stop) fun r s4 ⟨hr, I4⟩ => ?_
      subst hr
      (refine Obt.ex1 (id I4.loc) fun m4 h_0 => Obt.and2 h_0 fun hn4 _ => ?_; clear h_0)
      refine hR _ _ s4 H3 m4 ?_ hn4 (I.fpOk hCle I4.free) qn
      exact I.call' (ch := fp) I4.os I4.base I4.hok I4.bare fun b hb => by
        (refine Obt.and6 (f2 b hb) fun f0 f1 f3 f4 f5 f6 => ?_)
        exact ⟨f4, f1, f5, f6⟩
    · refine thn (T.item (cxComp X N scope fp s H H2.objs.size) rfl rfl rfl hc i pins s3 σ3 H3 _ I3 (stat fr3) st3 go) fun r s4 ⟨u, hr, h4⟩ => ?_
      subst hr
      refine thn h4 fun _ s5 ⟨x, H5, I5, r5, y5, st5, fr5⟩ => ?_
      have I5' := I5.pinned (stat fr5) (T.obj _ _ st5)
      refine thn (hg _ _ s5 σ3 H5 x u _ I5' r5 (step x H5 y5)) fun _ s6 ⟨σ6, H6, I6, q6⟩ => ?_
      refine thn (ht _ _ s6 σ6 H6 _ I6 q6) fun ok s6' ⟨H6', I6', q6'⟩ => ?_
      cases ok with
      | false =>
        (refine Obt.ex1 q6' fun m' h_0 => Obt.and2 h_0 fun hm w7 => ?_; clear h_0 q6')
        refine ⟨m', hm, i + 1, σ6, H6', I6'.unpinned, T.keep _ _ _ st5 fun b hb o e => (I6'.pin (b, o) (List.mem_append_right _ (List.mem_append_right _ (mem_pinsAt hb e)))).1, fun b hb => ?_, w7⟩
        (refine Obt.ex1 (T.obj _ _ st5 b hb) fun o h_0 => Obt.and2 h_0 fun e d => ?_; clear h_0)
        exact (I6'.pin (b, o) (List.mem_append_right _ (List.mem_append_right _ (mem_pinsAt hb e)))).2.1
      | true =>
        refine thn (he _ _ s6' σ6 H6' _ I6' q6') fun yv s7 ⟨y, H7, I7, r7, ys, hD7, hz7, m', hm, w7⟩ => ?_
        refine thn (mt_append (X := cxComp X N scope fp s H H2.objs.size) _ s7 σ6 H7 (.ref s.heap.objs.size) [y] (.ref s.heap.objs.size) [yv] (fun _ H8 => W (i + 1) m' σ6 H8) I7 rfl (.cons r7 .nil) ⟨_, ys, y, rfl, rfl, hD7, hz7, w7⟩) fun _ s8 ⟨_, H8, I8, _, w8⟩ => ?_
        refine ⟨m', hm, i + 1, σ6, H8, I8.unpinned, T.keep _ _ _ st5 fun b hb o e => (I8.pin (b, o) (List.mem_append_right _ (List.mem_append_right _ (mem_pinsAt hb e)))).1, fun b hb => ?_, w8⟩
        (refine Obt.ex1 (T.obj _ _ st5 b hb) fun o h_0 => Obt.and2 h_0 fun e d => ?_; clear h_0)
        exact (I8.pin (b, o) (List.mem_append_right _ (List.mem_append_right _ (mem_pinsAt hb e)))).2.1
  exact codeAny_compStart_list loop (T.self _ _ _ _ _ st1 loop)
def tCompI (ix : List (Option Nat)) (wi : TI) (g : TG) (tc : TT) (te : TE) : TE := fun σ H Q => wi σ H fun J H1 => CompWI J ix g tc te σ H1 fun D H' => Q (.ref D) H'
theorem pe_compI (hc : X.calm = true) (S : BlkScope X.N X.env.scope N ix scope) (hi : PI X tg iter wi) (hg : ∀ fp s H C, PG (cxComp X N scope fp s H C) tg g) (ht : ∀ fp s H C, PT (cxComp X N scope fp s H C) cond tc) (he : ∀ fp s H C, PE (cxComp X N scope fp s H C) elt te)
    (hs : ∀ x, foldedSetIterable iter X.env x = pure x := by intro _; rfl) : PE X (.ListComp elt [⟨tg, iter, [cond], 0⟩] scope pos) (tCompI ix wi g tc te) := by
  intro pins s σ H Q I h
  rw [eval_ListComp]
  refine wpAny_comprehension_free (use := none) rfl hs (closureFor_eq (S.clos I.ok)) S.kind S.locs (thn (hi pins s σ H _ I h) fun v s1 h1 => thn h1 fun itv s2 h2 => ?_)
  (refine Obt.ex5 h2 fun it fp tn J H2 h_0 => Obt.and6 h_0 fun e I2 T st2 f2 hW => ?_; clear h_0 h2)
  subst e
  refine comp_runI (RR := fun acc C => compPost (model X.prog X.w) X.A X.xe none (EP X pins σ Q) acc C) I2 hc S T st2 f2 (hg _ _ _) (ht _ _ _) (he _ _ _) hW ?_
  intro D C s' H' m I' hn fC q
  exact ⟨m, hn, fun h' sb => ⟨.ref D, H', I'.turned (t' := s'.toks) (fun b o hb e => (sb.2 b hb).trans e) fC.1 fC.2.1 fC.2.2.2.1 fC.2.2.2.2.1 fC.2.2.2.2.2, rfl, q⟩⟩
end
end L2
set_option Elab.async false
set_option linter.all false
set_option maxRecDepth 100000
set_option maxHeartbeats 4000000
namespace L2
open PySem PySem.Spec PyProof.Rows
open AutoSeq1 (wpAny_loadPart')
section
variable {prog : Program} {w : World} {A : Around} {E : Value -> Shared -> Prop} {s : Shared}
theorem nextOf_tuple_item {it t : Addr} {i : Nat} {items : Array Value} {x : Value} {Q : Value -> Shared -> Prop} (hit : s.heap.IsTupleIter it t i) (ht : s.heap.IsTuple t items) (hx : items[i]? = some x)
    (hQ : ∀ h', h'.IsTupleIter it t (i + 1) -> Heap.SameBut it s.heap h' -> Q x { s with heap := h' }) : wpAny (model prog w) A (Builtin.SmallTypes.nextOf (.ref it)) Q E s := by
  (refine Obt.ex1 (id hit) fun o h_0 => Obt.and3 h_0 fun ho hc hd => ?_; clear h_0)
  (refine Obt.ex1 ht fun ol h_0 => Obt.and3 h_0 fun hol _ t_1 => Obt.ex1 t_1 fun nl hdl => ?_; clear t_1 h_0 ht)
  unfold Builtin.SmallTypes.nextOf
  refine wpAny_bind (wpAny_callSpecial?_slot (name := Str.ofString "__next__") hit.typeIs F.slot_tuple_iterator_next
    (wpAny_call_entry F.slot_tuple_iterator_next hit.typeIs F.entry_tuple_iterator_next ?_ (F.args_tuple_iterator_next_1 _)))
  show wpAny _ _ (field (.ref it) 0 >>= _) _ _ s
  refine wpAny_bind (wpAny_field ho hd (x := .ref t) rfl ?_)
  show wpAny _ _ (if (Value.ref t == Value.none) = true then _ else _) _ _ s
  rw [if_neg (show ¬ ((Value.ref t == Value.none) = true) from Bool.false_ne_true)]
  show wpAny _ _ (field (.ref it) 1 >>= _) _ _ s
  refine wpAny_bind (wpAny_field ho hd (x := .int i 0) rfl ?_)
  show wpAny _ _ (seqItems? (.ref t) >>= _) _ _ s
  refine wpAny_bind (wpAny_seqItems hol hdl ?_)
  simp only [Int.toNat_natCast, hx]
  refine wpAny_bind (wpAny_setField ho hd (by simp) (wpAny_pure ⟨x, rfl, wpAny_pure (hQ _ ?_ (Heap.SameBut.update ..))⟩))
  exact ⟨_, Heap.get?_update_self _ ho (Obj.isFreed_of_fields (Obj.data_mapFields hd _)), (Obj.cls_mapFields ..).trans hc, by
    rw [Obj.data_mapFields hd]; simp [rawInt]⟩
theorem nextOf_tuple_end {it t : Addr} {i : Nat} {items : Array Value} {Q : Value -> Shared -> Prop} (hh : A.handled = none) (hit : s.heap.IsTupleIter it t i) (ht : s.heap.IsTuple t items) (hx : items[i]? = none)
    (hE : ∀ h' e, Heap.ExtBut it s.heap h' -> (∃ o, h'.get? e = some o /\ o.cls = .type "StopIteration") -> E (.ref e) { s with heap := h' }) : wpAny (model prog w) A (Builtin.SmallTypes.nextOf (.ref it)) Q E s := by
  (refine Obt.ex1 (id hit) fun o h_0 => Obt.and3 h_0 fun ho hc hd => ?_; clear h_0)
  (refine Obt.ex1 ht fun ol h_0 => Obt.and3 h_0 fun hol _ t_1 => Obt.ex1 t_1 fun nl hdl => ?_; clear t_1 h_0 ht)
  unfold Builtin.SmallTypes.nextOf
  refine wpAny_bind (wpAny_callSpecial?_slot (name := Str.ofString "__next__") hit.typeIs F.slot_tuple_iterator_next
    (wpAny_call_entry F.slot_tuple_iterator_next hit.typeIs F.entry_tuple_iterator_next ?_ (F.args_tuple_iterator_next_1 _)))
  show wpAny _ _ (field (.ref it) 0 >>= _) _ _ s
  refine wpAny_bind (wpAny_field ho hd (x := .ref t) rfl ?_)
  show wpAny _ _ (if (Value.ref t == Value.none) = true then _ else _) _ _ s
  rw [if_neg (show ¬ ((Value.ref t == Value.none) = true) from Bool.false_ne_true)]
  show wpAny _ _ (field (.ref it) 1 >>= _) _ _ s
  refine wpAny_bind (wpAny_field ho hd (x := .int i 0) rfl ?_)
  show wpAny _ _ (seqItems? (.ref t) >>= _) _ _ s
  refine wpAny_bind (wpAny_seqItems hol hdl ?_)
  simp only [Int.toNat_natCast, hx]
  refine wpAny_bind (wpAny_rule (wpAny_bind (wpAny_setField ho hd (by simp) ?_)))
  show wpAny _ _ (newExc (.type "StopIteration") [] >>= _) _ _ _
  refine wpAny_bind ?_
  simp only [newExc, newTuple]
  refine wpAny_bind (wpAny_newObj_type ?_ (by size_fits))
  refine wpAny_bind (m := firstArgMember _ _) (wpAny_of_eq (a := Value.none) (by first | rfl | (simp only [firstArgMember]; rfl)) ?_)
  refine wpAny_newObj_type ?_ (by size_fits)
  simp only [raiseNew]
  refine wpAny_bind (wpAny_handled ?_)
  first | rw [show A.in1.handled = none from hh] | rw [hh]
  refine wpAny_bind (wpAny_pure (wpAny_throw ?_))
  exact hE _ _ (((Heap.SameBut.update ..).extBut.push _).push _) ⟨_, Heap.get?_push_size _ rfl, rfl⟩
end
theorem drawsTuple {prog : Program} {w : World} {A : Around} (hh : A.handled = none) (it t : Addr) (hne : t ≠ it) (items : Array Value) :
    Draws prog w A it [it, t] items.size (fun i v => items[i]? = some v) (fun i h => h.IsTupleIter it t i /\ h.IsTuple t items) where
  live := fun _ _ st => let ⟨o, ho, _⟩ := st.1; ⟨o, ho⟩
  frame := fun _ _ _ st hk => ⟨st.1.at fun o e => hk it (by simp) o e, st.2.at fun o e => hk t (by simp) o e⟩
  item := fun i s Q E hi st hQ => by
    refine nextOf_tuple_item st.1 st.2 (x := items[i]) (by simp [hi]) fun h' hit' hs' => ?_
    exact hQ _ h' s.toks (by simp [hi]) ⟨hit', st.2.at fun o e => (hs'.2 t hne).trans e⟩ hs'
  done := fun s Q E st hE => nextOf_tuple_end hh st.1 st.2 (by simp) hE
theorem meets_enumerate_newT (l : Addr) (items : Array Value) (n : Nat) (dct : Option Addr) (sl : Array (Option Value)) :
    Meets (Builtin.«enumerate.__new__» ⟨[.type "enumerate", .ref l], []⟩) (fun _ R s => s.heap.get? l = some { cls := .type "tuple", dict := dct, data := .seq items n, slots := sl } /\
      R (.ok (.ret (.ref (s.heap.push { cls := .type "tuple_iterator", data := .fields #[.ref l, .int 0 0] }).objs.size)))
        { s with heap := (s.heap.push { cls := .type "tuple_iterator", data := .fields #[.ref l, .int 0 0] }).push { cls := .type "enumerate", data := .fields #[.none, .bool false, .ref s.heap.objs.size, rawInt 0, .none, .none] } }) :=
  .of_wp fun prog w A R s h => by
    obtain ⟨hp, g, d, tk, os⟩ := s; (refine Obt.and2 h fun hl h => ?_)
    have hsub := sub_enumerate
    have hL : Heap.IsTuple (Shared.heap ⟨hp, g, d, tk, os⟩) l items := ⟨_, hl, rfl, n, rfl⟩
    wp_walk using wpAny_loadPart' hl
    refine wpAny_stack_any fun st => wpAny_pure ?_
    split
    · rename_i c _ _ _ _ _
      cases (c == Value.type "enumerate")
      · wp_walk using wpAny_loadPart' hl, wpAny_pyIter_tuple hL
        exact ⟨_, rfl, h⟩
      · wp_walk using wpAny_loadPart' hl, wpAny_pyIter_tuple hL
        exact ⟨_, rfl, h⟩
    · wp_walk using wpAny_loadPart' hl, wpAny_pyIter_tuple hL
      exact ⟨_, rfl, h⟩
theorem call_enumerate_tuple {prog : Program} {w : World} {A : Around} {E : Value -> Shared -> Prop} {s : Shared} {l : Addr} {items : Array Value} {Q : Value -> Shared -> Prop} (hL : s.heap.IsTuple l items)
    (h : ∀ h', IsEnum h' (s.heap.objs.size + 1) s.heap.objs.size 0 .none -> h'.IsTupleIter s.heap.objs.size l 0 -> h'.objs.size = s.heap.objs.size + 2 ->
      (∀ b o, s.heap.get? b = some o -> h'.get? b = some o) -> Q (.ref (s.heap.objs.size + 1)) { s with heap := h' }) :
    wpAny (model prog w) A (call (.type "enumerate") [.ref l]) Q E s := by
  obtain ⟨⟨c, dct, dt, sl⟩, hl, hc, n, hd⟩ := hL
  replace hc : c = .type "tuple" := hc
  replace hd : dt = .seq items n := hd
  subst hc hd
  refine callType_new F.called_enumerate (by decide) (F.typeCall_enumerate_1 _) (F.newCall_enumerate_1 _) (fun obj => F.args_object_init_2 obj _) F.entry_enumerate_new
    (meets_enumerate_newT l items n dct sl) ⟨hl, ?_⟩
  have hz : (s.heap.push { cls := .type "tuple_iterator", data := .fields #[.ref l, .int 0 0] }).objs.size = s.heap.objs.size + 1 := Heap.size_push ..
  show _ /\ _
  rw [hz]
  have he : IsEnum ((s.heap.push { cls := .type "tuple_iterator", data := .fields #[.ref l, .int 0 0] }).push
      { cls := .type "enumerate", data := .fields #[.none, .bool false, .ref s.heap.objs.size, rawInt 0, .none, .none] }) (s.heap.objs.size + 1) s.heap.objs.size 0 .none := by
    have := Heap.get?_push_size (s.heap.push { cls := .type "tuple_iterator", data := .fields #[.ref l, .int 0 0] })
      (o := { cls := .type "enumerate", data := .fields #[.none, .bool false, .ref s.heap.objs.size, rawInt 0, .none, .none] }) rfl
    rw [hz] at this; exact this
  refine ⟨⟨_, he, rfl⟩, h _ he ⟨_, Heap.get?_push_of_some _ (Heap.get?_push_size _ rfl), rfl, rfl⟩ (by rw [Heap.size_push, hz]) fun b o x => Heap.get?_push_of_some _ (Heap.get?_push_of_some _ x)⟩
end L2
set_option Elab.async false
set_option linter.all false
set_option maxRecDepth 100000
set_option maxHeartbeats 4000000
namespace L2
open PySem PySem.Spec PyProof.Rows
section
variable {X : Cx} {pins : List (Addr × Obj)} {σ : St} {H : Hp} {s : Shared} {h' : Heap}
theorem Inv.turned2 {t' : Nat} {e it : Addr} (I : Inv X pins σ H s) (k : ∀ b o, b ≠ e -> b ≠ it -> s.heap.get? b = some o -> h'.get? b = some o) (fe : FpOk X pins H e) (fi : FpOk X pins H it) : Inv X pins σ H { s with heap := h', toks := t' } := by
  have nn : ∀ b u, H b = some u -> b ≠ e /\ b ≠ it := fun b u q => ⟨fun z => (by rw [z, fe.1] at q; cases q), fun z => (by rw [z, fi.1] at q; cases q)⟩
  have kk : ∀ b o, b ∉ [e, it] -> s.heap.get? b = some o -> h'.get? b = some o := fun b o hc q => k b o (fun z => hc (by simp [z])) (fun z => hc (by simp [z])) q
  refine I.step (g' := s.gens) (d' := s.drawn) (ch := [e, it]) (fun b hb => ?_) (fun b o _ _ hc q _ => kk b o hc q) (fun b o _ _ hc q _ => ⟨o.slots, kk b o hc q⟩) (fun _ _ _ _ n => n)
    (fun b o hc q => ⟨o, kk b o hc q⟩) (fun _ _ q => q) (fun _ _ _ q => q) (fun b ps q => ⟨#[], by rw [q]; simp⟩) (fun m hm => ?_) (fun b u q => ?_) I.bare
  · have q : b = e \/ b = it := by simpa using hb
    rcases q with rfl | rfl
    · exact ⟨fe.2.2.2.1, fe.2.1, fe.2.2.2.2.1, fe.2.2.2.2.2⟩
    · exact ⟨fi.2.2.2.1, fi.2.1, fi.2.2.2.2.1, fi.2.2.2.2.2⟩
  · (refine Obt.ex3 hm fun o es ep h_0 => Obt.and2 h_0 fun ho r => ?_; clear h_0 hm)
    exact ⟨o, es, ep, k _ o (Ne.symm fe.2.1) (Ne.symm fi.2.1) ho, r⟩
  · refine (I.hok b u q).stay (fun c v hc z => k c v ?_ ?_ z) (fun _ z => z) fun _ _ z => z
    · rcases hc with z | z
      · rw [z]; exact (nn b u q).1
      · exact (nn c _ z).1
    · rcases hc with z | z
      · rw [z]; exact (nn b u q).2
      · exact (nn c _ z).2
end
def Ite (K : PySem.W.Frag) (a : Addr) : It :=
  ⟨fun i H => ∃ xs x, SqT K H a xs /\ xs[i]? = some x, fun i H v H' => ∃ T x, v = .ref T /\ H T = none /\ H' = upd H T (.tup [.int i, x]) /\ ∀ xs, SqT K H a xs -> xs[i]? = some x, fun i H => ∃ xs, SqT K H a xs /\ xs.length <= i⟩
theorem turn_enumT {P : Program} {w : World} {K : PySem.W.Frag} {elts : List Expr} {x1 : _} {pos : Pos} (a e it : Addr) : Turn P w K (.Tuple elts x1 pos) (Ite K a) [e, it] e (fun i h => (∃ old, IsEnum h e it i old) /\ h.IsTupleIter it a i) where
  mem := by simp
  obj := fun i h st b hb => by
    have q : b = e \/ b = it := by simpa using hb
    rcases q with rfl | rfl
    · (refine Obt.and2 st fun t_0 _ => Obt.ex1 t_0 fun old st => ?_; clear t_0)
      exact ⟨_, st, fun v z => by
        have z' : Data.fields _ = Data.cell v := z
        cases z'⟩
    · (refine Obt.and2 st fun _ t_0 => Obt.ex1 t_0 fun o h_1 => Obt.and3 h_1 fun e c d => ?_; clear h_1 t_0 st)
      exact ⟨o, e, fun v z => by rw [d] at z; cases z⟩
  keep := fun i h h' st k => ⟨let ⟨old, z⟩ := st.1; ⟨old, k e (by simp) _ z⟩, st.2.at fun o z => k it (by simp) o z⟩
  item := by
    intro X hP hw hK hc i pins s σ H E I hf st hg
    subst hP hw hK
    (refine Obt.ex2 hg fun xs x h_0 => Obt.and2 h_0 fun hq hx => ?_; clear h_0 hg)
    (refine Obt.ex1 (I.tuple hq) fun its h_0 => Obt.and3 h_0 fun rv p hz => ?_; clear h_0)
    (refine Obt.ex1 (rv.get hx) fun u h_0 => Obt.and2 h_0 fun hu ru => ?_; clear h_0)
    (refine Obt.and2 st fun t_0 hit => Obt.ex1 t_0 fun old he => ?_; clear t_0 st)
    have p' : s.heap.IsTuple a its.toArray := p
    have fe := hf e (by simp)
    have fi := hf it (by simp)
    have ne : e ≠ it := fun z => by
      subst z
      (refine Obt.ex1 hit fun o h_0 => Obt.and3 h_0 fun e1 c d => ?_; clear h_0 hit)
      rw [he] at e1
      cases e1
      have c' : Value.type "enumerate" = Value.type "tuple_iterator" := c
      injection c' with c'
      exact absurd c' (by decide)
    have nae : a ≠ e := fun z => by
      subst z
      (refine Obt.ex1 p' fun o h_0 => Obt.and3 h_0 fun e1 c d => ?_; clear h_0 p')
      rw [he] at e1
      cases e1
      have c' : Value.type "enumerate" = Value.type "tuple" := c
      injection c' with c'
      exact absurd c' (by decide)
    have nai : a ≠ it := fun z => by
      subst z
      (refine Obt.ex1 p' fun o h_0 => Obt.and3 h_0 fun e1 c d => ?_; clear h_0 p')
      (refine Obt.ex1 hit fun o2 h_0 => Obt.and3 h_0 fun e2 c2 d2 => ?_; clear h_0 hit)
      rw [e1] at e2
      cases e2
      rw [c] at c2
      injection c2 with c'
      exact absurd c' (by decide)
    have hi : i < its.toArray.size := by
      have : i < its.length := (List.getElem?_eq_some_iff.mp hu).1
      simpa using this
    have D := drawsTuple (prog := X.prog) (w := X.w) (A := X.A.in1) (show X.A.in1.handled = none from I.ok.hd hc) it a nai its.toArray
    refine wpAny_pyNext_enum_itemD D he ⟨hit, p'⟩ hi ne (by simp [ne, Ne.symm nae]) fun y h1 tk hy ho st1 hT hsz hk => ?_
    have ey : y = u := by
      have : its.toArray[i]? = some u := by simpa using hu
      rw [this] at hy
      exact (Option.some.inj hy).symm
    subst ey
    refine ⟨_, rfl, wpAny_letOwnedTupleGo_enum ho fun h2 he2 hs2 => ?_⟩
    have fr : H s.heap.objs.size = none := I.hok.fresh (Nat.le_refl _)
    have I1 : Inv X pins σ (upd H s.heap.objs.size (.tup [.int i, x])) { s with heap := s.heap.push { cls := .type "tuple", data := .seq #[.int i tk, y] }, toks := tk + 1 } :=
      I.laid (o := .tup [.int i, x]) (fun b ob q => Heap.get?_push_of_some _ q) (Nat.le_refl _) ⟨by show 2 <= sizeLine; decide, [.int i tk, y], .cons ⟨tk, rfl⟩ (.cons ru .nil), ⟨_, Heap.get?_push_size _ rfl, rfl, _, rfl⟩⟩
    have lt : ∀ b ∈ [e, it], b < s.heap.objs.size := fun b hb => by
      have q : b = e \/ b = it := by simpa using hb
      rcases q with rfl | rfl
      · exact Heap.lt_size he
      · (refine Obt.ex1 hit fun o h_0 => Obt.and2 h_0 fun e1 _ => ?_; clear h_0 hit)
        exact Heap.lt_size e1
    have f2 : ∀ b ∈ [e, it], FpOk X pins (upd H s.heap.objs.size (.tup [.int i, x])) b := fun b hb => by
      refine ⟨?_, (hf b hb).2⟩
      rw [upd_ne (Nat.ne_of_lt (lt b hb))]
      exact (hf b hb).1
    have I2 : Inv X pins σ (upd H s.heap.objs.size (.tup [.int i, x])) { s with heap := h2, toks := tk + 1 } := by
      refine I1.turned2 (t' := tk + 1) (h' := h2) (fun b o b1 b2 q => ?_) (f2 e (by simp)) (f2 it (by simp))
      refine (hs2.2 b b1).trans ?_
      rcases Heap.get?_push_cases (show (s.heap.push { cls := .type "tuple", data := .seq #[.int i tk, y] }).get? b = some o from q) with ⟨rfl, rfl⟩ | z
      · exact hT
      · exact hk b o b1 b2 z
    refine ⟨.ref s.heap.objs.size, _, I2, rfl, ⟨s.heap.objs.size, x, rfl, fr, rfl, fun ys hy => by rw [I.tuple_inj hy hq]; exact hx⟩, ⟨⟨y, ?_⟩, ?_⟩, fun b hb => (f2 b hb).1⟩
    · have : ((i + 1 : Nat) : Int) = (i : Int) + 1 := by push_cast; rfl
      rw [this]
      exact he2
    · exact st1.1.at fun o z => (hs2.2 it (Ne.symm ne)).trans z
  done := by
    intro X hP hw hK hc i pins s σ H E I hf st hg
    subst hP hw hK
    (refine Obt.ex1 hg fun xs h_0 => Obt.and2 h_0 fun hq hx => ?_; clear h_0 hg)
    (refine Obt.ex1 (I.tuple hq) fun its h_0 => Obt.and3 h_0 fun rv p hz => ?_; clear h_0)
    (refine Obt.and2 st fun t_0 hit => Obt.ex1 t_0 fun old he => ?_; clear t_0 st)
    (refine Obt.and6 (hf it (by simp)) fun f0 f1 f2 f3 f4 f5 => ?_)
    have p' : s.heap.IsTuple a its.toArray := p
    have hl := rv.length
    have hT : s.TypeIs (.ref e) "enumerate" := ⟨_, he, rfl⟩
    unfold pyNext
    refine wpAny_bind (wpAny_attempt (wpAny_callSpecial?_slot (name := Str.ofString "__next__") hT F.slot_enumerate_next
      (wpAny_call_entry F.slot_enumerate_next hT F.entry_enumerate_next ?_ (F.args_enumerate_next_1 _))))
    show wpAny _ _ (field (.ref e) 2 >>= _) _ _ _
    refine wpAny_bind (wpAny_field he rfl (x := .ref it) rfl ?_)
    refine wpAny_bind (nextOf_tuple_end (show X.A.in1.handled = none from I.ok.hd hc) hit p' (by simp; omega) fun h' x he' hx' => ?_)
    (refine Obt.ex1 hx' fun o h_0 => Obt.and2 h_0 fun ho hcl => ?_; clear h_0 hx')
    refine wpAny_bind (wpAny_isInstance (T := "StopIteration") (b := true) ⟨o, ho, hcl⟩ isSubtype_stop ?_)
    exact wpAny_pure ⟨rfl, I.turned (t' := s.toks) (fun b o hb z => he' b o hb z) f0 f1 f3 f4 f5⟩
  self := fun _ _ _ _ _ st h => let ⟨_, z⟩ := st.1; wpAny_pyIter_enum z h
section
variable {X : Cx}
def iEnumT (K : PySem.W.Frag) (tl : TA) : TI := fun σ H R => tl σ H fun vs H1 => ∃ a, vs = [.ref a] /\ (∃ xs, SqT K H1 a xs) /\ R (Ite K a) H1
theorem bt_enumerate : bootBuiltins "enumerate" = some (.type "enumerate") := by decide +kernel
theorem pi_enumT {elts : List Expr} {x1 : _} {tpos : Pos} {l : Expr} {tl : TA} {p pos : Pos} (hg : Gl X "enumerate") (hm : X.mg "enumerate" = none) (hl : PA X [l] tl) (hs : starEach [l] X.env = [(false, eval l X.env)] := by rfl) :
    PI X (.Tuple elts x1 tpos) (.Call (.Name "enumerate" p) [l] [] pos) (iEnumT X.K tl) := by
  intro pins s σ H R I h
  refine Call_ (ld_blt I hg hm bt_enumerate (PyProof.Rows.callWith_type1 (thn (hl pos pins s σ H _ I h) fun us s1 ⟨vs, H1, I1, r1, q1⟩ => ?_) hs rfl))
  (refine Obt.ex1 q1 fun a h_0 => Obt.and3 h_0 fun e t_1 q => Obt.ex1 t_1 fun xs hq => ?_; clear t_1 h_0 q1)
  subst e
  cases r1 with
  | cons r rr =>
    cases rr
    cases r
    (refine Obt.ex1 (I1.tuple hq) fun its h_0 => Obt.and3 h_0 fun rv p hz => ?_; clear h_0)
    refine call_enumerate_tuple (show s1.heap.IsTuple a its.toArray from p) fun h' he hit hsz hk => ?_
    refine wpAny_pyIter_enum he ?_
    refine ⟨s1.heap.objs.size + 1, [s1.heap.objs.size + 1, s1.heap.objs.size], _, _, H1, rfl, I1.kept (t' := s1.toks) hk, turn_enumT a _ s1.heap.objs.size, ⟨⟨_, he⟩, hit⟩, fun b hb => ?_, q⟩
    have e : b = s1.heap.objs.size + 1 \/ b = s1.heap.objs.size := by simpa using hb
    rcases e with rfl | rfl
    · exact I1.fpOk (Nat.le_succ _) (I1.hok.fresh (Nat.le_succ _))
    · exact I1.fpOk (Nat.le_refl _) (I1.hok.fresh (Nat.le_refl _))
end
theorem for_enumT {K : PySem.W.Frag} {a : Addr} {xs : List V} {g : TG} {tb : TS} {D : Ends} {σ : St} {H : Hp} (Pv : Nat -> St -> Hp -> Prop) (h0 : Pv 0 σ H) (hl : ∀ i σ H, i <= xs.length -> Pv i σ H -> SqT K H a xs)
    (hs : ∀ i x σ H T, xs[i]? = some x -> Pv i σ H -> H T = none -> g (.ref T) σ (upd H T (.tup [.int i, x])) fun σ2 H2 => tb { D with nx := Pv (i + 1), ct := Pv (i + 1), bk := D.nx } σ2 H2) (hd : ∀ σ H, Pv xs.length σ H -> D.nx σ H) :
    ∃ W : Nat -> Nat -> St -> Hp -> Prop, (∃ m, W 0 m σ H) /\ ∀ i m σ H, W i m σ H ->
      ((Ite K a).stop i H /\ D.nx σ H) \/ ((Ite K a).go i H /\ ∃ N : St -> Hp -> Prop, (∀ σ' H', N σ' H' -> ∃ m', m' < m /\ W (i + 1) m' σ' H') /\ ∀ x H', (Ite K a).yld i H x H' -> g x σ H' fun σ2 H2 => tb { D with nx := N, ct := N, bk := D.nx } σ2 H2) := by
  refine ⟨fun i m σ H => m = xs.length - i /\ i <= xs.length /\ Pv i σ H, ⟨xs.length, by simp, Nat.zero_le _, h0⟩, ?_⟩
  (refine fun i m σ H i_0 => Obt.and3 i_0 fun e_1 hi p => ?_; subst e_1; clear i_0)
  have q := hl i σ H hi p
  by_cases hlt : i < xs.length
  · refine .inr ⟨⟨xs, xs[i], q, by simp [hlt]⟩, Pv (i + 1), fun σ' H' p' => ⟨xs.length - (i + 1), by omega, rfl, hlt, p'⟩, fun x H' y => ?_⟩
    obtain ⟨T, x0, rfl, hT, rfl, y⟩ := y
    exact hs i x0 σ _ T (y xs q) p hT
  · have e : i = xs.length := by omega
    subst e
    exact .inl ⟨⟨xs, q, Nat.le_refl _⟩, hd σ H p⟩
end L2
set_option Elab.async false
set_option linter.all false
set_option maxRecDepth 100000
set_option maxHeartbeats 4000000
namespace L2
open PySem PySem.Spec PyProof.Rows
section
variable {X : Cx} {a : Expr} {ta : TA} {p p2 pos pos2 : Pos}
end
structure DefMk (P : Program) (w : World) (K : PySem.W.Frag) (mg : Str -> Option Value) (base : Heap) (x : Str) (C : Addr) (k : Nat) (ps : List Str) (sp : Sp) : Prop where
  m : mg x = some (.ref C)
  cl : Cls K C
  ex : ∃ (f : Addr) (fd : FuncData), Mk K C f /\ Binds K fd ps [] /\ FnOk P w K mg base CX0 k f fd ps sp
theorem pe_mko {X : Cx} {x : Str} {C : Addr} {j k : Nat} {ps : List Str} {sp : Sp} {p pos : Pos} {e : Expr} {es : List Expr} {t : TA} (G : DefMk X.prog X.w X.K X.mg X.base x C k ps sp) (hr : Room j X.A) (ha : PA X (e :: es) t) (hkj : k + 1 <= j := by decide) (hg : Gl X x := by rfl) (hdb : (x == ("__debug__" : Str)) = false := by decide)
    (he : starEach (e :: es) X.env = (false, eval e X.env) :: starEach es X.env := by rfl) (hpl : (backTo pos (starEach es X.env)).any (·.1) = false := by rfl) : PE X (.Call (.Name x p) (e :: es) [] pos) (tMake C sp [] E0 t) := by
  (refine Obt.ex2 G.ex fun f fd h_0 => Obt.and3 h_0 fun M hb F => ?_; clear h_0)
  exact pe_make M F (hr.mono hkj) hg G.m hb .nil pass0 ha hdb he hpl
structure DefMe (P : Program) (w : World) (K : PySem.W.Frag) (mg : Str -> Option Value) (base : Heap) (C : Addr) (m : Str) (k : Nat) (ps : List Str) (sp : Sp) : Prop where
  cl : Cls K C
  ex : ∃ (f : Addr) (fd : FuncData), Meth K C m f /\ Binds K fd ps [] /\ FnOk P w K mg base CX0 k f fd ps sp
theorem pe_me {X : Cx} {m : Str} {C : Addr} {j k : Nat} {ps : List Str} {sp : Sp} {apos pos : Pos} {o e : Expr} {es : List Expr} {ta : TE} {t : TA} {pl : Sem Bool} (G : DefMe X.prog X.w X.K X.mg X.base C m k ps sp) (hr : Room j X.A) (ho : PE X o ta) (ha : PA X (e :: es) t) (hkj : k <= j := by decide)
    (hst : starEach (e :: es) X.env = (false, eval e X.env) :: starEach es X.env := by rfl) (hpl : (backTo pos (starEach es X.env)).any (·.1) = false := by rfl)
    (ht : eval (.Call (.Attribute o m apos) (e :: es) [] pos) X.env = (do
      let ov <- eval o X.env
      standAt apos.atName
      let (f, first) <- holding [ov] (getMethod ov m pl)
      callWith pos f first (backTo pos (starEach (e :: es) X.env)) (backToKw pos (keywordEach [] X.env))) := by rfl) :
    PE X (.Call (.Attribute o m apos) (e :: es) [] pos) (tMeth C m sp [] E0 ta t) := by
  (refine Obt.ex2 G.ex fun f fd h_0 => Obt.and3 h_0 fun hm hb F => ?_; clear h_0)
  exact pe_meth ho G.cl hm F (hr.mono hkj) hb .nil pass0 ha hst hpl ht
end L2
set_option Elab.async false
set_option linter.all false
set_option maxRecDepth 100000
set_option maxHeartbeats 4000000
namespace L2
open PySem PySem.Spec PyProof.Rows
section
variable {prog : Program} {w : World} {A : Around} {E : Value -> Shared -> Prop} {s : Shared}
structure ZipFar (z TI TO i1 i2 : Addr) (fp1 fp2 : List Addr) : Prop where
  TIz : TI ≠ z
  TOz : TO ≠ z
  TITO : TI ≠ TO
  i1z : i1 ≠ z
  i2z : i2 ≠ z
  TIi1 : TI ≠ i1
  TIi2 : TI ≠ i2
  TOi1 : TO ≠ i1
  TOi2 : TO ≠ i2
  i12 : i1 ≠ i2
  z1 : z ∉ fp1
  TO1 : TO ∉ fp1
  i21 : i2 ∉ fp1
  z2 : z ∉ fp2
  TO2 : TO ∉ fp2
  i12' : i1 ∉ fp2
variable {z TI TO i1 i2 : Addr} {fp1 fp2 : List Addr} {n1 n2 k : Nat} {P1 P2 : Nat -> Value -> Prop} {St1 St2 : Nat -> Heap -> Prop} {a b : Value}
end
end L2
set_option Elab.async false
set_option linter.all false
set_option maxRecDepth 100000
set_option maxHeartbeats 4000000
namespace L2
open PySem PySem.Spec PyProof.Rows
section
variable {X : Cx} {pins : List (Addr × Obj)} {σ : St} {H : Hp} {s : Shared} {h' : Heap}
theorem Inv.turnedL {t' : Nat} {ch : List Addr} (I : Inv X pins σ H s) (k : ∀ b o, b ∉ ch -> s.heap.get? b = some o -> h'.get? b = some o) (fc : ∀ b ∈ ch, FpOk X pins H b) (hb' : ∀ b ∈ ch, ∀ o, s.heap.get? b = some o -> True) : Inv X pins σ H { s with heap := h', toks := t' } := by
  have nn : ∀ b u, H b = some u -> b ∉ ch := fun b u q z => by
    have := (fc b z).1
    rw [q] at this
    cases this
  refine I.step (g' := s.gens) (d' := s.drawn) (ch := ch) (fun b hb => ?_) (fun b o _ _ hc q _ => k b o hc q) (fun b o _ _ hc q _ => ⟨o.slots, k b o hc q⟩) (fun _ _ _ _ n => n)
    (fun b o hc q => ⟨o, k b o hc q⟩) (fun _ _ q => q) (fun _ _ _ q => q) (fun b ps q => ⟨#[], by rw [q]; simp⟩) (fun m hm => ?_) (fun b u q => ?_) I.bare
  · exact ⟨(fc b hb).2.2.2.1, (fc b hb).2.1, (fc b hb).2.2.2.2.1, (fc b hb).2.2.2.2.2⟩
  · (refine Obt.ex3 hm fun o es ep h_0 => Obt.and2 h_0 fun ho r => ?_; clear h_0 hm)
    exact ⟨o, es, ep, k _ o (fun z => (fc _ z).2.1 rfl) ho, r⟩
  · refine (I.hok b u q).stay (fun c v hc z => k c v ?_ z) (fun _ z => z) fun _ _ z => z
    rcases hc with z | z
    · rw [z]; exact nn b u q
    · exact nn c _ z
end
section
variable {X : Cx}
theorem bt_zip : bootBuiltins "zip" = some (.type "zip") := by decide +kernel
end
end L2
set_option Elab.async false
set_option linter.all false
set_option maxRecDepth 100000
set_option maxHeartbeats 4000000
namespace L2
open PySem PySem.Spec PyProof.Rows
inductive EqN (K : PySem.W.Frag) (H : Hp) : V -> V -> Prop where
  | non : EqN K H .non .non
  | tup {a b : Addr} {ns : List Int} (ha : SqT K H a (ns.map V.int)) (hb : SqT K H b (ns.map V.int)) : EqN K H (.ref a) (.ref b)
section
variable {X : Cx} {pins : List (Addr × Obj)} {σ : St} {H : Hp} {s : Shared}
end
end L2
set_option Elab.async false
set_option linter.all false
set_option maxRecDepth 100000
set_option maxHeartbeats 4000000
namespace L2
open PySem PySem.Spec PyProof.Rows
section
variable {X : Cx}
end
end L2
set_option Elab.async false
set_option linter.all false
set_option maxRecDepth 100000
set_option maxHeartbeats 4000000
namespace L2
open PySem PySem.Spec PyProof.Rows
theorem set2_set {B : St} {t u a b : Option V} : ((((B.set 0 t).set 1 u).set 0 a).set 1 b) = (B.set 0 a).set 1 b := by
  rw [List.set_comm u a (l := B.set 0 t) (by decide : (1 : Nat) ≠ 0), List.set_set, List.set_set]
end L2
set_option Elab.async false
set_option linter.all false
set_option maxRecDepth 100000
namespace L2
open PySem PySem.Spec PyProof.Rows
section
variable {X : Cx} {pins : List (Addr × Obj)} {σ : St} {H H' : Hp} {s : Shared} {h' : Heap}
end
section
variable {X : Cx}
end
end L2
set_option Elab.async false
set_option linter.all false
set_option maxRecDepth 100000
namespace L2
open PySem PySem.Spec PyProof.Rows
section
variable {X : Cx}
end
end L2
set_option Elab.async false
set_option linter.all false
set_option maxRecDepth 100000
namespace L2
open PySem PySem.Spec PyProof.Rows
section
variable {X : Cx}
end
end L2
namespace PySem
open PyProof.Rows
namespace F
end F
section
variable {prog : Program} {w : World} {A : Around} {E : Value -> Shared -> Prop} {s : Shared}
end
end PySem
namespace L2
open PySem PySem.Spec PyProof.Rows
section
variable {X : Cx} {tg : Expr}
end
end L2
set_option Elab.async false
set_option linter.all false
set_option maxRecDepth 100000
namespace L2
open PySem PySem.Spec PyProof.Rows
abbrev Rise (xs : Array Nat) : Prop := xs.toList.Pairwise (· < ·)
theorem Rise.lt {xs : Array Nat} (r : Rise xs) {i j : Nat} (hi : i < j) (hj : j < xs.size) : xs[i] < xs[j] := by
  have := List.pairwise_iff_getElem.mp r i j (by simpa using Nat.lt_trans hi hj) (by simpa using hj) hi
  simpa using this
theorem below_go {xs : Array Nat} {j : Nat} (r : Rise xs) : ∀ (fuel lo hi : Nat), hi - lo <= fuel -> lo <= hi -> hi <= xs.size -> (∀ i (h : i < xs.size), i < lo -> xs[i] < j) -> (∀ i (h : i < xs.size), hi <= i -> j <= xs[i]) ->
    (SetTable.below.go xs j fuel lo hi <= xs.size /\ (∀ i (h : i < xs.size), i < SetTable.below.go xs j fuel lo hi -> xs[i] < j) /\ ∀ i (h : i < xs.size), SetTable.below.go xs j fuel lo hi <= i -> j <= xs[i])
  | 0, lo, hi, hf, hl, hs, h1, h2 => by
    have e : lo = hi := by omega
    subst e
    exact ⟨hs, h1, h2⟩
  | fuel + 1, lo, hi, hf, hl, hs, h1, h2 => by
    unfold SetTable.below.go
    by_cases c : lo < hi
    · rw [if_pos c]
      dsimp only
      have hm : (lo + hi) / 2 < xs.size := by omega
      have eg : xs.getD ((lo + hi) / 2) j = xs[(lo + hi) / 2] := by simp [Array.getD, hm]
      by_cases d : xs.getD ((lo + hi) / 2) j < j
      · rw [if_pos d]
        refine below_go r fuel _ _ (by omega) (by omega) hs (fun i h hi' => ?_) h2
        rcases Nat.lt_or_ge i ((lo + hi) / 2) with z | z
        · exact Nat.lt_trans (r.lt z hm) (by rw [eg] at d; exact d)
        · have e : i = (lo + hi) / 2 := by omega
          subst e
          rw [eg] at d
          exact d
      · rw [if_neg d]
        refine below_go r fuel _ _ (by omega) (by omega) (by omega) h1 (fun i h hi' => ?_)
        rw [eg] at d
        rcases Nat.lt_or_ge ((lo + hi) / 2) i with z | z
        · exact Nat.le_trans (Nat.le_of_not_lt d) (Nat.le_of_lt (r.lt z h))
        · have e : i = (lo + hi) / 2 := by omega
          subst e
          exact Nat.le_of_not_lt d
    · rw [if_neg c]
      have e : lo = hi := by omega
      subst e
      exact ⟨hs, h1, h2⟩
theorem below_is {xs : Array Nat} (r : Rise xs) (j : Nat) : SetTable.below xs j <= xs.size /\ (∀ i (h : i < xs.size), i < SetTable.below xs j -> xs[i] < j) /\ ∀ i (h : i < xs.size), SetTable.below xs j <= i -> j <= xs[i] :=
  below_go r xs.size 0 xs.size (by omega) (Nat.zero_le _) (Nat.le_refl _) (fun i h z => by omega) (fun i h z => by omega)
theorem below_zero {xs : Array Nat} (r : Rise xs) : SetTable.below xs 0 = 0 := by
  (refine Obt.and3 (below_is r 0) fun h0 h1 _ => ?_)
  rcases Nat.eq_zero_or_pos (SetTable.below xs 0) with z | z
  · exact z
  · exact absurd (h1 0 (Nat.lt_of_lt_of_le z h0) z) (Nat.not_lt_zero _)
theorem below_next {xs : Array Nat} (r : Rise xs) {i : Nat} (hi : i < xs.size) : SetTable.below xs (xs[i] + 1) = i + 1 := by
  (refine Obt.and3 (below_is r (xs[i] + 1)) fun h0 h1 h2 => ?_)
  rcases Nat.lt_trichotomy (SetTable.below xs (xs[i] + 1)) (i + 1) with z | z | z
  · have := h2 i hi (by omega)
    omega
  · exact z
  · have hi2 : i + 1 < xs.size := by omega
    have a1 := h1 (i + 1) hi2 z
    have a2 : xs[i] < xs[i + 1] := r.lt (Nat.lt_succ_self i) hi2
    omega
theorem toList_insertAt {α : Type} (xs : Array α) (p : Nat) (x : α) : (SetTable.insertAt xs p x).toList = xs.toList.take p ++ x :: xs.toList.drop p := by
  unfold SetTable.insertAt
  simp
  rw [List.take_of_length_le (by simp)]
theorem Rise.put {xs : Array Nat} (r : Rise xs) {j : Nat} (hj : xs[SetTable.below xs j]? ≠ some j) : Rise (SetTable.insertAt xs (SetTable.below xs j) j) := by
  (refine Obt.and3 (below_is r j) fun h0 h1 h2 => ?_)
  unfold Rise
  rw [toList_insertAt, List.pairwise_append]
  have tk : ∀ a ∈ xs.toList.take (SetTable.below xs j), a < j := fun a ha => by
    (refine Obt.ex1 (List.mem_take_iff_getElem.mp ha) fun i h_0 => Obt.ex1 h_0 fun hi e_1 => ?_; subst e_1; clear h_0)
    have : i < SetTable.below xs j /\ i < xs.size := by simp at hi; omega
    simpa using h1 i this.2 this.1
  have dr : ∀ b ∈ xs.toList.drop (SetTable.below xs j), j < b := fun b hb => by
    (refine Obt.ex1 (List.mem_drop_iff_getElem.mp hb) fun i h_0 => Obt.ex1 h_0 fun hi e_1 => ?_; subst e_1; clear h_0)
    have hs : i + SetTable.below xs j < xs.size := by simpa using hi
    have hle := h2 (i + SetTable.below xs j) hs (by omega)
    have hb0 : SetTable.below xs j < xs.size := by omega
    have hne : xs[SetTable.below xs j] ≠ j := fun z => hj (by rw [Array.getElem?_eq_getElem hb0, z])
    have h3 := h2 (SetTable.below xs j) hb0 (Nat.le_refl _)
    have : j < xs[i + SetTable.below xs j] := by
      rcases Nat.eq_zero_or_pos i with z | z
      · subst z
        simp only [Nat.zero_add]
        omega
      · have := r.lt (i := SetTable.below xs j) (j := i + SetTable.below xs j) (by omega) hs
        omega
    simpa [Nat.add_comm] using this
  refine ⟨List.Pairwise.sublist (List.take_sublist _ _) r, List.pairwise_cons.mpr ⟨dr, List.Pairwise.sublist (List.drop_sublist _ _) r⟩, fun a ha b hb => ?_⟩
  rcases List.mem_cons.mp hb with e | hb
  · rw [e]; exact tk a ha
  · exact Nat.lt_trans (tk a ha) (dr b hb)
theorem rise_range (n : Nat) : Rise (Array.range n) := by
  unfold Rise
  rw [Array.toList_range]
  exact List.pairwise_lt_range
structure TabOk (t : SetTable) (led : Bool) : Prop where
  rise : Rise t.place
  nod : t.dummies = #[]
  led : t.led = led
theorem TabOk.standIn {t : SetTable} {led : Bool} (k : TabOk t led) (n : Nat) : TabOk (t.standIn n) led := ⟨rise_range n, rfl, k.led⟩
theorem TabOk.orStandIn {t : SetTable} {led : Bool} (k : TabOk t led) (n : Nat) : TabOk (t.orStandIn n) led := by
  unfold SetTable.orStandIn
  split
  · exact k
  · exact k.standIn n
theorem has_nil (j : Nat) : SetTable.has #[] j = false := by
  unfold SetTable.has
  simp
theorem probe_free {t : SetTable} {led : Bool} (k : TabOk t led) {h : Int} : ∀ (fuel : Nat) (p : SetTable.Probe) (j : Nat) (dm : Option Nat), p.dummy = none -> SetTable.probe.go t (fun _ => h + 1) h fuel p = some (.empty j dm) -> t.slot j = .empty /\ dm = none
  | 0, p, j, dm, _, e => by cases e
  | fuel + 1, p, j, dm, hp, e => by
    unfold SetTable.probe.go at e
    cases hs : t.slot p.j with
    | empty =>
      rw [hs] at e
      cases e
      exact ⟨hs, hp⟩
    | dummy =>
      exfalso
      unfold SetTable.slot at hs
      dsimp only at hs
      split at hs
      · cases hs
      · rw [k.nod, has_nil] at hs
        simp at hs
    | live i =>
      rw [hs] at e
      dsimp only at e
      rw [if_neg (by simp; omega)] at e
      refine probe_free k fuel _ j dm ?_ e
      unfold SetTable.advance
      split
      · exact hp
      · exact hp
theorem free_slot {t : SetTable} {led : Bool} (k : TabOk t led) {h : Int} {j : Nat} {b : Bool} (e : t.freeSlot h = some (j, b)) : t.place[SetTable.below t.place j]? ≠ some j /\ b = false := by
  unfold SetTable.freeSlot SetTable.probe at e
  split at e
  · rename_i j' dm e'
    (refine Obt.and2 (probe_free k _ _ _ _ rfl e') fun h1 e_0 => ?_; subst e_0)
    simp at e
    (refine Obt.and2 e fun e_0 e_1 => ?_; subst e_0; subst e_1; clear e)
    refine ⟨fun z => ?_, rfl⟩
    unfold SetTable.slot at h1
    dsimp only at h1
    rw [if_pos (by rw [z]; simp)] at h1
    cases h1
  · cases e
theorem layNew_tab {t : SetTable} {led : Bool} (k : TabOk t led) (es : Array (Int × Value)) (h : Int) (x : Value) : TabOk (layNew t es h x).2.1 led := by
  unfold layNew
  split
  · rename_i slot wd e
    (refine Obt.and2 (free_slot k e) fun hj e_0 => ?_; subst e_0)
    have k1 : TabOk (t.put slot).1 led := by
      refine ⟨k.rise.put hj, ?_, k.led⟩
      show (if SetTable.has t.dummies slot = true then _ else t.dummies) = #[]
      rw [k.nod, has_nil]
      rfl
    exact k1.orStandIn _
  · exact k.standIn _
theorem relayAll_tab {t : SetTable} {led : Bool} (k : TabOk t led) (es : Array (Int × Value)) (n : Nat) : TabOk (relayAll t es n).2.1 led := by
  unfold relayAll
  split
  · rename_i t' order e
    dsimp only
    split
    · unfold SetTable.relaid SetTable.laid at e
      simp only [Option.bind_eq_bind, Option.bind_eq_some_iff] at e
      (refine Obt.ex1 e fun owner h_0 => Obt.and2 h_0 fun _ e => ?_; clear h_0)
      cases e
      refine ⟨?_, rfl, k.led⟩
      unfold Rise
      dsimp only
      rw [List.map_filterMap]
      refine List.Pairwise.filterMap _ (fun a a' hr b hb b' hb' => ?_) List.pairwise_lt_range
      simp only [Option.map_map, Option.mem_def, Option.map_eq_some_iff, Function.comp] at hb hb'
      (refine Obt.ex1 hb fun _ h_0 => Obt.and2 h_0 fun _ e_1 => ?_; subst e_1; clear h_0 hb)
      (refine Obt.ex1 hb' fun _ h_0 => Obt.and2 h_0 fun _ e_1 => ?_; subst e_1; clear h_0 hb')
      exact hr
    · exact k.standIn _
  · exact k.standIn _
abbrev byT (w : World) : Bool := w.params.followText "set-order"
def valI : Value -> Int
  | .int n _ => n
  | _ => 0
def SetW (P : Program) (w : World) (h : Heap) (a : Addr) (ns : List Int) : Prop :=
  ∃ o es ep t, h.get? a = some o /\ o.ExactSet /\ o.data = .set es ep t /\ ElemsOf (intKind P w) es.toList /\ (∀ e ∈ es.toList, ∃ n u, e.2 = .int n u) /\ (es.toList.map fun e => valI e.2).Perm ns /\ es.size < scanBound /\ t.fits es.size = true /\ TabOk t (!byT w)
theorem SetW.keep {P : Program} {w : World} {h h' : Heap} {a : Addr} {ns : List Int} (x : SetW P w h a ns) (k : ∀ o, h.get? a = some o -> h'.get? a = some o) : SetW P w h' a ns := by
  (refine Obt.ex4 x fun o es ep t h_0 => Obt.and2 h_0 fun ho r => ?_; clear h_0 x)
  exact ⟨o, es, ep, t, k o ho, r⟩
section
variable {P : Program} {w : World} {A : Around} {E : Value -> Shared -> Prop} {s : Shared}
theorem is_int {k n : Int} {u : Tok} : (intKind P w).is k (.int n u) = decide (k = n) := KeyKind.is_eq_decide (intKind_is P w n u) k
theorem storeW {h : Heap} {a : Addr} {o : Obj} {es es' : Array (Int × Value)} {ep : Nat} {t t' : SetTable} {ns : List Int} (ho : h.get? a = some o) (hex : o.ExactSet) (hd : o.data = .set es ep t) (hel : ElemsOf (intKind P w) es'.toList)
    (hi : ∀ e ∈ es'.toList, ∃ n u, e.2 = .int n u) (hp : (es'.toList.map fun e => valI e.2).Perm ns) (hb : es'.size < scanBound) (hf : t'.fits es'.size = true) (hk : TabOk t' (!byT w)) :
    (h.update a (Obj.putSet es' t')).get? a = some { o with data := .set es' (ep + 1) t' } /\ SetW P w (h.update a (Obj.putSet es' t')) a ns := by
  have hg : (h.update a (Obj.putSet es' t')).get? a = some { o with data := .set es' (ep + 1) t' } := by
    have q := Heap.get?_update_self (Obj.putSet es' t') ho (by rw [putSet_of es' t' hd]; rfl)
    rw [putSet_of es' t' hd] at q
    exact q
  exact ⟨hg, _, es', ep + 1, t', hg, hex, rfl, hel, hi, hp, hb, hf, hk⟩
theorem add_new {g : Bool -> Sem Unit} (hg : ∀ (b : Bool) (s₁ : Shared) (Q' : Unit -> Shared -> Prop), Q' () s₁ -> wpAny (model P w) A (g b) Q' E s₁) {a : Addr} {o : Obj} {es es1 : Array (Int × Value)} {ep : Nat} {t t2 : SetTable} {ns : List Int} {R : Option Bool -> Shared -> Prop} {wd : Bool}
    (ho : s.heap.get? a = some o) (hex : o.ExactSet) (hd : o.data = .set es ep t) (hel : ElemsOf (intKind P w) es1.toList) (hi : ∀ e ∈ es1.toList, ∃ n u, e.2 = .int n u) (hp : (es1.toList.map fun e => valI e.2).Perm ns) (hb : es1.size < scanBound)
    (hf : t2.fits es1.size = true) (hk : TabOk t2 (!byT w)) (h : ∀ h', Heap.SameBut a s.heap h' -> SetW P w h' a ns -> R (some true) { s with heap := h' }) :
    wpAny (model P w) A (do
        storeSet a es1 t2
        if (!wd && t2.tooFull) = true then do
            g (relayAll t2 es1 (SetTable.grown es1.size)).2.2
            storeSet a (relayAll t2 es1 (SetTable.grown es1.size)).1 (relayAll t2 es1 (SetTable.grown es1.size)).2.1
            pure (some true)
          else pure (some true)) R E s := by
  refine wpAny_bind (wpAny_storeSet_of ho hd ?_ (fits_of_scanBound hb))
  (refine Obt.and2 (storeW (P := P) (w := w) ho hex hd hel hi hp hb hf hk) fun ho1 hS1 => ?_)
  have sb1 := Heap.SameBut.update s.heap a (Obj.putSet es1 t2)
  split
  · have rp := relayAll_perm t2 es1 (SetTable.grown es1.size)
    have rf := relayAll_fits t2 es1 (SetTable.grown es1.size)
    have rt := relayAll_tab hk es1 (SetTable.grown es1.size)
    generalize relayAll t2 es1 (SetTable.grown es1.size) = Rl at rp rf rt ⊢
    obtain ⟨es2, t3, gave⟩ := Rl
    dsimp only at rp rf rt ⊢
    have sz : es2.size = es1.size := by rw [<- Array.length_toList, rp.length_eq, Array.length_toList]
    have hb2 : es2.size < scanBound := by rw [sz]; exact hb
    refine wpAny_bind (hg _ _ _ ?_)
    refine wpAny_bind (wpAny_storeSet_of ho1 rfl ?_ (fits_of_scanBound hb2))
    (refine Obt.and2 (storeW (P := P) (w := w) (ns := ns) ho1 hex rfl (hel.perm rp) (fun e he => hi e (rp.mem_iff.mp he)) ((rp.map _).trans hp) hb2 rf rt) fun _ hS2 => ?_)
    exact wpAny_pure (h _ (sb1.trans (Heap.SameBut.update _ a _)) hS2)
  · exact wpAny_pure (h _ sb1 hS1)
theorem setAdd_int {a : Addr} {ns : List Int} {k : Int} {u : Tok} {Q : Bool -> Shared -> Prop} (hS : SetW P w s.heap a ns) (hroom : ns.length + 1 < scanBound)
    (h : ∀ h' b, Heap.SameBut a s.heap h' -> SetW P w h' a (step_dedup ns k) -> Q b { s with heap := h' }) : wpAny (model P w) A (setAddHashed a (.int k u) ((intKind P w).hash k)) Q E s := by
  (refine Obt.ex4 hS fun o es ep t h_0 => Obt.and9 h_0 fun ho hex hd hel hi hp hb hf hk => ?_; clear h_0 hS)
  have hsz : es.size = ns.length := by rw [<- hp.length_eq, List.length_map, Array.length_toList]
  have mem : ∀ z : Int, z ∈ ns ↔ ∃ e ∈ es.toList, (intKind P w).is z e.2 = true := fun z => by
    rw [<- hp.mem_iff, List.mem_map]
    constructor
    · (refine fun i_0 => Obt.ex1 i_0 fun e h_1 => Obt.and2 h_1 fun he e_2 => ?_; subst e_2; clear h_1 i_0)
      (refine Obt.ex2 (hi e he) fun n v e2 => ?_)
      exact ⟨e, he, by rw [e2, is_int]; simp [valI]⟩
    · (refine fun i_0 => Obt.ex1 i_0 fun e h_1 => Obt.and2 h_1 fun he q => ?_; clear h_1 i_0)
      (refine Obt.ex2 (hi e he) fun n v e2 => ?_)
      rw [e2, is_int] at q
      exact ⟨e, he, by rw [e2]; exact (of_decide_eq_true q).symm⟩
  unfold setAddHashed setAddHashedIn
  refine wpAny_holding (wpAny_bind (wpAny_setState_of ho hd hf ?_))
  dsimp only
  rw [byScan_of (x := .int k u) rfl hb hel]
  simp only [↓reduceIte]
  unfold setAddByScan
  refine wpAny_bind (wpAny_bind (wpAny_rule ?_))
  refine wpAny_bind (wpAny_setScan_of (intKind_is P w k u) ho hd hf hel ?_)
  cases hr : List.findIdx? (fun e => (intKind P w).is k e.2) es.toList with
  | some j =>
    dsimp only
    (refine Obt.ex1 (List.findIdx?_eq_some_iff_getElem.mp hr) fun hj h_0 => Obt.and2 h_0 fun pj _ => ?_; clear h_0)
    have kin : k ∈ ns := (mem k).mpr ⟨es.toList[j], List.getElem_mem hj, pj⟩
    refine wpAny_pure (wpAny_pure ?_)
    have q := h s.heap false (Heap.SameBut.refl a s.heap) ⟨o, es, ep, t, ho, hex, hd, hel, hi, by
      unfold step_dedup
      rw [if_pos (by simpa using kin)]
      exact hp, hb, hf, hk⟩
    cases s
    exact q
  | none =>
    dsimp only
    have nin : k ∉ ns := fun z => by
      (refine Obt.ex1 ((mem k).mp z) fun e h_0 => Obt.and2 h_0 fun he q => ?_; clear h_0)
      have := List.findIdx?_eq_none_iff.mp hr e he
      rw [q] at this
      cases this
    have gw : ∀ (b : Bool) (s₁ : Shared) (Q' : Unit -> Shared -> Prop), Q' () s₁ -> wpAny (model P w) A (match b with | true => rule "set.scan.the-table-gave-way" | false => pure ()) Q' E s₁ := fun b s₁ Q' q => by
      cases b
      · exact wpAny_pure q
      · exact wpAny_rule q
    have lp := layNew_perm t es ((intKind P w).hash k) (.int k u)
    have lf := layNew_fits t es ((intKind P w).hash k) (.int k u)
    have lt := layNew_tab hk es ((intKind P w).hash k) (.int k u)
    generalize layNew t es ((intKind P w).hash k) (.int k u) = L at lp lf lt ⊢
    obtain ⟨es1, t1, wd, gave⟩ := L
    dsimp only at lp lf lt ⊢
    rw [Array.toList_push] at lp
    have hel1 : ElemsOf (intKind P w) es1.toList := (hel.push (intKind_is P w k u) rfl).perm lp
    have hi1 : ∀ e ∈ es1.toList, ∃ n v, e.2 = .int n v := fun e he => by
      rcases List.mem_append.mp (lp.mem_iff.mp he) with z | z
      · exact hi e z
      · rw [List.mem_singleton.mp z]; exact ⟨k, u, rfl⟩
    have hp1 : (es1.toList.map fun e => valI e.2).Perm (step_dedup ns k) := by
      unfold step_dedup
      rw [if_neg (by simpa using nin)]
      refine (lp.map _).trans ?_
      rw [List.map_append]
      exact hp.append (List.Perm.refl _)
    have hb1 : es1.size < scanBound := by rw [<- Array.length_toList, lp.length_eq, List.length_append, Array.length_toList, hsz]; exact hroom
    refine wpAny_bind (gw _ _ _ ?_)
    split
    · refine wpAny_bind ?_
      rw [hashByValue_scannable 8 (x := .int k u) rfl]
      refine wpAny_pure ?_
      exact add_new (fun b s₁ Q' q => gw b s₁ Q' q) ho hex hd hel1 hi1 hp1 hb1 lf lt fun h' sb S => wpAny_pure (h h' true sb S)
    · refine wpAny_bind (wpAny_pure ?_)
      simp only [↓reduceIte]
      exact add_new (fun b s₁ Q' q => gw b s₁ Q' q) ho hex hd hel1 hi1 hp1 hb1 lf lt fun h' sb S => wpAny_pure (h h' true sb S)
end
end L2
set_option Elab.async false
set_option linter.all false
set_option maxRecDepth 100000
namespace L2
open PySem PySem.Spec PyProof.Rows
section
variable {P : Program} {w : World} {A : Around} {E : Value -> Shared -> Prop} {R : Result -> Shared -> Prop} {I : Addr} {fp wr : List Addr} {G : Array GenState -> Array GenState -> Prop} {n : Nat} {Pz : Nat -> Value -> Prop} {St : Nat -> Shared -> Prop}
theorem update_loopW (W : WalksS P w A.in1 I fp wr G n Pz St) (S : Addr) (hSf : S ∉ fp) (val : Nat -> Int) (hval : ∀ i v, Pz i v -> ∃ t, v = .int (val i) t) (hb : n + 1 < scanBound) :
    ∀ (k i : Nat) (s : Shared), n - i = k -> i <= n -> St i s -> SetW P w s.heap S (firstMet val i) -> (∀ s', Moved (S :: wr) G s s' -> SetW P w s'.heap S (firstMet val n) -> R (.ok (.ret .none)) s') ->
      codeAny (model P w) A (.builtin "set.update.loop" ⟨[.ref S, .ref I], []⟩) R s := by
  have nw : S ∉ wr := fun z => hSf (W.sub _ z)
  have up : ∀ b ∈ wr, b ∈ S :: wr := fun b z => List.mem_cons_of_mem _ z
  intro k
  induction k with
  | zero =>
    intro i s hk hi hst hS hR
    obtain rfl : i = n := by omega
    refine codeAny_builtin F.entry_set_update_loop ?_
    rw [Around.under_plainId F.plain_set_update_loop _]
    refine wpAny_bind (m := pyNext (.ref I)) (W.done s _ _ hst fun s' hm => ?_)
    exact wpAny_pure (hR s' (hm.mono up) (hS.keep fun o q => hm.heap S o nw q))
  | succ k ih =>
    intro i s hk hi hst hS hR
    have hlt : i < n := by omega
    refine codeAny_builtin F.entry_set_update_loop ?_
    rw [Around.under_plainId F.plain_set_update_loop _]
    refine wpAny_bind (m := pyNext (.ref I)) (W.item i s _ _ hlt hst fun v s' hP hst' hm => ?_)
    obtain ⟨t, rfl⟩ := hval i v hP
    have hS' : SetW P w s'.heap S (firstMet val i) := hS.keep fun o q => hm.heap S o nw q
    refine wpAny_bind (m := holding [Value.int (val i) t] (setAdd S (.int (val i) t))) (wpAny_holding ?_)
    unfold setAdd
    refine wpAny_holding (wpAny_bind ((intKind P w).pyHash (k := val i) (intKind_is _ _ _ _) ?_))
    have room : (firstMet val i).length + 1 < scanBound := by
      have := firstMet_length_le val i
      omega
    refine setAdd_int (s := { s' with toks := s'.toks + 1 }) hS' room fun h' b sb S2 => ?_
    rw [<- firstMet_succ] at S2
    refine wpAny_pure ⟨plainId_quiet F.plain_set_update_loop _, ih (i + 1) _ (by omega) hlt (W.frame _ s' _ _ hst' (Nat.le_succ _) fun b hb o e => ?_) S2 fun s2 m2 S3 => ?_⟩
    · rw [sb.2 b (fun z : b = S => hSf (z ▸ hb))]; exact e
    · refine hR s2 (Moved.trans W.gtrans ((hm.mono up).then_heap (Nat.le_succ _) fun b o hb e => ?_) m2) S3
      rw [sb.2 b (fun z : b = S => hb (by rw [z]; exact List.mem_cons_self))]; exact e
end
section
variable {P : Program} {w : World} {A : Around} {E : Value -> Shared -> Prop} {s : Shared}
def freshSet (w : World) : Obj := { cls := .type "set", dict := none, data := .set #[] 0 (.fresh 0 0 (!byT w)) }
theorem newW (h : Heap) (hg : h.get? a = some (freshSet w)) : SetW P w h a [] :=
  ⟨_, #[], 0, _, hg, ⟨rfl, rfl, rfl⟩, rfl, (fun e he => by cases he), (fun e he => by cases he), List.Perm.refl _, by decide, rfl, ⟨List.Pairwise.nil, rfl, rfl⟩⟩
theorem code_newW (a : Value) {Q₁ : Value -> Shared -> Prop} (h : Q₁ (.ref s.heap.objs.size) { s with heap := s.heap.push (freshSet w) }) :
    codeAny (model P w) A (.call (.builtin "set.__new__") ⟨[.type "set", a], []⟩) (wants Q₁ E) s := by
  refine codeAny_of_tree ?_
  show wpAny _ A.in1 (do checkBuiltinCall "set.__new__" ⟨[.type "set", a], []⟩; again (.builtin "set.__new__" ⟨[.type "set", a], []⟩)) _ _ s
  refine wpAny_bind (wpAny_of_eq (F.newCall_set_1 a) (wpAny_pure ⟨plainId_quiet F.plain_set_new _, codeAny_builtin F.entry_set_new ?_⟩))
  rw [Around.under_plainId F.plain_set_new _]
  unfold Builtin.«set.__new__» Builtin.Frozenset.newClass
  have hsub := sub_set_self
  obtain ⟨hp, g, d, tk, os⟩ := s
  dsimp only
  wp_walk
  refine wpAny_askSetting (wpAny_pure ?_)
  dsimp only
  simp only [newObj]
  exact wpAny_bind (wpAny_alloc (wpAny_pure (wpAny_pure h)))
set_option maxHeartbeats 3200000 in
theorem call_setW {l : Addr} {items : Array Value} {ns : List Int} {Q : Value -> Shared -> Prop} (hh : A.handled = none) (hl : s.heap.IsList l items) (hi : IntsAre items.toList ns) (hb : items.size + 1 < scanBound)
    (h : ∀ (h' : Heap) (tk : Nat), SetW P w h' s.heap.objs.size (firstMet (fun i => ns.getD i 0) items.size) -> (∀ b o, b < s.heap.objs.size -> s.heap.get? b = some o -> h'.get? b = some o) -> Q (.ref s.heap.objs.size) { s with heap := h', toks := tk }) :
    wpAny (model P w) A (call (.type "set") [.ref l]) Q E s := by
  obtain ⟨c, tl, hmro⟩ := F.called_set.mro
  have hmade := F.called_set.made
  have hsub := F.called_set.sub
  refine wpAny_call (codeAny_of_tree ?_)
  show wpAny _ _ (callAny (.type "set") _) _ _ _
  refine wpAny_pure ⟨Code.quiet_builtin _ (by decide +kernel), codeAny_builtin F.entry_type_call ?_⟩
  rw [Around.under_plain (weight_type_call_type "set" [.ref l] []) rfl]
  have h1 := F.called_set.notType
  have h2 := F.called_set.canCreate
  have hct := F.typeCall_set_1 (.ref l)
  repeat (any_goals (first | assumption | wp_step))
  refine codeAny_mono (code_newW (.ref l) (E := E) (Q₁ := fun obj s₁ => obj = .ref s.heap.objs.size /\ s₁ = { s with heap := s.heap.push (freshSet w) }) ⟨rfl, rfl⟩) fun r s₁ hr => ?_
  cases r with
  | error e => exact hr
  | ok fl =>
    cases fl with
    | ret obj =>
      obtain ⟨rfl, rfl⟩ := hr
      have hS : (s.heap.push (freshSet w)).get? s.heap.objs.size = some (freshSet w) := Heap.get?_push_size _ rfl
      have hT : Shared.TypeIs { s with heap := s.heap.push (freshSet w) } (.ref s.heap.objs.size) "set" := ⟨_, hS, rfl⟩
      have hli := F.called_set.init.lookup
      have hbi := F.called_set.init.bind (.ref s.heap.objs.size)
      repeat (any_goals (first | assumption | wp_step))
      refine codeAny_mono (codeAny_call_builtin (R := wants (fun r s₂ => r = .none /\ ∃ h' tk, s₂ = { s with heap := h', toks := tk } /\ SetW P w h' s.heap.objs.size (firstMet (fun i => ns.getD i 0) items.size) /\
          (∀ b o, b < s.heap.objs.size -> s.heap.get? b = some o -> h'.get? b = some o)) E) F.called_set.init.plain F.entry_set_init (check_set_init_1 hT ?_)) fun r₂ s₂ hr₂ => ?_
      · obtain ⟨ol, hol, hcl, nl, hdl⟩ := hl
        obtain ⟨ocls, odict, odata, oslots⟩ := ol
        simp only at hcl hdl
        subst hcl; subst hdl
        have hol' : (s.heap.push (freshSet w)).get? l = some { cls := .type "list", dict := odict, data := .seq items nl, slots := oslots } := Heap.get?_push_of_some _ hol
        have hsls := F.sub_list_set
        have hslf := F.sub_list_frozenset
        have hl1 : (s.heap.push (freshSet w)).IsList l items := ⟨_, hol', rfl, nl, rfl⟩
        have hne : (Value.type "list" == Value.type "dict") = false := by decide
        have hS0 : (s.heap.push (freshSet w)).get? s.heap.objs.size = some { cls := .type "set", dict := none, data := .set #[] 0 (.fresh 0 0 (!byT w)) } := hS
        unfold Builtin.«set.__init__» noKeywords Builtin.Frozenset.updateFrom
        generalize hPI : pyIter = PI
        wp_walk
        subst hPI
        refine wpAny_pyIter_list hl1 (wpAny_bind (wpAny_runValue ?_))
        have hlS : l < s.heap.objs.size := Heap.lt_size hol
        have hh3 : A.in1.in1.in1.handled = none := by simp [hh]
        have neI : l ≠ (s.heap.push (freshSet w)).objs.size := by rw [Heap.size_push]; exact Nat.ne_of_lt (Nat.lt_succ_of_lt hlS)
        have nS : s.heap.objs.size ∉ [(s.heap.push (freshSet w)).objs.size, l] := by
          rw [Heap.size_push]
          simp only [List.mem_cons, List.mem_singleton, List.not_mem_nil, or_false, not_or]
          exact ⟨Nat.ne_of_lt (Nat.lt_succ_self _), Nat.ne_of_gt hlS⟩
        refine update_loopW ((Walks.list hh3 _ l neI items).toS) s.heap.objs.size nS (fun i => ns.getD i 0) (fun i v hv => IntsAre.int_at hi i v (by rw [Array.getElem?_toList]; exact hv)) hb (items.size - 0) 0 _ (by omega) (Nat.zero_le _)
          ⟨⟨_, Heap.get?_push_size _ rfl, rfl, rfl⟩, (hl1.push _)⟩ ?_ ?_
        · exact newW (w := w) _ (Heap.get?_push_of_some _ hS)
        · rintro ⟨h', g', d', tk', os'⟩ hm hS'
          have eg : g' = s.gens := hm.gens
          have ed : d' = s.drawn := hm.drawn
          have eo : os' = s.os := hm.os
          subst eg ed eo
          refine wpAny_pure ?_
          show wpAny _ _ (ret Value.none) _ _ _
          refine wpAny_pure ⟨rfl, h', tk', rfl, hS', fun b o hb e => ?_⟩
          refine hm.heap b o ?_ (Heap.get?_push_of_some _ (Heap.get?_push_of_some _ e))
          rw [Heap.size_push]
          simp only [List.mem_cons, List.mem_singleton, List.not_mem_nil, or_false, not_or]
          exact ⟨Nat.ne_of_lt hb, Nat.ne_of_lt (Nat.lt_succ_of_lt hb)⟩
      · cases r₂ with
        | error e => exact hr₂
        | ok fl₂ =>
          cases fl₂ with
          | ret r =>
            obtain ⟨rfl, h', tk, rfl, hS', hk'⟩ := hr₂
            repeat (any_goals (first | assumption | wp_step))
            exact h _ _ hS' hk'
          | next => exact hr₂
          | brk => exact hr₂
          | cont => exact hr₂
    | next => exact hr
    | brk => exact hr
    | cont => exact hr
end
end L2
set_option Elab.async false
set_option linter.all false
set_option maxRecDepth 100000
namespace L2
open PySem PySem.Spec PyProof.Rows
namespace SF
theorem entry_iter : entryFor table "set.__iter__" = some Builtin.«frozenset.__iter__» := entryFor_alias (id' := "frozenset.__iter__") (by kernel_rfl) rfl (by decide +kernel) (by kernel_rfl)
theorem slot_next : Slot "set_iterator" "__next__" "set_iterator.__next__" :=
  .of (owner := "set_iterator") (n := "__next__") (by rw [typeLookup_type, builtinLookup_eq_fast]; kernel_rfl) (by decide +kernel) (by decide +kernel) (by decide +kernel) (by first | exact .inl (by decide +kernel) | exact .inr (by decide +kernel))
    (by rw [isSubtype_type]; kernel_rfl)
theorem entry_next : entryFor table "set_iterator.__next__" = some Builtin.«set_iterator.__next__» := entryFor_of_tree (by kernel_rfl)
theorem args_next (a : Value) : argsOk "set_iterator.__next__" ⟨[a], []⟩ := by unfold argsOk; kernel_rfl
theorem slot_iter_self : Slot "set_iterator" "__iter__" "set_iterator.__iter__" :=
  .of (owner := "set_iterator") (n := "__iter__") (by rw [typeLookup_type, builtinLookup_eq_fast]; kernel_rfl) (by decide +kernel) (by decide +kernel) (by decide +kernel) (by first | exact .inl (by decide +kernel) | exact .inr (by decide +kernel))
    (by rw [isSubtype_type]; kernel_rfl)
end SF
theorem erase_perm {α : Type} : ∀ (l : List α) (i : Nat) (h : i < l.length), (l[i] :: l.eraseIdx i).Perm l
  | x :: r, 0, _ => List.Perm.refl _
  | x :: r, i + 1, h => (List.Perm.swap _ _ _).trans (List.Perm.cons _ (erase_perm r i (Nat.lt_of_succ_lt_succ h)))
theorem pick_go {α : Type} (next : Nat -> Nat) : ∀ (fuel k : Nat) (left : List α) (out : Array α), left.length = fuel -> (pickOrder.go next fuel k left out).toList.Perm (out.toList ++ left)
  | 0, k, left, out, h => by
    rw [List.length_eq_zero_iff.mp h, List.append_nil]
    exact List.Perm.refl _
  | fuel + 1, k, left, out, h => by
    unfold pickOrder.go
    have hlt : next k % left.length < left.length := Nat.mod_lt _ (by omega)
    rw [List.getElem?_eq_getElem hlt]
    dsimp only
    refine (pick_go next fuel (k + 1) _ _ (by rw [List.length_eraseIdx_of_lt hlt]; omega)).trans ?_
    rw [Array.toList_push, List.append_assoc]
    refine List.Perm.append_left _ ?_
    exact erase_perm _ _ hlt
theorem pick_perm {α : Type} (next : Nat -> Nat) (xs : Array α) : (pickOrder next xs).toList.Perm xs.toList := by
  have q := pick_go next xs.size 0 xs.toList #[] (by simp)
  unfold pickOrder
  simpa using q
theorem wpAny_choose' {M : Model} {A : Around} {E : Value -> Shared -> Prop} {s : Shared} {src : Source} {n : Nat} {Q : Nat -> Shared -> Prop} (hn : n ≠ 0) (h : ∀ i d', i < n -> Q i { s with drawn := d' }) : wpAny M A (choose src n) Q E s :=
  fun _ _ _ => ⟨hn, h _ _ (Nat.mod_lt _ (Nat.pos_of_ne_zero hn))⟩
theorem draw_perm {M : Model} {A : Around} {E : Value -> Shared -> Prop} {α : Type} : ∀ (n : Nat) (xs : List α) (s : Shared) (Q : List α -> Shared -> Prop), xs.length = n -> (∀ ys d', ys.Perm xs -> Q ys { s with drawn := d' }) -> wpAny M A (drawOrder n xs) Q E s
  | 0, xs, s, Q, hl, h => by
    have e : xs = [] := List.length_eq_zero_iff.mp hl
    subst e
    unfold drawOrder
    exact wpAny_pure (h [] s.drawn (List.Perm.refl _))
  | n + 1, [], s, Q, hl, h => by cases hl
  | n + 1, x :: r, s, Q, hl, h => by
    unfold drawOrder
    refine wpAny_bind (wpAny_choose' (by simp) fun i d' hi => ?_)
    rw [List.getElem?_eq_getElem hi]
    dsimp only
    refine wpAny_bind (draw_perm n _ _ _ (by rw [List.length_eraseIdx_of_lt hi]; omega) fun ys d2 p => wpAny_pure ?_)
    exact h _ _ ((List.Perm.cons _ p).trans (erase_perm _ _ hi))
def IsSetIter (h : Heap) (I S : Addr) (first : Value) (i n ep : Nat) : Prop := ∃ o, h.get? I = some o /\ o.cls = .type "set_iterator" /\ o.data = .fields #[first, .int i 0, .ref S, .int n 0, .int ep 0]
theorem IsSetIter.typeIs {s : Shared} {I S : Addr} {first : Value} {i n ep : Nat} (x : IsSetIter s.heap I S first i n ep) : s.TypeIs (.ref I) "set_iterator" := let ⟨o, ho, hc, _⟩ := x; ⟨o, ho, hc⟩
def WalkBy (w : World) (es : Array (Int × Value)) (ep : Nat) (t : SetTable) (S T : Addr) (L : List Value) (h : Heap) (i : Nat) (first : Value) : Prop :=
  (byT w = true /\ (∃ z : Nat, first = .int z 0) /\ L = (pickOrder (w.params.setOrder S ep) es).toList.map (·.2)) \/
  (byT w = false /\ (t.plain = true \/ es.size <= 1) /\ (∃ z : Nat, first = .int z 0 /\ SetTable.below t.place z = i) /\ L = es.toList.map (·.2)) \/
  (byT w = false /\ first = .ref T /\ ∃ pl : List Nat, pl.Perm (List.range es.size) /\ (∃ o e, h.get? T = some o /\ o.data = .seq (pl.map fun p : Nat => Value.int (p : Int) 0).toArray e) /\ L = pl.map fun p => (es.getD p (0, .none)).2)
structure SetSt (w : World) (es : Array (Int × Value)) (ep : Nat) (t : SetTable) (S T I : Addr) (L : List Value) (i : Nat) (h : Heap) : Prop where
  set : ∃ o, h.get? S = some o /\ o.data = .set es ep t
  it : ∃ first, IsSetIter h I S first i es.size ep /\ WalkBy w es ep t S T L h i first
section
variable {P : Program} {w : World} {A : Around} {E : Value -> Shared -> Prop} {s : Shared} {es : Array (Int × Value)} {ep : Nat} {t : SetTable} {S T I : Addr} {L : List Value} {i : Nat}
theorem next_item (hf : t.fits es.size = true) (hk : TabOk t (!byT w)) (hL : L.length = es.size) (hTI : T ≠ I) (hSI : S ≠ I) (st : SetSt w es ep t S T I L i s.heap) (hi : i < es.size) {Q : Option Value -> Shared -> Prop}
    (h : ∀ h', Heap.SameBut I s.heap h' -> SetSt w es ep t S T I L (i + 1) h' -> Q (some (L.getD i .none)) { s with heap := h' }) : wpAny (model P w) A (pyNext (.ref I)) Q E s := by
  obtain ⟨⟨oS, hS, hSd⟩, first, hit, by_⟩ := st
  (refine Obt.ex1 (id hit) fun o h_0 => Obt.and3 h_0 fun ho hc hd => ?_; clear h_0)
  have hLi : L.getD i .none = L[i]'(by omega) := by simp [List.getD, hL, hi]
  unfold pyNext
  refine wpAny_bind (wpAny_attempt (wpAny_callSpecial?_slot (name := Str.ofString "__next__") hit.typeIs SF.slot_next (wpAny_call_entry SF.slot_next hit.typeIs SF.entry_next ?_ (SF.args_next _))))
  unfold Builtin.«set_iterator.__next__»
  refine wpAny_bind (m := slotArgs "__next__" 0 _) (wpAny_pure ?_)
  refine wpAny_bind (wpAny_fieldsOf ho hd ?_)
  dsimp only
  unfold setEntries
  refine wpAny_bind (wpAny_bind (wpAny_setState_of hS hSd hf (wpAny_pure ?_)))
  rw [if_neg (by simp)]
  have upI : ∀ (f : Array Value -> Array Value), (s.heap.update I (Obj.mapFields f)).get? I = some (Obj.mapFields f o) := fun f => Heap.get?_update_self _ ho (Obj.isFreed_of_fields (Obj.data_mapFields hd _))
  have other : ∀ (f : Array Value -> Array Value) b, b ≠ I -> (s.heap.update I (Obj.mapFields f)).get? b = s.heap.get? b := fun f b hb => Heap.get?_update_other _ _ (Ne.symm hb)
  have put1 : ∀ (h1 : Heap) (fi : Value), IsSetIter h1 I S fi i es.size ep -> IsSetIter (h1.update I (Obj.mapFields (·.setIfInBounds 1 (rawInt ((i : Int) + 1))))) I S fi (i + 1) es.size ep := by
    (refine fun h1 fi i_0 => Obt.ex1 i_0 fun o1 h_1 => Obt.and3 h_1 fun ho1 hc1 hd1 => ?_; clear h_1 i_0)
    exact ⟨_, Heap.get?_update_self _ ho1 (Obj.isFreed_of_fields (Obj.data_mapFields hd1 _)), (Obj.cls_mapFields ..).trans hc1, by rw [Obj.data_mapFields hd1]; simp [rawInt]⟩
  have put0 : ∀ (h1 : Heap) (fi : Value) (nx : Nat), IsSetIter h1 I S fi i es.size ep -> IsSetIter (h1.update I (Obj.mapFields (·.setIfInBounds 0 (rawInt nx)))) I S (.int nx 0) i es.size ep := by
    (refine fun h1 fi nx i_0 => Obt.ex1 i_0 fun o1 h_1 => Obt.and3 h_1 fun ho1 hc1 hd1 => ?_; clear h_1 i_0)
    exact ⟨_, Heap.get?_update_self _ ho1 (Obj.isFreed_of_fields (Obj.data_mapFields hd1 _)), (Obj.cls_mapFields ..).trans hc1, by rw [Obj.data_mapFields hd1]; simp [rawInt]⟩
  have keepS : ∀ h1, Heap.SameBut I s.heap h1 -> ∃ o, h1.get? S = some o /\ o.data = .set es ep t := fun h1 sb => ⟨oS, (sb.2 S hSI).trans hS, hSd⟩
  rcases by_ with ⟨bt, ⟨z, rfl⟩, eL⟩ | ⟨bt, pl, ⟨z, rfl, hz⟩, eL⟩ | ⟨bt, rfl, pl, pp, ⟨oT, eT, hT, hTd⟩, eL⟩
  · have px := pick_perm (w.params.setOrder S ep) es
    have hx : i < (pickOrder (w.params.setOrder S ep) es).size := by rw [<- Array.length_toList, px.length_eq, Array.length_toList]; exact hi
    refine wpAny_bind ?_
    unfold setNext
    refine wpAny_bind (wpAny_setState_of hS hSd hf ?_)
    unfold setsByText
    refine wpAny_bind (wpAny_bind (wpAny_askSetting (wpAny_pure ?_)))
    rw [if_pos (show (model P w).w.params.followText "set-order" = true from bt), if_neg (by simp)]
    unfold setWalk setsByText
    refine wpAny_bind (wpAny_bind (wpAny_setState_of hS hSd hf ?_))
    refine wpAny_bind (wpAny_bind (wpAny_askSetting (wpAny_pure ?_)))
    rw [if_pos (show (model P w).w.params.followText "set-order" = true from bt)]
    refine wpAny_bind (wpAny_askSetting (wpAny_pure (wpAny_pure ?_)))
    have ex : (pickOrder ((model P w).w.params.setOrder S ep) es)[((i : Nat) : Int).toNat]? = some (pickOrder (w.params.setOrder S ep) es)[i] := by
      rw [Int.toNat_natCast]
      exact Array.getElem?_eq_getElem hx
    rw [ex]
    dsimp only [Option.map]
    refine wpAny_bind (wpAny_setField ho hd (by simp) ?_)
    (refine Obt.ex1 (put0 _ _ z hit) fun o1 h_0 => Obt.and3 h_0 fun ho1 hc1 hd1 => ?_; clear h_0)
    rw [show ((z : Nat) : Int).toNat = z from Int.toNat_natCast z]
    refine wpAny_bind (wpAny_setField ho1 hd1 (by simp) (wpAny_pure ⟨_, rfl, wpAny_pure ?_⟩))
    have sb : Heap.SameBut I s.heap ((s.heap.update I (Obj.mapFields (·.setIfInBounds 0 (rawInt z)))).update I (Obj.mapFields (·.setIfInBounds 1 (rawInt ((i : Int) + 1))))) := (Heap.SameBut.update ..).trans (Heap.SameBut.update ..)
    have q := h _ sb ⟨keepS _ sb, _, put1 _ _ (put0 _ _ z hit), .inl ⟨bt, ⟨z, rfl⟩, eL⟩⟩
    rw [hLi] at q
    have eLi : L[i]'(by omega) = (pickOrder (w.params.setOrder S ep) es)[i].2 := by simp [eL]
    rw [eLi] at q
    exact q
  · have hpz : t.place.size = es.size := by
      simp only [SetTable.fits, Bool.and_eq_true, beq_iff_eq, decide_eq_true_eq] at hf
      exact hf.1
    have hip : i < t.place.size := by omega
    refine wpAny_bind ?_
    unfold setNext
    refine wpAny_bind (wpAny_setState_of hS hSd hf ?_)
    unfold setsByText
    refine wpAny_bind (wpAny_bind (wpAny_askSetting (wpAny_pure ?_)))
    rw [if_neg (show ¬ ((model P w).w.params.followText "set-order" = true) from by rw [show (model P w).w.params.followText "set-order" = false from bt]; exact Bool.false_ne_true)]
    show wpAny _ _ (if (!t.plain && decide (es.size > 1)) = true then _ else _) _ _ _
    rw [if_neg (by
      rcases pl with q | q
      · rw [q]; simp
      · simp; omega)]
    show wpAny _ _ ((if (!t.led && !es.isEmpty) = true then _ else pure ()) >>= _) _ _ _
    rw [if_neg (by rw [hk.led, bt]; simp)]
    refine wpAny_bind (wpAny_pure (wpAny_pure ?_))
    rw [Int.toNat_natCast, hz, Array.getElem?_eq_getElem hi, Array.getElem?_eq_getElem hip]
    dsimp only
    refine wpAny_bind (wpAny_setField ho hd (by simp) ?_)
    (refine Obt.ex1 (put0 _ _ (t.place[i] + 1) hit) fun o1 h_0 => Obt.and3 h_0 fun ho1 hc1 hd1 => ?_; clear h_0)
    refine wpAny_bind (wpAny_setField ho1 hd1 (by simp) (wpAny_pure ⟨_, rfl, wpAny_pure ?_⟩))
    have sb : Heap.SameBut I s.heap ((s.heap.update I (Obj.mapFields (·.setIfInBounds 0 (rawInt (t.place[i] + 1 : Nat))))).update I (Obj.mapFields (·.setIfInBounds 1 (rawInt ((i : Int) + 1))))) := (Heap.SameBut.update ..).trans (Heap.SameBut.update ..)
    have q := h _ sb ⟨keepS _ sb, _, put1 _ _ (put0 _ _ (t.place[i] + 1) hit), .inr (.inl ⟨bt, pl, ⟨_, rfl, below_next hk.rise hip⟩, eL⟩)⟩
    rw [hLi] at q
    have eLi : L[i]'(by omega) = es[i].2 := by simp [eL]
    rw [eLi] at q
    exact q
  · have lpl : pl.length = es.size := by rw [pp.length_eq, List.length_range]
    have hpl : pl[i]'(by omega) < es.size := List.mem_range.mp (pp.mem_iff.mp (List.getElem_mem _))
    show wpAny _ _ (seqItems? (.ref T) >>= _) _ _ _
    unfold seqItems?
    refine wpAny_bind (wpAny_bind (wpAny_load hT ?_))
    rw [hTd]
    refine wpAny_pure ?_
    dsimp only
    have ep1 : (pl.map fun p : Nat => Value.int (p : Int) 0).toArray[((i : Nat) : Int).toNat]? = some (Value.int ((pl[i]'(by omega) : Nat) : Int) 0) := by
      rw [Int.toNat_natCast]
      simp [lpl, hi]
    rw [ep1]
    dsimp only
    unfold setNextDrawn
    refine wpAny_bind (wpAny_bind (wpAny_setState_of hS hSd hf ?_))
    dsimp only
    rw [if_neg (by simp), Int.toNat_natCast, Array.getElem?_eq_getElem hpl]
    dsimp only
    refine wpAny_pure (wpAny_bind (wpAny_setField ho hd (by simp) (wpAny_pure ⟨_, rfl, wpAny_pure ?_⟩)))
    have sb : Heap.SameBut I s.heap (s.heap.update I (Obj.mapFields (·.setIfInBounds 1 (rawInt ((i : Int) + 1))))) := Heap.SameBut.update ..
    have q := h _ sb ⟨keepS _ sb, _, put1 _ _ hit, .inr (.inr ⟨bt, rfl, pl, pp, ⟨oT, eT, (sb.2 T hTI).trans hT, hTd⟩, eL⟩)⟩
    rw [hLi] at q
    have eLi : L[i]'(by omega) = es[pl[i]'(by omega)].2 := by simp [eL, Array.getD, hpl]
    rw [eLi] at q
    exact q
theorem next_end (hh : A.handled = none) (hf : t.fits es.size = true) (hk : TabOk t (!byT w)) (hSI : S ≠ I) (st : SetSt w es ep t S T I L es.size s.heap) {Q : Option Value -> Shared -> Prop}
    (h : ∀ h', Heap.ExtBut I s.heap h' -> Q none { s with heap := h' }) : wpAny (model P w) A (pyNext (.ref I)) Q E s := by
  obtain ⟨⟨oS, hS, hSd⟩, first, hit, by_⟩ := st
  (refine Obt.ex1 (id hit) fun o h_0 => Obt.and3 h_0 fun ho hc hd => ?_; clear h_0)
  unfold pyNext
  refine wpAny_bind (wpAny_attempt (wpAny_callSpecial?_slot (name := Str.ofString "__next__") hit.typeIs SF.slot_next (wpAny_call_entry SF.slot_next hit.typeIs SF.entry_next ?_ (SF.args_next _))))
  unfold Builtin.«set_iterator.__next__»
  refine wpAny_bind (m := slotArgs "__next__" 0 _) (wpAny_pure ?_)
  refine wpAny_bind (wpAny_fieldsOf ho hd ?_)
  dsimp only
  unfold setEntries
  refine wpAny_bind (wpAny_bind (wpAny_setState_of hS hSd hf (wpAny_pure ?_)))
  rw [if_neg (by simp)]
  have stop : ∀ h1, Heap.ExtBut I s.heap h1 -> wpAny (model P w) A.in1 (do let e <- newExc (.type "StopIteration") []; raiseNew e : Sem Fin) (fun fin s' => ∃ v, fin = Fin.done (Flow.ret v) /\ wpAny (model P w) A (pure (some v)) Q E s')
      (fun e s' => wpAny (model P w) A (do if <- isInstance e (.type "StopIteration") then pure none else throw e) Q E s') { s with heap := h1 } := by
    intro h1 e1
    refine wpAny_bind ?_
    simp only [newExc, newTuple]
    refine wpAny_bind (wpAny_newObj_type ?_ (by size_fits))
    refine wpAny_bind (m := firstArgMember _ _) (wpAny_of_eq (a := Value.none) (by first | rfl | (simp only [firstArgMember]; rfl)) ?_)
    refine wpAny_newObj_type ?_ (by size_fits)
    simp only [raiseNew]
    refine wpAny_bind (wpAny_handled ?_)
    rw [show A.in1.handled = none from hh]
    refine wpAny_bind (wpAny_pure (wpAny_throw ?_))
    refine wpAny_bind (wpAny_isInstance (T := "StopIteration") (b := true) ⟨_, Heap.get?_push_size _ rfl, rfl⟩ isSubtype_stop ?_)
    exact wpAny_pure (h _ ((e1.push _).push _))
  rcases by_ with ⟨bt, ⟨z, rfl⟩, eL⟩ | ⟨bt, pl, ⟨z, rfl, hz⟩, eL⟩ | ⟨bt, rfl, pl, pp, ⟨oT, eT, hT, hTd⟩, eL⟩
  · have px := pick_perm (w.params.setOrder S ep) es
    have hx : (pickOrder (w.params.setOrder S ep) es).size = es.size := by rw [<- Array.length_toList, px.length_eq, Array.length_toList]
    refine wpAny_bind ?_
    unfold setNext
    refine wpAny_bind (wpAny_setState_of hS hSd hf ?_)
    unfold setsByText
    refine wpAny_bind (wpAny_bind (wpAny_askSetting (wpAny_pure ?_)))
    rw [if_pos (show (model P w).w.params.followText "set-order" = true from bt), if_neg (by simp)]
    unfold setWalk setsByText
    refine wpAny_bind (wpAny_bind (wpAny_setState_of hS hSd hf ?_))
    refine wpAny_bind (wpAny_bind (wpAny_askSetting (wpAny_pure ?_)))
    rw [if_pos (show (model P w).w.params.followText "set-order" = true from bt)]
    refine wpAny_bind (wpAny_askSetting (wpAny_pure (wpAny_pure ?_)))
    have ex : (pickOrder ((model P w).w.params.setOrder S ep) es)[((es.size : Nat) : Int).toNat]? = none := by
      rw [Int.toNat_natCast]
      exact Array.getElem?_eq_none (Nat.le_of_eq hx)
    rw [ex]
    dsimp only [Option.map]
    refine wpAny_bind (wpAny_setField ho hd (by simp) ?_)
    exact stop _ (Heap.SameBut.update ..).extBut
  · have hpz : t.place.size = es.size := by
      simp only [SetTable.fits, Bool.and_eq_true, beq_iff_eq, decide_eq_true_eq] at hf
      exact hf.1
    refine wpAny_bind ?_
    unfold setNext
    refine wpAny_bind (wpAny_setState_of hS hSd hf ?_)
    unfold setsByText
    refine wpAny_bind (wpAny_bind (wpAny_askSetting (wpAny_pure ?_)))
    rw [if_neg (show ¬ ((model P w).w.params.followText "set-order" = true) from by rw [show (model P w).w.params.followText "set-order" = false from bt]; exact Bool.false_ne_true)]
    show wpAny _ _ (if (!t.plain && decide (es.size > 1)) = true then _ else _) _ _ _
    rw [if_neg (by
      rcases pl with q | q
      · rw [q]; simp
      · simp; omega)]
    show wpAny _ _ ((if (!t.led && !es.isEmpty) = true then _ else pure ()) >>= _) _ _ _
    rw [if_neg (by rw [hk.led, bt]; simp)]
    refine wpAny_bind (wpAny_pure (wpAny_pure ?_))
    rw [Int.toNat_natCast, hz, Array.getElem?_eq_none (Nat.le_refl _)]
    dsimp only
    refine wpAny_bind (wpAny_setField ho hd (by simp) ?_)
    exact stop _ (Heap.SameBut.update ..).extBut
  · have lpl : pl.length = es.size := by rw [pp.length_eq, List.length_range]
    show wpAny _ _ (seqItems? (.ref T) >>= _) _ _ _
    unfold seqItems?
    refine wpAny_bind (wpAny_bind (wpAny_load hT ?_))
    rw [hTd]
    refine wpAny_pure ?_
    dsimp only
    have ep1 : (pl.map fun p : Nat => Value.int (p : Int) 0).toArray[((es.size : Nat) : Int).toNat]? = none := by
      rw [Int.toNat_natCast]
      simp [lpl]
    rw [ep1]
    dsimp only
    refine wpAny_bind (wpAny_setField ho hd (by simp) ?_)
    have hd0 := Obj.data_mapFields hd (·.setIfInBounds 0 (rawInt 0))
    refine wpAny_bind (wpAny_setField (Heap.get?_update_self _ ho (Obj.isFreed_of_fields hd0)) hd0 (by simp) ?_)
    exact stop _ ((Heap.SameBut.update ..).trans (Heap.SameBut.update ..)).extBut
end
end L2
set_option Elab.async false
set_option linter.all false
set_option maxRecDepth 100000
namespace L2
open PySem PySem.Spec PyProof.Rows
namespace SF
theorem entry_iter_self : entryFor table "set_iterator.__iter__" = some Builtin.«dict_keyiterator.__iter__» := entryFor_alias (id' := "dict_keyiterator.__iter__") (by kernel_rfl) rfl (by decide +kernel) (by kernel_rfl)
theorem args_iter_self (a : Value) : argsOk "set_iterator.__iter__" ⟨[a], []⟩ := by unfold argsOk; kernel_rfl
end SF
section
variable {P : Program} {w : World} {A : Around} {E : Value -> Shared -> Prop} {s : Shared} {es : Array (Int × Value)} {ep : Nat} {t : SetTable} {S T I : Addr} {L : List Value}
theorem walkW (hh : A.handled = none) (hf : t.fits es.size = true) (hk : TabOk t (!byT w)) (hL : L.length = es.size) (hTI : T ≠ I) (hSI : S ≠ I) :
    WalksS P w A I [I, S, T] [I] (fun a b => b = a) es.size (fun i v => v = L.getD i .none) (fun i s => SetSt w es ep t S T I L i s.heap) where
  sub := fun b hb => by simp at hb; simp [hb]
  grefl := fun _ => rfl
  gtrans := fun _ _ _ h1 h2 => h2.trans h1
  frame := fun i s h' tk st _ k => by
    obtain ⟨⟨oS, hS, hSd⟩, first, ⟨o, ho, r⟩, by_⟩ := st
    refine ⟨⟨oS, k S (by simp) _ hS, hSd⟩, first, ⟨o, k I (by simp) _ ho, r⟩, ?_⟩
    rcases by_ with z | z | ⟨b, e, pl, pp, ⟨oT, eT, hT, hTd⟩, eL⟩
    · exact .inl z
    · exact .inr (.inl z)
    · exact .inr (.inr ⟨b, e, pl, pp, ⟨oT, eT, k T (by simp) _ hT, hTd⟩, eL⟩)
  item := fun i s Q E hi st hQ => next_item hf hk hL hTI hSI st hi fun h' sb st' => hQ _ _ rfl st' ⟨fun b o hb e => (sb.2 b fun z => hb (by simp [z])).trans e, rfl, rfl, rfl, Nat.le_refl _⟩
  done := fun s Q E st hQ => next_end hh hf hk hSI st fun h' eb => hQ _ ⟨fun b o hb e => eb b o (fun z => hb (by simp [z])) e, rfl, rfl, rfl, Nat.le_refl _⟩
  self := fun i s Q E st hQ => by
    obtain ⟨_, first, hit, _⟩ := st
    refine wpAny_pyIter_slot hit.typeIs SF.slot_iter_self (wpAny_call_entry SF.slot_iter_self hit.typeIs SF.entry_iter_self ?_ (SF.args_iter_self _))
    show wpAny _ _ (ret (.ref I)) _ _ s
    exact wpAny_pure ⟨_, rfl, "set_iterator", _, hit.typeIs, SF.slot_next.lookup, hQ⟩
theorem iterW {o : Obj} {Q : Value -> Shared -> Prop} (ho : s.heap.get? S = some o) (hex : o.ExactSet) (hd : o.data = .set es ep t) (hb : es.size < scanBound) (hf : t.fits es.size = true) (hk : TabOk t (!byT w))
    (h : ∀ (h' : Heap) (d' : Drawn) (I T : Addr) (L : List Value), L.Perm (es.toList.map (·.2)) -> SetSt w es ep t S T I L 0 h' -> (∀ b u, s.heap.get? b = some u -> h'.get? b = some u) -> s.heap.objs.size <= I -> I < h'.objs.size -> T ≠ I -> (T = S \/ s.heap.objs.size <= T) -> Q (.ref I) { s with heap := h', drawn := d' }) :
    wpAny (model P w) A (pyIter (.ref S)) Q E s := by
  have hT : s.TypeIs (.ref S) "set" := ⟨o, ho, hex.1⟩
  have hSl : S < s.heap.objs.size := Heap.lt_size ho
  refine wpAny_pyIter_slot hT F.slot_set_iter (wpAny_call_entry F.slot_set_iter hT SF.entry_iter ?_ (F.args_set_iter_1 _))
  unfold Builtin.«frozenset.__iter__» Builtin.Frozenset.slot0 Builtin.Frozenset.sizeOf setEntries
  refine wpAny_bind (wpAny_bind (m := slotArgs "__iter__" 0 _) (wpAny_pure (wpAny_pure ?_)))
  refine wpAny_bind (wpAny_bind (wpAny_bind (wpAny_setState_of ho hd hf (wpAny_pure (wpAny_pure ?_)))))
  refine wpAny_bind ?_
  unfold setDrawn setsByText
  refine wpAny_bind (wpAny_setState_of ho hd hf ?_)
  refine wpAny_bind (wpAny_bind (wpAny_askSetting (wpAny_pure (wpAny_pure ?_))))
  show wpAny _ _ (if (!byT w && (!t.plain && decide (es.size > 1))) = true then _ else _) _ _ _
  by_cases c : (!byT w && (!t.plain && decide (es.size > 1))) = true
  · rw [if_pos c]
    have bt : byT w = false := by
      cases b : byT w with
      | false => rfl
      | true => rw [b] at c; simp at c
    refine wpAny_bind (draw_perm _ _ _ _ (by simp) fun pl d' pp => wpAny_bind ?_)
    have lpl0 : pl.length = es.size := by rw [pp.length_eq, List.length_range]
    refine wpAny_newTuple (hsz := by rw [List.length_map, lpl0]; exact fits_of_scanBound hb) ?_
    have lpl : pl.length = es.size := by rw [pp.length_eq, List.length_range]
    have ho1 : (s.heap.push (seqObj "tuple" (pl.map fun i : Nat => rawInt i).toArray 0)).get? S = some o := Heap.get?_push_of_some _ ho
    unfold setEpoch
    refine wpAny_bind (wpAny_bind (wpAny_setState_of (s := { s with heap := s.heap.push (seqObj "tuple" (pl.map fun i : Nat => rawInt i).toArray 0), drawn := d' }) ho1 hd hf (wpAny_pure ?_)))
    unfold newFields
    refine wpAny_bind (wpAny_newObj_type (wpAny_pure ⟨_, rfl, "set_iterator", _, ⟨_, Heap.get?_push_size _ rfl, rfl⟩, SF.slot_next.lookup, ?_⟩) (by size_fits))
    refine h _ d' _ s.heap.objs.size (pl.map fun p => (es.getD p (0, .none)).2) ?_ ⟨⟨o, Heap.get?_push_of_some _ ho1, hd⟩, _, ⟨_, Heap.get?_push_size _ rfl, rfl, rfl⟩, .inr (.inr ⟨bt, rfl, pl, pp, ⟨_, 0, Heap.get?_push_of_some _ (Heap.get?_push_size _ rfl), rfl⟩, rfl⟩)⟩
      (fun b u q => Heap.get?_push_of_some _ (Heap.get?_push_of_some _ q)) ?_ ?_ ?_ ?_
    · refine (pp.map _).trans ?_
      rw [show (List.range es.size).map (fun p => (es.getD p (0, .none)).2) = es.toList.map (·.2) from by
        refine List.ext_getElem (by simp) fun i h1 h2 => ?_
        have hi : i < es.size := by simpa using h1
        simp [Array.getD, hi]]
    · rw [Heap.size_push]; exact Nat.le_succ _
    · exact Heap.lt_size (Heap.get?_push_size _ rfl)
    · rw [Heap.size_push]; exact Nat.ne_of_lt (Nat.lt_succ_self _)
    · exact .inr (Nat.le_refl _)
  · rw [if_neg c]
    refine wpAny_bind (wpAny_pure ?_)
    unfold setEpoch
    refine wpAny_bind (wpAny_bind (wpAny_setState_of ho hd hf (wpAny_pure ?_)))
    unfold newFields
    refine wpAny_bind (wpAny_newObj_type (wpAny_pure ⟨_, rfl, "set_iterator", _, ⟨_, Heap.get?_push_size _ rfl, rfl⟩, SF.slot_next.lookup, ?_⟩) (by size_fits))
    cases bt : byT w with
    | true =>
      refine h _ s.drawn _ S ((pickOrder (w.params.setOrder S ep) es).toList.map (·.2)) ((pick_perm _ es).map _) ⟨⟨o, Heap.get?_push_of_some _ ho, hd⟩, _, ⟨_, Heap.get?_push_size _ rfl, rfl, rfl⟩, .inl ⟨bt, ⟨0, rfl⟩, rfl⟩⟩
        (fun b u q => Heap.get?_push_of_some _ q) (Nat.le_refl _) ?_ (Nat.ne_of_lt hSl) ?_
      · rw [Heap.size_push]; exact Nat.lt_succ_self _
      · exact .inl rfl
    | false =>
      rw [bt] at c
      have pl : t.plain = true \/ es.size <= 1 := by
        cases q : t.plain with
        | true => exact .inl rfl
        | false =>
          rw [q] at c
          simp at c
          exact .inr c
      refine h _ s.drawn _ S (es.toList.map (·.2)) (List.Perm.refl _) ⟨⟨o, Heap.get?_push_of_some _ ho, hd⟩, _, ⟨_, Heap.get?_push_size _ rfl, rfl, rfl⟩, .inr (.inl ⟨bt, pl, ⟨0, rfl, below_zero hk.rise⟩, rfl⟩)⟩
        (fun b u q => Heap.get?_push_of_some _ q) (Nat.le_refl _) ?_ (Nat.ne_of_lt hSl) ?_
      · rw [Heap.size_push]; exact Nat.lt_succ_self _
      · exact .inl rfl
end
end L2
set_option Elab.async false
set_option linter.all false
set_option maxRecDepth 100000
namespace L2
open PySem PySem.Spec PyProof.Rows
section
variable {P : Program} {w : World} {A : Around} {E : Value -> Shared -> Prop} {s : Shared} {S : Addr} {ns : List Int}
theorem collectW {Q : List Value -> Shared -> Prop} (hh : A.handled = none) (hS : SetW P w s.heap S ns)
    (hQ : ∀ (vs : List Value) (ms : List Int) (h' : Heap) (d' : Drawn) (tk : Nat), IntsAre vs ms -> ms.Perm ns -> (∀ b u, s.heap.get? b = some u -> h'.get? b = some u) -> s.heap.objs.size <= h'.objs.size -> Q vs { s with heap := h', drawn := d', toks := tk }) :
    wpAny (model P w) A (collect (.ref S)) Q E s := by
  (refine Obt.ex4 hS fun o es ep t h_0 => Obt.and9 h_0 fun ho hex hd hel hi hp hb hf hk => ?_; clear h_0 hS)
  have hSl : S < s.heap.objs.size := Heap.lt_size ho
  unfold collect
  refine wpAny_bind (wpAny_runValue (codeAny_builtin F.entry_proto_collect ?_))
  rw [Around.under_plainId F.plain_proto_collect _]
  show wpAny _ A.in1 (newList [] >>= fun l => again (.builtin "list.__iadd__" ⟨[l, .ref S], []⟩)) _ _ s
  refine wpAny_bind (wpAny_newObj_type ?_)
  refine wpAny_pure ⟨plainId_quiet F.plain_list_iadd _, codeAny_builtin F.entry_list_iadd ?_⟩
  rw [Around.under_plainId F.plain_list_iadd _]
  generalize hN : ({ cls := .type "list", data := .seq ([] : List Value).toArray } : Obj) = oN
  have ho1 : (s.heap.push oN).get? S = some o := Heap.get?_push_of_some _ ho
  have hN1 : (s.heap.push oN).get? s.heap.objs.size = some oN := Heap.get?_push_size _ (by rw [<- hN]; rfl)
  have ne : s.heap.objs.size ≠ S := Nat.ne_of_gt hSl
  have hT : (⟨s.heap.push oN, s.gens, s.drawn, s.toks, s.os⟩ : Shared).TypeIs (.ref S) "set" := ⟨o, ho1, hex.1⟩
  show wpAny _ A.in1 (Builtin.List.listExtendWith (.ref s.heap.objs.size) (.ref S) (.ref s.heap.objs.size)) _ _ ⟨s.heap.push oN, s.gens, s.drawn, s.toks, s.os⟩
  unfold Builtin.List.listExtendWith
  refine wpAny_bind (wpAny_typeOf hT ?_)
  rw [if_neg (by
    have h1 : Builtin.List.listSameRef (.ref s.heap.objs.size) (.ref S) = false := by simp [Builtin.List.listSameRef, ne]
    rw [h1]
    decide)]
  refine wpAny_bind (iterW ho1 hex hd hb hf hk fun h1 d1 I T L pL st keep hI1 hI2 hTI hT2 => ?_)
  have ho2 : h1.get? S = some o := keep S o ho1
  have hT2' : (⟨h1, s.gens, d1, s.toks, s.os⟩ : Shared).TypeIs (.ref S) "set" := ⟨o, ho2, hex.1⟩
  refine wpAny_bind (wpAny_holding ?_)
  unfold Builtin.List.listLengthHint
  refine wpAny_bind (wpAny_specialOf hT2' F.slot_set_len.lookup ?_)
  (generalize hid : ("set.__len__" : String) = id0; wp_delta; rw [show splitId id0 = some ("set", "__len__") from by subst hid; decide +kernel]; subst hid)
  refine wpAny_bind (wpAny_isInstance (b := true) hT2' sub_set_self ?_)
  show wpAny _ _ (typeOf (.ref S) >>= _) _ _ _
  refine wpAny_bind (wpAny_typeOf hT2' (wpAny_pure ?_))
  show wpAny _ A.in1 (rule "list.extend.makes-room" >>= fun _ => Builtin.List.listTouch (.ref s.heap.objs.size) >>= fun _ =>
    again (.builtin "list.extend.loop" ⟨[.ref s.heap.objs.size, .ref I, .ref s.heap.objs.size], []⟩)) _ _ _
  refine wpAny_bind (wpAny_rule ?_)
  have hN2 : h1.get? s.heap.objs.size = some { cls := .type "list", data := .seq ([] : List Value).toArray } := by rw [hN]; exact keep _ _ hN1
  refine wpAny_bind ?_
  show wpAny _ A.in1 (updateSeq s.heap.objs.size (·.push .none) >>= fun _ => updateSeq s.heap.objs.size (·.pop)) _ _ _
  refine wpAny_bind (wpAny_updateSeq hN2 rfl ?_)
  have hN3 := Heap.get?_update_self (Obj.mapSeq (·.push Value.none)) hN2 rfl
  refine wpAny_updateSeq hN3 rfl ?_
  have hN4 := Heap.get?_update_self (Obj.mapSeq (·.pop)) hN3 rfl
  have oth : ∀ b u, b ≠ s.heap.objs.size -> h1.get? b = some u -> ((h1.update s.heap.objs.size (Obj.mapSeq (·.push Value.none))).update s.heap.objs.size (Obj.mapSeq (·.pop))).get? b = some u :=
    fun b u hb q => (Heap.get?_update_other _ _ (Ne.symm hb)).trans ((Heap.get?_update_other _ _ (Ne.symm hb)).trans q)
  have lL : L.length = es.size := by rw [pL.length_eq, List.length_map, Array.length_toList]
  have nI : s.heap.objs.size ≠ I := by
    rw [Heap.size_push] at hI1
    exact Nat.ne_of_lt hI1
  have nT : s.heap.objs.size ≠ T := by
    rcases hT2 with z | z
    · rw [z]; exact ne
    · rw [Heap.size_push] at z
      exact Nat.ne_of_lt z
  have SI : S ≠ I := by
    rw [Heap.size_push] at hI1
    exact Nat.ne_of_lt (Nat.lt_of_lt_of_le hSl (Nat.le_trans (Nat.le_succ _) hI1))
  have W : WalksS P w A.in1 I [I, S, T] [I] (fun a b => b = a) es.size (fun i v => v = L.getD i .none) (fun i s => SetSt w es ep t S T I L i s.heap) := walkW (A := A.in1) (by simp [hh]) hf hk lL hTI SI
  have nfp : s.heap.objs.size ∉ [I, S, T] := by
    simp only [List.mem_cons, List.not_mem_nil, or_false, not_or]
    exact ⟨nI, ne, nT⟩
  refine wpAny_pure ⟨plainId_quiet F.plain_extend_loop _, codeAny_extend_loopS W (fits_of_scanBound hb) _ nfp _ es.size 0 _ _ _ rfl (Nat.zero_le _)
    (W.frame 0 ⟨h1, s.gens, d1, s.toks, s.os⟩ _ s.toks st (Nat.le_refl _) fun b hb' u q => oth b u (fun z => nfp (z ▸ hb')) q) hN4 (ItemsOf.nil _) fun s' acc' c' hm hS' hacc => ?_⟩
  show wpAny _ A (load s.heap.objs.size >>= _) _ _ s'
  refine wpAny_bind (wpAny_load hS' (wpAny_pure ?_))
  obtain ⟨h', g', d', tk', os'⟩ := s'
  have eg : g' = s.gens := hm.gens
  have eo : os' = s.os := hm.os
  subst eg eo
  have eacc : acc'.toList = L := by
    refine List.ext_getElem (by rw [Array.length_toList, hacc.1, lL]) fun i h1' h2' => ?_
    have := hacc.2 i acc'[i] (by simp at h1'; simp [h1'])
    simp [this, h2']
  rw [eacc]
  have allI : ∀ vs : List Value, (∀ v ∈ vs, ∃ n u, v = Value.int n u) -> IntsAre vs (vs.map valI) := by
    intro vs
    induction vs with
    | nil => intro _; exact .nil
    | cons v r ih =>
      intro al
      (refine Obt.ex2 (al v List.mem_cons_self) fun n u e_0 => ?_; subst e_0)
      exact .cons n u (ih fun x hx => al x (List.mem_cons_of_mem _ hx))
  refine hQ L (L.map valI) h' d' tk' (allI L fun v hv => ?_) ?_ (fun b u q => ?_) (Nat.le_of_lt (Heap.lt_size hS'))
  · (refine Obt.ex1 (List.mem_map.mp (pL.mem_iff.mp hv)) fun e h_0 => Obt.and2 h_0 fun he e_1 => ?_; subst e_1; clear h_0)
    exact hi e he
  · refine (pL.map _).trans ?_
    rw [List.map_map]
    exact hp
  · have hbn : b ≠ s.heap.objs.size := Nat.ne_of_lt (Heap.lt_size q)
    refine hm.heap b u ?_ (oth b u hbn (keep b u (Heap.get?_push_of_some _ q)))
    simp only [List.mem_cons, List.not_mem_nil, or_false, not_or]
    refine ⟨hbn, Nat.ne_of_lt (Nat.lt_of_lt_of_le (Heap.lt_size q) ?_)⟩
    rw [Heap.size_push] at hI1
    exact Nat.le_trans (Nat.le_succ _) hI1
theorem sortedW {Q : Value -> Shared -> Prop} (hh : A.handled = none) (hS : SetW P w s.heap S ns) (h64 : ns.length < 64)
    (h : ∀ (l : Addr) (out : List Value) (ms : List Int) (e : Nat) (h' : Heap) (d' : Drawn) (tk : Nat), IntsAre out ms -> ms.Perm ns -> ms.Pairwise (· <= ·) -> s.heap.objs.size <= l -> h'.get? l = some (seqObj "list" out.toArray e) -> (∀ b u, s.heap.get? b = some u -> h'.get? b = some u) ->
      Q (.ref l) { s with heap := h', drawn := d', toks := tk }) : wpAny (model P w) A (call (.builtin "sorted") [.ref S]) Q E s := by
  refine Calls.call_function_entry kind_sorted plain_sorted entry_sorted (args_sorted1 _) ?_
  unfold Builtin.«sorted»
  refine wpAny_bind (m := checkCount "sorted" 1 1 _) (wpAny_pure ?_)
  refine wpAny_bind (collectW (by simp [hh]) hS fun vs ms h1 d1 tk1 hI hp keep hsz1 => ?_)
  have l64 : vs.length < 64 := by
    have e1 : vs.length = ms.length := hI.length
    have e2 := hp.length_eq
    omega
  refine wpAny_bind (wpAny_newList (hsz := Nat.le_trans (Nat.le_of_lt l64) (by decide)) ?_)
  have hoL : (h1.push (seqObj "list" vs.toArray 0)).get? h1.objs.size = some (seqObj "list" vs.toArray 0) := Heap.get?_push_size _ rfl
  refine wpAny_bind (wpAny_holding (wpAny_call_entry slot_list_sort ⟨_, hoL, rfl⟩ entry_list_sort (list_sort_tree hoL hI l64 fun out ns' a1 a2 a3 => ⟨_, rfl, ?_⟩) (args_list_sort _)))
  (refine Obt.ex1 (sortedHeap_at (vs := vs) (out := out) hoL) fun e he => ?_)
  refine wpAny_pure ⟨_, rfl, ?_⟩
  refine h h1.objs.size out.toList ns' e _ d1 tk1 a1 (a2.trans hp) a3 ?_ (by simpa using he) fun b u q => ?_
  · exact hsz1
  · have q1 := keep b u q
    have lt := Heap.lt_size q1
    rw [sortedHeap_old (Nat.ne_of_lt lt) (by rw [Heap.size_push]; exact Nat.lt_succ_of_lt lt)]
    exact Heap.get?_push_of_some _ q1
end
end L2
set_option Elab.async false
set_option linter.all false
set_option maxRecDepth 100000
namespace L2
open PySem PySem.Spec PyProof.Rows
abbrev SetAt (P : Program) (w : World) (S : Addr) (ns : List Int) : HO := .ext fun h => SetW P w h S ns
theorem vals_toI : ∀ {ns : List Int} {us : List Value}, Vals (ns.map V.int) us -> IntsAre us ns
  | [], _, .nil => .nil
  | n :: r, _, .cons ⟨t, e⟩ z => by
    subst e
    exact .cons n t (vals_toI z)
theorem toI_vals : ∀ {ns : List Int} {us : List Value}, IntsAre us ns -> Vals (ns.map V.int) us
  | _, _, .nil => .nil
  | _, _, .cons n t r => .cons ⟨t, rfl⟩ (toI_vals r)
def onceI (ns : List Int) : List Int := ns.foldl step_dedup []
theorem firstMet_once (ns : List Int) : firstMet (fun i => ns.getD i 0) ns.length = onceI ns := by
  unfold firstMet onceI
  congr 1
  refine List.ext_getElem (by simp) fun i h1 h2 => ?_
  simp [List.getD, h2]
theorem dedup_mem {s : List Int} {v k : Int} : k ∈ step_dedup s v ↔ k ∈ s \/ k = v := by
  unfold step_dedup
  split
  · rename_i h
    have hv : v ∈ s := by simpa using h
    exact ⟨.inl, fun z => z.elim id fun e => e ▸ hv⟩
  · simp
theorem dedup_nodup {s : List Int} {v : Int} (h : s.Nodup) : (step_dedup s v).Nodup := by
  unfold step_dedup
  split
  · exact h
  · rename_i c
    have hv : v ∉ s := by simpa using c
    exact List.nodup_append.mpr ⟨h, by simp, fun a ha b hb e => hv (by rw [<- List.mem_singleton.mp hb, <- e]; exact ha)⟩
theorem once_mem_go : ∀ (ns s : List Int) (k : Int), k ∈ ns.foldl step_dedup s ↔ k ∈ s \/ k ∈ ns
  | [], s, k => by simp
  | n :: r, s, k => by
    rw [List.foldl_cons, once_mem_go r, dedup_mem, List.mem_cons]
    constructor
    · rintro ((h | h) | h)
      · exact .inl h
      · exact .inr (.inl h)
      · exact .inr (.inr h)
    · rintro (h | h | h)
      · exact .inl (.inl h)
      · exact .inl (.inr h)
      · exact .inr h
theorem once_mem {ns : List Int} {k : Int} : k ∈ onceI ns ↔ k ∈ ns := by
  unfold onceI
  rw [once_mem_go]
  simp
theorem once_nodup_go : ∀ (ns s : List Int), s.Nodup -> (ns.foldl step_dedup s).Nodup
  | [], s, h => h
  | n :: r, s, h => once_nodup_go r _ (dedup_nodup h)
theorem once_nodup (ns : List Int) : (onceI ns).Nodup := once_nodup_go ns [] List.Pairwise.nil
section
variable {X : Cx}
theorem call_setL (hc : X.calm = true) : CallR X (.type "set") (fun xs H Q => ∃ (a : Addr) (ns : List Int), xs = [.ref a] /\ H a = some (.lst (ns.map V.int)) /\ ns.length < 4000 /\ ∀ S, H S = none -> Q (.ref S) (upd H S (SetAt X.prog X.w S (onceI ns)))) := by
  intro pins s σ H xs us Q I r h
  (refine Obt.ex2 h fun a ns h_0 => Obt.and4 h_0 fun e_1 ha hz q => ?_; subst e_1; clear h_0 h)
  (refine Obt.ex1 (vals1 r) fun u h_0 => Obt.and2 h_0 fun e_1 rx => ?_; subst e_1; clear h_0)
  cases rx
  (refine Obt.and2 (I.lstM ha) fun _ t_0 => Obt.ex2 t_0 fun its n h_1 => Obt.and3 h_1 fun rv hl e => ?_; clear h_1 t_0)
  have hln : its.length = ns.length := by rw [<- hl, List.length_map]
  refine call_setW (I.ok.hd hc) ⟨_, e, rfl, n, rfl⟩ (ns := ns) (by simpa using vals_toI rv) (by simp only [List.size_toArray]; unfold scanBound; omega) fun h' tk hS keep => ?_
  have k2 : ∀ b o, s.heap.get? b = some o -> h'.get? b = some o := fun b o z => keep b o (Heap.lt_size z) z
  have hS' : SetW X.prog X.w h' s.heap.objs.size (onceI ns) := by
    simp only [List.size_toArray] at hS
    rw [hln, firstMet_once] at hS
    exact hS
  refine ⟨.ref s.heap.objs.size, _, I.laid (o := SetAt X.prog X.w s.heap.objs.size (onceI ns)) (t' := tk) k2 (Nat.le_refl _) (show SetW X.prog X.w h' s.heap.objs.size (onceI ns) /\ (∃ o, h'.get? s.heap.objs.size = some o) /\ ∀ h1 h2 : Heap, SetW X.prog X.w h1 s.heap.objs.size (onceI ns) -> (∀ o, h1.get? s.heap.objs.size = some o -> h2.get? s.heap.objs.size = some o) -> SetW X.prog X.w h2 s.heap.objs.size (onceI ns) from ⟨hS', ?_, fun h1 h2 p kp => p.keep kp⟩), rfl, q _ (I.hok.fresh (Nat.le_refl _))⟩
  (refine Obt.ex4 hS' fun o es ep t h_0 => Obt.and2 h_0 fun ho _ => ?_; clear h_0 hS')
  exact ⟨o, ho⟩
theorem call_sortedS (hc : X.calm = true) : CallR X (.builtin "sorted") (fun xs H Q => ∃ (S : Addr) (ns : List Int), xs = [.ref S] /\ H S = some (SetAt X.prog X.w S ns) /\ ns.length < 64 /\
    ∀ (l : Addr) (ms : List Int), H l = none -> ms.Perm ns -> ms.Pairwise (· <= ·) -> Q (.ref l) (upd H l (.lst (ms.map V.int)))) := by
  intro pins s σ H xs us Q I r h
  (refine Obt.ex2 h fun S ns h_0 => Obt.and4 h_0 fun e_1 hS h64 q => ?_; subst e_1; clear h_0 h)
  (refine Obt.ex1 (vals1 r) fun u h_0 => Obt.and2 h_0 fun e_1 rx => ?_; subst e_1; clear h_0)
  cases rx
  (refine Obt.and3 ((show ObjOk X.prog X.w H s.heap S (SetAt X.prog X.w S ns) from I.hok S _ hS)) fun p _ _ => ?_)
  refine sortedW (I.ok.hd hc) p h64 fun l out ms e h' d' tk hI hp hs hle hg keep => ?_
  have I1 : Inv X pins σ (upd H l (.lst (ms.map V.int))) { s with heap := h', toks := tk } := I.laid (t' := tk) keep hle ⟨by
    rw [List.length_map, hp.length_eq]
    exact Nat.le_trans (Nat.le_of_lt h64) (by decide), out, e, toI_vals hI, hg⟩
  exact ⟨.ref l, _, ⟨I1.ok, I1.os, I1.bare, I1.base, I1.loc, I1.cell, I1.free, I1.freeC, I1.pin, I1.hok, I1.len⟩, rfl, q l ms (I.hok.fresh hle) hp hs⟩
end
end L2
set_option Elab.async false
set_option linter.all false
set_option maxRecDepth 100000
namespace PySem
open PyProof.Rows
theorem keys_none_list : typeLookup (.type "list") "keys" = pure none := by rw [typeLookup_type, builtinLookup_eq_fast]; kernel_rfl
theorem keys_miss_list {prog : Program} {w : World} {A : Around} {E : Value -> Shared -> Prop} {s : Shared} {a : Addr} {xs : Array Value} {k : Nat} {sl : Array (Option Value)} {Q : Option Value -> Shared -> Prop}
    (hx : s.heap.get? a = some { cls := .type "list", dict := none, data := .seq xs k, slots := sl }) (hA : A.handled = none)
    (h : ∀ h' tk, (∀ b o, s.heap.get? b = some o -> h'.get? b = some o) -> Q none { s with heap := h', toks := tk }) : wpAny (model prog w) A (getAttr? (.ref a) "keys") Q E s := by
  obtain ⟨hp, g, d, tk, os⟩ := s
  have hT : ∀ tk', (⟨hp, g, d, tk', os⟩ : Shared).TypeIs (.ref a) "list" := fun _ => ⟨_, hx, rfl⟩
  have f1 := sub_AttributeError
  have f3 := F.slot_list_getattribute.lookup
  have f4 := F.slot_list_getattribute.bind (.ref a)
  have f5 := am_list_getattr_none
  have hmiss := keys_none_list
  have hname : (["__module__", "__name__", "__qualname__", "__doc__", "__annotations__"] : List Str).contains (Str.ofString "keys") = false := by decide +kernel
  unfold getAttr? getAttrBy? getAttrBy
  repeat (any_goals (first | assumption | exact hT _ | ((with_reducible show wpAny _ _ (call (Value.builtin "list.__getattribute__") _ _) _ _ _); refine call_meets F.slot_list_getattribute (hT _) am_entry_list_getattribute (F.args_list_getattribute_2 _ _) (meets_getattribute_miss_list a xs k sl (Str.ofString "keys") _ hmiss hname (by decide)) ⟨hx, hA, fun h' tk' e hx' => ?_⟩) | wp_step))
  (refine Obt.ex2 hx'.there fun t' u' he => ?_)
  show wpAny _ _ (getattributeRaised _ _ _ _ _ _ _) _ _ _
  unfold getattributeRaised
  repeat (any_goals (first | assumption | wp_step))
  exact h h' tk' hx'.keeps
section
variable {prog : Program} {w : World} {K : Type} [DecidableEq K] {knd : KeyKind prog w K} {A : Around} {E : Value -> Shared -> Prop} {s : Shared} {R : Result -> Shared -> Prop}
theorem entry_update_loop : entryFor table "dict.update.loop" = some Builtin.«dict.update.loop» := entryFor_of_tree (by kernel_rfl)
theorem plain_update_loop : plainId "dict.update.loop" = true := by decide +kernel
def PairTups (knd : KeyKind prog w K) (h : Heap) (ts : List Addr) (ps : List (K × Value)) : Prop := ∀ (j : Nat) (t : Addr) (p : K × Value), ts[j]? = some t -> ps[j]? = some p -> ∃ key, knd.is p.1 key = true /\ IsTup h t #[key, p.2]
theorem update_loop {D I l : Addr} {ts : List Addr} {ps : List (K × Value)} (W : Walks prog w A.in1 I [I, l] [I] ts.length (fun i v => (ts.map Value.ref).toArray[i]? = some v) (fun i h => h.IsListIter I l i /\ h.IsList l (ts.map Value.ref).toArray))
    (hl : ts.length = ps.length) (hDI : D ≠ I) (hDl : D ≠ l) (hDt : ∀ t ∈ ts, t ≠ D /\ t ≠ I) (hz : ps.length <= sizeLine) :
    ∀ (k i : Nat) (s : Shared) (acc : List (K × Value)), ts.length - i = k -> i <= ts.length -> (s.heap.IsListIter I l i /\ s.heap.IsList l (ts.map Value.ref).toArray) -> s.heap.DictOf knd D acc -> acc.length <= i -> PairTups knd s.heap ts ps ->
    (∀ h' tk, (∀ b o, b ≠ D -> b ≠ I -> s.heap.get? b = some o -> h'.get? b = some o) -> h'.DictOf knd D (merged acc (ps.drop i)) -> R (.ok (.ret .none)) { s with heap := h', toks := tk }) ->
    codeAny (model prog w) A (.builtin "dict.update.loop" ⟨[.ref D, .ref I, rawInt (i : Int), .none], []⟩) R s := by
  intro k
  induction k with
  | zero =>
    intro i s acc hk hi hst hD hacc hP hR
    have hin : i = ts.length := by omega
    subst hin
    refine codeAny_builtin entry_update_loop ?_
    rw [Around.under_plainId plain_update_loop _]
    show wpAny _ A.in1 (pyNext (.ref I) >>= _) _ _ s
    refine wpAny_bind (W.done s _ _ hst fun h' tk hm => ?_)
    show wpAny _ _ (Builtin.Dict.addKeywords D [] >>= _) _ _ _
    refine wpAny_bind (wpAny_of_eq (a := ()) rfl ?_)
    have e : ps.drop ts.length = [] := by rw [hl, List.drop_length]
    refine wpAny_pure (hR h' tk (fun b o _ hb q => hm b o (by simpa using hb) q) ?_)
    rw [e]
    exact hD.extBut (b := I) (fun b o hb q => hm b o (by simpa using hb) q) hDI
  | succ k ih =>
    intro i s acc hk hi hst hD hacc hP hR
    have hlt : i < ts.length := by omega
    have hlt2 : i < ps.length := by omega
    refine codeAny_builtin entry_update_loop ?_
    rw [Around.under_plainId plain_update_loop _]
    show wpAny _ A.in1 (pyNext (.ref I) >>= _) _ _ s
    refine wpAny_bind (W.item i s _ _ hlt hst fun v h' tk hv hst' hm => ?_)
    have ev : v = .ref ts[i] := by
      have : (ts.map Value.ref).toArray[i]? = some (.ref ts[i]) := by simp [hlt]
      rw [this] at hv
      exact (Option.some.inj hv).symm
    subst ev
    have keep : ∀ b o, b ≠ I -> s.heap.get? b = some o -> h'.get? b = some o := fun b o hb q => hm b o (by simpa using hb) q
    (refine Obt.ex1 (hP i ts[i] ps[i] (List.getElem?_eq_getElem hlt) (List.getElem?_eq_getElem hlt2)) fun key h_0 => Obt.and2 h_0 fun hkey ht => ?_; clear h_0)
    have tn := hDt ts[i] (List.getElem_mem hlt)
    have ht' : IsTup h' ts[i] #[key, (ps[i]).2] := ht.extBut (b := I) keep tn.2
    have hD' : h'.DictOf knd D acc := hD.extBut (b := I) keep hDI
    (refine Obt.ex1 (id ht') fun ot h_0 => Obt.and3 h_0 fun hot hct t_1 => Obt.ex1 t_1 fun nt hdt => ?_; clear t_1 h_0)
    try dsimp only
    refine wpAny_bind (wpAny_holding ?_)
    refine wpAny_bind (wpAny_tryCatch ?_)
    unfold Builtin.Dict.pairItems
    refine wpAny_bind (wpAny_typeOf (s := { s with heap := h', toks := tk }) ht'.typeIs ?_)
    rw [if_pos (by decide)]
    refine wpAny_bind (wpAny_seqItems (s := { s with heap := h', toks := tk }) hot hdt ?_)
    refine wpAny_pure ?_
    show wpAny _ _ (holding [key, (ps[i]).2] (dictSet D key (ps[i]).2)) _ _ _
    refine wpAny_holding (wpAny_dictSet_pairs (knd := knd) (s := { s with heap := h', toks := tk }) hkey hD' (fun h2 hD2 sb2 => ?_) (by omega))
    have keep2 : ∀ b o, b ≠ D -> h'.get? b = some o -> h2.get? b = some o := fun b o hb q => sb2.extBut b o hb q
    refine wpAny_pure ⟨plainId_quiet plain_update_loop _, ?_⟩
    have ri : rawInt ((i : Int) + 1) = rawInt (((i + 1 : Nat)) : Int) := by push_cast; rfl
    rw [ri]
    refine ih (i + 1) { s with heap := h2, toks := tk + 1 } (stored acc (ps[i]).1 (ps[i]).2) (by omega) hlt ⟨hst'.1.at fun o q => keep2 I o (Ne.symm hDI) q, hst'.2.at fun o q => keep2 l o (Ne.symm hDl) q⟩ hD2 (by
      have := stored_length_le acc (ps[i]).1 (ps[i]).2
      omega) (fun j t p h1 h2' => ?_) (fun h3 tk3 kp3 hD3 => ?_)
    · (refine Obt.ex1 (hP j t p h1 h2') fun key' h_0 => Obt.and2 h_0 fun hk' ht'' => ?_; clear h_0)
      have tn' := hDt t (List.mem_of_getElem? h1)
      exact ⟨key', hk', (ht''.extBut (b := I) keep tn'.2).extBut (b := D) keep2 tn'.1⟩
    · refine hR h3 tk3 (fun b o hb hb2 q => kp3 b o hb hb2 (keep2 b o hb (keep b o hb2 q))) ?_
      rw [List.drop_eq_getElem_cons hlt2]
      exact hD3
theorem call_dict_pairs {l : Addr} {ts : List Addr} {ps : List (K × Value)} {c : Nat} {Q : Value -> Shared -> Prop} (hh : A.handled = none) (hL : s.heap.get? l = some { cls := .type "list", dict := none, data := .seq (ts.map Value.ref).toArray c, slots := #[] })
    (hl : ts.length = ps.length) (hP : PairTups knd s.heap ts ps) (hz : ps.length <= sizeLine)
    (hQ : ∀ h' tk, (∀ b o, s.heap.get? b = some o -> h'.get? b = some o) -> h'.DictOf knd s.heap.objs.size (merged [] ps) -> Q (.ref s.heap.objs.size) { s with heap := h', toks := tk }) :
    wpAny (model prog w) A (call (.type "dict") [.ref l]) Q E s := by
  refine callType_codes (Q₁ := fun obj s₁ => obj = .ref s.heap.objs.size /\ s₁ = { s with heap := s.heap.push { cls := .type "dict", data := .dict #[] } }) F.kt_called_dict (F.kt_typeCall_dict_1 _) F.entry_dict_init (kt_code_dict_new _ ⟨rfl, rfl⟩) ?_
  (refine fun obj s₁ i_0 => Obt.and2 i_0 fun e_1 e_2 => ?_; subst e_1; subst e_2; clear i_0)
  have hnew : (s.heap.push { cls := .type "dict", data := .dict #[] }).DictOf knd s.heap.objs.size [] := Heap.DictOf.new s.heap
  have hlt : l < s.heap.objs.size := Heap.lt_size hL
  have hL' : (s.heap.push { cls := .type "dict", data := .dict #[] }).get? l = some { cls := .type "list", dict := none, data := .seq (ts.map Value.ref).toArray c, slots := #[] } := Heap.get?_push_of_some _ hL
  refine ⟨hnew.typeIs, F.args_dict_init_2 _ _, ?_⟩
  unfold Builtin.«dict.__init__»
  refine wpAny_bind ?_
  unfold Builtin.Dict.selfAndRest
  refine wpAny_bind (wpAny_notOrdered_dict hnew.typeIs ?_)
  show wpAny _ _ (pure (s.heap.objs.size, [Value.ref l])) _ _ _
  refine wpAny_pure ?_
  show wpAny _ _ (Builtin.Dict.updateFrom "dict.__init__" s.heap.objs.size (.ref l) [] .none) _ _ _
  unfold Builtin.Dict.updateFrom
  refine wpAny_bind (wpAny_typeOf (T := "list") ⟨_, hL', rfl⟩ ?_)
  rw [if_pos (by decide)]
  refine wpAny_bind (keys_miss_list hL' hh fun h1 tk1 kp1 => ?_)
  rw [if_pos (by rfl)]
  refine wpAny_bind (wpAny_rule ?_)
  have hL1 := kp1 _ _ hL'
  have il1 : Heap.IsList h1 l (ts.map Value.ref).toArray := ⟨_, hL1, rfl, c, rfl⟩
  refine wpAny_bind (wpAny_pyIter_list (s := { s with heap := h1, toks := tk1 }) il1 ?_)
  refine wpAny_pure ⟨plainId_quiet plain_update_loop _, ?_⟩
  have oI : (h1.push { cls := .type "list_iterator", data := .fields #[.ref l, .int 0 0] }).get? h1.objs.size = some { cls := .type "list_iterator", data := .fields #[.ref l, .int 0 0] } := Heap.get?_push_size _ rfl
  have l1 : l < h1.objs.size := Heap.lt_size hL1
  have d1 : s.heap.objs.size < h1.objs.size := Heap.lt_size (kp1 _ _ (Heap.get?_push_size s.heap rfl))
  have W := Walks.list (prog := prog) (w := w) (A := A.in1.in1) hh h1.objs.size l (Nat.ne_of_lt l1) (ts.map Value.ref).toArray
  have sz : (ts.map Value.ref).toArray.size = ts.length := by simp
  rw [sz] at W
  have kp2 : ∀ b o, s.heap.get? b = some o -> (h1.push { cls := .type "list_iterator", data := .fields #[.ref l, .int 0 0] }).get? b = some o := fun b o q => Heap.get?_push_of_some _ (kp1 _ _ (Heap.get?_push_of_some _ q))
  refine update_loop (A := A.in1) (knd := knd) (D := s.heap.objs.size) (ps := ps) W hl (Nat.ne_of_lt d1) (Nat.ne_of_gt hlt) (fun t ht => ?_) hz ts.length 0 { s with heap := h1.push { cls := .type "list_iterator", data := .fields #[.ref l, .int 0 0] }, toks := tk1 } [] rfl (Nat.zero_le _) ⟨⟨_, oI, rfl, rfl⟩, il1.at fun o q => Heap.get?_push_of_some _ q⟩ ?_ (Nat.zero_le _) (fun j t p a1 a2 => ?_) (fun h3 tk3 kp3 hD3 => ?_)
  · (refine Obt.ex1 (List.mem_iff_getElem?.mp ht) fun j hj => ?_)
    have jl : j < ps.length := by
      rw [<- hl]
      exact (List.getElem?_eq_some_iff.mp hj).1
    (refine Obt.ex1 (hP j t ps[j] hj (List.getElem?_eq_getElem jl)) fun key h_0 => Obt.and2 h_0 fun _ t_1 => Obt.ex1 t_1 fun o h_2 => Obt.and2 h_2 fun ho _ => ?_; clear h_2 t_1 h_0)
    have tl := Heap.lt_size ho
    exact ⟨Nat.ne_of_lt tl, Nat.ne_of_lt (Nat.lt_trans tl d1)⟩
  · exact hnew.extBut (b := h1.objs.size) (fun b o _ q => Heap.get?_push_of_some _ (kp1 _ _ q)) (Nat.ne_of_lt d1)
  · (refine Obt.ex1 (hP j t p a1 a2) fun key h_0 => Obt.and2 h_0 fun hk ht => ?_; clear h_0)
    exact ⟨key, hk, ht.keeps kp2⟩
  · exact ⟨rfl, hQ h3 tk3 (fun b o q => kp3 b o (Nat.ne_of_lt (Heap.lt_size q)) (Nat.ne_of_lt (Nat.lt_trans (Heap.lt_size q) d1)) (kp2 b o q)) hD3⟩
end
end PySem
namespace L2
open PySem PySem.Spec PyProof.Rows
section
variable {X : Cx}
def PairsV (H : Hp) : List Addr -> List (Key × V) -> Prop := Paired fun a p => H a = some (.tup [kV p.1, p.2])
theorem merge_vals {P : Program} {w : World} : ∀ {kvs : List (Key × V)} {ts : List Addr} {H : Hp} {h : Heap}, PairsV H ts kvs -> HOk P w H h -> ∃ ps : List (Key × Value), KV kvs ps /\ ps.length = ts.length /\ PairTups (mixKind P w) h ts ps
  | [], [], _, _, .nil, _ => ⟨[], .nil, rfl, fun j t p h => by simp at h⟩
  | _, _, _, _, .cons (a := a) (b := p) (l₁ := ts) (l₂ := kvs) q t, ok => by
    (refine Obt.ex1 (merge_vals t ok) fun ps h_0 => Obt.and3 h_0 fun r1 r2 r3 => ?_; clear h_0)
    (refine Obt.and2 (ok a _ q) fun z t_0 => Obt.ex1 t_0 fun its h_1 => Obt.and2 h_1 fun rv ht => ?_; clear h_1 t_0)
    (refine Obt.ex2 (Vals.two rv) fun u v h_0 => Obt.and3 h_0 fun e_1 ru rv' => ?_; subst e_1; clear h_0)
    refine ⟨(p.1, v) :: ps, .cons ⟨rfl, rv'⟩ r1, by simp [r2], fun j t' p' h1 h2 => ?_⟩
    cases j with
    | zero =>
      simp at h1 h2
      subst h1 h2
      exact ⟨u, kV_is ru, by simpa using ht⟩
    | succ j => exact r3 j t' p' (by simpa using h1) (by simpa using h2)
def rDictOf : List V -> Hp -> VK -> Prop := fun xs H Q => ∃ l ts kvs, xs = [.ref l] /\ H l = some (.lst (ts.map V.ref)) /\ PairsV H ts kvs /\ ∀ D, H D = none -> Q (.ref D) (upd H D (.dK (mergeK [] kvs)))
theorem vals_refs : ∀ {ts : List Addr} {us : List Value}, Vals (ts.map V.ref) us -> us = ts.map Value.ref
  | [], _, .nil => rfl
  | t :: ts, _, .cons r q => by
    cases r
    rw [List.map_cons, vals_refs q]
theorem call_dictOf (hc : X.calm = true) : CallR X (.type "dict") rDictOf := by
  intro pins s σ H xs us Q I r h
  (refine Obt.ex3 h fun l ts kvs h_0 => Obt.and4 h_0 fun e_1 hl hp q => ?_; subst e_1; clear h_0 h)
  (refine Obt.ex1 (vals1 r) fun u h_0 => Obt.and2 h_0 fun e_1 rx => ?_; subst e_1; clear h_0)
  cases rx
  (refine Obt.and2 (I.lstM hl) fun z t_0 => Obt.ex2 t_0 fun its n h_1 => Obt.and3 h_1 fun rv hln e => ?_; clear h_1 t_0)
  have ei := vals_refs rv
  subst ei
  (refine Obt.ex1 (merge_vals hp I.hok) fun ps h_0 => Obt.and3 h_0 fun r1 r2 r3 => ?_; clear h_0)
  have hlen : kvs.length = ps.length := Paired.length r1
  have zl : ps.length <= sizeLine := by
    rw [r2]
    rw [List.length_map] at z
    exact z
  refine call_dict_pairs (knd := mixKind X.prog X.w) (I.ok.hd hc) e r2.symm r3 zl fun h' tk kp dd => ?_
  have ob : ObjOk X.prog X.w (upd H s.heap.objs.size (.dK (mergeK [] kvs))) h' s.heap.objs.size (.dK (mergeK [] kvs)) := by
    refine dk_new ?_ (beq_eq_false_iff_ne.mpr (Ne.symm (Nat.ne_of_lt I.big))) (KV.merge r1 .nil) dd
    have := length_mergeK kvs []
    simp only [List.length_nil] at this
    omega
  exact ⟨.ref _, _, I.laid (t' := tk) kp (Nat.le_refl _) ob, rfl, q _ (I.hok.fresh (Nat.le_refl _))⟩
end
section
variable {X : Cx} {pins : List (Addr × Obj)} {σ : St} {H : Hp} {s : Shared} {a : Addr} {z : V} {u r : Value} {A : Around} {E : Value -> Shared -> Prop} {kvs : List (Key × V)} {k : Key}
theorem d_setdefault {Q : Value -> Shared -> Prop} (I : Inv X pins σ H s) (e : H a = some (.dK kvs)) (hz : kvs.length < sizeLine) (ry : RelV (kV k) u) (rz : RelV z r)
    (h1 : ∀ v w' s', valV kvs k = some v -> Inv X pins σ H s' -> RelV v w' -> Q w' s') (h2 : ∀ s', valV kvs k = none -> Inv X pins σ (upd H a (.dK (putK kvs k z))) s' -> Q r s') :
    wpAny (model X.prog X.w) A (call (.builtin "dict.setdefault") [.ref a, u, r]) Q E s := by
  (refine Obt.and3 (dk_of I.hok e) fun zl hd t_0 => Obt.ex1 t_0 fun vs h_1 => Obt.and2 h_1 fun rel dd => ?_; clear h_1 t_0)
  have rv := rel.val k
  refine call_meetsIn PySem.F.slot_dict_setdefault dd.typeIs PySem.F.entry_dict_setdefault (PySem.F.args_dict_setdefault_3 _ _ _) (kt_meets_setdefault (mixKind X.prog X.w) a (kV_is ry) hd r) ⟨vs, dd, by rw [<- rel.length]; exact zl, fun v hv => ?_, fun hn h' dd' sb => ?_⟩
  · cases hk : valV kvs k with
    | none => rw [hk, hv] at rv; exact rv.elim
    | some x =>
      rw [hk, hv] at rv
      exact h1 x v _ hk (I.tok _) rv
  · have hk : valV kvs k = none := by
      cases hk : valV kvs k with
      | none => rfl
      | some x => rw [hk, hn] at rv; exact rv.elim
    refine h2 _ hk (d_write (t' := s.toks + 1) I (by rw [e]; trivial) sb ?_ (dk_new (kvs := putK kvs k z) (by have := length_putK kvs k z; omega) hd (rel.put k rz) dd'))
    (refine Obt.ex3 dd' fun ob _ _ h_0 => Obt.and2 h_0 fun g _ => ?_; clear h_0 dd')
    exact ⟨ob, g⟩
end
def tDSet (td ty tx : TE) : TE := fun σ H Q => td σ H fun x H1 => ∃ a, x = .ref a /\ IsD H1 a /\ ty σ H1 fun y H2 => tx σ H2 fun z H3 => ∃ kvs k, H3 a = some (.dK kvs) /\ y = kV k /\ kvs.length < sizeLine /\
  (∀ v, valV kvs k = some v -> Q v H3) /\ (valV kvs k = none -> Q z (upd H3 a (.dK (putK kvs k z))))
section
variable {X : Cx} {o e f : Expr} {apos cpos : Pos} {td ty tx : TE}
theorem pe_dset (ho : PE X o td) (he : PE X e ty) (hf : PE X f tx) (m : M2 X o "setdefault" apos e f cpos) : PE X (.Call (.Attribute o "setdefault" apos) [e, f] [] cpos) (tDSet td ty tx) := by
  intro pins s σ H Q I h
  refine wpAny_Call_method m.base m.few m.line PySem.F.plainAttrs_dict PySem.F.slot_dict_setdefault PySem.F.type_dict_setdefault (thn (ho pins s σ H _ I h) fun u s1 ⟨x, H1, I1, rx, a, ex, d, q1⟩ => ?_)
  subst ex
  obtain rfl : u = Value.ref a := rx
  (refine Obt.and3 (isD_at I1 d) fun t1 t2 _ => ?_)
  refine ⟨t1, t2, ?_⟩
  rw [m.trees]
  refine Calls.callWith_builtin rfl (Calls.evalArgs_plain (Calls.spliced_cons (thn (he pins s1 σ H1 _ I1 q1) fun iv s2 ⟨y, H2, I2, ry, q2⟩ =>
    Calls.spliced_cons (thn (hf pins s2 σ H2 _ I2 q2) fun fv s3 ⟨z, H3, I3, rz, kvs, k, ea, ey, hz, q3, q4⟩ => Calls.spliced_nil ?_))))
  subst ey
  exact d_setdefault I3 ea hz ry rz (fun v w' s' hv I4 rv => ⟨v, H3, I4, rv, q3 v hv⟩) fun s' hn I4 => ⟨z, _, I4, rz, q4 hn⟩
end
end L2
set_option Elab.async false
set_option linter.all false
set_option maxRecDepth 100000
namespace L2
open PySem PySem.Spec PyProof.Rows
section
variable {X : Cx} {pins : List (Addr × Obj)} {σ : St} {H : Hp} {s : Shared} {a : Addr} {o : Obj} {kvs : List (Key × V)}
end
section
variable {X : Cx} {tg : Expr}
end
section
variable {X : Cx}
end
end L2
set_option Elab.async false
set_option linter.all false
set_option maxRecDepth 100000
namespace L2
open PySem PySem.Spec PyProof.Rows
section
variable {P : Program} {w : World} {A : Around} {E : Value -> Shared -> Prop} {s : Shared}
end
end L2
set_option Elab.async false
set_option linter.all false
set_option maxRecDepth 100000
namespace L2
open PySem PySem.Spec PyProof.Rows
section
variable {X : Cx}
def rAny (K : PySem.W.Frag) : List V -> Hp -> VK -> Prop := fun xs H Q => ∃ (a : Addr) (bs : List Bool), xs = [.ref a] /\ SqL K H a (bs.map V.bl) /\ Q (.bl (bs.any id)) H
theorem call_any (hc : X.calm = true) : CallR X (.builtin "any") (rAny X.K) := by
  intro pins s σ H xs us Q I r h
  (refine Obt.ex2 h fun a bs h_0 => Obt.and3 h_0 fun e_1 hS q => ?_; subst e_1; clear h_0 h)
  (refine Obt.ex1 r.one fun u h_0 => Obt.and2 h_0 fun e_1 ru => ?_; subst e_1; clear h_0)
  cases (show u = Value.ref a from ru)
  (refine Obt.ex1 (I.list hS) fun its h_0 => Obt.and3 h_0 fun rv ht hz => ?_; clear h_0)
  have hlen := rv.length
  rw [List.length_map] at hlen
  have hlt : a < s.heap.objs.size := by (refine Obt.ex1 ht.isList fun _ h_0 => Obt.and2 h_0 fun e _ => ?_; clear h_0); exact Heap.lt_size e
  refine call_any_walk (wpAny_pyIter_list ht.isList ?_)
  have W := Walks.list (prog := X.prog) (w := X.w) (A := X.A.in1) (I.ok.hd hc) s.heap.objs.size a (Nat.ne_of_lt hlt) its.toArray
  refine ⟨_, _, _, _, _, _, fun i => bs.getD i false, rfl, W, ⟨⟨_, Heap.get?_push_size _ rfl, rfl, rfl⟩, ht.isList.push _⟩, fun i v s' Q' E' hv hQ => ?_, fun h' tk hk => ?_⟩
  · have e' : its[i]? = some v := by simpa using hv
    have hi : i < bs.length := by rw [hlen]; exact (List.getElem?_eq_some_iff.mp e').1
    (refine Obt.ex1 (rv.get (i := i) (x := .bl bs[i]) (by simp [hi])) fun u h_0 => Obt.and2 h_0 fun hu ru => ?_; clear h_0)
    rw [e'] at hu
    cases hu
    cases (show v = Value.bool bs[i] from ru)
    refine wpAny_truthy_bool ?_
    have : bs.getD i false = bs[i] := by simp [hi]
    rw [<- this]
    exact hQ
  · have I1 : Inv X pins σ H { s with heap := h', toks := tk } := I.kept (t' := tk) fun b o e => hk b o (fun hm => by
      rw [List.mem_singleton.mp hm] at e
      exact Nat.lt_irrefl _ (Heap.lt_size e)) (Heap.get?_push_of_some _ e)
    refine ⟨.bl (bs.any id), H, I1, ?_, q⟩
    show Value.bool _ = Value.bool _
    congr 1
    rw [List.size_toArray, <- hlen]
    have e : bs = (List.range bs.length).map fun i => bs.getD i false := by
      apply List.ext_getElem?
      intro i
      rcases Nat.lt_or_ge i bs.length with q | q
      · simp [q]
      · simp [q]
    conv => rhs; rw [e]
    rw [List.any_map]
    rfl
end
end L2
set_option Elab.async false
set_option linter.all false
set_option maxRecDepth 100000
namespace PySem
open PyProof.Rows
section
variable {prog : Program} {w : World} {A : Around} {E : Value -> Shared -> Prop} {s : Shared}
end
end PySem
namespace L2
open PySem PySem.Spec PyProof.Rows
section
variable {X : Cx} {a : Expr} {ta : TA} {p p2 pos pos2 : Pos}
end
end L2
namespace L2
open PySem PySem.Spec PyProof.Rows
section
variable {X : Cx} {N : List Str} {scope : Scope} {ix : List (Option Nat)} {elt iter cond tg : Expr} {pos spos : Pos} {te : TE} {g : TG} {wi : TI} {tc : TT}
end
end L2
set_option Elab.async false
set_option linter.all false
set_option maxRecDepth 100000
namespace L2
open PySem PySem.Spec PyProof.Rows
section
variable {X : Cx} {tg : Expr}
end
section
variable {X : Cx} {a b c : Expr} {ta : TA} {p p2 pos pos2 : Pos}
end
end L2
set_option Elab.async false
set_option linter.all false
set_option maxRecDepth 100000
set_option maxHeartbeats 4000000
namespace L2
open PySem PySem.Spec PyProof.Rows
section
variable {X : Cx}
end
section
variable {X : Cx}
theorem pe_alt {e : Expr} {t u : TE} (h1 : PE X e t) (h2 : PE X e u) : PE X e (fun σ H Q => t σ H Q \/ u σ H Q) := by
  intro pins s σ H Q I h
  rcases h with h | h
  · exact h1 pins s σ H Q I h
  · exact h2 pins s σ H Q I h
theorem pg_tupK (K : PySem.W.Frag) {es : List Expr} {k : Nat} {pos : Pos} {t : TGs} {n : Nat} (hc : X.calm = true) (h : PGs X es t) (hK : X.K = K := by rfl)
    (hn : (assignEach es X.env).length = n := by rfl) (hst : (assignEach es X.env).findIdx? (·.1) = none := by rfl) : PG X (.Tuple es k pos) (gTup K n t) := by
  subst hK
  exact pg_tup hc h hn hst
theorem pe_me0 {m : Str} {C : Addr} {j k : Nat} {ps : List Str} {sp : Sp} {apos pos : Pos} {o : Expr} {ta : TE} {pl : Sem Bool} (G : DefMe X.prog X.w X.K X.mg X.base C m k ps sp) (hr : Room j X.A) (ho : PE X o ta) (hkj : k <= j := by decide)
    (ht : eval (.Call (.Attribute o m apos) [] [] pos) X.env = (do
      let ov <- eval o X.env
      standAt apos.atName
      let (f, first) <- holding [ov] (getMethod ov m pl)
      callWith pos f first (backTo pos (starEach [] X.env)) (backToKw pos (keywordEach [] X.env))) := by rfl) :
    PE X (.Call (.Attribute o m apos) [] [] pos) (tMeth C m sp [] E0 ta tNil) := by
  (refine Obt.ex2 G.ex fun f fd h_0 => Obt.and3 h_0 fun hm hb F => ?_; clear h_0)
  exact pe_meth0 ho G.cl hm F (hr.mono hkj) hb .nil pass0 ht
def rIsO (K : PySem.W.Frag) : List V -> Hp -> VK -> Prop := fun xs H Q => ∃ (x c : V) (t cv : Value) (b : Bool), xs = [x, c] /\ TyOf K H x t /\ clsV c = some cv /\ PySem.W.kitOne K t cv = some b /\ Q (.bl b) H
theorem call_isO : CallR X (.builtin "isinstance") (rIsO X.K) := by
  intro pins s σ H xs us Q I r h
  (refine Obt.ex5 h fun x c t cv b h_0 => Obt.and5 h_0 fun e_1 ty hc e q => ?_; subst e_1; clear h_0 h)
  (refine Obt.ex2 r.two fun u v h_0 => Obt.and3 h_0 fun e_1 ru rv => ?_; subst e_1; clear h_0)
  cases clsV_rel hc rv
  exact isinst_ok I ru ty e fun tk => ⟨.bl b, H, I.tok tk, rfl, q⟩
end
end L2
set_option Elab.async false
set_option linter.all false
set_option maxRecDepth 100000
set_option maxHeartbeats 4000000
namespace L2
open PySem PySem.Spec PyProof.Rows
structure BlkScope1 (NX : List Str) (scX : Scope) (N : List Str) (ix : List (Option Nat)) (sc : Scope) (x : Str) : Prop where
  kind : sc.kind = .function
  nd : N.Nodup
  cell : sc.names.lookup x = some .cell
  only : ∀ y ∈ sc.names, y.2 = .cell -> y.1 = x
  lay : ∀ n cl, cellsFrom n sc.names cl = (x, n) :: cl
  lays : ∀ h, pushCells h sc.names = h.push { cls := .type "cell", data := .cell none }
  locs : ∀ y ∈ sc.names, y.2 = .local -> sc.names.lookup y.1 = some .local
  free : ∀ y ∈ sc.names, y.2 = .free -> scX.names.lookup y.1 = some .cell \/ scX.names.lookup y.1 = some .free
  nofree : ∀ y ∈ sc.names, y.2 = .free -> y.1 ≠ x
  len : ix.length = N.length
  at_ : ∀ p ∈ N.zip ix, ∀ i, p.2 = some i -> NX[i]? = some p.1 /\ sc.names.lookup p.1 = some .free
section
variable {X : Cx} {pins : List (Addr × Obj)} {σ : St} {H : Hp} {s : Shared} {N : List Str} {ix : List (Option Nat)} {scope : Scope} {fp : List Addr} {x : Str}
variable {tg elt iter : Expr} {pos spos : Pos} {J : It} {it : Addr} {tn : Nat -> Heap -> Prop} {g : TG} {te : TE} {wi : TI}
end
end L2
set_option Elab.async false
set_option linter.all false
set_option maxRecDepth 100000
set_option maxHeartbeats 4000000
namespace L2
open PySem PySem.Spec PyProof.Rows
theorem comp_enumTI {K : PySem.W.Frag} {a : Addr} {xs : List V} {ix : List (Option Nat)} {g : TG} {tc : TT} {te : TE} {σ : St} {H : Hp} {Qd : Addr -> Hp -> Prop} (Pv : Addr -> Nat -> List V -> Hp -> Prop)
    (hg : ∀ (T : Addr) (σ : St) (H : Hp) (Q : St -> Hp -> Prop) (x y : V), H T = some (.tup [x, y]) -> Q ((σ.set 0 (some x)).set 1 (some y)) H -> g (.ref T) σ H Q)
    (h0 : ∀ D, H D = none -> Pv D 0 [] (upd H D (.lst [])))
    (hl : ∀ D i ys H', i <= xs.length -> Pv D i ys H' -> SqT K H' a xs)
    (hs : ∀ D i x ys H' T (Qy : VK) (Qn : Hp -> Prop), H D = none -> xs[i]? = some x -> H' D = some (.lst ys) -> Pv D i ys H' -> H' T = none -> (∀ y H4, H4 D = some (.lst ys) -> ys.length < sizeLine -> Pv D (i + 1) (ys ++ [y]) (upd H4 D (.lst (ys ++ [y]))) -> Qy y H4) ->
      (∀ H4, H4 D = some (.lst ys) -> Pv D (i + 1) ys H4 -> Qn H4) -> tc (((blockSt ix σ).set 0 (some (.int i))).set 1 (some x)) (upd H' T (.tup [.int i, x])) fun b H4 => if b = true then te (((blockSt ix σ).set 0 (some (.int i))).set 1 (some x)) H4 Qy else Qn H4)
    (hd : ∀ D ys H', H D = none -> H' D = some (.lst ys) -> Pv D xs.length ys H' -> Qd D H') : CompWI (Ite K a) ix g tc te σ H Qd := by
  intro D hD
  refine ⟨fun i m σ' H' => m = xs.length - i /\ i <= xs.length /\ (σ' = blockSt ix σ \/ ∃ t u, σ' = ((blockSt ix σ).set 0 t).set 1 u) /\ ∃ ys, H' D = some (.lst ys) /\ Pv D i ys H', ⟨xs.length, by simp, Nat.zero_le _, .inl rfl, [], upd_same, h0 D hD⟩, ?_⟩
  (refine fun i m σ' H' i_0 => Obt.and4 i_0 fun e_1 hi hσ t_2 => Obt.ex1 t_2 fun ys h_3 => Obt.and2 h_3 fun hy p => ?_; subst e_1; clear h_3 t_2 i_0)
  have q := hl D i ys H' hi p
  by_cases hlt : i < xs.length
  · refine .inr ⟨⟨xs, xs[i], q, by simp [hlt]⟩, fun x H2 y => ?_⟩
    (refine Obt.ex2 y fun T x0 h_0 => Obt.and4 h_0 fun e_1 hT e_2 y1 => ?_; subst e_1; subst e_2; clear h_0 y)
    have ex := y1 xs q
    refine hg T σ' _ _ (.int i) x0 upd_same ?_
    have es : ((σ'.set 0 (some (V.int i))).set 1 (some x0)) = ((blockSt ix σ).set 0 (some (V.int i))).set 1 (some x0) := by
      rcases hσ with z | ⟨t, u, z⟩
      · rw [z]
      · rw [z, set2_set]
    show tc ((σ'.set 0 (some (V.int i))).set 1 (some x0)) _ _
    rw [es]
    exact hs D i x0 ys _ T _ _ hD ex hy p hT (fun y H4 h4 hz p4 => ⟨ys, h4, hz, xs.length - (i + 1), by omega, rfl, hlt, .inr ⟨_, _, rfl⟩, ys ++ [y], upd_same, p4⟩) fun H4 h4 p4 => ⟨xs.length - (i + 1), by omega, rfl, hlt, .inr ⟨_, _, rfl⟩, ys, h4, p4⟩
  · have e : i = xs.length := by omega
    subst e
    exact .inl ⟨⟨xs, q, Nat.le_refl _⟩, hd D ys H' hD hy p⟩
end L2
set_option Elab.async false
set_option linter.all false
set_option maxRecDepth 100000
set_option maxHeartbeats 4000000
namespace L2
open PySem PySem.Spec PyProof.Rows
abbrev IsTri (h : Heap) (T : Addr) (a b c : Value) : Prop := h.get? T = some { cls := .type "tuple", data := .seq #[a, b, c] }
theorem typeCall_zip_3 (a b c : Value) : checkTypeCall "zip" ⟨[a, b, c], []⟩ = pure () := by kernel_rfl
theorem newCall_zip_3 (a b c : Value) : checkBuiltinCall "zip.__new__" ⟨[.type "zip", a, b, c], []⟩ = pure () := by kernel_rfl
theorem args_object_init_4 (a b c d : Value) : argsOk "object.__init__" ⟨[a, b, c, d], []⟩ := by
  unfold argsOk
  rw [signature?_of (id := "object.__init__") (n := ['_', '_', 't', 'i', 'n', 'i', '_', '_']) (o := ['t', 'c', 'e', 'j', 'b', 'o']) (by kernel_rfl) F.owner_object]
  kernel_rfl
section
variable {prog : Program} {w : World} {A : Around} {E : Value -> Shared -> Prop} {s : Shared}
theorem upd_tri {T : Addr} {a b c x : Value} {k : Nat} {Q : Unit -> Shared -> Prop} (hT : IsTri s.heap T a b c)
    (h : ∀ h', h'.get? T = some { cls := .type "tuple", data := .seq ((#[a, b, c] : Array Value).setIfInBounds k x) } -> Heap.SameBut T s.heap h' -> Q () { s with heap := h' }) :
    wpAny (model prog w) A (updateSeq T (·.setIfInBounds k x)) Q E s := by
  refine wpAny_updateSeq hT rfl (h _ ?_ (Heap.SameBut.update ..))
  rw [Heap.get?_update_self _ hT rfl]
  simp [Obj.mapSeq]
structure ZipFar3 (z TI TO i1 i2 i3 : Addr) (fp1 fp2 fp3 : List Addr) : Prop where
  TIz : TI ≠ z
  TOz : TO ≠ z
  TITO : TI ≠ TO
  i1z : i1 ≠ z
  i2z : i2 ≠ z
  i3z : i3 ≠ z
  TIi1 : TI ≠ i1
  TIi2 : TI ≠ i2
  TIi3 : TI ≠ i3
  TOi1 : TO ≠ i1
  TOi2 : TO ≠ i2
  TOi3 : TO ≠ i3
  z1 : z ∉ fp1
  TO1 : TO ∉ fp1
  i21 : i2 ∉ fp1
  i31 : i3 ∉ fp1
  z2 : z ∉ fp2
  TO2 : TO ∉ fp2
  i12 : i1 ∉ fp2
  i32 : i3 ∉ fp2
  z3 : z ∉ fp3
  TO3 : TO ∉ fp3
  i13 : i1 ∉ fp3
  i23 : i2 ∉ fp3
variable {z TI TO i1 i2 i3 : Addr} {fp1 fp2 fp3 : List Addr} {n1 n2 n3 k : Nat} {P1 P2 P3 : Nat -> Value -> Prop} {St1 St2 St3 : Nat -> Heap -> Prop} {a b c : Value}
theorem far3_of {p q r : Addr} (nd : [z, TI, TO, i1, i2, i3].Nodup) (hp : ∀ c ∈ [z, TI, TO, i1, i2, i3], p ≠ c) (hq : ∀ c ∈ [z, TI, TO, i1, i2, i3], q ≠ c) (hr : ∀ c ∈ [z, TI, TO, i1, i2, i3], r ≠ c) :
    ZipFar3 z TI TO i1 i2 i3 [i1, p] [i2, q] [i3, r] := by
  simp only [List.nodup_cons, List.mem_cons, List.not_mem_nil, or_false, not_or, not_false_eq_true, List.nodup_nil, and_true] at nd
  (refine Obt.and5 nd fun t_0 t_1 t_2 t_3 e1 => Obt.and5 t_0 fun a1 a2 a3 a4 a5 => Obt.and4 t_1 fun b1 b2 b3 b4 => Obt.and3 t_2 fun c1 c2 c3 => Obt.and2 t_3 fun d1 d2 => ?_; clear t_3 t_2 t_1 t_0 nd)
  have P : ∀ {x}, x ∈ [z, TI, TO, i1, i2, i3] -> x ≠ p := fun h => (hp _ h).symm
  have Q : ∀ {x}, x ∈ [z, TI, TO, i1, i2, i3] -> x ≠ q := fun h => (hq _ h).symm
  have R : ∀ {x}, x ∈ [z, TI, TO, i1, i2, i3] -> x ≠ r := fun h => (hr _ h).symm
  have two : ∀ {x y t : Addr}, x ≠ y -> x ≠ t -> x ∉ [y, t] := fun h1 h2 z => by
    rcases List.mem_cons.mp z with e | e
    · exact h1 e
    · exact h2 (List.mem_singleton.mp e)
  exact ⟨Ne.symm a1, Ne.symm a2, b1, Ne.symm a3, Ne.symm a4, Ne.symm a5, b2, b3, b4, c1, c2, c3,
    two a3 (P (by simp)), two c1 (P (by simp)), two (Ne.symm d1) (P (by simp)), two (Ne.symm d2) (P (by simp)),
    two a4 (Q (by simp)), two c2 (Q (by simp)), two d1 (Q (by simp)), two (Ne.symm e1) (Q (by simp)),
    two a5 (R (by simp)), two c3 (R (by simp)), two d2 (R (by simp)), two e1 (R (by simp))⟩
theorem zip3_item {Q : Value -> Shared -> Prop} (D1 : Draws prog w A.in1 i1 fp1 n1 P1 St1) (D2 : Draws prog w A.in1 i2 fp2 n2 P2 St2) (D3 : Draws prog w A.in1 i3 fp3 n3 P3 St3) (F : ZipFar3 z TI TO i1 i2 i3 fp1 fp2 fp3)
    (hz : IsZip s.heap z TI TO .none) (hTI : IsTri s.heap TI (.ref i1) (.ref i2) (.ref i3)) (hTO : IsTri s.heap TO a b c) (s1 : St1 k s.heap) (s2 : St2 k s.heap) (s3 : St3 k s.heap) (l1 : k < n1) (l2 : k < n2) (l3 : k < n3)
    (hQ : ∀ x y u h' tk, P1 k x -> P2 k y -> P3 k u -> IsZip h' z TI TO (rawInt s.heap.objs.size) -> IsTri h' TO x y u -> St1 (k + 1) h' -> St2 (k + 1) h' -> St3 (k + 1) h' -> IsTri h' s.heap.objs.size x y u ->
      (∀ c o, c ≠ z -> c ≠ TO -> c ≠ i1 -> c ≠ i2 -> c ≠ i3 -> s.heap.get? c = some o -> h'.get? c = some o) -> Q (.ref s.heap.objs.size) { s with heap := h', toks := tk }) :
    wpAny (model prog w) A.in1 (Builtin.«zip.__next__» ⟨[.ref z], []⟩) (fun fin s' => ∃ v, fin = .done (.ret v) /\ Q v s') E s := by
  obtain ⟨hp, g, d, tk0, os⟩ := s
  show wpAny _ _ (field (.ref z) 2 >>= _) _ _ _
  refine wpAny_bind (wpAny_field hz rfl (x := .bool false) rfl ?_)
  show wpAny _ _ (field (.ref z) 3 >>= _) _ _ _
  refine wpAny_bind (wpAny_field hz rfl (x := .ref TI) rfl ?_)
  refine wpAny_bind (wpAny_seqItems hTI rfl ?_)
  show wpAny _ _ (Builtin.SmallTypes.ownedTupleIsFree (.ref z) >>= _) _ _ _
  refine wpAny_bind ?_
  unfold Builtin.SmallTypes.ownedTupleIsFree
  refine wpAny_bind (wpAny_field hz rfl (x := .none) rfl (wpAny_pure ?_))
  simp only [if_true]
  refine wpAny_bind (wpAny_rule ?_)
  refine wpAny_bind (wpAny_field hz rfl (x := .ref TO) rfl ?_)
  refine wpAny_bind (wpAny_setField_rec hz (by simp) fun h₁ hz₁ hs₁ => ?_)
  replace hz₁ : IsZip h₁ z TI TO .ellipsis := hz₁
  replace hs₁ : Heap.SameBut z hp h₁ := hs₁
  refine wpAny_bind ?_
  simp only [List.zipIdx_cons, List.zipIdx_nil, List.forIn_cons, List.forIn_nil]
  refine wpAny_bind (wpAny_bind (wpAny_onRaise ?_))
  show wpAny _ _ (Builtin.SmallTypes.nextOf (.ref i1) >>= _) _ _ _
  have q1 : St1 k h₁ := D1.frame _ _ _ s1 fun c hc o e => hs₁.extBut c o (fun x => F.z1 (x ▸ hc)) e
  refine wpAny_bind (D1.item k _ _ _ l1 q1 fun x h₂ tk1 hx q2 hs₂ => wpAny_pure ?_)
  replace hs₂ : Heap.SameBut i1 h₁ h₂ := hs₂
  have hTO₂ : IsTri h₂ TO a b c := hs₂.extBut _ _ F.TOi1 (hs₁.extBut _ _ F.TOz hTO)
  refine wpAny_bind (wpAny_seqItems (s := ⟨h₂, g, d, tk1, os⟩) hTO₂ rfl ?_)
  refine wpAny_bind (upd_tri (s := ⟨h₂, g, d, tk1, os⟩) hTO₂ fun h₃ hTO₃ hs₃ => ?_)
  replace hTO₃ : IsTri h₃ TO x b c := hTO₃
  replace hs₃ : Heap.SameBut TO h₂ h₃ := hs₃
  refine wpAny_bind (wpAny_letGo (wpAny_pure ?_))
  refine wpAny_bind (wpAny_bind (wpAny_onRaise ?_))
  show wpAny _ _ (Builtin.SmallTypes.nextOf (.ref i2) >>= _) _ _ _
  have r3 : St2 k h₃ := D2.frame _ _ _ s2 fun c hc o e => hs₃.extBut c o (fun x => F.TO2 (x ▸ hc)) (hs₂.extBut c o (fun x => F.i12 (x ▸ hc)) (hs₁.extBut c o (fun x => F.z2 (x ▸ hc)) e))
  refine wpAny_bind (D2.item k _ _ _ l2 r3 fun y h₄ tk2 hy r4 hs₄ => wpAny_pure ?_)
  replace hs₄ : Heap.SameBut i2 h₃ h₄ := hs₄
  have hTO₄ : IsTri h₄ TO x b c := hs₄.extBut _ _ F.TOi2 hTO₃
  refine wpAny_bind (wpAny_seqItems (s := ⟨h₄, g, d, tk2, os⟩) hTO₄ rfl ?_)
  refine wpAny_bind (upd_tri (s := ⟨h₄, g, d, tk2, os⟩) hTO₄ fun h₅ hTO₅ hs₅ => ?_)
  replace hTO₅ : IsTri h₅ TO x y c := hTO₅
  replace hs₅ : Heap.SameBut TO h₄ h₅ := hs₅
  refine wpAny_bind (wpAny_letGo (wpAny_pure ?_))
  refine wpAny_bind (wpAny_bind (wpAny_onRaise ?_))
  show wpAny _ _ (Builtin.SmallTypes.nextOf (.ref i3) >>= _) _ _ _
  have t5 : St3 k h₅ := D3.frame _ _ _ s3 fun c hc o e => hs₅.extBut c o (fun x => F.TO3 (x ▸ hc)) (hs₄.extBut c o (fun x => F.i23 (x ▸ hc)) (hs₃.extBut c o (fun x => F.TO3 (x ▸ hc)) (hs₂.extBut c o (fun x => F.i13 (x ▸ hc)) (hs₁.extBut c o (fun x => F.z3 (x ▸ hc)) e))))
  refine wpAny_bind (D3.item k _ _ _ l3 t5 fun u h₆ tk3 hu t6 hs₆ => wpAny_pure ?_)
  replace hs₆ : Heap.SameBut i3 h₅ h₆ := hs₆
  have hTO₆ : IsTri h₆ TO x y c := hs₆.extBut _ _ F.TOi3 hTO₅
  refine wpAny_bind (wpAny_seqItems (s := ⟨h₆, g, d, tk3, os⟩) hTO₆ rfl ?_)
  refine wpAny_bind (upd_tri (s := ⟨h₆, g, d, tk3, os⟩) hTO₆ fun h₇ hTO₇ hs₇ => ?_)
  replace hTO₇ : IsTri h₇ TO x y u := hTO₇
  replace hs₇ : Heap.SameBut TO h₆ h₇ := hs₇
  refine wpAny_bind (wpAny_letGo (wpAny_pure (wpAny_pure ?_)))
  refine wpAny_bind (wpAny_seqItems (s := ⟨h₇, g, d, tk3, os⟩) hTO₇ rfl ?_)
  refine wpAny_bind (wpAny_newTuple ?_)
  have hsz : h₇.objs.size = hp.objs.size := by rw [hs₇.1, hs₆.1, hs₅.1, hs₄.1, hs₃.1, hs₂.1, hs₁.1]
  have hz₇ : IsZip h₇ z TI TO .ellipsis := hs₇.extBut _ _ F.TOz.symm (hs₆.extBut _ _ F.i3z.symm (hs₅.extBut _ _ F.TOz.symm (hs₄.extBut _ _ F.i2z.symm (hs₃.extBut _ _ F.TOz.symm (hs₂.extBut _ _ F.i1z.symm hz₁)))))
  have hk₇ : ∀ c o, c ≠ z -> c ≠ TO -> c ≠ i1 -> c ≠ i2 -> c ≠ i3 -> hp.get? c = some o -> h₇.get? c = some o := fun c o c1 c2 c3 c4 c5 e =>
    hs₇.extBut _ _ c2 (hs₆.extBut _ _ c5 (hs₅.extBut _ _ c2 (hs₄.extBut _ _ c4 (hs₃.extBut _ _ c2 (hs₂.extBut _ _ c3 (hs₁.extBut _ _ c1 e))))))
  have q7 : St1 (k + 1) h₇ := D1.frame _ _ _ q2 fun c hc o e => hs₇.extBut c o (fun x => F.TO1 (x ▸ hc)) (hs₆.extBut c o (fun x => F.i31 (x ▸ hc)) (hs₅.extBut c o (fun x => F.TO1 (x ▸ hc)) (hs₄.extBut c o (fun x => F.i21 (x ▸ hc)) (hs₃.extBut c o (fun x => F.TO1 (x ▸ hc)) e))))
  have r7 : St2 (k + 1) h₇ := D2.frame _ _ _ r4 fun c hc o e => hs₇.extBut c o (fun x => F.TO2 (x ▸ hc)) (hs₆.extBut c o (fun x => F.i32 (x ▸ hc)) (hs₅.extBut c o (fun x => F.TO2 (x ▸ hc)) e))
  have t7 : St3 (k + 1) h₇ := D3.frame _ _ _ t6 fun c hc o e => hs₇.extBut c o (fun x => F.TO3 (x ▸ hc)) e
  have hzlt : z < h₇.objs.size := Heap.lt_size hz₇
  show wpAny _ _ (Builtin.SmallTypes.ownedTupleHandOut (.ref z) (.ref h₇.objs.size) >>= _) _ _ _
  refine wpAny_bind ?_
  unfold Builtin.SmallTypes.ownedTupleHandOut
  have hz₈ : IsZip (h₇.push { cls := .type "tuple", data := .seq #[x, y, u] }) z TI TO .ellipsis := Heap.get?_push_of_some _ hz₇
  refine wpAny_bind (wpAny_setField_rec (s := ⟨h₇.push { cls := .type "tuple", data := .seq #[x, y, u] }, g, d, tk3, os⟩) hz₈ (by simp) fun h₉ hz₉ hs₉ => ?_)
  replace hz₉ : IsZip h₉ z TI TO (rawInt h₇.objs.size) := hz₉
  replace hs₉ : Heap.SameBut z (h₇.push { cls := .type "tuple", data := .seq #[x, y, u] }) h₉ := hs₉
  refine wpAny_setField_rec (s := ⟨h₉, g, d, tk3, os⟩) hz₉ (by simp) fun h₀ hz₀ hs₀ => ?_
  replace hz₀ : IsZip h₀ z TI TO (rawInt h₇.objs.size) := hz₀
  replace hs₀ : Heap.SameBut z h₉ h₀ := hs₀
  have up : ∀ c o, c ≠ z -> h₇.get? c = some o -> h₀.get? c = some o := fun c o c1 e => hs₀.extBut _ _ c1 (hs₉.extBut _ _ c1 (Heap.get?_push_of_some _ e))
  have hT₀ : IsTri h₀ h₇.objs.size x y u := hs₀.extBut _ _ (Nat.ne_of_gt hzlt) (hs₉.extBut _ _ (Nat.ne_of_gt hzlt) (Heap.get?_push_size _ rfl))
  rw [hsz] at hz₀ hT₀
  refine wpAny_pure ⟨_, rfl, ?_⟩
  show Q (.ref h₇.objs.size) _
  rw [hsz]
  exact hQ x y u h₀ tk3 hx hy hu hz₀ (up _ _ F.TOz hTO₇) (D1.frame _ _ _ q7 fun c hc o e => up c o (fun x => F.z1 (x ▸ hc)) e) (D2.frame _ _ _ r7 fun c hc o e => up c o (fun x => F.z2 (x ▸ hc)) e) (D3.frame _ _ _ t7 fun c hc o e => up c o (fun x => F.z3 (x ▸ hc)) e) hT₀ fun c o c1 c2 c3 c4 c5 e => up c o c1 (hk₇ c o c1 c2 c3 c4 c5 e)
theorem zip3_end {Q : PySem.Fin -> Shared -> Prop} (D1 : Draws prog w A.in1 i1 fp1 n1 P1 St1) (F : ZipFar3 z TI TO i1 i2 i3 fp1 fp2 fp3)
    (hz : IsZip s.heap z TI TO .none) (hTI : IsTri s.heap TI (.ref i1) (.ref i2) (.ref i3)) (s1 : St1 n1 s.heap)
    (hE : ∀ h' e, (∀ c o, c ≠ z -> c ≠ i1 -> s.heap.get? c = some o -> h'.get? c = some o) -> (∃ o, h'.get? e = some o /\ o.cls = .type "StopIteration") -> E (.ref e) { s with heap := h' }) :
    wpAny (model prog w) A.in1 (Builtin.«zip.__next__» ⟨[.ref z], []⟩) Q E s := by
  obtain ⟨hp, g, d, tk0, os⟩ := s
  show wpAny _ _ (field (.ref z) 2 >>= _) _ _ _
  refine wpAny_bind (wpAny_field hz rfl (x := .bool false) rfl ?_)
  show wpAny _ _ (field (.ref z) 3 >>= _) _ _ _
  refine wpAny_bind (wpAny_field hz rfl (x := .ref TI) rfl ?_)
  refine wpAny_bind (wpAny_seqItems hTI rfl ?_)
  show wpAny _ _ (Builtin.SmallTypes.ownedTupleIsFree (.ref z) >>= _) _ _ _
  refine wpAny_bind ?_
  unfold Builtin.SmallTypes.ownedTupleIsFree
  refine wpAny_bind (wpAny_field hz rfl (x := .none) rfl (wpAny_pure ?_))
  simp only [if_true]
  refine wpAny_bind (wpAny_rule ?_)
  refine wpAny_bind (wpAny_field hz rfl (x := .ref TO) rfl ?_)
  refine wpAny_bind (wpAny_setField_rec hz (by simp) fun h₁ hz₁ hs₁ => ?_)
  replace hz₁ : IsZip h₁ z TI TO .ellipsis := hz₁
  replace hs₁ : Heap.SameBut z hp h₁ := hs₁
  refine wpAny_bind ?_
  simp only [List.zipIdx_cons, List.zipIdx_nil, List.forIn_cons, List.forIn_nil]
  refine wpAny_bind (wpAny_bind (wpAny_onRaise ?_))
  show wpAny _ _ (Builtin.SmallTypes.nextOf (.ref i1) >>= _) _ _ _
  have q1 : St1 n1 h₁ := D1.frame _ _ _ s1 fun c hc o e => hs₁.extBut c o (fun x => F.z1 (x ▸ hc)) e
  refine wpAny_bind (D1.done _ _ _ q1 fun h₂ e hs₂ he => ?_)
  (refine Obt.ex1 he fun oe h_0 => Obt.and2 h_0 fun hoe hce => ?_; clear h_0 he)
  have hz₂ : IsZip h₂ z TI TO .ellipsis := hs₂ _ _ F.i1z.symm hz₁
  have hez : e ≠ z := fun x => by subst x; rw [hz₂] at hoe; cases hoe; simp at hce
  exact wpAny_setField_rec (s := ⟨h₂, g, d, tk0, os⟩) hz₂ (by simp) fun h₃ _ hs₃ => hE h₃ e (fun c o c1 c3 x => Heap.SameBut.extBut hs₃ _ _ c1 (hs₂ _ _ c3 (hs₁.extBut _ _ c1 x))) ⟨oe, Heap.SameBut.extBut hs₃ _ _ hez hoe, hce⟩
end
theorem meets_zip_new3 (l1 l2 l3 : Addr) (xs ys zs : Array Value) :
    Meets (Builtin.«zip.__new__» ⟨[.type "zip", .ref l1, .ref l2, .ref l3], []⟩) (fun _ R s => s.heap.IsList l1 xs /\ s.heap.IsList l2 ys /\ s.heap.IsList l3 zs /\
      R (.ok (.ret (.ref (s.heap.objs.size + 5)))) { s with heap := (((((s.heap.push { cls := .type "list_iterator", data := .fields #[.ref l1, .int 0 0] }).push { cls := .type "list_iterator", data := .fields #[.ref l2, .int 0 0] }).push { cls := .type "list_iterator", data := .fields #[.ref l3, .int 0 0] }).push { cls := .type "tuple", data := .seq #[.ref s.heap.objs.size, .ref (s.heap.objs.size + 1), .ref (s.heap.objs.size + 2)] }).push { cls := .type "tuple", data := .seq #[.none, .none, .none] }).push { cls := .type "zip", data := .fields #[.none, .bool false, .bool false, .ref (s.heap.objs.size + 3), .ref (s.heap.objs.size + 4)] } }) :=
  .of_wp fun prog w A R s h => by
    obtain ⟨hp, g, d, tk, os⟩ := s; (refine Obt.and4 h fun hl1 hl2 hl3 h => ?_)
    have hsub := sub_zip
    have hL1 : Heap.IsList (Shared.heap ⟨hp, g, d, tk, os⟩) l1 xs := hl1
    have hL2 : Heap.IsList (Shared.heap ⟨hp.push { cls := .type "list_iterator", data := .fields #[.ref l1, .int 0 0] }, g, d, tk, os⟩) l2 ys := Heap.IsList.push hl2 _
    have hL3 : Heap.IsList (Shared.heap ⟨(hp.push { cls := .type "list_iterator", data := .fields #[.ref l1, .int 0 0] }).push { cls := .type "list_iterator", data := .fields #[.ref l2, .int 0 0] }, g, d, tk, os⟩) l3 zs := Heap.IsList.push (Heap.IsList.push hl3 _) _
    wp_walk using wpAny_pyIter_list hL1, wpAny_pyIter_list hL2, wpAny_pyIter_list hL3
    refine ⟨_, rfl, ?_⟩
    simp only [Heap.size_push] at h ⊢
    exact h
theorem call_zip_3 {prog : Program} {w : World} {A : Around} {E : Value -> Shared -> Prop} {s : Shared} {l1 l2 l3 : Addr} {xs ys zs : Array Value} {Q : Value -> Shared -> Prop} (hl1 : s.heap.IsList l1 xs) (hl2 : s.heap.IsList l2 ys) (hl3 : s.heap.IsList l3 zs)
    (h : ∀ h', IsZip h' (s.heap.objs.size + 5) (s.heap.objs.size + 3) (s.heap.objs.size + 4) .none -> IsTri h' (s.heap.objs.size + 3) (.ref s.heap.objs.size) (.ref (s.heap.objs.size + 1)) (.ref (s.heap.objs.size + 2)) ->
      IsTri h' (s.heap.objs.size + 4) .none .none .none -> h'.IsListIter s.heap.objs.size l1 0 -> h'.IsListIter (s.heap.objs.size + 1) l2 0 -> h'.IsListIter (s.heap.objs.size + 2) l3 0 ->
      (∀ c o, s.heap.get? c = some o -> h'.get? c = some o) -> Q (.ref (s.heap.objs.size + 5)) { s with heap := h' }) :
    wpAny (model prog w) A (call (.type "zip") [.ref l1, .ref l2, .ref l3]) Q E s := by
  refine callType_new F.called_zip (by decide) (typeCall_zip_3 _ _ _) (newCall_zip_3 _ _ _) (fun obj => args_object_init_4 obj _ _ _) F.entry_zip_new
    (meets_zip_new3 l1 l2 l3 xs ys zs) ⟨hl1, hl2, hl3, ?_⟩
  obtain ⟨h1, e1⟩ : ∃ h1, s.heap.push { cls := .type "list_iterator", data := .fields #[.ref l1, .int 0 0] } = h1 := ⟨_, rfl⟩
  obtain ⟨h2, e2⟩ : ∃ h2, h1.push { cls := .type "list_iterator", data := .fields #[.ref l2, .int 0 0] } = h2 := ⟨_, rfl⟩
  obtain ⟨h3, e3⟩ : ∃ h3, h2.push { cls := .type "list_iterator", data := .fields #[.ref l3, .int 0 0] } = h3 := ⟨_, rfl⟩
  obtain ⟨h4, e4⟩ : ∃ h4, h3.push { cls := .type "tuple", data := .seq #[.ref s.heap.objs.size, .ref (s.heap.objs.size + 1), .ref (s.heap.objs.size + 2)] } = h4 := ⟨_, rfl⟩
  obtain ⟨h5, e5⟩ : ∃ h5, h4.push { cls := .type "tuple", data := .seq #[.none, .none, .none] } = h5 := ⟨_, rfl⟩
  obtain ⟨h6, e6⟩ : ∃ h6, h5.push { cls := .type "zip", data := .fields #[.none, .bool false, .bool false, .ref (s.heap.objs.size + 3), .ref (s.heap.objs.size + 4)] } = h6 := ⟨_, rfl⟩
  have z1 : h1.objs.size = s.heap.objs.size + 1 := by rw [<- e1]; exact Heap.size_push ..
  have z2 : h2.objs.size = s.heap.objs.size + 2 := by rw [<- e2, Heap.size_push, z1]
  have z3 : h3.objs.size = s.heap.objs.size + 3 := by rw [<- e3, Heap.size_push, z2]
  have z4 : h4.objs.size = s.heap.objs.size + 4 := by rw [<- e4, Heap.size_push, z3]
  have z5 : h5.objs.size = s.heap.objs.size + 5 := by rw [<- e5, Heap.size_push, z4]
  have u6 : ∀ {c o}, h5.get? c = some o -> h6.get? c = some o := fun e => by rw [<- e6]; exact Heap.get?_push_of_some _ e
  have u5 : ∀ {c o}, h4.get? c = some o -> h6.get? c = some o := fun e => u6 (by rw [<- e5]; exact Heap.get?_push_of_some _ e)
  have u4 : ∀ {c o}, h3.get? c = some o -> h6.get? c = some o := fun e => u5 (by rw [<- e4]; exact Heap.get?_push_of_some _ e)
  have u3 : ∀ {c o}, h2.get? c = some o -> h6.get? c = some o := fun e => u4 (by rw [<- e3]; exact Heap.get?_push_of_some _ e)
  have u2 : ∀ {c o}, h1.get? c = some o -> h6.get? c = some o := fun e => u3 (by rw [<- e2]; exact Heap.get?_push_of_some _ e)
  have g6 : IsZip h6 (s.heap.objs.size + 5) (s.heap.objs.size + 3) (s.heap.objs.size + 4) .none := by
    rw [<- z5, <- e6]; exact Heap.get?_push_size _ rfl
  have g5 : IsTri h6 (s.heap.objs.size + 4) .none .none .none := u6 (by rw [<- z4, <- e5]; exact Heap.get?_push_size _ rfl)
  have g4 : IsTri h6 (s.heap.objs.size + 3) (.ref s.heap.objs.size) (.ref (s.heap.objs.size + 1)) (.ref (s.heap.objs.size + 2)) := u5 (by rw [<- z3, <- e4]; exact Heap.get?_push_size _ rfl)
  have g3 : h6.IsListIter (s.heap.objs.size + 2) l3 0 := ⟨_, u4 (by rw [<- z2, <- e3]; exact Heap.get?_push_size _ rfl), rfl, rfl⟩
  have g2 : h6.IsListIter (s.heap.objs.size + 1) l2 0 := ⟨_, u3 (by rw [<- z1, <- e2]; exact Heap.get?_push_size _ rfl), rfl, rfl⟩
  have g1 : h6.IsListIter s.heap.objs.size l1 0 := ⟨_, u2 (by rw [<- e1]; exact Heap.get?_push_size _ rfl), rfl, rfl⟩
  show _ /\ _
  rw [e1, e2, e3, e4, e5, e6]
  exact ⟨⟨_, g6, rfl⟩, h _ g6 g4 g5 g1 g2 g3 fun c o x => u2 (by rw [<- e1]; exact Heap.get?_push_of_some _ x)⟩
def Itz3 (K : PySem.W.Frag) (a b c : Addr) : It :=
  ⟨fun i H => ∃ xs ys zs x y u, SqL K H a xs /\ SqL K H b ys /\ SqL K H c zs /\ xs[i]? = some x /\ ys[i]? = some y /\ zs[i]? = some u,
   fun i H v H' => ∃ T x y u, v = .ref T /\ H T = none /\ H' = upd H T (.tup [x, y, u]) /\ (∀ xs, SqL K H a xs -> xs[i]? = some x) /\ (∀ ys, SqL K H b ys -> ys[i]? = some y) /\ ∀ zs, SqL K H c zs -> zs[i]? = some u,
   fun i H => ∃ xs, SqL K H a xs /\ xs.length = i⟩
theorem turn_zip3 {P : Program} {w : World} {K : PySem.W.Frag} {elts : List Expr} {x1 : _} {pos : Pos} (a b c z TI TO i1 i2 i3 : Addr) (nd : [z, TI, TO, i1, i2, i3].Nodup)
    (ha : ∀ x ∈ [z, TI, TO, i1, i2, i3], a ≠ x) (hb : ∀ x ∈ [z, TI, TO, i1, i2, i3], b ≠ x) (hc' : ∀ x ∈ [z, TI, TO, i1, i2, i3], c ≠ x) :
    Turn P w K (.Tuple elts x1 pos) (Itz3 K a b c) [z, TI, TO, i1, i2, i3] z (fun i h => IsZip h z TI TO .none /\ IsTri h TI (.ref i1) (.ref i2) (.ref i3) /\ (∃ u v t, IsTri h TO u v t) /\ h.IsListIter i1 a i /\ h.IsListIter i2 b i /\ h.IsListIter i3 c i) where
  mem := by simp
  obj := fun i h st d hd => by
    (refine Obt.and6 st fun hz hTI t_0 hi1 hi2 hi3 => Obt.ex3 t_0 fun u v t hTO => ?_; clear t_0 st)
    simp only [List.mem_cons, List.not_mem_nil, or_false] at hd
    rcases hd with rfl | rfl | rfl | rfl | rfl | rfl
    · exact ⟨_, hz, fun v z => by have z' : Data.fields _ = Data.cell v := z; cases z'⟩
    · exact ⟨_, hTI, fun v z => by have z' : Data.seq _ _ = Data.cell v := z; cases z'⟩
    · exact ⟨_, hTO, fun v z => by have z' : Data.seq _ _ = Data.cell v := z; cases z'⟩
    · (refine Obt.ex1 hi1 fun o h_0 => Obt.and3 h_0 fun e c d => ?_; clear h_0 hi1)
      exact ⟨o, e, fun v z => by rw [d] at z; cases z⟩
    · (refine Obt.ex1 hi2 fun o h_0 => Obt.and3 h_0 fun e c d => ?_; clear h_0 hi2)
      exact ⟨o, e, fun v z => by rw [d] at z; cases z⟩
    · (refine Obt.ex1 hi3 fun o h_0 => Obt.and3 h_0 fun e c d => ?_; clear h_0 hi3)
      exact ⟨o, e, fun v z => by rw [d] at z; cases z⟩
  keep := fun i h h' st k => by
    (refine Obt.and6 st fun hz hTI t_0 hi1 hi2 hi3 => Obt.ex3 t_0 fun u v t hTO => ?_; clear t_0 st)
    exact ⟨k z (by simp) _ hz, k TI (by simp) _ hTI, ⟨u, v, t, k TO (by simp) _ hTO⟩, hi1.at fun o e => k i1 (by simp) o e, hi2.at fun o e => k i2 (by simp) o e, hi3.at fun o e => k i3 (by simp) o e⟩
  item := by
    intro X hP hw hK hc i pins s σ H E I hf st hg
    subst hP hw hK
    (refine Obt.ex6 hg fun xs ys zs x y t h_0 => Obt.and6 h_0 fun hq1 hq2 hq3 hx hy ht => ?_; clear h_0 hg)
    (refine Obt.ex1 (I.list hq1) fun its h_0 => Obt.and3 h_0 fun rv p1' _ => ?_; clear h_0)
    have p1 : s.heap.IsList a its.toArray := p1'.isList
    (refine Obt.ex1 (I.list hq2) fun jts h_0 => Obt.and3 h_0 fun rw' p2' _ => ?_; clear h_0)
    have p2 : s.heap.IsList b jts.toArray := p2'.isList
    (refine Obt.ex1 (I.list hq3) fun kts h_0 => Obt.and3 h_0 fun rx' p3' _ => ?_; clear h_0)
    have p3 : s.heap.IsList c kts.toArray := p3'.isList
    (refine Obt.ex1 (rv.get hx) fun u h_0 => Obt.and2 h_0 fun hu ru => ?_; clear h_0)
    (refine Obt.ex1 (rw'.get hy) fun v h_0 => Obt.and2 h_0 fun hv rv2 => ?_; clear h_0)
    (refine Obt.ex1 (rx'.get ht) fun q h_0 => Obt.and2 h_0 fun hq rv3 => ?_; clear h_0)
    (refine Obt.and6 st fun hz hTI t_0 hi1 hi2 hi3 => Obt.ex3 t_0 fun o1 o2 o3 hTO => ?_; clear t_0 st)
    have FF := far3_of nd ha hb hc'
    have l1 : i < its.toArray.size := by have : i < its.length := (List.getElem?_eq_some_iff.mp hu).1; simpa using this
    have l2 : i < jts.toArray.size := by have : i < jts.length := (List.getElem?_eq_some_iff.mp hv).1; simpa using this
    have l3 : i < kts.toArray.size := by have : i < kts.length := (List.getElem?_eq_some_iff.mp hq).1; simpa using this
    have hh : X.A.in1.handled = none := I.ok.hd hc
    have D1 := Draws.list (prog := X.prog) (w := X.w) (A := X.A.in1) hh i1 a (ha i1 (by simp)) its.toArray
    have D2 := Draws.list (prog := X.prog) (w := X.w) (A := X.A.in1) hh i2 b (hb i2 (by simp)) jts.toArray
    have D3 := Draws.list (prog := X.prog) (w := X.w) (A := X.A.in1) hh i3 c (hc' i3 (by simp)) kts.toArray
    have hT : s.TypeIs (.ref z) "zip" := ⟨_, hz, rfl⟩
    unfold pyNext
    refine wpAny_bind (wpAny_attempt (wpAny_callSpecial?_slot (name := Str.ofString "__next__") hT F.slot_zip_next (wpAny_call_entry F.slot_zip_next hT F.entry_zip_next ?_ (F.args_zip_next_1 _))))
    refine zip3_item D1 D2 D3 FF hz hTI hTO ⟨hi1, p1⟩ ⟨hi2, p2⟩ ⟨hi3, p3⟩ l1 l2 l3 fun x' y' t' h' tk hx' hy' ht' a1 a2 a3 a4 b4 a5 a7 => wpAny_pure ?_
    have ex : x' = u := by
      have : its.toArray[i]? = some u := by simpa using hu
      rw [this] at hx'
      exact (Option.some.inj hx').symm
    have ey : y' = v := by
      have : jts.toArray[i]? = some v := by simpa using hv
      rw [this] at hy'
      exact (Option.some.inj hy').symm
    have et : t' = q := by
      have : kts.toArray[i]? = some q := by simpa using hq
      rw [this] at ht'
      exact (Option.some.inj ht').symm
    subst ex ey et
    refine ⟨_, rfl, wpAny_letOwnedTupleGo_zip (s := { s with heap := h', toks := tk }) a1 fun h2' hz' hs' => ?_⟩
    have fr : H s.heap.objs.size = none := I.hok.fresh (Nat.le_refl _)
    have I1 : Inv X pins σ (upd H s.heap.objs.size (.tup [x, y, t])) { s with heap := s.heap.push { cls := .type "tuple", data := .seq #[x', y', t'] }, toks := tk } :=
      I.laid (o := .tup [x, y, t]) (fun b ob q => Heap.get?_push_of_some _ q) (Nat.le_refl _) ⟨by show 3 <= sizeLine; decide, [x', y', t'], .cons ru (.cons rv2 (.cons rv3 .nil)), ⟨_, Heap.get?_push_size _ rfl, rfl, _, rfl⟩⟩
    have lt : ∀ c ∈ [z, TI, TO, i1, i2, i3], c < s.heap.objs.size := fun c hc => by
      simp only [List.mem_cons, List.not_mem_nil, or_false] at hc
      rcases hc with rfl | rfl | rfl | rfl | rfl | rfl
      · exact Heap.lt_size hz
      · exact Heap.lt_size hTI
      · exact Heap.lt_size hTO
      · (refine Obt.ex1 hi1 fun o h_0 => Obt.and2 h_0 fun e1 _ => ?_; clear h_0 hi1); exact Heap.lt_size e1
      · (refine Obt.ex1 hi2 fun o h_0 => Obt.and2 h_0 fun e1 _ => ?_; clear h_0 hi2); exact Heap.lt_size e1
      · (refine Obt.ex1 hi3 fun o h_0 => Obt.and2 h_0 fun e1 _ => ?_; clear h_0 hi3); exact Heap.lt_size e1
    have f2 : ∀ c ∈ [z, TI, TO, i1, i2, i3], FpOk X pins (upd H s.heap.objs.size (.tup [x, y, t])) c := fun c hc => by
      refine ⟨?_, (hf c hc).2⟩
      rw [upd_ne (Nat.ne_of_lt (lt c hc))]
      exact (hf c hc).1
    have I2 : Inv X pins σ (upd H s.heap.objs.size (.tup [x, y, t])) { s with heap := h2', toks := tk } := by
      refine Inv.turnedL (s := { s with heap := s.heap.push { cls := .type "tuple", data := .seq #[x', y', t'] }, toks := tk }) (t' := tk) (h' := h2') (ch := [z, TI, TO, i1, i2, i3]) I1 (fun c o hc q => ?_) f2 (fun _ _ _ _ => trivial)
      simp only [List.mem_cons, List.not_mem_nil, or_false, not_or] at hc
      refine (hs'.2 c hc.1).trans ?_
      rcases Heap.get?_push_cases (show (s.heap.push { cls := .type "tuple", data := .seq #[x', y', t'] }).get? c = some o from q) with ⟨rfl, rfl⟩ | q
      · exact a5
      · exact a7 c o hc.1 hc.2.2.1 hc.2.2.2.1 hc.2.2.2.2.1 hc.2.2.2.2.2 q
    refine ⟨.ref s.heap.objs.size, _, I2, rfl, ⟨s.heap.objs.size, x, y, t, rfl, fr, rfl, fun ys hy => by rw [I.list_inj hy hq1]; exact hx, fun ys hy' => by rw [I.list_inj hy' hq2]; exact hy, fun ys hy' => by rw [I.list_inj hy' hq3]; exact ht⟩, ⟨hz', ?_, ⟨x', y', t', ?_⟩, ?_, ?_, ?_⟩, fun b hb => (f2 b hb).1⟩
    · exact (hs'.2 TI FF.TIz).trans (a7 _ _ FF.TIz FF.TITO FF.TIi1 FF.TIi2 FF.TIi3 hTI)
    · exact (hs'.2 TO FF.TOz).trans a2
    · exact a3.1.at fun o e => (hs'.2 i1 FF.i1z).trans e
    · exact a4.1.at fun o e => (hs'.2 i2 FF.i2z).trans e
    · exact b4.1.at fun o e => (hs'.2 i3 FF.i3z).trans e
  done := by
    intro X hP hw hK hc i pins s σ H E I hf st hg
    subst hP hw hK
    (refine Obt.ex1 hg fun xs h_0 => Obt.and2 h_0 fun hq hx => ?_; clear h_0 hg)
    (refine Obt.ex1 (I.list hq) fun its h_0 => Obt.and3 h_0 fun rv p1' _ => ?_; clear h_0)
    have p1 : s.heap.IsList a its.toArray := p1'.isList
    (refine Obt.and6 st fun hz hTI t_0 hi1 hi2 hi3 => Obt.ex3 t_0 fun o1 o2 o3 hTO => ?_; clear t_0 st)
    have FF := far3_of nd ha hb hc'
    have hh : X.A.in1.handled = none := I.ok.hd hc
    have D1 := Draws.list (prog := X.prog) (w := X.w) (A := X.A.in1) hh i1 a (ha i1 (by simp)) its.toArray
    have hl := rv.length
    have ei : i = its.toArray.size := by simp; omega
    rw [ei] at hi1
    have hT : s.TypeIs (.ref z) "zip" := ⟨_, hz, rfl⟩
    unfold pyNext
    refine wpAny_bind (wpAny_attempt (wpAny_callSpecial?_slot (name := Str.ofString "__next__") hT F.slot_zip_next (wpAny_call_entry F.slot_zip_next hT F.entry_zip_next ?_ (F.args_zip_next_1 _))))
    refine zip3_end D1 FF hz hTI ⟨hi1, p1⟩ fun h' e hk he => ?_
    (refine Obt.ex1 he fun o h_0 => Obt.and2 h_0 fun ho hcl => ?_; clear h_0 he)
    refine wpAny_bind (wpAny_isInstance (T := "StopIteration") (b := true) ⟨o, ho, hcl⟩ isSubtype_stop ?_)
    refine wpAny_pure ⟨rfl, I.turnedL (t' := s.toks) (ch := [z, TI, TO, i1, i2, i3]) (fun c o hc q => ?_) hf (fun _ _ _ _ => trivial)⟩
    simp only [List.mem_cons, List.not_mem_nil, or_false, not_or] at hc
    exact hk c o hc.1 hc.2.2.2.1 q
  self := fun _ _ _ _ _ st h => wpAny_pyIter_zip st.1 h
section
variable {X : Cx}
def iZip3 (K : PySem.W.Frag) (tl : TA) : TI := fun σ H R => tl σ H fun vs H1 => ∃ a b c, vs = [.ref a, .ref b, .ref c] /\ (∃ xs, SqL K H1 a xs) /\ (∃ ys, SqL K H1 b ys) /\ (∃ zs, SqL K H1 c zs) /\ R (Itz3 K a b c) H1
theorem pi_zip3 {elts : List Expr} {x1 : _} {tpos : Pos} {l r t : Expr} {tl : TA} {p pos : Pos} (hg : Gl X "zip") (hm : X.mg "zip" = none) (hl : PA X [l, r, t] tl) (hs : starEach [l, r, t] X.env = [(false, eval l X.env), (false, eval r X.env), (false, eval t X.env)] := by rfl) (hs2 : starEach [r, t] X.env = [(false, eval r X.env), (false, eval t X.env)] := by rfl) :
    PI X (.Tuple elts x1 tpos) (.Call (.Name "zip" p) [l, r, t] [] pos) (iZip3 X.K tl) := by
  intro pins s σ H R I h
  refine Call_ (ld_blt I hg hm bt_zip (PyProof.Rows.callWith_type1 (thn (hl pos pins s σ H _ I h) fun us s1 ⟨vs, H1, I1, r1, q1⟩ => ?_) (by rw [hs, hs2]) (by rw [hs2]; rfl)))
  (refine Obt.ex3 q1 fun a b c h_0 => Obt.and5 h_0 fun e t_1 t_2 t_3 q => Obt.ex1 t_1 fun xs hq1 => Obt.ex1 t_2 fun ys hq2 => Obt.ex1 t_3 fun zs hq3 => ?_; clear t_3 t_2 t_1 h_0 q1)
  subst e
  cases r1 with
  | cons ra rr =>
    cases rr with
    | cons rb rr =>
      cases rr with
      | cons rc rr =>
        cases rr
        cases ra
        cases rb
        cases rc
        (refine Obt.ex1 (I1.list hq1) fun its h_0 => Obt.and3 h_0 fun rv p1' _ => ?_; clear h_0)
        have p1 : s1.heap.IsList a its.toArray := p1'.isList
        (refine Obt.ex1 (I1.list hq2) fun jts h_0 => Obt.and3 h_0 fun rv2 p2' _ => ?_; clear h_0)
        have p2 : s1.heap.IsList b jts.toArray := p2'.isList
        (refine Obt.ex1 (I1.list hq3) fun kts h_0 => Obt.and3 h_0 fun rv3 p3' _ => ?_; clear h_0)
        have p3 : s1.heap.IsList c kts.toArray := p3'.isList
        have la : a < s1.heap.objs.size := by (refine Obt.ex1 p1 fun o h_0 => Obt.and2 h_0 fun e _ => ?_; clear h_0 p1); exact Heap.lt_size e
        have lb : b < s1.heap.objs.size := by (refine Obt.ex1 p2 fun o h_0 => Obt.and2 h_0 fun e _ => ?_; clear h_0 p2); exact Heap.lt_size e
        have lc : c < s1.heap.objs.size := by (refine Obt.ex1 p3 fun o h_0 => Obt.and2 h_0 fun e _ => ?_; clear h_0 p3); exact Heap.lt_size e
        refine call_zip_3 p1 p2 p3 fun h' g6 g4 g5 g1 g2 g3 hk => ?_
        refine wpAny_pyIter_zip g6 ?_
        have le : ∀ c ∈ [s1.heap.objs.size + 5, s1.heap.objs.size + 3, s1.heap.objs.size + 4, s1.heap.objs.size, s1.heap.objs.size + 1, s1.heap.objs.size + 2], s1.heap.objs.size <= c := fun c hc => by
          simp only [List.mem_cons, List.not_mem_nil, or_false] at hc
          rcases hc with rfl | rfl | rfl | rfl | rfl | rfl <;> first | exact Nat.le_refl _ | exact Nat.le_add_right _ _
        have ndp : ∀ n : Nat, [n + 5, n + 3, n + 4, n, n + 1, n + 2].Nodup := fun n => by
          simp only [List.nodup_cons, List.mem_cons, List.not_mem_nil, or_false, not_or, not_false_eq_true, List.nodup_nil, and_true]
          omega
        refine ⟨s1.heap.objs.size + 5, [s1.heap.objs.size + 5, s1.heap.objs.size + 3, s1.heap.objs.size + 4, s1.heap.objs.size, s1.heap.objs.size + 1, s1.heap.objs.size + 2], _, _, H1, rfl, I1.kept (t' := s1.toks) hk,
          turn_zip3 a b c (s1.heap.objs.size + 5) (s1.heap.objs.size + 3) (s1.heap.objs.size + 4) s1.heap.objs.size (s1.heap.objs.size + 1) (s1.heap.objs.size + 2) (ndp _)
            (fun c hc => Nat.ne_of_lt (Nat.lt_of_lt_of_le la (le c hc))) (fun c hc => Nat.ne_of_lt (Nat.lt_of_lt_of_le lb (le c hc))) (fun d hc => Nat.ne_of_lt (Nat.lt_of_lt_of_le lc (le d hc))), ⟨g6, g4, ⟨_, _, _, g5⟩, g1, g2, g3⟩, fun c hc => I1.fpOk (le c hc) (I1.hok.fresh (le c hc)), q⟩
end
theorem for_zip3 {K : PySem.W.Frag} {a b c : Addr} {xs ys zs : List V} {g : TG} {tb : TS} {D : Ends} {σ : St} {H : Hp} (hlen : xs.length = ys.length) (hlen2 : xs.length = zs.length) (Pv : Nat -> St -> Hp -> Prop) (h0 : Pv 0 σ H) (hl : ∀ i σ H, i <= xs.length -> Pv i σ H -> SqL K H a xs /\ SqL K H b ys /\ SqL K H c zs)
    (hs : ∀ i x y u σ H T, xs[i]? = some x -> ys[i]? = some y -> zs[i]? = some u -> Pv i σ H -> H T = none -> g (.ref T) σ (upd H T (.tup [x, y, u])) fun σ2 H2 => tb { D with nx := Pv (i + 1), ct := Pv (i + 1), bk := D.nx } σ2 H2) (hd : ∀ σ H, Pv xs.length σ H -> D.nx σ H) :
    ∃ W : Nat -> Nat -> St -> Hp -> Prop, (∃ m, W 0 m σ H) /\ ∀ i m σ H, W i m σ H ->
      ((Itz3 K a b c).stop i H /\ D.nx σ H) \/ ((Itz3 K a b c).go i H /\ ∃ N : St -> Hp -> Prop, (∀ σ' H', N σ' H' -> ∃ m', m' < m /\ W (i + 1) m' σ' H') /\ ∀ x H', (Itz3 K a b c).yld i H x H' -> g x σ H' fun σ2 H2 => tb { D with nx := N, ct := N, bk := D.nx } σ2 H2) := by
  refine ⟨fun i m σ H => m = xs.length - i /\ i <= xs.length /\ Pv i σ H, ⟨xs.length, by simp, Nat.zero_le _, h0⟩, ?_⟩
  (refine fun i m σ H i_0 => Obt.and3 i_0 fun e_1 hi p => ?_; subst e_1; clear i_0)
  have q := hl i σ H hi p
  by_cases hlt : i < xs.length
  · refine .inr ⟨⟨xs, ys, zs, xs[i], ys[i]'(by omega), zs[i]'(by omega), q.1, q.2.1, q.2.2, by simp [hlt], by rw [List.getElem?_eq_getElem (by omega)], by rw [List.getElem?_eq_getElem (by omega)]⟩, Pv (i + 1), fun σ' H' p' => ⟨xs.length - (i + 1), by omega, rfl, hlt, p'⟩, fun x H' y => ?_⟩
    (refine Obt.ex4 y fun T x0 y0 u0 h_0 => Obt.and6 h_0 fun e_1 hT e_2 y1 y2 y3 => ?_; subst e_1; subst e_2; clear h_0 y)
    exact hs i x0 y0 u0 σ _ T (y1 xs q.1) (y2 ys q.2.1) (y3 zs q.2.2) p hT
  · have e : i = xs.length := by omega
    subst e
    exact .inl ⟨⟨xs, q.1, rfl⟩, hd σ H p⟩
section
variable {X : Cx}
theorem pe_fldK (K : PySem.W.Frag) {e : Expr} {f : Str} {pos : Pos} {ta : TE} (he : PE X e ta) (hb : attributeBase e f X.env (eval e X.env) = eval e X.env) (hK : X.K = K := by rfl) : PE X (.Attribute e f pos) (tFld K ta f) := by
  subst hK
  exact pe_fld he hb
end
theorem comp_rangeI {lo : Int} {n : Nat} {ix : List (Option Nat)} {tc : TT} {te : TE} {σ : St} {H : Hp} {Qd : Addr -> Hp -> Prop} (Pv : Addr -> Nat -> List V -> Hp -> Prop)
    (h0 : ∀ D, H D = none -> Pv D 0 [] (upd H D (.lst [])))
    (hs : ∀ D i ys H' (Qy : VK) (Qn : Hp -> Prop), H D = none -> i < n -> H' D = some (.lst ys) -> Pv D i ys H' -> (∀ y H4, H4 D = some (.lst ys) -> ys.length < sizeLine -> Pv D (i + 1) (ys ++ [y]) (upd H4 D (.lst (ys ++ [y]))) -> Qy y H4) ->
      (∀ H4, H4 D = some (.lst ys) -> Pv D (i + 1) ys H4 -> Qn H4) -> tc ((blockSt ix σ).set 0 (some (.int (lo + i)))) H' fun b H4 => if b = true then te ((blockSt ix σ).set 0 (some (.int (lo + i)))) H4 Qy else Qn H4)
    (hd : ∀ D ys H', H D = none -> H' D = some (.lst ys) -> Pv D n ys H' -> Qd D H') : CompWI (Itr lo n) ix (gName 0) tc te σ H Qd := by
  intro D hD
  refine ⟨fun i m σ' H' => m = n - i /\ i <= n /\ (σ' = blockSt ix σ \/ ∃ t, σ' = (blockSt ix σ).set 0 t) /\ ∃ ys, H' D = some (.lst ys) /\ Pv D i ys H', ⟨n, by simp, Nat.zero_le _, .inl rfl, [], upd_same, h0 D hD⟩, ?_⟩
  (refine fun i m σ' H' i_0 => Obt.and4 i_0 fun e_1 hi hσ t_2 => Obt.ex1 t_2 fun ys h_3 => Obt.and2 h_3 fun hy p => ?_; subst e_1; clear h_3 t_2 i_0)
  by_cases hlt : i < n
  · refine .inr ⟨hlt, fun x H2 y => ?_⟩
    (refine Obt.and2 y fun e1 e2 => ?_; clear y)
    subst e1
    subst e2
    have es : σ'.set 0 (some (V.int (lo + i))) = (blockSt ix σ).set 0 (some (V.int (lo + i))) := by
      rcases hσ with z | ⟨t, z⟩
      · rw [z]
      · rw [z, List.set_set]
    show tc (σ'.set 0 (some (V.int (lo + i)))) _ _
    rw [es]
    exact hs D i ys _ _ _ hD hlt hy p (fun y H4 h4 hz p4 => ⟨ys, h4, hz, n - (i + 1), by omega, rfl, hlt, .inr ⟨_, rfl⟩, ys ++ [y], upd_same, p4⟩) fun H4 h4 p4 => ⟨n - (i + 1), by omega, rfl, hlt, .inr ⟨_, rfl⟩, ys, h4, p4⟩
  · have e : i = n := by omega
    subst e
    exact .inl ⟨Nat.le_refl _, hd D ys H' hD hy p⟩
theorem cut_G {t u : TS} {D : Ends} {σ : St} {H : Hp} (R : St -> Hp -> Prop) (h1 : ∀ σ' H', R σ' H' -> u D σ' H') (h2 : ∀ D' : Ends, (∀ σ' H', R σ' H' -> D'.nx σ' H') -> t D' σ H) : tSeq t u D σ H :=
  h2 { D with nx := u D } h1
end L2
set_option Elab.async false
set_option linter.all false
set_option maxRecDepth 100000
set_option maxHeartbeats 8000000
namespace My
open PySem L2
abbrev LL := List (List Int)
abbrev LI := List Int
abbrev OV := Option V
theorem gi_ {α : Type} {l : List α} {i : Nat} {a : α} (h : l[i]? = some a) : ∃ h : i < l.length, l[i] = a := List.getElem?_eq_some_iff.mp h
theorem mq_ {α : Type} {l : List α} {i : Nat} {a : α} (h : l[i]? = some a) : a ∈ l := List.mem_of_getElem? h
theorem ma_ {α : Type} {a : α} {s t : List α} : a ∈ s ++ t ↔ a ∈ s \/ a ∈ t := List.mem_append
theorem lm_ {α β : Type} {f : α -> β} {l : List α} : (l.map f).length = l.length := List.length_map f
theorem qT_ {K : PySem.W.Frag} {H : Hp} {a : Addr} {xs : List V} (h : H a = some (.tup xs)) : SqT K H a xs := SqT.of h
theorem qL_ {K : PySem.W.Frag} {H : Hp} {a : Addr} {xs : List V} (h : H a = some (.lst xs)) : SqL K H a xs := SqL.of h
def top (i : Nat) : Stmt := PySem.Challenge.pw_figuretell_k22_narrowing_and_choosing.main.body.getD i (.Pass ⟨0, 0, 0, 0⟩)
abbrev s_power_of : Stmt := top 1
abbrev s_rooms_with : Stmt := top 3
abbrev s_rooms_leading_to : Stmt := top 4
abbrev s_without_part : Stmt := top 10
abbrev s_with_part : Stmt := top 11
abbrev s_parts_alone : Stmt := top 12
abbrev s__law_number : Stmt := top 14
abbrev s__law_whole : Stmt := top 15
abbrev s__law_same : Stmt := top 16
abbrev s__law_sign : Stmt := top 17
abbrev s__law_machine : Stmt := top 18
abbrev s__law_sides : Stmt := top 19
abbrev s__law_wide : Stmt := top 20
abbrev s__law_without : Stmt := top 21
abbrev s__law_alive : Stmt := top 22
abbrev s__law_next : Stmt := top 23
abbrev s__law_one_alive : Stmt := top 24
abbrev s__law_by_left : Stmt := top 25
abbrev s__law_asked : Stmt := top 26
abbrev s__law_stepped : Stmt := top 27
abbrev s_law : Stmt := top 28
abbrev s_Reading___init__ : Stmt := inClass (top 7) 0
abbrev s_Reading_begin : Stmt := inClass (top 7) 1
abbrev s_Reading_step : Stmt := inClass (top 7) 2
abbrev s_Reading_sign : Stmt := inClass (top 7) 3
abbrev s_Narrowing___init__ : Stmt := inClass (top 8) 0
abbrev s_Narrowing_begin : Stmt := inClass (top 8) 1
abbrev s_Narrowing_step : Stmt := inClass (top 8) 2
abbrev s_Narrowing_sign : Stmt := inClass (top 8) 3
abbrev s_Choosing___init__ : Stmt := inClass (top 9) 0
abbrev s_Choosing_begin : Stmt := inClass (top 9) 1
abbrev s_Choosing_step : Stmt := inClass (top 9) 2
abbrev s_Choosing_sign : Stmt := inClass (top 9) 3
theorem iteD {c A B : Prop} [Decidable c] (h1 : c -> A) (h2 : ¬ c -> B) : if decide c = true then A else B := ite2 (fun h => h1 (of_decide_eq_true h)) fun h => h2 fun z => h (decide_eq_true z)
theorem iteDn {c A B : Prop} [Decidable c] (h1 : ¬ c -> A) (h2 : c -> B) : if (!decide c) = true then A else B := ite2 (fun h => h1 fun z => by rw [decide_eq_true z] at h; cases h) fun h => h2 (Decidable.byContradiction fun z => h (by rw [decide_eq_false z]; rfl))
theorem iteI {a b : Int} {A B : Prop} (h1 : a = b -> A) (h2 : a ≠ b -> B) : if decide (V.int a = V.int b) = true then A else B := iteD (fun h => h1 (V.int.inj h)) fun h => h2 fun z => h (congrArg V.int z)
theorem mul_in {a b m n : Int} (a0 : 0 <= a) (a1 : a <= m) (b0 : 0 <= b) (b1 : b <= n) : 0 <= a * b /\ a * b <= m * n := ⟨Int.mul_nonneg a0 b0, Int.mul_le_mul a1 b1 b0 (Int.le_trans a0 a1)⟩
theorem mod_in {a b : Int} (h : 0 < b) : 0 <= a % b /\ a % b < b := ⟨Int.emod_nonneg a (by omega), Int.emod_lt_of_pos a h⟩
theorem same_upd {H H' : Hp} {p : Addr} {o : HO} (h : Same H H') (hp : H p = none) : Same H (upd H' p o) := fun b u e => by rw [upd_ne (ne_of_none e hp)]; exact h b u e
theorem nat_of {x : Int} (h : 0 <= x) : ∃ n : Nat, x = (n : Int) := ⟨x.toNat, by omega⟩
theorem getD_at {α : Type} {xs : List α} {i : Nat} {d : α} (h : i < xs.length) : xs.getD i d = xs[i] := by simp [h]
theorem atI_ints {ns : LI} {k : Int} (h0 : 0 <= k) (h : k < (ns.length : Int)) : atI (ns.map V.int) k = some (.int (ns.getD k.toNat 0)) := by
  have hk : k.toNat < ns.length := by omega
  have ek : k = ((k.toNat : Nat) : Int) := by omega
  have q : atI (ns.map V.int) ((k.toNat : Nat) : Int) = some (.int ns[k.toNat]) := atI_nat (by rw [List.getElem?_map, List.getElem?_eq_getElem hk] <;> rfl)
  rw [<- ek] at q
  rw [q, getD_at hk]
theorem atI_refs {ras : List Addr} {k : Int} {ra : Addr} (h0 : 0 <= k) (h : ras[k.toNat]? = some ra) : atI (ras.map V.ref) k = some (.ref ra) := by
  have ek : k = ((k.toNat : Nat) : Int) := by omega
  have q : atI (ras.map V.ref) ((k.toNat : Nat) : Int) = some (.ref ra) := atI_nat (by rw [List.getElem?_map, h] <;> rfl)
  rw [<- ek] at q
  exact q
theorem ints_at {ns : LI} {i : Nat} {y : V} (h : (ns.map V.int)[i]? = some y) : ∃ z, y = V.int z /\ ns[i]? = some z := by
  rw [List.getElem?_map] at h
  cases e : ns[i]? with
  | none => rw [e] at h; cases h
  | some z => rw [e] at h; exact ⟨z, (Option.some.inj h).symm, rfl⟩
theorem kit_tuple_tuple (K : PySem.W.Frag) : PySem.W.kitOne K (.type "tuple") (.type "tuple") = some true := by with_unfolding_all rfl
theorem cut_front {ns : LI} {c : Nat} : cutV (ns.map V.int) none (some (c : Int)) = (ns.take c).map V.int := by
  unfold cutV
  rw [HT.sIx_none, HT.sIx_nat, lm_, List.drop_zero, Nat.sub_zero]
  rw [<- List.map_take]
  congr 1
  rcases Nat.le_total c ns.length with h | h
  · rw [Nat.min_eq_left h]
  · rw [Nat.min_eq_right h, List.take_length, List.take_of_length_le h]
def stepI (rows : LL) (h f : Int) : Int := (rows.getD h.toNat []).getD f.toNat 0
def walkI (rows : LL) (row : LI) (h : Int) : Int := row.foldl (stepI rows) h
structure RowsOk (many wide : Nat) (rows : LL) : Prop where
  len : rows.length = many
  row : ∀ r ∈ rows, r.length = wide
  val : ∀ r ∈ rows, ∀ v ∈ r, 0 <= v /\ v < (many : Int)
theorem stepI_ok {many wide : Nat} {rows : LL} {h f : Int} (R : RowsOk many wide rows) (h0 : 0 <= h) (h1 : h < many) (f0 : 0 <= f) (f1 : f < wide) : 0 <= stepI rows h f /\ stepI rows h f < many := by
  have l1 : h.toNat < rows.length := by rw [R.len]; omega
  have l2 : f.toNat < rows[h.toNat].length := by rw [R.row _ (List.getElem_mem l1)]; omega
  unfold stepI
  rw [getD_at l1, getD_at l2]
  exact R.val _ (List.getElem_mem l1) _ (List.getElem_mem l2)
def RowsAt (H : Hp) : List Addr -> LL -> Prop := Paired fun a r => H a = some (.tup (r.map V.int))
theorem RowsAt.length {H : Hp} {ras : List Addr} {rows : LL} (h : RowsAt H ras rows) : ras.length = rows.length := Paired.length h
theorem RowsAt.get : ∀ {H : Hp} {ras : List Addr} {rows : LL} {i : Nat}, RowsAt H ras rows -> (h : i < rows.length) -> ∃ ra, ras[i]? = some ra /\ H ra = some (.tup (rows[i].map V.int))
  | _, _, _, _, .nil, h => by simp at h
  | _, _, _, 0, .cons (a := a) r _, _ => ⟨a, rfl, r⟩
  | _, _, _, i + 1, .cons _ t, h => by
    (refine Obt.ex1 (RowsAt.get (i := i) t (by simpa using h)) fun ra h_0 => Obt.and2 h_0 fun h1 h2 => ?_; clear h_0)
    exact ⟨ra, by simpa using h1, by simpa using h2⟩
theorem RowsAt.same {H H' : Hp} {ras : List Addr} {rows : LL} (h : RowsAt H ras rows) (s : ∀ b xs, H b = some (.tup xs) -> H' b = some (.tup xs)) : RowsAt H' ras rows := Paired.mapP h fun _ _ q => s _ _ q
theorem RowsAt.snoc : ∀ {H : Hp} {ras : List Addr} {rows : LL} {a : Addr} {r : LI}, RowsAt H ras rows -> H a = some (.tup (r.map V.int)) -> RowsAt H (ras ++ [a]) (rows ++ [r])
  | _, _, _, _, _, .nil, h => .cons h .nil
  | _, _, _, _, _, .cons q t, h => .cons q (RowsAt.snoc t h)
structure MachAt (H : Hp) (m r g : Addr) (wide : Nat) (rows : LL) (signs : LI) : Prop where
  tup : H m = some (.tup [.int wide, .ref r, .ref g])
  rows : ∃ ras, H r = some (.tup (ras.map V.ref)) /\ RowsAt H ras rows
  sgn : H g = some (.tup (signs.map V.int))
theorem MachAt.same {H H' : Hp} {m r g : Addr} {wide : Nat} {rows : LL} {signs : LI} (M : MachAt H m r g wide rows signs) (s : ∀ b xs, H b = some (.tup xs) -> H' b = some (.tup xs)) : MachAt H' m r g wide rows signs := by
  obtain ⟨h1, ⟨ras, h2, h3⟩, h4⟩ := M
  exact ⟨s _ _ h1, ⟨ras, s _ _ h2, h3.same s⟩, s _ _ h4⟩
theorem row_step {H : Hp} {ras : List Addr} {rows : LL} {many wide : Nat} {h f : Int} (A : RowsAt H ras rows) (R : RowsOk many wide rows) (h0 : 0 <= h) (h1 : h < many) (f0 : 0 <= f) (f1 : f < wide) :
    ∃ (ra : Addr) (r : LI), atI (ras.map V.ref) h = some (.ref ra) /\ H ra = some (.tup (r.map V.int)) /\ atI (r.map V.int) f = some (.int (stepI rows h f)) := by
  have l1 : h.toNat < rows.length := by rw [R.len]; omega
  have l2 : rows[h.toNat].length = wide := R.row _ (List.getElem_mem l1)
  (refine Obt.ex1 (A.get l1) fun ra h_0 => Obt.and2 h_0 fun e1 e2 => ?_; clear h_0)
  refine ⟨ra, rows[h.toNat], atI_refs h0 e1, e2, ?_⟩
  rw [atI_ints f0 (by rw [l2]; exact f1)]
  unfold stepI
  rw [getD_at l1]
end My
set_option Elab.async false
set_option linter.all false
set_option maxRecDepth 100000
set_option maxHeartbeats 8000000
namespace My
open PySem L2
def withoutI (x b lo : Int) : Int := x % lo + lo * (x / (lo * b))
def withI (x b lo p : Int) : Int := x % lo + lo * p + lo * b * (x / lo)
def spPower : Sp := fun vs H Q _ => ∃ (b : Int) (n : Nat), vs = [.int b, .int n] /\ (0 <= b /\ b <= 1000) /\ n <= 1000 /\ Q (.int (b ^ n)) H
def spWithout : Sp := fun vs H Q _ => ∃ x b lo : Int, vs = [.int x, .int b, .int lo] /\ (0 < b /\ b <= 1000) /\ (0 < lo /\ lo <= 100000) /\ Q (.int (withoutI x b lo)) H
def spWithP : Sp := fun vs H Q _ => ∃ x b lo p : Int, vs = [.int x, .int b, .int lo, .int p] /\ (0 < b /\ b <= 1000) /\ (0 < lo /\ lo <= 100000) /\ Q (.int (withI x b lo p)) H
def spParts : Sp := fun vs H Q _ => ∃ (b : Nat) (lo : Int), vs = [.int b, .int lo] /\ b <= 1000 /\ (0 < lo /\ lo <= 100000) /\ ∀ (l : Addr) (H' : Hp), Same H H' -> H l = none -> H' l = some (.lst (((List.range b).map fun i : Nat => lo * (i : Int)).map V.int)) -> Q (.ref l) H'
structure RCls (K : PySem.W.Frag) (C : Addr) : Prop where
  cl : Cls K C
  nr : NoAttr K C "rows"
  ns : NoAttr K C "signs"
structure RdAt (H : Hp) (C x r g : Addr) : Prop where
  ob : ∃ dx : Addr, H x = some (.ins C dx [("rows", .ref r), ("signs", .ref g)])
theorem RdAt.same {H H' : Hp} {C x r g : Addr} (h : RdAt H C x r g) (s : Same H H') : RdAt H' C x r g := by
  (refine Obt.ex1 h.ob fun dx h1 => ?_)
  exact ⟨dx, s _ _ h1⟩
def spRInit (C : Addr) : Sp := fun vs H Q _ => ∃ (x dx m r g : Addr) (wide : Nat) (rows : LL) (signs : LI), vs = [.ref x, .ref m] /\ H x = some (.ins C dx []) /\ MachAt H m r g wide rows signs /\
  ∀ H' : Hp, (∀ c u, c ≠ x -> H c = some u -> H' c = some u) -> RdAt H' C x r g -> Q .non H'
def spRBegin : Sp := fun vs H Q _ => ∃ x : Addr, vs = [.ref x] /\ Q (.int 0) H
def spRStep (C : Addr) : Sp := fun vs H Q _ => ∃ (x m r g : Addr) (q f : Int) (many wide : Nat) (rows : LL) (signs : LI), vs = [.ref x, .int q, .int f] /\ RdAt H C x r g /\ MachAt H m r g wide rows signs /\ RowsOk many wide rows /\ (0 <= q /\ q < (many : Int)) /\ (0 <= f /\ f < (wide : Int)) /\ Q (.int (stepI rows q f)) H
def spRSign (C : Addr) : Sp := fun vs H Q _ => ∃ (x m r g : Addr) (q : Int) (wide : Nat) (rows : LL) (signs : LI), vs = [.ref x, .int q] /\ RdAt H C x r g /\ MachAt H m r g wide rows signs /\ (0 <= q /\ q < (signs.length : Int)) /\ Q (.int (signs.getD q.toNat 0)) H
section
variable {P : Program} {w : World} {K : PySem.W.Frag} {mg : Str -> Option Value} {base : Heap} {f : Addr} {fd : FuncData} {dV : Value} {C : Addr}
theorem sc_power_of : FnScope ["base", "times", "power", "turn"] ["base", "times"] (defScope s_power_of) := ⟨rfl, rfl, rfl, by decide +kernel, rfl, by decide +kernel, by decide +kernel⟩
theorem sc_without_part : FnScope ["figure", "base", "below"] ["figure", "base", "below"] (defScope s_without_part) := ⟨rfl, rfl, rfl, by decide +kernel, rfl, by decide +kernel, by decide +kernel⟩
theorem sc_with_part : FnScope ["figure", "base", "below", "part"] ["figure", "base", "below", "part"] (defScope s_with_part) := ⟨rfl, rfl, rfl, by decide +kernel, rfl, by decide +kernel, by decide +kernel⟩
theorem sc_parts_alone : FnScope ["base", "below"] ["base", "below"] (defScope s_parts_alone) := ⟨rfl, rfl, rfl, by decide +kernel, rfl, by decide +kernel, by decide +kernel⟩
theorem bk_parts_alone_0 : BlkScope ["base", "below"] (defScope s_parts_alone) ["part", "below"] [none, some 1] { kind := ScopeKind.function, names := [(".0", NameKind.local), ("part", NameKind.local), ("below", NameKind.free)], isGenerator := false, isCoroutine := false, more := [] } := ⟨rfl, by decide +kernel, by decide +kernel, by decide +kernel, by decide +kernel, rfl, by decide +kernel⟩
theorem sc_Reading___init__ : FnScope ["self", "machine"] ["self", "machine"] (defScope s_Reading___init__) := ⟨rfl, rfl, rfl, by decide +kernel, rfl, by decide +kernel, by decide +kernel⟩
theorem sc_Reading_begin : FnScope ["self"] ["self"] (defScope s_Reading_begin) := ⟨rfl, rfl, rfl, by decide +kernel, rfl, by decide +kernel, by decide +kernel⟩
theorem sc_Reading_step : FnScope ["self", "place", "figure"] ["self", "place", "figure"] (defScope s_Reading_step) := ⟨rfl, rfl, rfl, by decide +kernel, rfl, by decide +kernel, by decide +kernel⟩
theorem sc_Reading_sign : FnScope ["self", "place"] ["self", "place"] (defScope s_Reading_sign) := ⟨rfl, rfl, rfl, by decide +kernel, rfl, by decide +kernel, by decide +kernel⟩
theorem ok_power (F : FunD K "power_of" "power_of" s_power_of dV f fd) (z_range : mg "range" = none) : FnOk P w K mg base CX0 1 f fd ["base", "times"] spPower := by
  refine F.ok sc_power_of (fun vs H Q E h => ?_) (fun cdv A outer s H vs Q E hr h => ?_)
  · (refine Obt.ex2 h fun b n h_0 => Obt.and2 h_0 fun e_1 _ => ?_; subst e_1; clear h_0 h)
    rfl
  (refine Obt.ex2 h fun b n h_0 => Obt.and4 h_0 fun e_1 t_2 hn q => Obt.and2 t_2 fun b0 b1 => ?_; subst e_1; clear t_2 h_0 h)
  refine ⟨_, (pss_cons (ps_set (i := 2) sc_power_of.nd rfl (Or.inl rfl) pe_int)
      (pss_cons (ps_for PassesOwn.never rfl (pi_range1 rfl z_range (pa_cons (pv 1) pa_nil)) (pg_name (i := 3) sc_power_of.nd rfl (Or.inl rfl)) (pss_one (ps_set (i := 2) sc_power_of.nd rfl (Or.inl rfl) (pe_op op_mul (pv 2) (pv 0)))))
      (pss_one (ps_ret (pv 2))))), ?_⟩
  refine ⟨_, rfl, (n : Int), rfl, by omega, by omega, for_range (fun i σ' H' => ∃ v, σ' = [some (.int b), some (.int n), some (.int (b ^ i)), v] /\ H' = H) ⟨none, by rw [Int.pow_zero]; rfl, rfl⟩ ?_ ?_⟩
  · (refine fun i σ' H' hi i_0 => Obt.ex1 i_0 fun v h_1 => Obt.and2 h_1 fun e_2 e_3 => ?_; subst e_2; subst e_3; clear h_1 i_0)
    exact ⟨_, rfl, _, rfl, _, _, rfl, rfl, .inr ⟨by omega, by omega⟩, some (.int (0 + i)), by rw [Int.pow_succ]; rfl, rfl⟩
  · (refine fun σ' H' i_0 => Obt.ex1 i_0 fun v h_1 => Obt.and2 h_1 fun e_2 e_3 => ?_; subst e_2; subst e_3; clear h_1 i_0)
    rw [Int.toNat_natCast]
    exact ⟨_, rfl, q⟩
theorem ok_without (F : FunD K "without_part" "without_part" s_without_part dV f fd) : FnOk P w K mg base CX0 1 f fd ["figure", "base", "below"] spWithout := by
  refine F.ok sc_without_part (fun vs H Q E h => ?_) (fun cdv A outer s H vs Q E hr h => ?_)
  · (refine Obt.ex3 h fun x b lo h_0 => Obt.and2 h_0 fun e_1 _ => ?_; subst e_1; clear h_0 h)
    rfl
  (refine Obt.ex3 h fun x b lo h_0 => Obt.and4 h_0 fun e_1 t_2 t_3 q => Obt.and2 t_2 fun b0 b1 => Obt.and2 t_3 fun l0 l1 => ?_; subst e_1; clear t_3 t_2 h_0 h)
  have mm := mul_in (a := lo) (b := b) (m := 100000) (n := 1000) (by omega) l1 (by omega) b1
  have m0 : 0 < lo * b := Int.mul_pos l0 b0
  refine ⟨_, (pss_one (ps_ret (pe_op op_add (pe_op op_mod (pv 0) (pv 2)) (pe_op op_mul (pv 2) (pe_op op_fdiv (pv 0) (pe_op op_mul (pv 2) (pv 1))))))), ?_⟩
  exact ⟨_, rfl, _, rfl, _, _, rfl, rfl, l0, _, rfl, _, rfl, _, rfl, _, rfl, _, _, rfl, rfl, .inl ⟨by omega, by omega⟩, _, _, rfl, rfl, ⟨m0, by omega⟩, _, _, rfl, rfl, .inl ⟨by omega, by omega⟩, _, _, rfl, rfl, q⟩
theorem ok_withP (F : FunD K "with_part" "with_part" s_with_part dV f fd) : FnOk P w K mg base CX0 1 f fd ["figure", "base", "below", "part"] spWithP := by
  refine F.ok sc_with_part (fun vs H Q E h => ?_) (fun cdv A outer s H vs Q E hr h => ?_)
  · (refine Obt.ex4 h fun x b lo p h_0 => Obt.and2 h_0 fun e_1 _ => ?_; subst e_1; clear h_0 h)
    rfl
  (refine Obt.ex4 h fun x b lo p h_0 => Obt.and4 h_0 fun e_1 t_2 t_3 q => Obt.and2 t_2 fun b0 b1 => Obt.and2 t_3 fun l0 l1 => ?_; subst e_1; clear t_3 t_2 h_0 h)
  have mm := mul_in (a := lo) (b := b) (m := 100000) (n := 1000) (by omega) l1 (by omega) b1
  refine ⟨_, (pss_one (ps_ret (pe_op op_add (pe_op op_add (pe_op op_mod (pv 0) (pv 2)) (pe_op op_mul (pv 2) (pv 3))) (pe_op op_mul (pe_op op_mul (pv 2) (pv 1)) (pe_op op_fdiv (pv 0) (pv 2)))))), ?_⟩
  exact ⟨_, rfl, _, rfl, _, _, rfl, rfl, l0, _, rfl, _, rfl, _, _, rfl, rfl, .inl ⟨by omega, by omega⟩, _, _, rfl, rfl, _, rfl, _, rfl, _, _, rfl, rfl, .inl ⟨by omega, by omega⟩, _, rfl, _, rfl, _, _, rfl, rfl, ⟨l0, by omega⟩, _, _, rfl, rfl, .inl ⟨by omega, by omega⟩, _, _, rfl, rfl, q⟩
theorem ok_parts (F : FunD K "parts_alone" "parts_alone" s_parts_alone dV f fd) (z_range : mg "range" = none) : FnOk P w K mg base CX0 1 f fd ["base", "below"] spParts := by
  refine F.ok sc_parts_alone (fun vs H Q E h => ?_) (fun cdv A outer s H vs Q E hr h => ?_)
  · (refine Obt.ex2 h fun b lo h_0 => Obt.and2 h_0 fun e_1 _ => ?_; subst e_1; clear h_0 h)
    rfl
  (refine Obt.ex2 h fun b lo h_0 => Obt.and4 h_0 fun e_1 b1 t_2 k => Obt.and2 t_2 fun l0 l1 => ?_; subst e_1; clear t_2 h_0 h)
  refine ⟨_, (pss_one (ps_ret (pe_comp rfl bk_parts_alone_0 (pi_range1 rfl z_range (pa_cons (pv 0) pa_nil)) (fun _ _ _ _ => (pg_name (i := 0) bk_parts_alone_0.nd rfl (Or.inl rfl))) (fun _ _ _ _ => (pe_op op_mul (pv 1) (pv 0)))))), ?_⟩
  refine ⟨_, rfl, (b : Int), rfl, by omega, by omega, ?_⟩
  refine comp_range (fun D i ys H' => Same H H' /\ ys = ((List.range i).map fun i : Nat => lo * (i : Int)).map V.int) (fun D hD => ⟨same_new hD _, rfl⟩) ?_ ?_
  · (refine fun D i ys H' Q' hD hi hy i_0 => Obt.and2 i_0 fun hs e_1 => fun k' => ?_; subst e_1; clear i_0)
    refine ⟨_, rfl, _, rfl, _, _, rfl, rfl, .inl ⟨by omega, by omega⟩, k' _ _ hy (small1000 (by simp; omega)) ⟨same_upd hs hD, ?_⟩⟩
    rw [List.range_succ, List.map_append, List.map_append, Int.zero_add]
    rfl
  · (refine fun D ys H' hD hy i_0 => Obt.and2 i_0 fun hs e_1 => ?_; subst e_1; clear i_0)
    rw [Int.toNat_natCast] at hy
    exact k D _ hs hD hy
theorem ok_rinit (F : FunD K "__init__" "Reading.__init__" s_Reading___init__ dV f fd) (rc : RCls K C) : FnOk P w K mg base CX0 1 f fd ["self", "machine"] (spRInit C) := by
  refine F.ok sc_Reading___init__ (fun vs H Q E h => ?_) (fun cdv A outer s H vs Q E hr h => ?_)
  · (refine Obt.ex8 h fun x dx m r g wide rows signs h_0 => Obt.and2 h_0 fun e_1 _ => ?_; subst e_1; clear h_0 h)
    rfl
  (refine Obt.ex8 h fun x dx m r g wide rows signs h_0 => Obt.and4 h_0 fun e_1 hx M k => ?_; subst e_1; clear h_0 h)
  refine ⟨_, (pss_cons (ps_fld (pv 0) (pe_ix ix_tup (pv 1) pe_int (fun _ _ => rfl)) rfl)
      (pss_one (ps_fld (pv 0) (pe_ix ix_tup (pv 1) pe_int (fun _ _ => rfl)) rfl))), ?_⟩
  have nmx : m ≠ x := ne_of M.tup hx (by intro z; cases z)
  refine ⟨_, rfl, m, _, _, _, rfl, rfl, qT_ M.tup, rfl, _, rfl, x, C, dx, [], rfl, hx, rc.cl, rc.nr, by decide, ?_⟩
  refine ⟨_, rfl, m, _, _, _, rfl, rfl, qT_ (by rw [upd_ne nmx]; exact M.tup), rfl, _, rfl, x, C, dx, _, rfl, upd_same, rc.cl, rc.ns, by show 1 < 1000; decide, ?_⟩
  refine k _ (fun c u hc e => ?_) ⟨dx, upd_same⟩
  rw [upd_ne hc, upd_ne hc]
  exact e
theorem ok_rbegin (F : FunD K "begin" "Reading.begin" s_Reading_begin dV f fd) : FnOk P w K mg base CX0 1 f fd ["self"] spRBegin := by
  refine F.ok sc_Reading_begin (fun vs H Q E h => ?_) (fun cdv A outer s H vs Q E hr h => ?_)
  · (refine Obt.ex1 h fun x h_0 => Obt.and2 h_0 fun e_1 _ => ?_; subst e_1; clear h_0 h)
    rfl
  (refine Obt.ex1 h fun x h_0 => Obt.and2 h_0 fun e_1 q => ?_; subst e_1; clear h_0 h)
  exact ⟨_, (pss_one (ps_ret pe_int)), q⟩
theorem ok_rstep (F : FunD K "step" "Reading.step" s_Reading_step dV f fd) (rc : RCls K C) : FnOk P w K mg base CX0 1 f fd ["self", "place", "figure"] (spRStep C) := by
  refine F.ok sc_Reading_step (fun vs H Q E h => ?_) (fun cdv A outer s H vs Q E hr h => ?_)
  · (refine Obt.ex8 h fun x m r g q fg many wide h_0 => Obt.ex2 h_0 fun rows signs h_1 => Obt.and2 h_1 fun e_2 _ => ?_; subst e_2; clear h_1 h_0 h)
    rfl
  (refine Obt.ex8 h fun x m r g q fg many wide h_0 => Obt.ex2 h_0 fun rows signs h_1 => Obt.and7 h_1 fun e_2 t_3 M R t_4 t_5 k => Obt.and2 t_4 fun q0 q1 => Obt.and2 t_5 fun f0 f1 => ?_; subst e_2; obtain ⟨dx, hx⟩ := t_3; clear t_5 t_4 h_1 h_0 h)
  obtain ⟨hm, ⟨ras, hr', hA⟩, hg⟩ := M
  (refine Obt.ex2 (row_step hA R q0 q1 f0 f1) fun ra rr h_0 => Obt.and3 h_0 fun e1 e2 e3 => ?_; clear h_0)
  refine ⟨_, (pss_one (ps_ret (pe_ix ix_tup (pe_ix ix_tup (pe_fld (pv 0) rfl) (pv 1) (fun _ _ => rfl)) (pv 2) (fun _ _ => rfl)))), ?_⟩
  exact ⟨_, rfl, x, C, dx, _, _, rfl, hx, rc.cl, rc.nr, rfl, _, rfl, r, _, _, _, rfl, rfl, qT_ hr', e1, _, rfl, ra, _, _, _, rfl, rfl, qT_ e2, e3, k⟩
theorem ok_rsign (F : FunD K "sign" "Reading.sign" s_Reading_sign dV f fd) (rc : RCls K C) : FnOk P w K mg base CX0 1 f fd ["self", "place"] (spRSign C) := by
  refine F.ok sc_Reading_sign (fun vs H Q E h => ?_) (fun cdv A outer s H vs Q E hr h => ?_)
  · (refine Obt.ex8 h fun x m r g q wide rows signs h_0 => Obt.and2 h_0 fun e_1 _ => ?_; subst e_1; clear h_0 h)
    rfl
  (refine Obt.ex8 h fun x m r g q wide rows signs h_0 => Obt.and5 h_0 fun e_1 t_2 M t_3 k => Obt.and2 t_3 fun q0 q1 => ?_; subst e_1; obtain ⟨dx, hx⟩ := t_2; clear t_3 h_0 h)
  refine ⟨_, (pss_one (ps_ret (pe_ix ix_tup (pe_fld (pv 0) rfl) (pv 1) (fun _ _ => rfl)))), ?_⟩
  exact ⟨_, rfl, x, C, dx, _, _, rfl, hx, rc.cl, rc.ns, rfl, _, rfl, g, _, _, _, rfl, rfl, qT_ M.sgn, atI_ints q0 q1, k⟩
end
def spWholeN : Sp := fun vs H Q _ => ∃ z : Int, vs = [.int z] /\ Q (.bl true) H
def spSame0 : Sp := fun vs H Q _ => ∃ z : Int, vs = [.int z, .int z] /\ Q (.bl true) H
def SameV (H : Hp) (x y : V) : Prop := (∃ z : Int, x = .int z /\ y = .int z) \/ ∃ (a b : Addr) (ns : LI), x = .ref a /\ y = .ref b /\ H a = some (.tup (ns.map V.int)) /\ H b = some (.tup (ns.map V.int)) /\ ns.length <= 1000
def spSame1 : Sp := fun vs H Q _ => ∃ x y : V, vs = [x, y] /\ SameV H x y /\ Q (.bl true) H
def spSame2 : Sp := fun vs H Q _ => ∃ (a b : Addr) (xs ys : List V), vs = [.ref a, .ref b] /\ H a = some (.tup xs) /\ H b = some (.tup ys) /\ xs.length = ys.length /\ xs.length <= 1000 /\ (∀ (i : Nat) (x y : V), xs[i]? = some x -> ys[i]? = some y -> SameV H x y) /\ Q (.bl true) H
def spSignN : Sp := fun vs H Q _ => ∃ n : Int, vs = [.int n] /\ 0 <= n /\ ∀ v : Int, 0 <= v -> v < 1000000 -> Q (.int v) H
def spWideP : Sp := fun vs H Q _ => ∃ (b : Int) (n : Nat), vs = [.int b, .int n] /\ (0 <= b /\ b <= 1000) /\ n <= 1000 /\ Q (.int (b ^ n)) H
section
variable {P : Program} {w : World} {K : PySem.W.Frag} {mg : Str -> Option Value} {base : Heap} {f : Addr} {fd : FuncData} {dV : Value}
theorem sc__law_whole : FnScope ["_law_found"] ["_law_found"] (defScope s__law_whole) := ⟨rfl, rfl, rfl, by decide +kernel, rfl, by decide +kernel, by decide +kernel⟩
theorem sc__law_same : FnScope ["_law_found", "_law_due", "_law_k"] ["_law_found", "_law_due"] (defScope s__law_same) := ⟨rfl, rfl, rfl, by decide +kernel, rfl, by decide +kernel, by decide +kernel⟩
theorem sc__law_sign : FnScope ["_law_number_here"] ["_law_number_here"] (defScope s__law_sign) := ⟨rfl, rfl, rfl, by decide +kernel, rfl, by decide +kernel, by decide +kernel⟩
theorem sc__law_wide : FnScope ["_law_base", "_law_many", "_law_wide_here", "_law_k"] ["_law_base", "_law_many"] (defScope s__law_wide) := ⟨rfl, rfl, rfl, by decide +kernel, rfl, by decide +kernel, by decide +kernel⟩
theorem ok_wholeN (F : FunD K "_law_whole" "_law_whole" s__law_whole dV f fd) (z_isinstance : mg "isinstance" = none) (z_int : mg "int" = none) (z_bool : mg "bool" = none) : FnOk P w K mg base CX0 1 f fd ["_law_found"] spWholeN := by
  refine F.ok sc__law_whole (fun vs H Q E h => ?_) (fun cdv A outer s H vs Q E hr h => ?_)
  · obtain ⟨z, rfl, _⟩ := h
    rfl
  obtain ⟨z, rfl, q⟩ := h
  refine ⟨_, (pss_one (ps_ret (pe_and (pe_callB call_isi (by rfl) z_isinstance bt_isinstance (pa_cons (pv 0) (pa_cons (pe_bltn (v := .ty "int") rfl z_int bt_int rfl) pa_nil))) (pe_one (pe_not (pe_callB call_isi (by rfl) z_isinstance bt_isinstance (pa_cons (pv 0) (pa_cons (pe_bltn (v := .ty "bool") rfl z_bool bt_bool rfl) pa_nil)))))))), ?_⟩
  refine ⟨_, rfl, _, _, _, _, rfl, TyOf.int z, kit_int_int K, _, rfl, iteT ?_⟩
  exact ⟨_, rfl, _, _, _, _, rfl, TyOf.int z, kit_int_bool K, _, rfl, q⟩
theorem kit_int_tuple (K : PySem.W.Frag) : PySem.W.kitOne K (.type "int") (.type "tuple") = some false := by with_unfolding_all rfl
theorem ok_same0 (F : FunD K "_law_same" "_law_same" s__law_same dV f fd) (G__law_whole : DefOk P w K mg base "_law_whole" 1 ["_law_found"] [] spWholeN) (G__law_same : DefOk P w K mg base "_law_same" 0 ["_law_found", "_law_due"] [] (fun _ _ _ _ => False)) (z_isinstance : mg "isinstance" = none) (z_tuple : mg "tuple" = none) (z_len : mg "len" = none) (z_range : mg "range" = none) : FnOk P w K mg base CX0 2 f fd ["_law_found", "_law_due"] spSame0 := by
  refine F.ok sc__law_same (fun vs H Q E h => ?_) (fun cdv A outer s H vs Q E hr h => ?_)
  · obtain ⟨z, rfl, _⟩ := h
    rfl
  obtain ⟨z, rfl, q⟩ := h
  refine ⟨_, (pss_cons (ps_if (pt_not (pt_val (pe_callB call_isi (by rfl) z_isinstance bt_isinstance (pa_cons (pv 1) (pa_cons (pe_bltn (v := .ty "tuple") rfl z_tuple bt_tuple rfl) pa_nil))))) (pss_one (ps_ret (pe_and (pe_cd G__law_whole hr (pa_cons (pv 0) pa_nil)) (pe_one (pe_cmpR op_eq (pv 0) (pv 1) (nomark _)))))) pss_nil)
      (pss_cons (ps_if (PW.pt (pw_or (pt_not (pt_val (pe_callB call_isi (by rfl) z_isinstance bt_isinstance (pa_cons (pv 0) (pa_cons (pe_bltn (v := .ty "tuple") rfl z_tuple bt_tuple rfl) pa_nil))))) (pw_or1 (pt_cmpR op_ne (pe_callB call_len_seq (by rfl) z_len bt_len (pa_cons (pv 0) pa_nil)) (pe_callB call_len_seq (by rfl) z_len bt_len (pa_cons (pv 1) pa_nil)) (nomark _))))) (pss_one (ps_ret pe_bl)) pss_nil)
      (pss_cons (ps_for PassesOwn.never rfl (pi_range1 rfl z_range (pa_cons (pe_callB call_len_seq (by rfl) z_len bt_len (pa_cons (pv 1) pa_nil)) pa_nil)) (pg_name (i := 2) sc__law_same.nd rfl (Or.inl rfl)) (pss_one (ps_if (pt_not (pt_val (pe_cd G__law_same hr (pa_cons (pe_ix ix_tup (pv 0) (pv 2) (fun _ _ => rfl)) (pa_cons (pe_ix ix_tup (pv 1) (pv 2) (fun _ _ => rfl)) pa_nil))))) (pss_one (ps_ret pe_bl)) pss_nil)))
      (pss_one (ps_ret pe_bl))))), ?_⟩
  refine ⟨_, rfl, _, _, _, _, rfl, TyOf.int z, kit_int_tuple K, _, rfl, iteT ?_⟩
  refine ⟨_, rfl, z, rfl, _, rfl, iteT ⟨_, rfl, _, rfl, rfl, ?_⟩⟩
  rw [decide_eq_true rfl]
  exact q
theorem ok_same1 (F : FunD K "_law_same" "_law_same" s__law_same dV f fd) (G__law_whole : DefOk P w K mg base "_law_whole" 1 ["_law_found"] [] spWholeN) (G__law_same : DefOk P w K mg base "_law_same" 2 ["_law_found", "_law_due"] [] spSame0) (z_isinstance : mg "isinstance" = none) (z_tuple : mg "tuple" = none) (z_len : mg "len" = none) (z_range : mg "range" = none) : FnOk P w K mg base CX0 3 f fd ["_law_found", "_law_due"] spSame1 := by
  refine F.ok sc__law_same (fun vs H Q E h => ?_) (fun cdv A outer s H vs Q E hr h => ?_)
  · obtain ⟨x, y, rfl, _⟩ := h
    rfl
  obtain ⟨x, y, rfl, hs, q⟩ := h
  refine ⟨_, (pss_cons (ps_if (pt_not (pt_val (pe_callB call_isi (by rfl) z_isinstance bt_isinstance (pa_cons (pv 1) (pa_cons (pe_bltn (v := .ty "tuple") rfl z_tuple bt_tuple rfl) pa_nil))))) (pss_one (ps_ret (pe_and (pe_cd G__law_whole hr (pa_cons (pv 0) pa_nil)) (pe_one (pe_cmpR op_eq (pv 0) (pv 1) (nomark _)))))) pss_nil)
      (pss_cons (ps_if (PW.pt (pw_or (pt_not (pt_val (pe_callB call_isi (by rfl) z_isinstance bt_isinstance (pa_cons (pv 0) (pa_cons (pe_bltn (v := .ty "tuple") rfl z_tuple bt_tuple rfl) pa_nil))))) (pw_or1 (pt_cmpR op_ne (pe_callB call_len_seq (by rfl) z_len bt_len (pa_cons (pv 0) pa_nil)) (pe_callB call_len_seq (by rfl) z_len bt_len (pa_cons (pv 1) pa_nil)) (nomark _))))) (pss_one (ps_ret pe_bl)) pss_nil)
      (pss_cons (ps_for PassesOwn.never rfl (pi_range1 rfl z_range (pa_cons (pe_callB call_len_seq (by rfl) z_len bt_len (pa_cons (pv 1) pa_nil)) pa_nil)) (pg_name (i := 2) sc__law_same.nd rfl (Or.inl rfl)) (pss_one (ps_if (pt_not (pt_val (pe_cd G__law_same hr (pa_cons (pe_ix ix_tup (pv 0) (pv 2) (fun _ _ => rfl)) (pa_cons (pe_ix ix_tup (pv 1) (pv 2) (fun _ _ => rfl)) pa_nil))))) (pss_one (ps_ret pe_bl)) pss_nil)))
      (pss_one (ps_ret pe_bl))))), ?_⟩
  rcases hs with ⟨z, rfl, rfl⟩ | ⟨a, b, ns, rfl, rfl, ha, hb, hl⟩
  · refine ⟨_, rfl, _, _, _, _, rfl, TyOf.int z, kit_int_tuple K, _, rfl, iteT ?_⟩
    refine ⟨_, rfl, z, rfl, _, rfl, iteT ⟨_, rfl, _, rfl, rfl, ?_⟩⟩
    rw [decide_eq_true rfl]
    exact q
  · refine ⟨_, rfl, _, _, _, _, rfl, TyOf.tup hb, kit_tuple_tuple K, _, rfl, iteF ?_⟩
    refine ⟨_, rfl, _, _, _, _, rfl, TyOf.tup ha, kit_tuple_tuple K, _, rfl, iteF ⟨_, rfl, a, _, rfl, .inr (qT_ ha), _, rfl, b, _, rfl, .inr (qT_ hb), rfl, _, rfl, iteDn (fun n => absurd rfl n) (fun _ => ?_)⟩⟩
    refine ⟨_, rfl, b, _, rfl, .inr (qT_ hb), _, rfl, by omega, by rw [lm_]; omega, for_range (fun i σ' H' => ∃ v, σ' = [some (.ref a), some (.ref b), v] /\ H' = H) ⟨none, rfl, rfl⟩ ?_ ?_⟩
    · rintro i σ' H' hi ⟨v, rfl, rfl⟩
      rw [lm_, Int.toNat_natCast] at hi
      have e : atI (ns.map V.int) (0 + (i : Int)) = some (.int (ns.getD (0 + (i : Int)).toNat 0)) := atI_ints (by omega) (by omega)
      exact ⟨_, rfl, _, rfl, a, _, _, _, rfl, rfl, qT_ ha, e, _, rfl, _, rfl, b, _, _, _, rfl, rfl, qT_ hb, e, _, rfl, _, rfl, iteF ⟨_, rfl, rfl⟩⟩
    · rintro σ' H' ⟨v, rfl, rfl⟩
      exact q
theorem ok_same2 (F : FunD K "_law_same" "_law_same" s__law_same dV f fd) (G__law_whole : DefOk P w K mg base "_law_whole" 1 ["_law_found"] [] spWholeN) (G__law_same : DefOk P w K mg base "_law_same" 3 ["_law_found", "_law_due"] [] spSame1) (z_isinstance : mg "isinstance" = none) (z_tuple : mg "tuple" = none) (z_len : mg "len" = none) (z_range : mg "range" = none) : FnOk P w K mg base CX0 4 f fd ["_law_found", "_law_due"] spSame2 := by
  refine F.ok sc__law_same (fun vs H Q E h => ?_) (fun cdv A outer s H vs Q E hr h => ?_)
  · obtain ⟨a, b, xs, ys, rfl, _⟩ := h
    rfl
  obtain ⟨a, b, xs, ys, rfl, ha, hb, hl, l1, al, q⟩ := h
  refine ⟨_, (pss_cons (ps_if (pt_not (pt_val (pe_callB call_isi (by rfl) z_isinstance bt_isinstance (pa_cons (pv 1) (pa_cons (pe_bltn (v := .ty "tuple") rfl z_tuple bt_tuple rfl) pa_nil))))) (pss_one (ps_ret (pe_and (pe_cd G__law_whole hr (pa_cons (pv 0) pa_nil)) (pe_one (pe_cmpR op_eq (pv 0) (pv 1) (nomark _)))))) pss_nil)
      (pss_cons (ps_if (PW.pt (pw_or (pt_not (pt_val (pe_callB call_isi (by rfl) z_isinstance bt_isinstance (pa_cons (pv 0) (pa_cons (pe_bltn (v := .ty "tuple") rfl z_tuple bt_tuple rfl) pa_nil))))) (pw_or1 (pt_cmpR op_ne (pe_callB call_len_seq (by rfl) z_len bt_len (pa_cons (pv 0) pa_nil)) (pe_callB call_len_seq (by rfl) z_len bt_len (pa_cons (pv 1) pa_nil)) (nomark _))))) (pss_one (ps_ret pe_bl)) pss_nil)
      (pss_cons (ps_for PassesOwn.never rfl (pi_range1 rfl z_range (pa_cons (pe_callB call_len_seq (by rfl) z_len bt_len (pa_cons (pv 1) pa_nil)) pa_nil)) (pg_name (i := 2) sc__law_same.nd rfl (Or.inl rfl)) (pss_one (ps_if (pt_not (pt_val (pe_cd G__law_same hr (pa_cons (pe_ix ix_tup (pv 0) (pv 2) (fun _ _ => rfl)) (pa_cons (pe_ix ix_tup (pv 1) (pv 2) (fun _ _ => rfl)) pa_nil))))) (pss_one (ps_ret pe_bl)) pss_nil)))
      (pss_one (ps_ret pe_bl))))), ?_⟩
  refine ⟨_, rfl, _, _, _, _, rfl, TyOf.tup hb, kit_tuple_tuple K, _, rfl, iteF ?_⟩
  refine ⟨_, rfl, _, _, _, _, rfl, TyOf.tup ha, kit_tuple_tuple K, _, rfl, iteF ⟨_, rfl, a, _, rfl, .inr (qT_ ha), _, rfl, b, _, rfl, .inr (qT_ hb), rfl, _, rfl, iteDn (fun n => absurd (by rw [hl]) n) (fun _ => ?_)⟩⟩
  refine ⟨_, rfl, b, _, rfl, .inr (qT_ hb), _, rfl, by omega, by omega, for_range (fun i σ' H' => ∃ v, σ' = [some (.ref a), some (.ref b), v] /\ H' = H) ⟨none, rfl, rfl⟩ ?_ ?_⟩
  · rintro i σ' H' hi ⟨v, rfl, rfl⟩
    rw [Int.toNat_natCast] at hi
    have hx : xs[i]? = some xs[i] := List.getElem?_eq_getElem (by omega)
    have hy : ys[i]? = some ys[i] := List.getElem?_eq_getElem hi
    have e1 : atI xs (0 + (i : Int)) = some xs[i] := by rw [Int.zero_add]; exact atI_nat hx
    have e2 : atI ys (0 + (i : Int)) = some ys[i] := by rw [Int.zero_add]; exact atI_nat hy
    exact ⟨_, rfl, _, rfl, a, _, _, _, rfl, rfl, qT_ ha, e1, _, rfl, _, rfl, b, _, _, _, rfl, rfl, qT_ hb, e2, _, _, rfl, al i _ _ hx hy, _, rfl, iteF ⟨_, rfl, rfl⟩⟩
  · rintro σ' H' ⟨v, rfl, rfl⟩
    exact q
theorem ok_signN (F : FunD K "_law_sign" "_law_sign" s__law_sign dV f fd) : FnOk P w K mg base CX0 1 f fd ["_law_number_here"] spSignN := by
  refine F.ok sc__law_sign (fun vs H Q E h => ?_) (fun cdv A outer s H vs Q E hr h => ?_)
  · obtain ⟨n, rfl, _⟩ := h
    rfl
  obtain ⟨n, rfl, n0, q⟩ := h
  refine ⟨_, (pss_cons (ps_if (pt_cmpR op_eq (pe_op op_mod (pv 0) pe_int) pe_int (nomark _)) (pss_one (ps_ret (pe_op op_mod (pe_op op_fdiv (pv 0) pe_int) pe_int))) pss_nil)
      (pss_one (ps_ret (pe_op op_mod (pe_op op_mod (pv 0) pe_int) pe_int)))), ?_⟩
  refine ⟨_, rfl, _, _, rfl, rfl, (by show (0 : Int) < 5; decide), rfl, _, rfl, iteI (fun _ => ?_) (fun _ => ?_)⟩
  · have md := mod_in (a := n / 5) (b := 1000000) (by decide)
    exact ⟨_, rfl, _, _, rfl, rfl, ⟨by decide, by decide⟩, _, _, rfl, rfl, (by show (0 : Int) < 1000000; decide), q _ md.1 md.2⟩
  · have md := mod_in (a := n % 5) (b := 3) (by decide)
    exact ⟨_, rfl, _, _, rfl, rfl, (by show (0 : Int) < 5; decide), _, _, rfl, rfl, (by show (0 : Int) < 3; decide), q _ md.1 (by omega)⟩
theorem ok_wideP (F : FunD K "_law_wide" "_law_wide" s__law_wide dV f fd) (z_range : mg "range" = none) : FnOk P w K mg base CX0 1 f fd ["_law_base", "_law_many"] spWideP := by
  refine F.ok sc__law_wide (fun vs H Q E h => ?_) (fun cdv A outer s H vs Q E hr h => ?_)
  · obtain ⟨b, n, rfl, _⟩ := h
    rfl
  obtain ⟨b, n, rfl, ⟨b0, b1⟩, hn, q⟩ := h
  refine ⟨_, (pss_cons (ps_set (i := 2) sc__law_wide.nd rfl (Or.inl rfl) pe_int)
      (pss_cons (ps_for PassesOwn.never rfl (pi_range1 rfl z_range (pa_cons (pv 1) pa_nil)) (pg_name (i := 3) sc__law_wide.nd rfl (Or.inl rfl)) (pss_one (ps_set (i := 2) sc__law_wide.nd rfl (Or.inl rfl) (pe_op op_mul (pv 2) (pv 0)))))
      (pss_one (ps_ret (pv 2))))), ?_⟩
  refine ⟨_, rfl, (n : Int), rfl, by omega, by omega, for_range (fun i σ' H' => ∃ v, σ' = [some (.int b), some (.int n), some (.int (b ^ i)), v] /\ H' = H) ⟨none, by rw [Int.pow_zero]; rfl, rfl⟩ ?_ ?_⟩
  · rintro i σ' H' hi ⟨v, rfl, rfl⟩
    exact ⟨_, rfl, _, rfl, _, _, rfl, rfl, .inr ⟨by omega, by omega⟩, some (.int (0 + i)), by rw [Int.pow_succ]; rfl, rfl⟩
  · rintro σ' H' ⟨v, rfl, rfl⟩
    rw [Int.toNat_natCast]
    exact ⟨_, rfl, q⟩
end
def spNum (K : PySem.W.Frag) : Sp := fun vs H Q _ => ∃ (a : Addr) (k : Int) (ns : LI), vs = [.ref a, .int k] /\ SqL K H a (ns.map V.int) /\ ns.length <= 63 /\ 0 <= k /\ k < 1000000 /\
  ∀ v : Int, 0 <= v -> v < 2147483399 -> Q (.int v) H
section
variable {P : Program} {w : World} {K : PySem.W.Frag} {mg : Str -> Option Value} {base : Heap} {f : Addr} {fd : FuncData} {dV : Value}
theorem sc__law_number : FnScope ["_law_script", "_law_k", "_law_number_here"] ["_law_script", "_law_k"] (defScope s__law_number) := ⟨rfl, rfl, rfl, by decide +kernel, rfl, by decide +kernel, by decide +kernel⟩
theorem ok_num (F : FunD K "_law_number" "_law_number" s__law_number dV f fd) (z_len : mg "len" = none) : FnOk P w K mg base CX0 1 f fd ["_law_script", "_law_k"] (spNum K) := by
  refine F.ok sc__law_number (fun vs H Q E h => ?_) (fun cdv A outer s H vs Q E hr h => ?_)
  · (refine Obt.ex3 h fun a k ns h_0 => Obt.and2 h_0 fun e_1 _ => ?_; subst e_1; clear h_0 h)
    rfl
  (refine Obt.ex3 h fun a k ns h_0 => Obt.and6 h_0 fun e_1 hS h63 h0 h1 q => ?_; subst e_1; clear h_0 h)
  have hl : (ns.map V.int).length = ns.length := List.length_map _
  refine ⟨_, (pss_cons (ps_if (pt_cmpR op_lt (pv 1) (pe_callB call_len_seq (by rfl) z_len bt_len (pa_cons (pv 0) pa_nil)) (nomark _)) (pss_one (ps_ret (pe_op op_mod (pe_ix ix_list (pv 0) (pv 1) (fun _ _ => rfl)) pe_int))) pss_nil)
      (pss_cons (ps_set (i := 2) sc__law_number.nd rfl (Or.inl rfl) (pe_op op_add (pe_op op_add (pe_op op_mul (pe_op op_mul pe_int (pv 1)) (pv 1)) (pe_op op_mul pe_int (pv 1))) pe_int))
      (pss_cons (ps_if (pt_cmpR op_gt (pe_callB call_len_seq (by rfl) z_len bt_len (pa_cons (pv 0) pa_nil)) pe_int (nomark _)) (pss_one (ps_set (i := 2) sc__law_number.nd rfl (Or.inl rfl) (pe_op op_mul (pv 2) (pe_op op_add (pe_op op_mod (pe_ix ix_list (pv 0) (pe_op op_mod (pv 1) (pe_callB call_len_seq (by rfl) z_len bt_len (pa_cons (pv 0) pa_nil))) (fun _ _ => rfl)) pe_int) pe_int)))) pss_nil)
      (pss_one (ps_ret (pe_op op_mod (pe_op op_mul (pv 2) pe_int) pe_int)))))), ?_⟩
  have fin : ∀ c : Int, Q (.int (c * 40692 % 2147483399)) H := fun c => by
    have r := mod_in (a := c * 40692) (b := 2147483399) (by decide)
    exact q _ r.1 r.2
  refine ⟨_, rfl, _, rfl, a, _, rfl, .inl hS, _, _, rfl, rfl, _, rfl, iteD (fun c => ?_) (fun c => ?_)⟩
  · rw [hl] at c
    have r := mod_in (a := ns.getD k.toNat 0) (b := 1000000007) (by decide)
    exact ⟨_, rfl, _, rfl, a, _, _, _, rfl, rfl, hS, atI_ints h0 c, _, _, rfl, rfl, (by show (0 : Int) < 1000000007; decide), q _ r.1 (by omega)⟩
  refine ⟨_, rfl, _, _, rfl, rfl, .inl ⟨by decide, by decide⟩, _, rfl, _, _, rfl, rfl, .inr ⟨by omega, by omega⟩, _, rfl, _, _, rfl, rfl, .inl ⟨by decide, by decide⟩, _, _, rfl, rfl, _, _, rfl, rfl, ?_⟩
  refine ⟨_, rfl, a, _, rfl, .inl hS, _, _, rfl, rfl, _, rfl, ?_⟩
  refine iteD (fun c => ?_) (fun c => ?_)
  · have c' : (0 : Int) < (((ns.map V.int).length : Nat) : Int) := c
    have m0 := Int.emod_nonneg k (show (((ns.map V.int).length : Nat) : Int) ≠ 0 by omega)
    have m1 := Int.emod_lt_of_pos k c'
    have m2 := mod_in (a := ns.getD (k % (((ns.map V.int).length : Nat) : Int)).toNat 0) (b := 65521) (by decide)
    refine ⟨_, rfl, _, rfl, _, rfl, _, rfl, a, _, rfl, .inl hS, _, _, rfl, rfl, c', a, _, _, _, rfl, rfl, hS, atI_ints m0 (by rw [<- hl]; exact m1), _, _, rfl, rfl, (by show (0 : Int) < 65521; decide), _, _, rfl, rfl, _, _, rfl, rfl, .inr ⟨by omega, by omega⟩, ?_⟩
    exact ⟨_, rfl, _, _, rfl, rfl, .inr ⟨by decide, by decide⟩, _, _, rfl, rfl, (by show (0 : Int) < 2147483399; decide), fin _⟩
  · exact ⟨_, rfl, _, _, rfl, rfl, .inr ⟨by decide, by decide⟩, _, _, rfl, rfl, (by show (0 : Int) < 2147483399; decide), fin _⟩
end
def spMachC (K : PySem.W.Frag) : Sp := fun vs H Q _ => ∃ (a : Addr) (st : Int) (many wide : Nat) (xs : LI), vs = [.ref a, .int st, .int wide, .int many] /\ SqL K H a (xs.map V.int) /\ xs.length <= 63 /\ (0 <= st /\ st < 100) /\ (1 <= many /\ many <= 10) /\ (1 <= wide /\ wide <= 100) /\
  ∀ (m r g : Addr) (H' : Hp) (rows : LL) (signs : LI), Same H H' -> MachAt H' m r g wide rows signs -> RowsOk many wide rows -> signs.length = many -> Q (.ref m) H'
def aliveI (al : List Bool) : LI -> Int
  | [] => 0
  | q :: r => if al.getD q.toNat false = true then 1 else aliveI al r
def spOneAlive (K : PySem.W.Frag) : Sp := fun vs H Q _ => ∃ (p l : Addr) (qs : LI) (al : List Bool), vs = [.ref p, .ref l] /\ H p = some (.tup (qs.map V.int)) /\ H l = some (.lst (al.map V.bl)) /\ (∀ q ∈ qs, 0 <= q /\ q < (al.length : Int)) /\ Q (.int (aliveI al qs)) H
theorem aliveI_cons {al : List Bool} {q : Int} {r : LI} (h : al.getD q.toNat false = false) : aliveI al (q :: r) = aliveI al r := by
  show (if al.getD q.toNat false = true then 1 else aliveI al r) = _
  rw [if_neg (by rw [h]; decide)]
theorem atI_bls {bs : List Bool} {k : Int} (h0 : 0 <= k) (h : k < (bs.length : Int)) : atI (bs.map V.bl) k = some (.bl (bs.getD k.toNat false)) := by
  have hk : k.toNat < bs.length := by omega
  have ek : k = ((k.toNat : Nat) : Int) := by omega
  have q : atI (bs.map V.bl) ((k.toNat : Nat) : Int) = some (.bl bs[k.toNat]) := atI_nat (by rw [List.getElem?_map, List.getElem?_eq_getElem hk] <;> rfl)
  rw [<- ek] at q
  rw [q, getD_at hk]
section
variable {P : Program} {w : World} {K : PySem.W.Frag} {mg : Str -> Option Value} {base : Heap} {f : Addr} {fd : FuncData} {dV : Value}
theorem sc__law_machine : FnScope ["_law_script", "_law_start", "_law_wide_here", "_law_many", "_law_rows", "_law_q", "_law_at", "_law_signs"] ["_law_script", "_law_start", "_law_wide_here", "_law_many"] (defScope s__law_machine) := ⟨rfl, rfl, rfl, by decide +kernel, rfl, by decide +kernel, by decide +kernel⟩
theorem bk__law_machine_0 : BlkScope ["_law_script", "_law_start", "_law_wide_here", "_law_many", "_law_rows", "_law_q", "_law_at", "_law_signs"] (defScope s__law_machine) ["_law_f", "_law_many", "_law_q", "_law_script", "_law_start", "_law_wide_here"] [none, some 3, some 5, some 0, some 1, some 2] { kind := ScopeKind.function, names := [(".0", NameKind.local), ("_law_f", NameKind.local), ("_law_number", NameKind.globalImplicit), ("_law_many", NameKind.free), ("_law_q", NameKind.free), ("_law_script", NameKind.free), ("_law_start", NameKind.free), ("_law_wide_here", NameKind.free)], isGenerator := false, isCoroutine := false, more := [] } := ⟨rfl, by decide +kernel, by decide +kernel, by decide +kernel, by decide +kernel, rfl, by decide +kernel⟩
theorem bk__law_machine_1 : BlkScope ["_law_script", "_law_start", "_law_wide_here", "_law_many", "_law_rows", "_law_q", "_law_at", "_law_signs"] (defScope s__law_machine) ["_law_q", "_law_at", "_law_script"] [none, some 6, some 0] { kind := ScopeKind.function, names := [(".0", NameKind.local), ("_law_q", NameKind.local), ("_law_sign", NameKind.globalImplicit), ("_law_number", NameKind.globalImplicit), ("_law_at", NameKind.free), ("_law_script", NameKind.free)], isGenerator := false, isCoroutine := false, more := [] } := ⟨rfl, by decide +kernel, by decide +kernel, by decide +kernel, by decide +kernel, rfl, by decide +kernel⟩
theorem sc__law_one_alive : FnScope ["_law_place", "_law_alive_here", "_law_q"] ["_law_place", "_law_alive_here"] (defScope s__law_one_alive) := ⟨rfl, rfl, rfl, by decide +kernel, rfl, by decide +kernel, by decide +kernel⟩
theorem ok_machC (F : FunD K "_law_machine" "_law_machine" s__law_machine dV f fd) (G__law_number : DefOk P w K mg base "_law_number" 1 ["_law_script", "_law_k"] [] (spNum K)) (G__law_sign : DefOk P w K mg base "_law_sign" 1 ["_law_number_here"] [] spSignN) (z_range : mg "range" = none) (z_tuple : mg "tuple" = none) :
    FnOk P w K mg base CX0 2 f fd ["_law_script", "_law_start", "_law_wide_here", "_law_many"] (spMachC K) := by
  refine F.ok sc__law_machine (fun vs H Q E h => ?_) (fun cdv A outer s H vs Q E hr h => ?_)
  · (refine Obt.ex5 h fun a st many wide xs h_0 => Obt.and2 h_0 fun e_1 _ => ?_; subst e_1; clear h_0 h)
    rfl
  (refine Obt.ex5 h fun a st many wide xs h_0 => Obt.and7 h_0 fun e_1 hS h63 t_2 t_3 t_4 k => Obt.and2 t_2 fun st0 st1 => Obt.and2 t_3 fun m0 m1 => Obt.and2 t_4 fun w0 w1 => ?_; subst e_1; clear t_4 t_3 t_2 h_0 h)
  refine ⟨_, (pss_cons (ps_set (i := 4) sc__law_machine.nd rfl (Or.inl rfl) (pe_lst pa_nil))
      (pss_cons (ps_for PassesOwn.never rfl (pi_range1 rfl z_range (pa_cons (pv 3) pa_nil)) (pg_name (i := 5) sc__law_machine.nd rfl (Or.inr rfl)) (pss_one (ps_expr (pe_bm PySem.F.plainAttrs_list PySem.F.slot_list_append PySem.F.type_list_append mt_append (pv 4) (pa_cons (pe_callTy call_tuple_of (by rfl) z_tuple bt_tuple (pa_cons (pe_comp rfl bk__law_machine_0 (pi_range1 rfl z_range (pa_cons (pv 2) pa_nil)) (fun _ _ _ _ => (pg_name (i := 0) bk__law_machine_0.nd rfl (Or.inl rfl))) (fun _ _ _ _ => (pe_op op_mod (pe_cd G__law_number hr (pa_cons (pv 3) (pa_cons (pe_op op_add (pe_op op_add (pv 4) (pe_op op_mul (pv 2) (pv 5))) (pv 0)) pa_nil))) (pv 1)))) pa_nil)) pa_nil)))))
      (pss_cons (ps_set (i := 6) sc__law_machine.nd rfl (Or.inr rfl) (pe_op op_add (pv 1) (pe_op op_mul (pv 3) (pv 2))))
      (pss_cons (ps_setComp (i := 7) rfl sc__law_machine.nd rfl (Or.inl rfl) bk__law_machine_1 (pi_range1 rfl z_range (pa_cons (pv 3) pa_nil)) (fun _ _ _ _ => (pg_name (i := 0) bk__law_machine_1.nd rfl (Or.inl rfl))) (fun _ _ _ _ => (pe_cd G__law_sign hr (pa_cons (pe_cd G__law_number hr (pa_cons (pv 2) (pa_cons (pe_op op_add (pv 1) (pv 0)) pa_nil))) pa_nil))))
      (pss_one (ps_ret (pe_tup (pa_cons (pv 2) (pa_cons (pe_callTy call_tuple_of (by rfl) z_tuple bt_tuple (pa_cons (pv 4) pa_nil)) (pa_cons (pe_callTy call_tuple_of (by rfl) z_tuple bt_tuple (pa_cons (pv 7) pa_nil)) pa_nil)))))))))), ?_⟩
  have prod : ∀ i : Nat, i <= many -> 0 <= ((i : Int) * (wide : Int)) /\ ((i : Int) * (wide : Int)) <= 10 * 100 := fun i hi => mul_in (by omega) (by omega) (by omega) (by omega)
  refine ⟨(by show 0 <= sizeLine; decide), fun R hR => ?_⟩
  try dsimp only [gName]
  refine cut_G (t := tFor _ _ _) (fun σ' H' => ∃ (ras : List Addr) (rws : LL) (v : OV), σ' = [some (.ref a), some (.int st), some (.int wide), some (.int many), some (.ref R), v, none, none] /\ Same H H' /\ H' R = some (.lst (ras.map V.ref)) /\ RowsAt H' ras rws /\ RowsOk many wide rws) ?_ (fun D' nxt => ?_)
  rotate_left
  · refine ⟨_, rfl, (many : Int), rfl, by omega, by omega, for_range (fun i σ' H' => ∃ (ras : List Addr) (rws : LL) (v : OV), σ' = [some (.ref a), some (.int st), some (.int wide), some (.int many), some (.ref R), v, none, none] /\ Same H H' /\ H' R = some (.lst (ras.map V.ref)) /\ RowsAt H' ras rws /\ rws.length = i /\ (∀ r ∈ rws, r.length = wide) /\ ∀ r ∈ rws, ∀ v ∈ r, 0 <= v /\ v < (many : Int))
      ⟨[], [], none, rfl, same_new hR _, upd_same, .nil, rfl, (fun r h => by cases h), (fun r h => by cases h)⟩ ?_ ?_⟩
    · (refine fun i σ' H3 hi i_0 => Obt.ex3 i_0 fun ras rws v h_1 => Obt.and7 h_1 fun e_2 hs3 hR3 hA3 hn3 hl3 hv3 => ?_; subst e_2; clear h_1 i_0)
      rw [Int.toNat_natCast] at hi
      have pi := prod i (by omega)
      have z0 : (0 : Int) + (i : Int) = (i : Int) := Int.zero_add _
      rw [z0]
      refine ⟨_, rfl, .inl ⟨rfl, _, qL_ hR3⟩, _, rfl, (wide : Int), rfl, by omega, by omega, ?_⟩
      refine comp_range (fun D j zs H4 => Same H3 H4 /\ ∃ row : LI, zs = row.map V.int /\ row.length = j /\ ∀ v ∈ row, 0 <= v /\ v < (many : Int)) (fun D hD => ⟨same_new hD _, [], rfl, rfl, (fun v h => by cases h)⟩) ?_ ?_
      · (refine fun D j zs H4 Q' hD hj hz i_0 => Obt.and2 i_0 fun hs4 t_1 => Obt.ex1 t_1 fun row h_2 => Obt.and3 h_2 fun e_3 hl4 hv4 => fun k' => ?_; subst e_3; clear h_2 t_1 i_0)
        refine ⟨_, rfl, _, rfl, _, rfl, _, rfl, _, _, rfl, rfl, .inl ⟨by omega, by omega⟩, _, _, rfl, rfl, _, rfl, _, _, rfl, rfl, a, _, xs, rfl, (hs3.trans hs4).seq hS, h63, by omega, by omega, fun x x0 x1 => ?_⟩
        have md := mod_in (a := x) (b := (many : Int)) (by omega)
        refine ⟨_, rfl, _, _, rfl, rfl, (by omega), k' _ _ hz (small1000 (by rw [lm_]; omega)) ⟨same_upd hs4 hD, row ++ [_], by rw [List.map_append]; rfl, by simp [hl4], fun v hv => ?_⟩⟩
        rcases ma_.mp hv with z | z
        · exact hv4 v z
        · rw [List.mem_singleton.mp z]; exact md
      (refine fun D zs H4 hD hz i_0 => Obt.and2 i_0 fun hs4 t_1 => Obt.ex1 t_1 fun row h_2 => Obt.and3 h_2 fun e_3 hl4 hv4 => ?_; subst e_3; clear h_2 t_1 i_0)
      rw [Int.toNat_natCast] at hl4
      refine ⟨D, _, rfl, .inl ⟨qL_ hz, fun t ht => ?_⟩⟩
      have hR4 := hs4 _ _ hR3
      have nR : R ≠ t := ne_of_none hR4 ht
      refine ⟨R, _, _, rfl, rfl, by rw [upd_ne nR]; exact hR4, small1000 (by rw [lm_, hA3.length]; omega), ?_⟩
      have sT : ∀ b xs, H3 b = some (.tup xs) -> (upd (upd H4 t (.tup (row.map V.int))) R (.lst (ras.map V.ref ++ [V.ref t]))) b = some (.tup xs) := fun b xs e => by
        have e4 := hs4 _ _ e
        rw [upd_ne (ne_of e4 hR4 (by intro z; cases z)), upd_ne (ne_of_none e4 ht)]
        exact e4
      refine ⟨ras ++ [t], rws ++ [row], _, rfl, same_upd (same_upd (hs3.trans hs4) ((hs3.trans hs4).free ht)) hR, by rw [upd_same, List.map_append]; rfl, RowsAt.snoc (hA3.same sT) (by rw [upd_ne (Ne.symm nR), upd_same]), by simp [hn3], ?_, ?_⟩
      · intro r hr'
        rcases ma_.mp hr' with z | z
        · exact hl3 r z
        · rw [List.mem_singleton.mp z]; exact hl4
      · intro r hr'
        rcases ma_.mp hr' with z | z
        · exact hv3 r z
        · rw [List.mem_singleton.mp z]; exact hv4
    · (refine fun σ' H3 i_0 => Obt.ex3 i_0 fun ras rws v h_1 => Obt.and7 h_1 fun e_2 hs3 hR3 hA3 hn3 hl3 hv3 => ?_; subst e_2; clear h_1 i_0)
      rw [Int.toNat_natCast] at hn3
      exact nxt _ _ ⟨ras, rws, v, rfl, hs3, hR3, hA3, ⟨hn3, hl3, hv3⟩⟩
  (refine fun σ' H3 i_0 => Obt.ex3 i_0 fun ras rws v h_1 => Obt.and5 h_1 fun e_2 hs3 hR3 hA3 RO => ?_; subst e_2; clear h_1 i_0)
  have pm := prod many (Nat.le_refl _)
  refine ⟨_, rfl, _, rfl, _, rfl, _, _, rfl, rfl, .inl ⟨by omega, by omega⟩, _, _, rfl, rfl, ?_⟩
  refine ⟨_, rfl, (many : Int), rfl, by omega, by omega, ?_⟩
  refine comp_range (fun D j ys H4 => Same H3 H4 /\ ∃ sg : LI, ys = sg.map V.int /\ sg.length = j) (fun D hD => ⟨same_new hD _, [], rfl, rfl⟩) ?_ ?_
  · (refine fun D j ys H4 Q' hD hj hy i_0 => Obt.and2 i_0 fun hs4 t_1 => Obt.ex1 t_1 fun sg h_2 => Obt.and2 h_2 fun e_3 hl4 => fun k' => ?_; subst e_3; clear h_2 t_1 i_0)
    rw [Int.toNat_natCast] at hj
    refine ⟨_, rfl, _, rfl, _, rfl, _, _, rfl, rfl, a, _, xs, rfl, (hs3.trans hs4).seq hS, h63, by omega, by omega, fun x x0 x1 => ⟨x, rfl, x0, fun u u0 u1 => k' _ _ hy (small1000 (by rw [lm_]; omega)) ⟨same_upd hs4 hD, sg ++ [u], by rw [List.map_append]; rfl, by simp [hl4]⟩⟩⟩
  (refine fun G ys H4 hG0 hG i_0 => Obt.and2 i_0 fun hs4 t_1 => Obt.ex1 t_1 fun sg h_2 => Obt.and2 h_2 fun e_3 hl4 => ?_; subst e_3; clear h_2 t_1 i_0)
  rw [Int.toNat_natCast] at hl4
  refine ⟨_, rfl, _, rfl, R, _, rfl, .inl ⟨qL_ (hs4 _ _ hR3), fun rt hrt => ?_⟩⟩
  have s5 := same_new hrt (HO.tup (ras.map V.ref))
  refine ⟨_, rfl, G, _, rfl, .inl ⟨qL_ (s5 _ _ hG), fun gt hgt => ?_⟩⟩
  have s6 := same_new hgt (HO.tup (sg.map V.int))
  refine ⟨(by show 3 <= sizeLine; decide), fun m hm => ?_⟩
  have s7 := same_new hm (HO.tup [V.int wide, V.ref rt, V.ref gt])
  exact k m rt gt _ rws sg (hs3.trans (hs4.trans (s5.trans (s6.trans s7)))) ⟨upd_same, ⟨ras, (s6.trans s7) _ _ upd_same, hA3.same fun b zs e => (hs4.trans (s5.trans (s6.trans s7))) _ _ e⟩, s7 _ _ upd_same⟩ RO hl4
theorem ok_oneAlive (F : FunD K "_law_one_alive" "_law_one_alive" s__law_one_alive dV f fd) : FnOk P w K mg base CX0 1 f fd ["_law_place", "_law_alive_here"] (spOneAlive K) := by
  refine F.ok sc__law_one_alive (fun vs H Q E h => ?_) (fun cdv A outer s H vs Q E hr h => ?_)
  · (refine Obt.ex4 h fun p l qs al h_0 => Obt.and2 h_0 fun e_1 _ => ?_; subst e_1; clear h_0 h)
    rfl
  (refine Obt.ex4 h fun p l qs al h_0 => Obt.and5 h_0 fun e_1 hp hl hin k => ?_; subst e_1; clear h_0 h)
  refine ⟨_, (pss_cons (ps_for PassesOwn.never rfl (pi_tup (pv 0)) (pg_name (i := 2) sc__law_one_alive.nd rfl (Or.inl rfl)) (pss_one (ps_if (pt_val (pe_ix ix_list (pv 1) (pv 2) (fun _ _ => rfl))) (pss_one (ps_ret pe_int)) pss_nil)))
      (pss_one (ps_ret pe_int))), ?_⟩
  refine ⟨_, rfl, p, rfl, ⟨_, qT_ hp⟩, for_tup (K := K) (xs := qs.map V.int) (fun i σ' H' => ∃ v, σ' = [some (.ref p), some (.ref l), v] /\ H' = H /\ aliveI al qs = aliveI al (qs.drop i)) ⟨none, rfl, rfl, by rw [List.drop_zero]⟩ (fun i σ' H' _ hq0 => by (refine Obt.ex1 hq0 fun _ h_0 => Obt.and3 h_0 fun _ e _ => ?_; clear h_0 hq0); rw [e]; exact qT_ hp) ?_ ?_⟩
  · (refine fun i y σ' H' hi i_0 => Obt.ex1 i_0 fun v h_1 => Obt.and3 h_1 fun e_2 e_3 e => ?_; subst e_2; subst e_3; clear h_1 i_0)
    (refine Obt.ex1 (ints_at hi) fun z h_0 => Obt.and2 h_0 fun e_1 hz => ?_; subst e_1; clear h_0)
    have hz' := hin z (mq_ hz)
    have li := (gi_ hz).1
    have ed : qs.drop i = z :: qs.drop (i + 1) := by rw [List.drop_eq_getElem_cons li, (gi_ hz).2]
    refine ⟨_, rfl, _, rfl, l, _, _, _, rfl, rfl, qL_ hl, atI_bls hz'.1 hz'.2, _, rfl, ?_⟩
    cases c : al.getD z.toNat false with
    | true =>
      refine iteT ?_
      have e1 : aliveI al qs = 1 := by rw [e, ed]; exact if_pos c
      rw [e1] at k
      exact k
    | false =>
      exact iteF ⟨_, rfl, rfl, by rw [e, ed, aliveI_cons c]⟩
  · (refine fun σ' H' i_0 => Obt.ex1 i_0 fun v h_1 => Obt.and3 h_1 fun e_2 e_3 e => ?_; subst e_2; subst e_3; clear h_1 i_0)
    rw [lm_, List.drop_length] at e
    have e1 : aliveI al qs = 0 := e
    rw [e1] at k
    exact k
end
def valB (b : Int) : LI -> Int
  | [] => 0
  | p :: r => p + b * valB b r
def InB (b : Int) (ps : LI) : Prop := ∀ p ∈ ps, 0 <= p /\ p < b
theorem InB.nil {b : Int} : InB b [] := fun p h => by cases h
theorem InB.tail {b p : Int} {r : LI} (h : InB b (p :: r)) : InB b r := fun x hx => h x (List.mem_cons_of_mem _ hx)
theorem valB_nonneg {b : Int} (hb : 0 <= b) : ∀ {ps : LI}, InB b ps -> 0 <= valB b ps
  | [], _ => Int.le_refl 0
  | p :: r, h => Int.add_nonneg (h p List.mem_cons_self).1 (Int.mul_nonneg hb (valB_nonneg hb h.tail))
theorem valB_append (b : Int) : ∀ (ps qs : LI), valB b (ps ++ qs) = valB b ps + b ^ ps.length * valB b qs
  | [], qs => by simp [valB]
  | p :: r, qs => by
    simp only [List.cons_append, valB, valB_append b r qs, List.length_cons]
    rw [Int.mul_add, Int.pow_succ, Int.add_assoc, <- Int.mul_assoc, Int.mul_comm b (b ^ r.length)]
theorem valB_snoc (b : Int) (ps : LI) (x : Int) : valB b (ps ++ [x]) = valB b ps + x * b ^ ps.length := by
  rw [valB_append]
  simp [valB, Int.mul_comm]
def pw (w : Int) : Nat -> Int
  | 0 => w
  | i + 1 => pw w i * pw w i
structure Figs (w n : Int) (ds : LI) : Prop where
  inb : InB w ds
  val : valB w ds = n
  top : ∀ d, ds.getLast? = some d -> d ≠ 0
theorem mod_mulI {n l b : Int} (n0 : 0 <= n) (l0 : 0 < l) (b0 : 0 < b) : n % (l * b) = n % l + l * (n / l % b) := by
  (refine Obt.ex1 (nat_of n0) fun x e_0 => ?_; subst e_0)
  (refine Obt.ex1 (nat_of (Int.le_of_lt l0)) fun y e_0 => ?_; subst e_0)
  (refine Obt.ex1 (nat_of (Int.le_of_lt b0)) fun z e_0 => ?_; subst e_0)
  have h := Nat.mod_mul (x := x) (a := y) (b := z)
  exact_mod_cast h
theorem val_cut {b : Int} (hb : 0 < b) : ∀ (k : Nat) {ds : LI}, InB b ds -> valB b ds % b ^ k = valB b (ds.take k) /\ valB b ds / b ^ k = valB b (ds.drop k)
  | 0, ds, _ => by
    rw [Int.pow_zero, Int.emod_one, Int.ediv_one, List.take_zero, List.drop_zero]
    exact ⟨rfl, rfl⟩
  | k + 1, [], _ => by
    show (0 : Int) % _ = 0 /\ (0 : Int) / _ = 0
    exact ⟨Int.zero_emod _, Int.zero_ediv _⟩
  | k + 1, d :: r, h => by
    have hd := h d List.mem_cons_self
    have v0 : 0 <= valB b r := valB_nonneg (by omega) h.tail
    have ih := val_cut hb k h.tail
    have p0 : 0 < b ^ k := Int.pow_pos hb
    have bv : 0 <= b * valB b r := Int.mul_nonneg (by omega) v0
    have e1 : (d + b * valB b r) % b = d := by rw [Int.add_mul_emod_self_left]; exact Int.emod_eq_of_lt hd.1 hd.2
    have e2 : (d + b * valB b r) / b = valB b r := by rw [Int.add_mul_ediv_left _ _ (by omega), Int.ediv_eq_zero_of_lt hd.1 hd.2, Int.zero_add]
    show (d + b * valB b r) % b ^ (k + 1) = d + b * valB b (r.take k) /\ (d + b * valB b r) / b ^ (k + 1) = valB b (r.drop k)
    rw [Int.pow_succ, Int.mul_comm (b ^ k) b]
    refine ⟨?_, ?_⟩
    · rw [mod_mulI (by omega) hb p0, e1, e2, ih.1]
    · rw [<- Int.ediv_ediv_of_nonneg (by omega), e2, ih.2]
theorem val_without {b x : Int} {ds : LI} (hb : 0 < b) (h : InB b ds) (v : valB b ds = x) (k : Nat) : valB b (ds.take k ++ ds.drop (k + 1)) = withoutI x b (b ^ k) := by
  have c1 := (val_cut hb k h).1
  have c2 := (val_cut hb (k + 1) h).2
  rw [v] at c1 c2
  unfold withoutI
  rw [valB_append, c1, <- Int.pow_succ, c2]
  rcases Nat.lt_or_ge k ds.length with z | z
  · rw [List.length_take, Nat.min_eq_left (by omega)]
  · rw [List.drop_eq_nil_of_le (by omega)]
    show _ + _ * (0 : Int) = _ + _ * (0 : Int)
    rw [Int.mul_zero, Int.mul_zero]
theorem cut_backC {ns : LI} {c : Nat} : cutV (ns.map V.int) (some (c : Int)) none = (ns.drop c).map V.int := by
  unfold cutV
  rw [HT.sIx_none, HT.sIx_nat, lm_]
  rcases Nat.le_total c ns.length with h | h
  · rw [Nat.min_eq_left h, List.map_drop]
    exact List.take_of_length_le (by simp)
  · rw [Nat.min_eq_right h, List.drop_eq_nil_of_le (by simp), List.drop_eq_nil_of_le h]
    simp
theorem valB_rev {b : Int} {N : LI} {i : Nat} (hi : i < N.length) : valB b (N.drop (N.length - (i + 1))) = valB b (N.drop (N.length - i)) * b + N.getD (N.length - 1 - i) 0 := by
  have h : N.length - (i + 1) < N.length := by omega
  rw [List.drop_eq_getElem_cons h, show N.length - (i + 1) + 1 = N.length - i from by omega, show N.length - 1 - i = N.length - (i + 1) from by omega, getD_at h]
  show N[N.length - (i + 1)] + b * valB b (N.drop (N.length - i)) = _
  rw [Int.mul_comm, Int.add_comm]
def spWithoutL : Sp := fun vs H Q _ => ∃ (x b : Int) (k : Nat), vs = [.int x, .int b, .int k] /\ (0 <= x /\ x < 1000000) /\ (2 <= b /\ b <= 1000) /\ k <= 1000 /\ ∀ H' : Hp, Same H H' -> Q (.int (withoutI x b (b ^ k))) H'
section
variable {P : Program} {w : World} {K : PySem.W.Frag} {mg : Str -> Option Value} {base : Heap} {f : Addr} {fd : FuncData} {dV : Value}
theorem sc__law_without : FnScope ["_law_figure", "_law_base", "_law_at", "_law_parts", "_law_left", "_law_part"] ["_law_figure", "_law_base", "_law_at"] (defScope s__law_without) := ⟨rfl, rfl, rfl, by decide +kernel, rfl, by decide +kernel, by decide +kernel⟩
theorem ok_withoutL (F : FunD K "_law_without" "_law_without" s__law_without dV f fd) (z_reversed : mg "reversed" = none) : FnOk P w K mg base CX0 1 f fd ["_law_figure", "_law_base", "_law_at"] spWithoutL := by
  refine F.ok sc__law_without (fun vs H Q E h => ?_) (fun cdv A outer s H vs Q E hr h => ?_)
  · (refine Obt.ex3 h fun x b k h_0 => Obt.and2 h_0 fun e_1 _ => ?_; subst e_1; clear h_0 h)
    rfl
  (refine Obt.ex3 h fun x b k h_0 => Obt.and5 h_0 fun e_1 t_2 t_3 hk q => Obt.and2 t_2 fun x0 x1 => Obt.and2 t_3 fun b0 b1 => ?_; subst e_1; clear t_3 t_2 h_0 h)
  refine ⟨_, (pss_cons (ps_set (i := 3) sc__law_without.nd rfl (Or.inl rfl) (pe_lst pa_nil))
      (pss_cons (ps_while PassesOwn.never (pt_cmpR op_gt (pv 0) pe_int (nomark _)) (pss_cons (ps_expr (pe_bm PySem.F.plainAttrs_list PySem.F.slot_list_append PySem.F.type_list_append mt_append (pv 3) (pa_cons (pe_op op_mod (pv 0) (pv 1)) pa_nil)))
      (pss_one (ps_set (i := 0) sc__law_without.nd rfl (Or.inl rfl) (pe_op op_fdiv (pv 0) (pv 1))))))
      (pss_cons (ps_set (i := 3) sc__law_without.nd rfl (Or.inl rfl) (pe_op op_cat (pe_slice sl_list (pv 3) po_none (po_some (pv 2))) (pe_slice sl_list (pv 3) (po_some (pe_op op_add (pv 2) pe_int)) po_none)))
      (pss_cons (ps_set (i := 4) sc__law_without.nd rfl (Or.inl rfl) pe_int)
      (pss_cons (ps_for PassesOwn.never rfl (pi_rev rfl z_reversed (pa_cons (pv 3) pa_nil)) (pg_name (i := 5) sc__law_without.nd rfl (Or.inl rfl)) (pss_one (ps_set (i := 4) sc__law_without.nd rfl (Or.inl rfl) (pe_op op_add (pe_op op_mul (pv 4) (pv 1)) (pv 5)))))
      (pss_one (ps_ret (pv 4)))))))), ?_⟩
  refine ⟨(by show 0 <= sizeLine; decide), fun L hL => ?_⟩
  try dsimp only [gName]
  refine cut_G (t := tWhile _ _) (fun σ' H' => ∃ (ds : LI), σ' = [some (.int 0), some (.int b), some (.int k), some (.ref L), none, none] /\ Same H H' /\ H' L = some (.lst (ds.map V.int)) /\ InB b ds /\ valB b ds = x /\ ds.length <= 1000) ?_ (fun D' nxt => ?_)
  rotate_left
  · refine while_W (fun mm σ' H' => ∃ (y : Int) (ds : LI), mm = y.toNat /\ 0 <= y /\ σ' = [some (.int y), some (.int b), some (.int k), some (.ref L), none, none] /\ Same H H' /\ H' L = some (.lst (ds.map V.int)) /\ InB b ds /\ valB b ds + b ^ ds.length * y = x /\ y * 2 ^ ds.length <= x /\ ds.length <= 20)
      ⟨_, x, [], rfl, x0, rfl, same_new hL _, upd_same, InB.nil, by show (0 : Int) + b ^ 0 * x = x; rw [Int.pow_zero]; omega, by show x * 2 ^ 0 <= x; rw [Int.pow_zero]; omega, by decide⟩ ?_
    (refine fun mm σ' H' i_0 => Obt.ex2 i_0 fun y ds h_1 => Obt.and9 h_1 fun e_2 y0 e_3 hs hLd hin hv hy2 hl20 => ?_; subst e_2; subst e_3; clear h_1 i_0)
    refine ⟨_, rfl, _, _, rfl, rfl, _, rfl, iteD (fun c => ?_) (fun c => ?_)⟩
    · have l19 : ds.length < 20 := by
        rcases Nat.lt_or_ge ds.length 20 with z | z
        · exact z
        · have e20 : ds.length = 20 := by omega
          rw [e20] at hy2
          have h2 : (2 : Int) ^ 20 = 1048576 := by decide
          rw [h2] at hy2
          omega
      refine ⟨fun σ' H'' => ∃ m', m' < y.toNat /\ ∃ (y : Int) (ds : LI), m' = y.toNat /\ 0 <= y /\ σ' = [some (.int y), some (.int b), some (.int k), some (.ref L), none, none] /\ Same H H'' /\ H'' L = some (.lst (ds.map V.int)) /\ InB b ds /\ valB b ds + b ^ ds.length * y = x /\ y * 2 ^ ds.length <= x /\ ds.length <= 20, fun σ' H'' h => h, ?_⟩
      have md := mod_in (a := y) (b := b) (by omega)
      have lt : y / b < y := Int.ediv_lt_self_of_pos_of_ne_one (by omega) (by omega)
      have ge : 0 <= y / b := Int.ediv_nonneg y0 (by omega)
      have half : y / b * 2 <= y := by
        have h2 : y / b * 2 <= y / b * b := Int.mul_le_mul_of_nonneg_left (by omega) ge
        have h3 : y / b * b <= y := Int.ediv_mul_le _ (by omega)
        omega
      refine ⟨_, rfl, .inl ⟨rfl, _, qL_ hLd⟩, _, rfl, _, rfl, _, _, rfl, rfl, (by omega), L, _, _, rfl, rfl, hLd, small1000 (by rw [lm_]; omega), ?_⟩
      refine ⟨_, rfl, _, rfl, _, _, rfl, rfl, ⟨by omega, by omega⟩, (y / b).toNat, by omega, y / b, ds ++ [y % b], rfl, ge, rfl, same_upd hs hL, by rw [upd_same, List.map_append]; rfl, fun p hp => ?_, ?_, ?_, by simp; omega⟩
      · rcases ma_.mp hp with z | z
        · exact hin p z
        · rw [List.mem_singleton.mp z]; exact md
      · rw [valB_snoc, List.length_append, List.length_singleton, Int.pow_succ]
        have e1 : y = b * (y / b) + y % b := (Int.mul_ediv_add_emod y b).symm
        have e2 : b ^ ds.length * y = b ^ ds.length * (b * (y / b)) + b ^ ds.length * (y % b) := by rw [<- Int.mul_add, <- e1]
        have e3 : b ^ ds.length * b * (y / b) = b ^ ds.length * (b * (y / b)) := Int.mul_assoc ..
        have e4 : y % b * b ^ ds.length = b ^ ds.length * (y % b) := Int.mul_comm ..
        omega
      · rw [List.length_append, List.length_singleton, Int.pow_succ]
        have p0 : (0 : Int) <= 2 ^ ds.length := Int.le_of_lt (Int.pow_pos (by decide))
        have e1 : y / b * (2 ^ ds.length * 2) = y / b * 2 * 2 ^ ds.length := by rw [Int.mul_assoc, Int.mul_comm 2]
        have e2 : y / b * 2 * 2 ^ ds.length <= y * 2 ^ ds.length := Int.mul_le_mul_of_nonneg_right half p0
        omega
    · have yz : y = 0 := by omega
      subst yz
      rw [Int.mul_zero, Int.add_zero] at hv
      exact nxt _ _ ⟨ds, rfl, hs, hLd, hin, hv, by omega⟩
  (refine fun σ' H1 i_0 => Obt.ex1 i_0 fun ds h_1 => Obt.and6 h_1 fun e_2 hs hLd hin hv hl => ?_; subst e_2; clear h_1 i_0)
  refine ⟨_, rfl, _, rfl, _, rfl, L, _, rfl, qL_ hLd, fun A1 hA => ?_⟩
  rw [cut_front]
  have sA := same_new hA (HO.lst ((ds.take k).map V.int))
  refine ⟨_, rfl, _, rfl, _, _, rfl, rfl, _, rfl, L, _, rfl, qL_ (sA _ _ hLd), fun B1 hB => ?_⟩
  have ek : (some ((k : Int) + 1) : Option Int) = some (((k + 1 : Nat)) : Int) := rfl
  rw [ek, cut_backC]
  have sB := same_new hB (HO.lst ((ds.drop (k + 1)).map V.int))
  refine ⟨A1, B1, _, _, rfl, rfl, sB _ _ upd_same, upd_same, small (by simp; omega), fun N1 hN => ?_⟩
  rw [<- List.map_append]
  obtain ⟨ps, eps⟩ : ∃ ps, ds.take k ++ ds.drop (k + 1) = ps := ⟨_, rfl⟩
  have ev := val_without (show 0 < b by omega) hin hv k
  rw [eps] at ev ⊢
  have lps : ps.length <= 1000 := by rw [<- eps]; simp; omega
  have sN := same_new hN (HO.lst (ps.map V.int))
  have sAll := hs.trans (sA.trans (sB.trans sN))
  obtain ⟨H4, eH4⟩ : ∃ H4, (upd (upd (upd H1 A1 (HO.lst ((ds.take k).map V.int))) B1 (HO.lst ((ds.drop (k + 1)).map V.int))) N1 (HO.lst (ps.map V.int))) = H4 := ⟨_, rfl⟩
  have hN4 : H4 N1 = some (.lst (ps.map V.int)) := by rw [<- eH4]; exact upd_same
  rw [eH4] at sAll ⊢
  clear eH4 sN sA sB hN hA hB
  refine ⟨_, rfl, N1, _, rfl, qL_ hN4, for_rev (K := K) (xs := ps.map V.int) (fun i σ' H' => ∃ v, σ' = [some (.int 0), some (.int b), some (.int k), some (.ref N1), some (.int (valB b (ps.drop (ps.length - i)))), v] /\ H' = H4) ⟨none, by rw [Nat.sub_zero, List.drop_length]; rfl, rfl⟩ (fun i σ' H' _ hq0 => by (refine Obt.ex1 hq0 fun _ h_0 => Obt.and2 h_0 fun _ e => ?_; clear h_0 hq0); rw [e]; exact qL_ hN4) ?_ ?_⟩
  · (refine fun i y σ' H' hi hy i_0 => Obt.ex1 i_0 fun v h_1 => Obt.and2 h_1 fun e_2 e_3 => ?_; subst e_2; subst e_3; clear h_1 i_0)
    (refine Obt.ex1 (ints_at hy) fun z h_0 => Obt.and2 h_0 fun e_1 hz => ?_; subst e_1; clear h_0)
    rw [lm_] at hi hz
    have ez : ps.getD (ps.length - 1 - i) 0 = z := by rw [List.getD_eq_getElem?_getD, hz]; rfl
    refine ⟨_, rfl, _, rfl, _, _, rfl, rfl, .inr ⟨by omega, by omega⟩, _, rfl, _, _, rfl, rfl, some (.int z), ?_, rfl⟩
    rw [valB_rev hi, ez]
    rfl
  · (refine fun σ' H' i_0 => Obt.ex1 i_0 fun v h_1 => Obt.and2 h_1 fun e_2 e_3 => ?_; subst e_2; subst e_3; clear h_1 i_0)
    refine ⟨_, rfl, ?_⟩
    rw [lm_, Nat.sub_self, List.drop_zero, ev]
    exact q _ sAll
end
structure NCls (K : PySem.W.Frag) (C : Addr) : Prop where
  cl : Cls K C
  nw : NoAttr K C "walk"
  nb : NoAttr K C "base"
  nl : NoAttr K C "below"
structure NwAt (H : Hp) (C x wk : Addr) (b lo : Int) : Prop where
  ob : ∃ dx : Addr, H x = some (.ins C dx [("walk", .ref wk), ("base", .int b), ("below", .int lo)])
theorem NwAt.same {H H' : Hp} {C x wk : Addr} {b lo : Int} (h : NwAt H C x wk b lo) (s : Same H H') : NwAt H' C x wk b lo := by
  (refine Obt.ex1 h.ob fun dx h1 => ?_)
  exact ⟨dx, s _ _ h1⟩
def spNInit (C : Addr) : Sp := fun vs H Q _ => ∃ (x dx wk : Addr) (b : Int) (n : Nat), vs = [.ref x, .ref wk, .int b, .int n] /\ H x = some (.ins C dx []) /\ (0 <= b /\ b <= 1000) /\ n <= 1000 /\
  ∀ H' : Hp, (∀ c u, c ≠ x -> H c = some u -> H' c = some u) -> NwAt H' C x wk b (b ^ n) -> Q .non H'
def spNBeginR (C CR : Addr) : Sp := fun vs H Q _ => ∃ (x wk r g : Addr) (b lo : Int), vs = [.ref x] /\ NwAt H C x wk b lo /\ RdAt H CR wk r g /\ Q (.int 0) H
def spNStepR (C CR : Addr) : Sp := fun vs H Q _ => ∃ (x wk m r g : Addr) (b lo q f : Int) (many wide : Nat) (rows : LL) (signs : LI), vs = [.ref x, .int q, .int f] /\ NwAt H C x wk b lo /\ RdAt H CR wk r g /\ MachAt H m r g wide rows signs /\ RowsOk many wide rows /\ (0 <= q /\ q < (many : Int)) /\ (0 < b /\ b <= 1000) /\ (0 < lo /\ lo <= 100000) /\ (0 <= withoutI f b lo /\ withoutI f b lo < (wide : Int)) /\ Q (.int (stepI rows q (withoutI f b lo))) H
def spNSignR (C CR : Addr) : Sp := fun vs H Q _ => ∃ (x wk m r g : Addr) (b lo q : Int) (wide : Nat) (rows : LL) (signs : LI), vs = [.ref x, .int q] /\ NwAt H C x wk b lo /\ RdAt H CR wk r g /\ MachAt H m r g wide rows signs /\ (0 <= q /\ q < (signs.length : Int)) /\ Q (.int (signs.getD q.toNat 0)) H
section
variable {P : Program} {w : World} {K : PySem.W.Frag} {mg : Str -> Option Value} {base : Heap} {f : Addr} {fd : FuncData} {dV : Value} {C CR : Addr}
theorem sc_Narrowing___init__ : FnScope ["self", "walk", "base", "at"] ["self", "walk", "base", "at"] (defScope s_Narrowing___init__) := ⟨rfl, rfl, rfl, by decide +kernel, rfl, by decide +kernel, by decide +kernel⟩
theorem sc_Narrowing_begin : FnScope ["self"] ["self"] (defScope s_Narrowing_begin) := ⟨rfl, rfl, rfl, by decide +kernel, rfl, by decide +kernel, by decide +kernel⟩
theorem sc_Narrowing_step : FnScope ["self", "place", "figure"] ["self", "place", "figure"] (defScope s_Narrowing_step) := ⟨rfl, rfl, rfl, by decide +kernel, rfl, by decide +kernel, by decide +kernel⟩
theorem sc_Narrowing_sign : FnScope ["self", "place"] ["self", "place"] (defScope s_Narrowing_sign) := ⟨rfl, rfl, rfl, by decide +kernel, rfl, by decide +kernel, by decide +kernel⟩
theorem ok_ninit (F : FunD K "__init__" "Narrowing.__init__" s_Narrowing___init__ dV f fd) (nc : NCls K C) (G_power_of : DefOk P w K mg base "power_of" 1 ["base", "times"] [] spPower) : FnOk P w K mg base CX0 2 f fd ["self", "walk", "base", "at"] (spNInit C) := by
  refine F.ok sc_Narrowing___init__ (fun vs H Q E h => ?_) (fun cdv A outer s H vs Q E hr h => ?_)
  · (refine Obt.ex5 h fun x dx wk b n h_0 => Obt.and2 h_0 fun e_1 _ => ?_; subst e_1; clear h_0 h)
    rfl
  (refine Obt.ex5 h fun x dx wk b n h_0 => Obt.and5 h_0 fun e_1 hx hb hn k => ?_; subst e_1; clear h_0 h)
  refine ⟨_, (pss_cons (ps_fld (pv 0) (pv 1) rfl)
      (pss_cons (ps_fld (pv 0) (pv 2) rfl)
      (pss_one (ps_fld (pv 0) (pe_cd G_power_of hr (pa_cons (pv 2) (pa_cons (pv 3) pa_nil))) rfl)))), ?_⟩
  refine ⟨_, rfl, _, rfl, x, C, dx, [], rfl, hx, nc.cl, nc.nw, by decide, ?_⟩
  refine ⟨_, rfl, _, rfl, x, C, dx, _, rfl, upd_same, nc.cl, nc.nb, by show 1 < 1000; decide, ?_⟩
  refine ⟨_, rfl, _, rfl, b, n, rfl, hb, hn, _, rfl, x, C, dx, _, rfl, upd_same, nc.cl, nc.nl, by show 2 < 1000; decide, ?_⟩
  refine k _ (fun c u hc e => ?_) ⟨dx, upd_same⟩
  rw [upd_ne hc, upd_ne hc, upd_ne hc]
  exact e
theorem ok_nbeginR (F : FunD K "begin" "Narrowing.begin" s_Narrowing_begin dV f fd) (nc : NCls K C) (GER_begin : DefMe P w K mg base CR "begin" 1 ["self"] spRBegin) : FnOk P w K mg base CX0 2 f fd ["self"] (spNBeginR C CR) := by
  refine F.ok sc_Narrowing_begin (fun vs H Q E h => ?_) (fun cdv A outer s H vs Q E hr h => ?_)
  · (refine Obt.ex6 h fun x wk r g b lo h_0 => Obt.and2 h_0 fun e_1 _ => ?_; subst e_1; clear h_0 h)
    rfl
  (refine Obt.ex6 h fun x wk r g b lo h_0 => Obt.and4 h_0 fun e_1 t_2 t_3 q => ?_; subst e_1; obtain ⟨dx, hx⟩ := t_2; obtain ⟨dw, hw⟩ := t_3; clear h_0 h)
  refine ⟨_, (pss_one (ps_ret (pe_me0 GER_begin hr (pe_fld (pv 0) rfl)))), ?_⟩
  exact ⟨_, rfl, x, C, dx, _, _, rfl, hx, nc.cl, nc.nw, rfl, wk, dw, _, rfl, hw, rfl, wk, rfl, q⟩
theorem ok_nstepR (F : FunD K "step" "Narrowing.step" s_Narrowing_step dV f fd) (nc : NCls K C) (GER_step : DefMe P w K mg base CR "step" 1 ["self", "place", "figure"] (spRStep CR)) (G_without_part : DefOk P w K mg base "without_part" 1 ["figure", "base", "below"] [] spWithout) : FnOk P w K mg base CX0 2 f fd ["self", "place", "figure"] (spNStepR C CR) := by
  refine F.ok sc_Narrowing_step (fun vs H Q E h => ?_) (fun cdv A outer s H vs Q E hr h => ?_)
  · (refine Obt.ex8 h fun x wk m r g b lo q h_0 => Obt.ex5 h_0 fun fg many wide rows signs h_1 => Obt.and2 h_1 fun e_2 _ => ?_; subst e_2; clear h_1 h_0 h)
    rfl
  (refine Obt.ex8 h fun x wk m r g b lo q h_0 => Obt.ex5 h_0 fun fg many wide rows signs h_1 => Obt.and10 h_1 fun e_2 t_3 RD M R hq hb hlo hf k => ?_; subst e_2; obtain ⟨dx, hx⟩ := t_3; clear h_1 h_0 h)
  (refine Obt.ex1 RD.ob fun dw hw => ?_)
  refine ⟨_, (pss_one (ps_ret (pe_me GER_step hr (pe_fld (pv 0) rfl) (pa_cons (pv 1) (pa_cons (pe_cd G_without_part hr (pa_cons (pv 2) (pa_cons (pe_fld (pv 0) rfl) (pa_cons (pe_fld (pv 0) rfl) pa_nil)))) pa_nil))))), ?_⟩
  refine ⟨_, rfl, x, C, dx, _, _, rfl, hx, nc.cl, nc.nw, rfl, wk, dw, _, rfl, hw, rfl, _, rfl, _, rfl, _, rfl, x, C, dx, _, _, rfl, hx, nc.cl, nc.nb, rfl, _, rfl, x, C, dx, _, _, rfl, hx, nc.cl, nc.nl, rfl, fg, b, lo, rfl, hb, hlo, ?_⟩
  exact ⟨wk, m, r, g, q, _, many, wide, rows, signs, rfl, RD, M, R, hq, hf, k⟩
theorem ok_nsignR (F : FunD K "sign" "Narrowing.sign" s_Narrowing_sign dV f fd) (nc : NCls K C) (GER_sign : DefMe P w K mg base CR "sign" 1 ["self", "place"] (spRSign CR)) : FnOk P w K mg base CX0 2 f fd ["self", "place"] (spNSignR C CR) := by
  refine F.ok sc_Narrowing_sign (fun vs H Q E h => ?_) (fun cdv A outer s H vs Q E hr h => ?_)
  · (refine Obt.ex8 h fun x wk m r g b lo q h_0 => Obt.ex3 h_0 fun wide rows signs h_1 => Obt.and2 h_1 fun e_2 _ => ?_; subst e_2; clear h_1 h_0 h)
    rfl
  (refine Obt.ex8 h fun x wk m r g b lo q h_0 => Obt.ex3 h_0 fun wide rows signs h_1 => Obt.and6 h_1 fun e_2 t_3 RD M hq k => ?_; subst e_2; obtain ⟨dx, hx⟩ := t_3; clear h_1 h_0 h)
  (refine Obt.ex1 RD.ob fun dw hw => ?_)
  refine ⟨_, (pss_one (ps_ret (pe_me GER_sign hr (pe_fld (pv 0) rfl) (pa_cons (pv 1) pa_nil)))), ?_⟩
  exact ⟨_, rfl, x, C, dx, _, _, rfl, hx, nc.cl, nc.nw, rfl, wk, dw, _, rfl, hw, rfl, _, rfl, wk, m, r, g, q, wide, rows, signs, rfl, RD, M, hq, k⟩
end
theorem len_split {α : Type} (p : α -> Bool) : ∀ l : List α, l.length = (l.filter p).length + (l.filter fun x => !p x).length
  | [] => rfl
  | x :: l => by
    have ih := len_split p l
    cases e : p x
    · rw [List.filter_cons_of_neg (by rw [e]; decide), List.filter_cons_of_pos (by rw [e]; rfl), List.length_cons, List.length_cons]
      omega
    · rw [List.filter_cons_of_pos e, List.filter_cons_of_neg (by rw [e]; decide), List.length_cons, List.length_cons]
      omega
theorem few_below : ∀ (many : Nat) {ks : LI}, ks.Nodup -> (∀ q ∈ ks, 0 <= q /\ q < (many : Int)) -> ks.length <= many
  | 0, ks, _, h => by
    cases ks with
    | nil => exact Nat.le_refl _
    | cons q r => have := h q List.mem_cons_self; omega
  | many + 1, ks, nd, h => by
    have e : (ks.filter fun q => decide (q ≠ (many : Int))).length <= many := few_below many (nd.filter _) fun q hq => by
      have h1 := h q (List.mem_filter.mp hq).1
      have h2 : q ≠ (many : Int) := of_decide_eq_true (List.mem_filter.mp hq).2
      omega
    have c : (ks.filter fun q => !decide (q ≠ (many : Int))).length <= 1 := by
      have nd2 := nd.filter fun q => !decide (q ≠ (many : Int))
      have al : ∀ q ∈ ks.filter (fun q => !decide (q ≠ (many : Int))), q = (many : Int) := fun q hq => by
        have := (List.mem_filter.mp hq).2
        simpa using this
      match hm : ks.filter (fun q => !decide (q ≠ (many : Int))), nd2, al with
      | [], _, _ => exact Nat.zero_le _
      | [x], _, _ => exact Nat.le_refl _
      | x :: y :: r, nd2, al =>
        have h1 := al x List.mem_cons_self
        have h2 := al y (List.mem_cons_of_mem _ List.mem_cons_self)
        rw [h1, h2] at nd2
        exact absurd List.mem_cons_self (List.nodup_cons.mp nd2).1
    have t := len_split (fun q => decide (q ≠ (many : Int))) ks
    omega
def kvT (ks : LI) : List (Key × V) := ks.map fun q => (Sum.inl q, V.bl true)
theorem kvT_val (ks : LI) (q : Int) : (valV (kvT ks) (Sum.inl q)).isSome = decide (q ∈ ks) := by
  induction ks with
  | nil => rfl
  | cons k r ih =>
    by_cases e : k = q
    · subst e
      rw [show kvT (k :: r) = (Sum.inl k, V.bl true) :: kvT r from rfl, valV_pos rfl]
      simp
    · rw [show kvT (k :: r) = (Sum.inl k, V.bl true) :: kvT r from rfl, valV_neg (fun z => e (Sum.inl.inj z)), ih]
      simp [Ne.symm e]
theorem kvT_put {ks : LI} {q : Int} (h : q ∉ ks) : putK (kvT ks) (Sum.inl q) (V.bl true) = kvT (ks ++ [q]) := by
  unfold putK
  rw [if_neg (by
    intro z
    (refine Obt.ex1 (List.any_eq_true.mp z) fun p h_0 => Obt.and2 h_0 fun hp e => ?_; clear h_0)
    (refine Obt.ex1 (List.mem_map.mp hp) fun k h_0 => Obt.and2 h_0 fun hk e_1 => ?_; subst e_1; clear h_0)
    have := Sum.inl.inj (of_decide_eq_true e)
    exact h (this ▸ hk))]
  unfold kvT
  rw [List.map_append]
  rfl
def kvL (es : List (Int × Addr)) : List (Key × V) := es.map fun e => (Sum.inl e.1, V.ref e.2)
theorem kvL_none : ∀ {es : List (Int × Addr)} {q : Int}, q ∉ es.map Prod.fst -> valV (kvL es) (Sum.inl q) = none
  | [], _, _ => rfl
  | e :: es, q, h => by
    rw [show kvL (e :: es) = (Sum.inl e.1, V.ref e.2) :: kvL es from rfl, valV_neg (fun z => h (by rw [<- Sum.inl.inj z]; exact List.mem_cons_self))]
    exact kvL_none fun z => h (List.mem_cons_of_mem _ z)
theorem kvL_at : ∀ {es : List (Int × Addr)} {q : Int} {a : Addr} {j : Nat}, (es.map Prod.fst).Nodup -> es[j]? = some (q, a) -> valV (kvL es) (Sum.inl q) = some (V.ref a)
  | [], _, _, _, _, h => by cases h
  | e :: es, q, a, 0, _, h => by
    cases h
    exact valV_pos rfl
  | e :: es, q, a, j + 1, nd, h => by
    have nd' := List.nodup_cons.mp (show (e.1 :: es.map Prod.fst).Nodup from nd)
    have h' : es[j]? = some (q, a) := h
    rw [show kvL (e :: es) = (Sum.inl e.1, V.ref e.2) :: kvL es from rfl, valV_neg (fun z => nd'.1 (by
      have : e.1 = q := Sum.inl.inj z
      rw [this]
      exact List.mem_map.mpr ⟨(q, a), mq_ h', rfl⟩))]
    exact kvL_at nd'.2 h'
theorem kvL_put {es : List (Int × Addr)} {q : Int} {a : Addr} (h : q ∉ es.map Prod.fst) : putK (kvL es) (Sum.inl q) (V.ref a) = kvL (es ++ [(q, a)]) := by
  unfold putK
  rw [if_neg (by
    intro z
    (refine Obt.ex1 (List.any_eq_true.mp z) fun p h_0 => Obt.and2 h_0 fun hp e => ?_; clear h_0)
    (refine Obt.ex1 (List.mem_map.mp hp) fun k h_0 => Obt.and2 h_0 fun hk e_1 => ?_; subst e_1; clear h_0)
    have := Sum.inl.inj (of_decide_eq_true e)
    exact h (this ▸ List.mem_map.mpr ⟨k, hk, rfl⟩))]
  unfold kvL
  rw [List.map_append]
  rfl
theorem PairsV.same {H H' : Hp} {ts : List Addr} {kvs : List (Key × V)} (h : PairsV H ts kvs) (s : ∀ b xs, H b = some (.tup xs) -> H' b = some (.tup xs)) : PairsV H' ts kvs := Paired.mapP h fun _ _ q => s _ _ q
theorem merge_nd : ∀ {gs ks : LI}, (ks ++ gs).Nodup -> mergeK (kvT ks) (kvT gs) = kvT (ks ++ gs)
  | [], ks, _ => by rw [List.append_nil]; rfl
  | g :: gs, ks, nd => by
    have hg : g ∉ ks := fun z => (List.nodup_append.mp nd).2.2 g z g List.mem_cons_self rfl
    show mergeK (putK (kvT ks) (Sum.inl g) (V.bl true)) (kvT gs) = _
    rw [kvT_put hg, merge_nd (by rw [List.append_assoc]; exact nd), List.append_assoc]
    rfl
theorem merge_kvT {gs : LI} (nd : gs.Nodup) : mergeK [] (kvT gs) = kvT gs := merge_nd (ks := []) nd
structure BackOk (H0 H : Hp) (B : Addr) (es : List (Int × Addr)) (P : Int -> LI -> Prop) : Prop where
  at_ : H B = some (.dK (kvL es))
  nd : (es.map Prod.fst).Nodup
  nd2 : (es.map Prod.snd).Nodup
  fresh : ∀ e ∈ es, H0 e.2 = none
  lst : ∀ e ∈ es, ∃ ls : LI, H e.2 = some (.lst (ls.map V.int)) /\ P e.1 ls
  non : ∀ q, q ∉ es.map Prod.fst -> P q []
theorem BackOk.get {H0 H : Hp} {B : Addr} {es : List (Int × Addr)} {P : Int -> LI -> Prop} (b : BackOk H0 H B es P) {q : Int} {v : V} (h : valV (kvL es) (Sum.inl q) = some v) : ∃ la ls, v = .ref la /\ (q, la) ∈ es /\ H la = some (.lst (ls.map V.int)) /\ P q ls := by
  have hm : q ∈ es.map Prod.fst := Classical.byContradiction fun z => by rw [kvL_none z] at h; cases h
  (refine Obt.ex1 (List.mem_map.mp hm) fun e h_0 => Obt.and2 h_0 fun he e_1 => ?_; subst e_1; clear h_0)
  (refine Obt.ex1 (List.mem_iff_getElem?.mp he) fun j hj => ?_)
  have := kvL_at b.nd (q := e.1) (a := e.2) hj
  rw [this] at h
  (refine Obt.ex1 (b.lst e he) fun ls h_0 => Obt.and2 h_0 fun h1 h2 => ?_; clear h_0)
  exact ⟨e.2, ls, (Option.some.inj h).symm, he, h1, h2⟩
theorem fst_inj {es : List (Int × Addr)} (nd : (es.map Prod.fst).Nodup) {e e' : Int × Addr} (h : e ∈ es) (h' : e' ∈ es) (q : e.1 = e'.1) : e = e' := by
  (refine Obt.ex1 (List.getElem_of_mem h) fun i h_0 => Obt.ex1 h_0 fun hi ei => ?_; clear h_0)
  (refine Obt.ex1 (List.getElem_of_mem h') fun j h_0 => Obt.ex1 h_0 fun hj ej => ?_; clear h_0)
  have : (es.map Prod.fst)[i]'(by simpa using hi) = (es.map Prod.fst)[j]'(by simpa using hj) := by simp [ei, ej, q]
  have := (List.getElem_inj nd).mp this
  subst this
  rw [<- ei, <- ej]
theorem snd_inj {es : List (Int × Addr)} (nd : (es.map Prod.snd).Nodup) {e e' : Int × Addr} (h : e ∈ es) (h' : e' ∈ es) (q : e.2 = e'.2) : e = e' := by
  (refine Obt.ex1 (List.getElem_of_mem h) fun i h_0 => Obt.ex1 h_0 fun hi ei => ?_; clear h_0)
  (refine Obt.ex1 (List.getElem_of_mem h') fun j h_0 => Obt.ex1 h_0 fun hj ej => ?_; clear h_0)
  have : (es.map Prod.snd)[i]'(by simpa using hi) = (es.map Prod.snd)[j]'(by simpa using hj) := by simp [ei, ej, q]
  have := (List.getElem_inj nd).mp this
  subst this
  rw [<- ei, <- ej]
theorem BackOk.old {H0 H : Hp} {B la : Addr} {es : List (Int × Addr)} {P P' : Int -> LI -> Prop} {q h : Int} {ls : LI} (b : BackOk H0 H B es P) (hm : (q, la) ∈ es) (hla : H la = some (.lst (ls.map V.int))) (hp : P' q (ls ++ [h])) (ho : ∀ p ls, p ≠ q -> P p ls -> P' p ls) :
    BackOk H0 (upd H la (.lst (ls.map V.int ++ [.int h]))) B es P' where
  at_ := by rw [upd_ne (ne_of b.at_ hla (by intro z; cases z))]; exact b.at_
  nd := b.nd
  nd2 := b.nd2
  fresh := b.fresh
  lst := fun e he => by
    by_cases c : e.2 = la
    · have := snd_inj b.nd2 he hm c
      subst this
      exact ⟨ls ++ [h], by rw [upd_same, List.map_append]; rfl, hp⟩
    · (refine Obt.ex1 (b.lst e he) fun ms h_0 => Obt.and2 h_0 fun h1 h2 => ?_; clear h_0)
      refine ⟨ms, by rw [upd_ne c]; exact h1, ho _ _ (fun z => c ?_) h2⟩
      have := fst_inj b.nd he hm z
      rw [this]
  non := fun p hp' => ho p [] (fun z => hp' (by rw [z]; exact List.mem_map.mpr ⟨_, hm, rfl⟩)) (b.non p hp')
theorem BackOk.new {H0 H : Hp} {B L : Addr} {es : List (Int × Addr)} {P P' : Int -> LI -> Prop} {q h : Int} (b : BackOk H0 H B es P) (hq : q ∉ es.map Prod.fst) (hL : H L = some (.lst [])) (fL : H0 L = none) (nL : ∀ e ∈ es, e.2 ≠ L) (hp : P' q [h]) (ho : ∀ p ls, p ≠ q -> P p ls -> P' p ls) :
    BackOk H0 (upd (upd H B (.dK (putK (kvL es) (Sum.inl q) (.ref L)))) L (.lst [.int h])) B (es ++ [(q, L)]) P' where
  at_ := by rw [upd_ne (ne_of b.at_ hL (by intro z; cases z)), upd_same, kvL_put hq]
  nd := by rw [List.map_append]; exact nd_snoc b.nd hq
  nd2 := by
    rw [List.map_append]
    refine nd_snoc b.nd2 fun z => ?_
    (refine Obt.ex1 (List.mem_map.mp z) fun e h_0 => Obt.and2 h_0 fun he e2 => ?_; clear h_0)
    exact nL e he e2
  fresh := fun e he => by
    rcases ma_.mp he with z | z
    · exact b.fresh e z
    · rw [List.mem_singleton.mp z]; exact fL
  lst := fun e he => by
    rcases ma_.mp he with z | z
    · (refine Obt.ex1 (b.lst e z) fun ms h_0 => Obt.and2 h_0 fun h1 h2 => ?_; clear h_0)
      refine ⟨ms, by rw [upd_ne (nL e z), upd_ne (ne_of h1 b.at_ (by intro z; cases z))]; exact h1, ho _ _ (fun y => hq ?_) h2⟩
      rw [<- y]
      exact List.mem_map.mpr ⟨e, z, rfl⟩
    · rw [List.mem_singleton.mp z]
      exact ⟨[h], by rw [upd_same]; rfl, hp⟩
  non := fun p hp' => by
    rw [List.map_append] at hp'
    exact ho p [] (fun z => hp' (by rw [z]; exact List.mem_append_right _ List.mem_cons_self)) (b.non p fun z => hp' (List.mem_append_left _ z))
theorem BackOk.keep {H0 H H' : Hp} {B : Addr} {es : List (Int × Addr)} {P : Int -> LI -> Prop} (b : BackOk H0 H B es P) (hB : H' B = H B) (hl : ∀ e ∈ es, H' e.2 = H e.2) : BackOk H0 H' B es P where
  at_ := by rw [hB]; exact b.at_
  nd := b.nd
  nd2 := b.nd2
  fresh := b.fresh
  lst := fun e he => by rw [hl e he]; exact b.lst e he
  non := b.non
theorem BackOk.same {H0 H H' : Hp} {B : Addr} {es : List (Int × Addr)} {P : Int -> LI -> Prop} (b : BackOk H0 H B es P) (s : Same H H') : BackOk H0 H' B es P where
  at_ := s _ _ b.at_
  nd := b.nd
  nd2 := b.nd2
  fresh := b.fresh
  lst := fun e he => by
    (refine Obt.ex1 (b.lst e he) fun ls h_0 => Obt.and2 h_0 fun h1 h2 => ?_; clear h_0)
    exact ⟨ls, s _ _ h1, h2⟩
  non := b.non
theorem BackOk.weak {H0 H : Hp} {B : Addr} {es : List (Int × Addr)} {P P' : Int -> LI -> Prop} (b : BackOk H0 H B es P) (h : ∀ q ls, P q ls -> P' q ls) : BackOk H0 H B es P' :=
  ⟨b.at_, b.nd, b.nd2, b.fresh, fun e he => by
    (refine Obt.ex1 (b.lst e he) fun ls h_0 => Obt.and2 h_0 fun h1 h2 => ?_; clear h_0)
    exact ⟨ls, h1, h _ _ h2⟩, fun q hq => h _ _ (b.non q hq)⟩
theorem take_mem {xs : LI} {j : Nat} {t p : Int} (h : xs[j]? = some t) : p ∈ xs.take (j + 1) ↔ p ∈ xs.take j \/ p = t := by
  rw [List.take_add_one, h, List.mem_append]
  show _ \/ p ∈ [t] ↔ _
  rw [List.mem_singleton]
def LeadsTo (rows : LL) (fs gs : LI) (q : Int) : Prop := ∃ row : LI, (∀ f ∈ row, f ∈ fs) /\ walkI rows row q ∈ gs
theorem LeadsTo.goal {rows : LL} {fs gs : LI} {q : Int} (h : q ∈ gs) : LeadsTo rows fs gs q := ⟨[], (fun f z => by cases z), h⟩
theorem LeadsTo.step {rows : LL} {fs gs : LI} {q f : Int} (hf : f ∈ fs) (h : LeadsTo rows fs gs (stepI rows q f)) : LeadsTo rows fs gs q := by
  (refine Obt.ex1 h fun row h_0 => Obt.and2 h_0 fun h1 h2 => ?_; clear h_0 h)
  refine ⟨f :: row, fun g hg => ?_, h2⟩
  rcases List.mem_cons.mp hg with z | z
  · rw [z]; exact hf
  · exact h1 g z
def PB (rows : LL) (fs : LI) (many n i j : Nat) (q : Int) (ls : LI) : Prop := ls.length <= n /\ (∀ h ∈ ls, (0 <= h /\ h < (many : Int)) /\ ∃ f ∈ fs, stepI rows h f = q) /\ ∀ (h : Nat) (f : Int), ((h < i /\ f ∈ fs) \/ (h = i /\ f ∈ fs.take j)) -> stepI rows h f = q -> (h : Int) ∈ ls
def spLeadL (K : PySem.W.Frag) : Sp := fun vs H Q _ => ∃ (m r g gl tk : Addr) (many wide : Nat) (rows : LL) (signs gs fs : LI), vs = [.ref m, .ref gl, .ref tk] /\ MachAt H m r g wide rows signs /\ RowsOk many wide rows /\ (1 <= many /\ many <= 400) /\ (1 <= wide /\ wide <= 400) /\
  H gl = some (.lst (gs.map V.int)) /\ gs.Nodup /\ (∀ q ∈ gs, 0 <= q /\ q < (many : Int)) /\ H tk = some (.lst (fs.map V.int)) /\ fs.length <= 400 /\ (∀ f ∈ fs, 0 <= f /\ f < (wide : Int)) /\
  ∀ (D : Addr) (H' : Hp) (ks : LI), Same H H' -> H D = none -> H' D = some (.dK (kvT ks)) -> ks.Nodup -> (∀ q ∈ ks, (0 <= q /\ q < (many : Int)) /\ LeadsTo rows fs gs q) -> (∀ q : Int, 0 <= q -> q < (many : Int) -> LeadsTo rows fs gs q -> q ∈ ks) -> Q (.ref D) H'
section
variable {P : Program} {w : World} {K : PySem.W.Frag} {mg : Str -> Option Value} {base : Heap} {f : Addr} {fd : FuncData} {dV : Value}
theorem sc_rooms_leading_to : FnScope ["machine", "goals", "taken", "back", "here", "row", "figure", "waiting", "leading", "there"] ["machine", "goals", "taken"] (defScope s_rooms_leading_to) := ⟨rfl, rfl, rfl, by decide +kernel, rfl, by decide +kernel, by decide +kernel⟩
theorem bk_rooms_leading_to_0 : BlkScope ["machine", "goals", "taken", "back", "here", "row", "figure", "waiting", "leading", "there"] (defScope s_rooms_leading_to) ["here"] [none] { kind := ScopeKind.function, names := [(".0", NameKind.local), ("here", NameKind.local)], isGenerator := false, isCoroutine := false, more := [] } := ⟨rfl, by decide +kernel, by decide +kernel, by decide +kernel, by decide +kernel, rfl, by decide +kernel⟩
theorem ok_leadL (F : FunD K "rooms_leading_to" "rooms_leading_to" s_rooms_leading_to dV f fd) (z_enumerate : mg "enumerate" = none) (z_list : mg "list" = none) (z_dict : mg "dict" = none) : FnOk P w K mg base CX0 1 f fd ["machine", "goals", "taken"] (spLeadL K) := by
  refine F.ok sc_rooms_leading_to (fun vs H Q E h => ?_) (fun cdv A outer s H vs Q E hr h => ?_)
  · (refine Obt.ex8 h fun m r g gl tk many wide rows h_0 => Obt.ex3 h_0 fun signs gs fs h_1 => Obt.and2 h_1 fun e_2 _ => ?_; subst e_2; clear h_1 h_0 h)
    rfl
  (refine Obt.ex8 h fun m r g gl tk many wide rows h_0 => Obt.ex3 h_0 fun signs gs fs h_1 => Obt.and12 h_1 fun e_2 M R t_3 t_4 hgl ndg hgs htk lfs hfs k => Obt.and2 t_3 fun n0 n1 => Obt.and2 t_4 fun w0 w1 => ?_; subst e_2; clear t_4 t_3 h_1 h_0 h)
  (refine Obt.ex1 M.rows fun ras h_0 => Obt.and2 h_0 fun hr' hA => ?_; clear h_0)
  have hu := hu_of hr
  refine ⟨_, (pss_cons (ps_set (i := 3) sc_rooms_leading_to.nd rfl (Or.inl rfl) pe_dnewK)
      (pss_cons (ps_for PassesOwn.never rfl (pi_enumT rfl z_enumerate (pa_cons (pe_ix ix_tup (pv 0) pe_int (fun _ _ => rfl)) pa_nil)) (pg_tup rfl (pgs_cons (pg_name (i := 4) sc_rooms_leading_to.nd rfl (Or.inl rfl)) (pgs_cons (pg_name (i := 5) sc_rooms_leading_to.nd rfl (Or.inl rfl)) pgs_nil))) (pss_one (ps_for PassesOwn.never rfl (pi_list (pv 2)) (pg_name (i := 6) sc_rooms_leading_to.nd rfl (Or.inl rfl)) (pss_one (ps_expr (pe_bm PySem.F.plainAttrs_list PySem.F.slot_list_append PySem.F.type_list_append mt_append (pe_dset (pv 3) (pe_ix ix_tup (pv 5) (pv 6) (fun _ _ => rfl)) (pe_lst pa_nil) ⟨rfl, rfl, rfl, rfl⟩) (pa_cons (pv 4) pa_nil)))))))
      (pss_cons (ps_set (i := 7) sc_rooms_leading_to.nd rfl (Or.inl rfl) (pe_callTy call_list_of (by rfl) z_list bt_list (pa_cons (pv 1) pa_nil)))
      (pss_cons (ps_set (i := 8) sc_rooms_leading_to.nd rfl (Or.inl rfl) (pe_callTy (call_dictOf rfl) (by rfl) z_dict bt_dict (pa_cons (pe_comp rfl bk_rooms_leading_to_0 (pi_list (pv 7)) (fun _ _ _ _ => (pg_name (i := 0) bk_rooms_leading_to_0.nd rfl (Or.inl rfl))) (fun _ _ _ _ => (pe_tup (pa_cons (pv 0) (pa_cons pe_bl pa_nil))))) pa_nil)))
      (pss_cons (ps_while PassesOwn.never (pt_truth (pv 7) (fun _ => rfl)) (pss_cons (ps_set (i := 4) sc_rooms_leading_to.nd rfl (Or.inl rfl) (pe_bm0 PySem.F.plainAttrs_list PySem.F.slot_list_pop PySem.F.type_list_pop mt_pop (pv 7)))
      (pss_one (ps_for PassesOwn.never rfl (pi_seq (pe_dget2 hu (pv 3) (pv 4) (pe_tup pa_nil) ⟨rfl, rfl, rfl, rfl⟩)) (pg_name (i := 9) sc_rooms_leading_to.nd rfl (Or.inl rfl)) (pss_one (ps_if (pt_cmp (pc_dnotin hu (pv 9) (pv 8)) (by with_unfolding_all rfl)) (pss_cons (ps_dput hu (pv 8) (pv 9) pe_bl rfl)
      (pss_one (ps_expr (pe_bm PySem.F.plainAttrs_list PySem.F.slot_list_append PySem.F.type_list_append mt_append (pv 7) (pa_cons (pv 9) pa_nil))))) pss_nil))))))
      (pss_one (ps_ret (pv 8)))))))), ?_⟩
  refine fun B hB => ?_
  have kr0 : ∀ e ∈ ([] : List (Int × Addr)), 0 <= e.1 /\ e.1 < (many : Int) := fun e h => by cases h
  have b0 : BackOk H (upd H B (.dK [])) B [] (PB rows fs many 0 0 0) := ⟨upd_same, List.Pairwise.nil, List.Pairwise.nil, (fun e h => by cases h), (fun e h => by cases h), (fun q _ => ⟨Nat.le_refl _, (fun h z => by cases z), fun h f z _ => by
    rcases z with z | z
    · omega
    · have := z.2
      simp at this⟩)⟩
  try dsimp only [gName]
  refine cut_G (t := tFor _ _ _) (fun σ' H' => ∃ (es : List (Int × Addr)) (v1 v2 v3 : OV), σ' = [some (.ref m), some (.ref gl), some (.ref tk), some (.ref B), v1, v2, v3, none, none, none] /\ Same H H' /\ BackOk H H' B es (PB rows fs many (rows.length * fs.length) rows.length 0)) ?_ (fun D' nxt => ?_)
  rotate_left
  · have s0 := same_new hB (HO.dK [])
    refine ⟨_, rfl, m, _, _, _, rfl, rfl, qT_ (s0 _ _ M.tup), rfl, r, rfl, ⟨_, qT_ (s0 _ _ hr')⟩, for_enumT (K := K) (xs := ras.map V.ref) (fun i σ' H' => ∃ (es : List (Int × Addr)) (v1 v2 v3 : OV), σ' = [some (.ref m), some (.ref gl), some (.ref tk), some (.ref B), v1, v2, v3, none, none, none] /\ Same H H' /\ (∀ e ∈ es, 0 <= e.1 /\ e.1 < (many : Int)) /\ BackOk H H' B es (PB rows fs many (i * fs.length) i 0))
      ⟨[], none, none, none, rfl, s0, kr0, by rw [Nat.zero_mul]; exact b0⟩ (fun i σ' H' _ hq0 => by (refine Obt.ex4 hq0 fun _ _ _ _ h_0 => Obt.and3 h_0 fun _ e _ => ?_; clear h_0 hq0); exact qT_ (e _ _ hr')) ?_ ?_⟩
    · (refine fun i y σ' H1 T hi i_0 => Obt.ex4 i_0 fun es v1 v2 v3 h_1 => Obt.and4 h_1 fun e_2 s1 kr1 b1 => fun hT => ?_; subst e_2; clear h_1 i_0)
      have il : i < rows.length := by
        have := (gi_ hi).1
        rw [lm_, hA.length] at this
        exact this
      (refine Obt.ex1 (hA.get il) fun ra h_0 => Obt.and2 h_0 fun e1 e2 => ?_; clear h_0)
      have ey : y = .ref ra := by rw [List.getElem?_map, e1] at hi; exact (Option.some.inj hi).symm
      subst ey
      have im : i < many := by rw [<- R.len]; exact il
      have lrow : rows[i].length = wide := R.row _ (List.getElem_mem il)
      have sT := same_new hT (HO.tup [V.int i, V.ref ra])
      have big : i * fs.length + fs.length <= 400 * 400 + 400 := by
        have := Nat.mul_le_mul (show i <= 400 by omega) lfs
        omega
      refine ⟨T, _, rfl, qT_ upd_same, rfl, _, _, rfl, _, _, rfl, rfl, ?_⟩
      refine ⟨_, rfl, tk, rfl, ⟨_, qL_ (sT _ _ (s1 _ _ htk))⟩, for_list (K := K) (xs := fs.map V.int) (fun j σ' H' => ∃ (es : List (Int × Addr)) (v3 : OV), σ' = [some (.ref m), some (.ref gl), some (.ref tk), some (.ref B), some (.int i), some (.ref ra), v3, none, none, none] /\ Same H H' /\ (∀ e ∈ es, 0 <= e.1 /\ e.1 < (many : Int)) /\ BackOk H H' B es (PB rows fs many (i * fs.length + j) i j))
        ⟨es, v3, rfl, s1.trans sT, kr1, b1.same sT⟩ (fun j σ' H' _ hq0 => by (refine Obt.ex2 hq0 fun _ _ h_0 => Obt.and3 h_0 fun _ e _ => ?_; clear h_0 hq0); exact qL_ (e _ _ htk)) ?_ ?_⟩
      · (refine fun j y σ' H2 hj i_0 => Obt.ex2 i_0 fun es v3 h_1 => Obt.and4 h_1 fun e_2 s2 kr2 b2 => ?_; subst e_2; clear h_1 i_0)
        (refine Obt.ex1 (ints_at hj) fun fi h_0 => Obt.and2 h_0 fun e_1 hfi => ?_; subst e_1; clear h_0)
        have jl : j < fs.length := (gi_ hfi).1
        have fm := mq_ hfi
        have fr := hfs fi fm
        have es0 : (rows[i]).getD fi.toNat 0 = stepI rows (i : Int) fi := by
          unfold stepI
          rw [Int.toNat_natCast, getD_at il]
        have at1 : atI (rows[i].map V.int) fi = some (.int (stepI rows (i : Int) fi)) := by
          rw [atI_ints fr.1 (by rw [lrow]; exact fr.2), es0]
        refine ⟨_, rfl, B, rfl, .inl ⟨_, .inl b2.at_⟩, _, rfl, _, rfl, ra, _, _, _, rfl, rfl, qT_ (s2 _ _ e2), at1, (by show 0 <= sizeLine; decide), fun L hL => ?_⟩
        have sL := same_new hL (HO.lst [])
        have b3 := b2.same sL
        have nL : ∀ e ∈ es, e.2 ≠ L := fun e he z => by
          (refine Obt.ex1 (b2.lst e he) fun ls h_0 => Obt.and2 h_0 fun h1 _ => ?_; clear h_0)
          rw [z, hL] at h1
          cases h1
        have nLB : B ≠ L := ne_of_none b2.at_ hL
        have fL : H L = none := s2.free hL
        have stq := stepI_ok R (show (0 : Int) <= (i : Int) by omega) (by omega) fr.1 fr.2
        have few := few_below many b3.nd (fun q hq => by
          (refine Obt.ex1 (List.mem_map.mp hq) fun e h_0 => Obt.and2 h_0 fun he e_1 => ?_; subst e_1; clear h_0)
          exact kr2 e he)
        rw [lm_] at few
        have len : (kvL es).length < sizeLine := small1000 (by unfold kvL; rw [lm_]; omega)
        have oth : ∀ (p : Int) (ls : LI), p ≠ stepI rows (i : Int) fi -> PB rows fs many (i * fs.length + j) i j p ls -> PB rows fs many (i * fs.length + (j + 1)) i (j + 1) p ls := fun p ls np z => ⟨by have := z.1; omega, z.2.1, fun h f c e => by
          rcases c with c | ⟨rfl, c⟩
          · exact z.2.2 h f (.inl c) e
          · rcases (take_mem hfi).mp c with d | d
            · exact z.2.2 h f (.inr ⟨rfl, d⟩) e
            · rw [d] at e; exact absurd e.symm np⟩
        have one : (0 <= (i : Int) /\ (i : Int) < (many : Int)) /\ ∃ f ∈ fs, stepI rows (i : Int) f = stepI rows (i : Int) fi := ⟨⟨by omega, by omega⟩, fi, fm, rfl⟩
        have grow : ∀ ls : LI, PB rows fs many (i * fs.length + j) i j (stepI rows (i : Int) fi) ls -> PB rows fs many (i * fs.length + (j + 1)) i (j + 1) (stepI rows (i : Int) fi) (ls ++ [(i : Int)]) := fun ls z => ⟨by rw [List.length_append, List.length_singleton]; have := z.1; omega, fun h hh => by
            rcases ma_.mp hh with y | y
            · exact z.2.1 h y
            · rw [List.mem_singleton.mp y]; exact one, fun h f c e => by
            rcases c with c | ⟨rfl, c⟩
            · exact List.mem_append_left _ (z.2.2 h f (.inl c) e)
            · exact List.mem_append_right _ List.mem_cons_self⟩
        refine ⟨_, Sum.inl (stepI rows (i : Int) fi), b3.at_, rfl, len, fun v hv => ?_, fun hn => ?_⟩
        · (refine Obt.ex2 (b3.get hv) fun la ls h_0 => Obt.and4 h_0 fun e_1 hm hla hp => ?_; subst e_1; clear h_0)
          have lz : (ls.map V.int).length < sizeLine := Nat.lt_of_le_of_lt (show _ <= 1000000 by rw [lm_]; have := hp.1; omega) (by decide)
          refine ⟨.inl ⟨rfl, _, qL_ hla⟩, _, rfl, la, _, _, rfl, rfl, hla, lz, ?_⟩
          refine ⟨es, _, rfl, same_upd (s2.trans sL) (b2.fresh _ hm), kr2, b3.old hm hla (grow ls hp) oth⟩
        · have hq : stepI rows (i : Int) fi ∉ es.map Prod.fst := fun z => by
            (refine Obt.ex1 (List.mem_map.mp z) fun e h_0 => Obt.and2 h_0 fun he ee => ?_; clear h_0)
            (refine Obt.ex1 (List.mem_iff_getElem?.mp he) fun jj hjj => ?_)
            have := kvL_at b3.nd (q := e.1) (a := e.2) hjj
            rw [ee, hn] at this
            cases this
          have hL3 : (upd (upd H2 L (HO.lst [])) B (HO.dK (putK (kvL es) (Sum.inl (stepI rows (i : Int) fi)) (V.ref L)))) L = some (.lst []) := by rw [upd_ne (Ne.symm nLB), upd_same]
          refine ⟨.inl ⟨rfl, _, qL_ hL3⟩, _, rfl, L, _, _, rfl, rfl, hL3, (by show 0 < sizeLine; decide), ?_⟩
          refine ⟨es ++ [(stepI rows (i : Int) fi, L)], _, rfl, same_upd (same_upd (s2.trans sL) hB) fL, fun e he => ?_, b3.new hq upd_same fL nL (grow [] (b3.non _ hq)) oth⟩
          rcases ma_.mp he with z | z
          · exact kr2 e z
          · rw [List.mem_singleton.mp z]; exact stq
      · (refine fun σ' H2 i_0 => Obt.ex2 i_0 fun es v3 h_1 => Obt.and4 h_1 fun e_2 s2 kr2 b2 => ?_; subst e_2; clear h_1 i_0)
        rw [lm_] at b2
        refine ⟨es, _, _, _, rfl, s2, kr2, b2.weak fun q ls z => ⟨by rw [Nat.succ_mul]; exact z.1, z.2.1, fun h f c e => ?_⟩⟩
        rcases c with c | c
        · rcases Nat.lt_or_ge h i with d | d
          · exact z.2.2 h f (.inl ⟨d, c.2⟩) e
          · exact z.2.2 h f (.inr ⟨by omega, by rw [List.take_length]; exact c.2⟩) e
        · have := c.2
          simp at this
    · (refine fun σ' H1 i_0 => Obt.ex4 i_0 fun es v1 v2 v3 h_1 => Obt.and4 h_1 fun e_2 s1 kr1 b1 => ?_; subst e_2; clear h_1 i_0)
      rw [lm_, hA.length] at b1
      exact nxt _ _ ⟨es, _, _, _, rfl, s1, b1⟩
  (refine fun σ' H1 i_0 => Obt.ex4 i_0 fun es v1 v2 v3 h_1 => Obt.and3 h_1 fun e_2 s1 b1 => ?_; subst e_2; clear h_1 i_0)
  refine ⟨_, rfl, gl, _, rfl, .inl (qL_ (s1 _ _ hgl)), fun W hW => ?_⟩
  have sW := same_new hW (HO.lst (gs.map V.int))
  have fW : H W = none := s1.free hW
  refine ⟨_, rfl, W, rfl, ⟨_, qL_ upd_same⟩, ?_⟩
  refine comp_list (K := K) (xs := gs.map V.int) (fun D i ys H' => Same (upd H1 W (HO.lst (gs.map V.int))) H' /\ ∃ ts, ys = ts.map V.ref /\ PairsV H' ts (kvT (gs.take i))) (fun D hD => ⟨same_new hD _, [], rfl, .nil⟩) (fun D i ys H' _ hq0 => by (refine Obt.and2 hq0 fun e _ => ?_; clear hq0); exact qL_ (e _ _ upd_same)) ?_ ?_
  · (refine fun D i y ys H' Q' hD hi hy i_0 => Obt.and2 i_0 fun hs t_1 => Obt.ex1 t_1 fun ts h_2 => Obt.and2 h_2 fun e_3 pv => fun k' => ?_; subst e_3; clear h_2 t_1 i_0)
    (refine Obt.ex1 (ints_at hi) fun q h_0 => Obt.and2 h_0 fun e_1 hq => ?_; subst e_1; clear h_0)
    have il : i < gs.length := (gi_ hq).1
    have gl4 := few_below many ndg hgs
    refine ⟨_, rfl, (by show 2 <= sizeLine; decide), fun T hT => ?_⟩
    have sT := same_new hT (HO.tup [V.int q, V.bl true])
    have nD : D ≠ T := ne_of_none hy hT
    have lts : ts.length = i := by
      rw [Paired.length pv]
      unfold kvT
      rw [lm_, List.length_take]
      omega
    have hyT : (upd H' T (HO.tup [V.int q, V.bl true])) D = some (.lst (ts.map V.ref)) := by rw [upd_ne nD]; exact hy
    refine k' _ _ hyT (small1000 (by rw [lm_]; omega)) ⟨same_upd (same_upd hs (hs.free hT)) hD, ts ++ [T], by rw [List.map_append]; rfl, ?_⟩
    rw [List.take_add_one, hq]
    have up : ∀ b xs, (upd H' T (HO.tup [V.int q, V.bl true])) b = some (.tup xs) -> (upd (upd H' T (HO.tup [V.int q, V.bl true])) D (.lst (ts.map V.ref ++ [V.ref T]))) b = some (.tup xs) := fun b xs e => by
      rw [upd_ne (ne_of e hyT (by intro z; cases z))]; exact e
    show PairsV _ _ (kvT (gs.take i ++ [q]))
    unfold kvT
    rw [List.map_append]
    exact Paired.snoc (PairsV.same pv fun b xs e => up b xs (sT _ _ e)) (up _ _ upd_same)
  (refine fun L ys H2 fL hL i_0 => Obt.and2 i_0 fun s2 t_1 => Obt.ex1 t_1 fun ts h_2 => Obt.and2 h_2 fun e_3 pv => ?_; subst e_3; clear h_2 t_1 i_0)
  rw [lm_, List.take_length] at pv
  refine ⟨L, ts, _, rfl, hL, pv, fun D hD => ?_⟩
  rw [merge_kvT ndg]
  have s3 := s2.trans (same_new hD (HO.dK (kvT gs)))
  have fD : H D = none := (s1.trans sW).free (s2.free hD)
  have hW3 := s3 _ _ (show (upd H1 W (HO.lst (gs.map V.int))) W = _ from upd_same)
  have hWD : W ≠ D := ne_of hW3 (show (upd H2 D (HO.dK (kvT gs))) D = some (.dK (kvT gs)) from upd_same) (by intro z; cases z)
  have b3 : BackOk H (upd H2 D (HO.dK (kvT gs))) B es (PB rows fs many (rows.length * fs.length) rows.length 0) := (b1.same sW).same s3
  have nW : ∀ e ∈ es, e.2 ≠ W := fun e he z => by
    (refine Obt.ex1 (b1.lst e he) fun ls h_0 => Obt.and2 h_0 fun h1 _ => ?_; clear h_0)
    rw [z, hW] at h1
    cases h1
  have nBD : B ≠ D := fun z => by
    have := (b1.same sW).same s2
    rw [<- z, this.at_] at hD
    cases hD
  have neD : ∀ e ∈ es, e.2 ≠ D := fun e he z => by
    (refine Obt.ex1 (((b1.same sW).same s2).lst e he) fun ls h_0 => Obt.and2 h_0 fun h1 _ => ?_; clear h_0)
    rw [z, hD] at h1
    cases h1
  try dsimp only [gName]
  refine cut_G (t := tWhile _ _) (fun σ' H' => ∃ (ks : LI) (v1 v2 v3 v4 : OV), σ' = [some (.ref m), some (.ref gl), some (.ref tk), some (.ref B), v1, v2, v3, some (.ref W), some (.ref D), v4] /\ Same H H' /\ H' D = some (.dK (kvT ks)) /\ ks.Nodup /\ (∀ q ∈ ks, (0 <= q /\ q < (many : Int)) /\ LeadsTo rows fs gs q) /\ (∀ q ∈ gs, q ∈ ks) /\ (∀ q ∈ ks, ∀ (h : Nat) (f : Int), h < many -> f ∈ fs -> stepI rows h f = q -> (h : Int) ∈ ks)) ?_ (fun D' nxt => ?_)
  rotate_left
  · refine while_W (fun mm σ' H' => ∃ (ks ws : LI) (v1 v2 v3 v4 : OV), mm = 2 * (many - ks.length) + ws.length /\ σ' = [some (.ref m), some (.ref gl), some (.ref tk), some (.ref B), v1, v2, v3, some (.ref W), some (.ref D), v4] /\ Same H H' /\ H' D = some (.dK (kvT ks)) /\ H' W = some (.lst (ws.map V.int)) /\ ks.Nodup /\ (∀ q ∈ ks, (0 <= q /\ q < (many : Int)) /\ LeadsTo rows fs gs q) /\ (∀ q ∈ ws, q ∈ ks) /\ ws.length <= ks.length /\ (∀ q ∈ gs, q ∈ ks) /\ (∀ q ∈ ks, q ∉ ws -> ∀ (h : Nat) (f : Int), h < many -> f ∈ fs -> stepI rows h f = q -> (h : Int) ∈ ks) /\ BackOk H H' B es (PB rows fs many (rows.length * fs.length) rows.length 0))
      ⟨_, gs, gs, v1, v2, v3, none, rfl, rfl, s1.trans (sW.trans s3), upd_same, hW3, ndg, fun q hq => ⟨hgs q hq, LeadsTo.goal hq⟩, fun q h => h, Nat.le_refl _, fun q h => h, fun q h n => absurd h n, b3⟩ ?_
    (refine fun mm σ' H4 i_0 => Obt.ex6 i_0 fun ks ws v1 v2 v3 v4 h_1 => Obt.and12 h_1 fun e_2 e_3 s4 hD4 hW4 ndk hk hwk lw hgk hcl b4 => ?_; subst e_2; subst e_3; clear h_1 i_0)
    have kl := few_below many ndk fun q hq => (hk q hq).1
    by_cases en : ws = []
    · subst en
      refine ⟨_, rfl, _, .inl ⟨_, qL_ hW4, rfl⟩, iteF ?_⟩
      exact nxt _ _ ⟨ks, _, _, _, _, rfl, s4, hD4, ndk, hk, hgk, fun q hq => hcl q hq (fun z => by cases z)⟩
    refine ⟨_, rfl, _, .inl ⟨_, qL_ hW4, rfl⟩, ?_⟩
    have ne : (!(ws.map V.int).isEmpty) = true := by
      cases ws with
      | nil => exact absurd rfl en
      | cons x r => rfl
    rw [ne]
    refine iteT ⟨fun σ' H' => ∃ m', m' < 2 * (many - ks.length) + ws.length /\ ∃ (ks ws : LI) (v1 v2 v3 v4 : OV), m' = 2 * (many - ks.length) + ws.length /\ σ' = [some (.ref m), some (.ref gl), some (.ref tk), some (.ref B), v1, v2, v3, some (.ref W), some (.ref D), v4] /\ Same H H' /\ H' D = some (.dK (kvT ks)) /\ H' W = some (.lst (ws.map V.int)) /\ ks.Nodup /\ (∀ q ∈ ks, (0 <= q /\ q < (many : Int)) /\ LeadsTo rows fs gs q) /\ (∀ q ∈ ws, q ∈ ks) /\ ws.length <= ks.length /\ (∀ q ∈ gs, q ∈ ks) /\ (∀ q ∈ ks, q ∉ ws -> ∀ (h : Nat) (f : Int), h < many -> f ∈ fs -> stepI rows h f = q -> (h : Int) ∈ ks) /\ BackOk H H' B es (PB rows fs many (rows.length * fs.length) rows.length 0), fun σ' H' h => h, ?_⟩
    have wl : 0 < ws.length := by
      cases ws with
      | nil => exact absurd rfl en
      | cons x r => exact Nat.succ_pos _
    have lastI : ws.length - 1 < ws.length := by omega
    obtain ⟨here, hlast⟩ : ∃ here, ws[ws.length - 1]? = some here := ⟨_, List.getElem?_eq_getElem lastI⟩
    have hks := hwk here (mq_ hlast)
    refine ⟨_, rfl, .inl ⟨rfl, _, qL_ hW4⟩, W, _, V.int here, rfl, rfl, hW4, by rw [lm_, List.getElem?_map, hlast]; rfl, ?_⟩
    have eDL : (ws.map V.int).dropLast = ws.dropLast.map V.int := by rw [List.map_dropLast]
    rw [eDL]
    have nBW : B ≠ W := ne_of b4.at_ hW4 (by intro z; cases z)
    have b5 : BackOk H (upd H4 W (HO.lst (ws.dropLast.map V.int))) B es (PB rows fs many (rows.length * fs.length) rows.length 0) := b4.keep (by rw [upd_ne nBW]) fun e he => by rw [upd_ne (nW e he)]
    have hD5 : (upd H4 W (HO.lst (ws.dropLast.map V.int))) D = some (.dK (kvT ks)) := by rw [upd_ne (Ne.symm hWD)]; exact hD4
    have sub5 : ∀ q ∈ ws.dropLast, q ∈ ks := fun q hq => hwk q (List.dropLast_subset _ hq)
    have ld5 : ws.dropLast.length = ws.length - 1 := List.length_dropLast
    have last5 : ∀ q, q ∈ ws -> q ∉ ws.dropLast -> q = here := fun q h1 h2 => by
      have hl : ws.length - 1 + 1 = ws.length := by omega
      have h3 : q ∈ ws.take (ws.length - 1 + 1) := by rw [hl, List.take_length]; exact h1
      rcases (take_mem hlast).mp h3 with z | z
      · exact absurd (by rw [List.dropLast_eq_take]; exact z) h2
      · exact z
    have cl5 : ∀ q ∈ ks, q ∉ ws.dropLast -> q ≠ here -> ∀ (h : Nat) (f : Int), h < many -> f ∈ fs -> stepI rows h f = q -> (h : Int) ∈ ks := fun q hq h1 h2 => hcl q hq fun z => h2 (last5 q z h1)
    refine ⟨_, rfl, B, rfl, .inl ⟨_, .inl b5.at_⟩, _, rfl, (by show 0 <= sizeLine; decide), fun t0 ht0 => ?_⟩
    have st0 := same_new ht0 (HO.tup [])
    have b6 := b5.same st0
    refine ⟨_, DGet.k (k := Sum.inl here) b6.at_, ?_⟩
    have hD6 := st0 _ _ hD5
    have hW6 := st0 _ _ (show (upd H4 W (HO.lst (ws.dropLast.map V.int))) W = _ from upd_same)
    have s6 : Same H (upd (upd H4 W (HO.lst (ws.dropLast.map V.int))) t0 (HO.tup [])) := (same_upd s4 fW).trans st0
    cases hv : valV (kvL es) (Sum.inl here) with
    | none =>
      refine ⟨t0, rfl, .inr ⟨⟨_, qT_ upd_same⟩, ?_⟩⟩
      refine for_tup (K := K) (xs := []) (fun i σ' H' => ∃ v4 v3, σ' = [some (.ref m), some (.ref gl), some (.ref tk), some (.ref B), some (.int here), v2, v3, some (.ref W), some (.ref D), v4] /\ H' = (upd (upd H4 W (HO.lst (ws.dropLast.map V.int))) t0 (HO.tup []))) ⟨_, _, rfl, rfl⟩ (fun i σ' H' _ hq0 => by (refine Obt.ex2 hq0 fun _ _ h_0 => Obt.and2 h_0 fun _ e => ?_; clear h_0 hq0); rw [e]; exact qT_ upd_same) (fun i x σ' H' hx _ => by simp at hx) ?_
      (refine fun σ' H' i_0 => Obt.ex2 i_0 fun v4 v3 h_1 => Obt.and2 h_1 fun e_2 e_3 => ?_; subst e_2; subst e_3; clear h_1 i_0)
      exact ⟨_, (by rw [ld5]; omega : 2 * (many - ks.length) + ws.dropLast.length < _), ks, ws.dropLast, _, _, _, _, rfl, rfl, s6, hD6, hW6, ndk, hk, sub5, by omega, hgk, (fun q hq hn h f hh hf e => by
        by_cases c : q = here
        · subst c
          have np : q ∉ es.map Prod.fst := fun z => by
            (refine Obt.ex1 (List.mem_map.mp z) fun e' h_0 => Obt.and2 h_0 fun he' ee => ?_; clear h_0)
            (refine Obt.ex1 (List.mem_iff_getElem?.mp he') fun jj hjj => ?_)
            have := kvL_at b6.nd (q := e'.1) (a := e'.2) hjj
            rw [ee, hv] at this
            cases this
          exact absurd ((b6.non q np).2.2 h f (.inl ⟨by rw [R.len]; exact hh, hf⟩) e) (by simp)
        · exact cl5 q hq hn c h f hh hf e), b6⟩
    | some v =>
      (refine Obt.ex2 (b6.get hv) fun la ls h_0 => Obt.and4 h_0 fun e_1 hm hla hp => ?_; subst e_1; clear h_0)
      refine ⟨la, rfl, .inl ⟨⟨_, qL_ hla⟩, ?_⟩⟩
      refine for_list (K := K) (xs := ls.map V.int) (fun i σ' H' => ∃ (ks' ws' : LI) (v4 : OV) (v3 : OV), σ' = [some (.ref m), some (.ref gl), some (.ref tk), some (.ref B), some (.int here), v2, v3, some (.ref W), some (.ref D), v4] /\ Same H H' /\ H' D = some (.dK (kvT ks')) /\ H' W = some (.lst (ws'.map V.int)) /\ ks'.Nodup /\ (∀ q ∈ ks', (0 <= q /\ q < (many : Int)) /\ LeadsTo rows fs gs q) /\ (∀ q ∈ ws', q ∈ ks') /\ ws'.length <= ks'.length /\ (∀ q ∈ gs, q ∈ ks') /\ (∀ q ∈ ks', q ∉ ws' -> q ≠ here -> ∀ (h : Nat) (f : Int), h < many -> f ∈ fs -> stepI rows h f = q -> (h : Int) ∈ ks') /\ (∀ h ∈ ls.take i, h ∈ ks') /\ 2 * (many - ks'.length) + ws'.length < 2 * (many - ks.length) + ws.length /\ here ∈ ks' /\ H' la = some (.lst (ls.map V.int)) /\ BackOk H H' B es (PB rows fs many (rows.length * fs.length) rows.length 0))
        ⟨ks, ws.dropLast, _, _, rfl, s6, hD6, hW6, ndk, hk, sub5, by omega, hgk, cl5, (fun h z => by simp at z), by omega, hks, hla, b6⟩ (fun i σ' H' _ hq0 => by (refine Obt.ex4 hq0 fun _ _ _ _ h_0 => Obt.and15 h_0 fun _ _ _ _ _ _ _ _ _ _ _ _ _ e _ => ?_; clear h_0 hq0); exact qL_ e) ?_ ?_
      · (refine fun i y σ' H7 hi i_0 => Obt.ex4 i_0 fun ks' ws' v4 v3 h_1 => Obt.and15 h_1 fun e_2 s7 hD7 hW7 nd7 hk7 sub7 lw7 hg7 cl7 tk7 meas hh7 hla7 b7 => ?_; subst e_2; clear h_1 i_0)
        (refine Obt.ex1 (ints_at hi) fun th h_0 => Obt.and2 h_0 fun e_1 hth => ?_; subst e_1; clear h_0)
        (refine Obt.and2 (hp.2.1 th (mq_ hth)) fun thr t_0 => Obt.ex1 t_0 fun fi h_1 => Obt.and2 h_1 fun hfi stp => ?_; clear h_1 t_0)
        have kl7 := few_below many nd7 fun q hq => (hk7 q hq).1
        refine ⟨_, rfl, _, rfl, D, _, rfl, DGet.k (k := Sum.inl th) hD7, _, rfl, ?_⟩
        rw [kvT_val]
        refine iteDn (fun c => ?_) (fun c => ?_)
        · refine ⟨_, rfl, _, rfl, D, _, rfl, DPut.k (k := Sum.inl th) hD7 (small1000 (by unfold kvT; rw [lm_]; omega)), ?_⟩
          rw [kvT_put c]
          have hW8 : (upd H7 D (HO.dK (kvT (ks' ++ [th])))) W = some (.lst (ws'.map V.int)) := by rw [upd_ne hWD]; exact hW7
          have nd8 : (ks' ++ [th]).Nodup := nd_snoc nd7 c
          have hk8 : ∀ q ∈ ks' ++ [th], (0 <= q /\ q < (many : Int)) /\ LeadsTo rows fs gs q := fun q hq => by
            rcases ma_.mp hq with z | z
            · exact hk7 q z
            · rw [List.mem_singleton.mp z]
              exact ⟨thr, LeadsTo.step hfi (by rw [stp]; exact (hk7 here hh7).2)⟩
          have kl8 := few_below many nd8 fun q hq => (hk8 q hq).1
          rw [List.length_append, List.length_singleton] at kl8
          refine ⟨_, rfl, .inl ⟨rfl, _, qL_ hW8⟩, _, rfl, W, _, _, rfl, rfl, hW8, small1000 (by rw [lm_]; omega), ?_⟩
          refine ⟨ks' ++ [th], ws' ++ [th], _, _, rfl, same_upd (same_upd s7 fD) fW, by rw [upd_ne (Ne.symm hWD), upd_same], by rw [upd_same, List.map_append]; rfl, nd8, hk8, ?_, by rw [List.length_append, List.length_append, List.length_singleton]; omega, fun q hq => List.mem_append_left _ (hg7 q hq), fun q hq hn nh h f hh hf e => ?_, fun h hh => ?_, by rw [List.length_append, List.length_append, List.length_singleton]; omega, List.mem_append_left _ hh7, ?_, ?_⟩
          · intro q hq
            rcases ma_.mp hq with z | z
            · exact List.mem_append_left _ (sub7 q z)
            · exact List.mem_append_right _ z
          · rcases ma_.mp hq with z | z
            · exact List.mem_append_left _ (cl7 q z (fun y => hn (List.mem_append_left _ y)) nh h f hh hf e)
            · exact absurd (List.mem_append_right _ z) hn
          · rcases (take_mem hth).mp hh with z | z
            · exact List.mem_append_left _ (tk7 h z)
            · rw [z]; exact List.mem_append_right _ List.mem_cons_self
          · rw [upd_ne (nW _ hm), upd_ne (neD _ hm)]; exact hla7
          · exact b7.keep (by rw [upd_ne nBW, upd_ne nBD]) fun e he => by rw [upd_ne (nW e he), upd_ne (neD e he)]
        · refine ⟨ks', ws', _, _, rfl, s7, hD7, hW7, nd7, hk7, sub7, lw7, hg7, cl7, fun h hh => ?_, meas, hh7, hla7, b7⟩
          rcases (take_mem hth).mp hh with z | z
          · exact tk7 h z
          · rw [z]; exact c
      · (refine fun σ' H7 i_0 => Obt.ex4 i_0 fun ks' ws' v4 v3 h_1 => Obt.and15 h_1 fun e_2 s7 hD7 hW7 nd7 hk7 sub7 lw7 hg7 cl7 tk7 meas hh7 hla7 b7 => ?_; subst e_2; clear h_1 i_0)
        rw [lm_, List.take_length] at tk7
        refine ⟨_, meas, ks', ws', _, _, _, _, rfl, rfl, s7, hD7, hW7, nd7, hk7, sub7, lw7, hg7, fun q hq hn h f hh hf e => ?_, b7⟩
        by_cases c : q = here
        · subst c
          exact tk7 _ (hp.2.2 h f (.inl ⟨by rw [R.len]; exact hh, hf⟩) e)
        · exact cl7 q hq hn c h f hh hf e
  (refine fun σ' H4 i_0 => Obt.ex5 i_0 fun ks v1 v2 v3 v4 h_1 => Obt.and7 h_1 fun e_2 s4 hD4 ndk hk hgk hcl => ?_; subst e_2; clear h_1 i_0)
  refine ⟨_, rfl, k D H4 ks s4 fD hD4 ndk hk ?_⟩
  have go : ∀ (row : LI) (q : Int), 0 <= q -> q < (many : Int) -> (∀ f ∈ row, f ∈ fs) -> walkI rows row q ∈ gs -> q ∈ ks := by
    intro row
    induction row with
    | nil => intro q _ _ _ h; exact hgk q h
    | cons f r ih =>
      intro q q0 q1 hf h
      have fin := hf f List.mem_cons_self
      have st := stepI_ok R q0 q1 (hfs f fin).1 (hfs f fin).2
      have h2 := ih (stepI rows q f) st.1 st.2 (fun g hg => hf g (List.mem_cons_of_mem _ hg)) h
      (refine Obt.ex1 (nat_of q0) fun n e_0 => ?_; subst e_0)
      exact hcl _ h2 n f (by omega) fin rfl
  exact fun q q0 q1 hq0 => by (refine Obt.ex1 hq0 fun row h_0 => Obt.and2 h_0 fun hr1 hr2 => ?_; clear h_0 hq0); exact go row q q0 q1 hr1 hr2
end
def roomsI (signs : LI) (sg : Int) (n : Nat) : LI := ((List.range n).filter fun i => decide (signs.getD i 0 = sg)).map fun i : Nat => (i : Int)
theorem roomsI_succ (signs : LI) (sg : Int) (n : Nat) : roomsI signs sg (n + 1) = roomsI signs sg n ++ (if signs.getD n 0 = sg then [(n : Int)] else []) := by
  unfold roomsI
  rw [List.range_succ, List.filter_append, List.map_append]
  congr 1
  by_cases c : signs.getD n 0 = sg
  · rw [if_pos c, List.filter_cons_of_pos (by exact decide_eq_true c)]; rfl
  · rw [if_neg c, List.filter_cons_of_neg (by rw [decide_eq_false c]; decide)]; rfl
theorem roomsI_len (signs : LI) (sg : Int) (n : Nat) : (roomsI signs sg n).length <= n := by
  unfold roomsI
  rw [lm_]
  exact Nat.le_trans (List.length_filter_le _ _) (by simp)
theorem roomsI_mem {signs : LI} {sg : Int} {n : Nat} {q : Int} : q ∈ roomsI signs sg n ↔ 0 <= q /\ q < (n : Int) /\ signs.getD q.toNat 0 = sg := by
  unfold roomsI
  rw [List.mem_map]
  constructor
  · (refine fun i_0 => Obt.ex1 i_0 fun i h_1 => Obt.and2 h_1 fun hi e_2 => ?_; subst e_2; clear h_1 i_0)
    have h := List.mem_filter.mp hi
    have h1 := List.mem_range.mp h.1
    exact ⟨by omega, by omega, by rw [Int.toNat_natCast]; exact of_decide_eq_true h.2⟩
  · (refine fun i_0 => Obt.and3 i_0 fun h0 h1 h2 => ?_; clear i_0)
    exact ⟨q.toNat, List.mem_filter.mpr ⟨List.mem_range.mpr (by omega), decide_eq_true h2⟩, by omega⟩
def spRoomsW : Sp := fun vs H Q _ => ∃ (m r g : Addr) (wide : Nat) (rows : LL) (signs : LI) (sg : Int), vs = [.ref m, .int sg] /\ MachAt H m r g wide rows signs /\ signs.length <= 1000 /\
  ∀ (l : Addr) (H' : Hp), Same H H' -> H l = none -> H' l = some (.lst ((roomsI signs sg signs.length).map V.int)) -> Q (.ref l) H'
section
variable {P : Program} {w : World} {K : PySem.W.Frag} {mg : Str -> Option Value} {base : Heap} {f : Addr} {fd : FuncData} {dV : Value}
theorem sc_rooms_with : FnScope ["machine", "sign"] ["machine", "sign"] (defScope s_rooms_with) := ⟨rfl, rfl, rfl, by decide +kernel, rfl, by decide +kernel, by decide +kernel⟩
theorem bk_rooms_with_0 : BlkScope ["machine", "sign"] (defScope s_rooms_with) ["here", "other", "sign"] [none, none, some 1] { kind := ScopeKind.function, names := [(".0", NameKind.local), ("here", NameKind.local), ("other", NameKind.local), ("sign", NameKind.free)], isGenerator := false, isCoroutine := false, more := [] } := ⟨rfl, by decide +kernel, by decide +kernel, by decide +kernel, by decide +kernel, rfl, by decide +kernel⟩
theorem ok_roomsW (F : FunD K "rooms_with" "rooms_with" s_rooms_with dV f fd) (z_enumerate : mg "enumerate" = none) : FnOk P w K mg base CX0 1 f fd ["machine", "sign"] spRoomsW := by
  refine F.ok sc_rooms_with (fun vs H Q E h => ?_) (fun cdv A outer s H vs Q E hr h => ?_)
  · (refine Obt.ex7 h fun m r g wide rows signs sg h_0 => Obt.and2 h_0 fun e_1 _ => ?_; subst e_1; clear h_0 h)
    rfl
  (refine Obt.ex7 h fun m r g wide rows signs sg h_0 => Obt.and4 h_0 fun e_1 M hl k => ?_; subst e_1; clear h_0 h)
  refine ⟨_, (pss_one (ps_ret (pe_compI rfl bk_rooms_with_0 (pi_enumT rfl z_enumerate (pa_cons (pe_ix ix_tup (pv 0) pe_int (fun _ _ => rfl)) pa_nil)) (fun _ _ _ _ => (pg_tupK K (n := 2) rfl (pgs_cons (pg_name (i := 0) bk_rooms_with_0.nd rfl (Or.inl rfl)) (pgs_cons (pg_name (i := 1) bk_rooms_with_0.nd rfl (Or.inl rfl)) pgs_nil)))) (fun _ _ _ _ => (pt_cmpR op_eq (pv 1) (pv 2) (nomark _))) (fun _ _ _ _ => (pv 0))))), ?_⟩
  refine ⟨_, rfl, m, _, _, _, rfl, rfl, qT_ M.tup, rfl, g, rfl, ⟨_, qT_ M.sgn⟩, ?_⟩
  refine comp_enumTI (K := K) (xs := signs.map V.int) (fun D i ys H' => Same H H' /\ ys = (roomsI signs sg i).map V.int) (fun T σ H Q x y h q => ⟨T, [x, y], rfl, qT_ h, rfl, x, [y], rfl, y, [], rfl, rfl, q⟩) (fun D hD => ⟨same_new hD _, rfl⟩) (fun D i ys H' _ p => qT_ (p.1 _ _ M.sgn)) ?_ ?_
  · (refine fun D i x ys H' T Qy Qn hD hx hy i_0 => Obt.and2 i_0 fun hs e_1 => fun hT ky kn => ?_; subst e_1; clear i_0)
    (refine Obt.ex1 (ints_at hx) fun z h_0 => Obt.and2 h_0 fun e_1 hz => ?_; subst e_1; clear h_0)
    have li := (gi_ hz).1
    have ez : signs.getD i 0 = z := by rw [List.getD_eq_getElem?_getD, hz]; rfl
    have nD : D ≠ T := ne_of_none hy hT
    have lr := roomsI_len signs sg i
    refine ⟨_, rfl, _, rfl, rfl, _, rfl, iteI (fun c => ?_) (fun c => ?_)⟩
    · refine ⟨_, rfl, ky _ _ (by rw [upd_ne nD]; exact hy) (small1000 (by rw [lm_]; omega)) ⟨same_upd (same_upd hs (hs.free hT)) hD, ?_⟩⟩
      rw [roomsI_succ, if_pos (by rw [ez]; exact c), List.map_append]
      rfl
    · refine kn _ (by rw [upd_ne nD]; exact hy) ⟨same_upd hs (hs.free hT), ?_⟩
      rw [roomsI_succ, if_neg (by rw [ez]; exact c), List.append_nil]
  · (refine fun D ys H' hD hy i_0 => Obt.and2 i_0 fun hs e_1 => ?_; subst e_1; clear i_0)
    rw [lm_] at hy
    exact k D _ hs hD hy
end
theorem roomsI_nodup (signs : LI) (sg : Int) (n : Nat) : (roomsI signs sg n).Nodup := by
  unfold roomsI
  refine List.pairwise_map.mpr (List.Pairwise.imp (fun {a b} h => ?_) (List.nodup_range.filter _))
  intro z
  exact h (by omega)
structure CCls (K : PySem.W.Frag) (C : Addr) : Prop where
  cl : Cls K C
  nr : NoAttr K C "rows"
  nb : NoAttr K C "base"
  nl : NoAttr K C "below"
  nw : NoAttr K C "winning"
structure ChAt (H : Hp) (C x r : Addr) (b lo : Int) (ks : LI) : Prop where
  ob : ∃ dx D : Addr, H x = some (.ins C dx [("rows", .ref r), ("base", .int b), ("below", .int lo), ("winning", .ref D)]) /\ H D = some (.dK (kvT ks))
theorem ChAt.same {H H' : Hp} {C x r : Addr} {b lo : Int} {ks : LI} (h : ChAt H C x r b lo ks) (s : Same H H') : ChAt H' C x r b lo ks := by
  (refine Obt.ex2 h.ob fun dx D h_0 => Obt.and2 h_0 fun h1 h2 => ?_; clear h_0)
  exact ⟨dx, D, s _ _ h1, s _ _ h2⟩
def bareI (lo : Int) (b : Nat) : LI := (List.range b).map fun i : Nat => lo * (i : Int)
def Wins (rows : LL) (signs : LI) (lo : Int) (b many : Nat) (ks : LI) : Prop := ks.Nodup /\ (∀ q ∈ ks, (0 <= q /\ q < (many : Int)) /\ LeadsTo rows (bareI lo b) (roomsI signs 1 many) q) /\ ∀ q : Int, 0 <= q -> q < (many : Int) -> LeadsTo rows (bareI lo b) (roomsI signs 1 many) q -> q ∈ ks
def spChInit (C : Addr) : Sp := fun vs H Q _ => ∃ (x dx m r g : Addr) (b n many wide : Nat) (rows : LL) (signs : LI), vs = [.ref x, .ref m, .int b, .int n] /\ H x = some (.ins C dx []) /\ MachAt H m r g wide rows signs /\ RowsOk many wide rows /\ signs.length = many /\ (1 <= many /\ many <= 400) /\ (1 <= wide /\ wide <= 400) /\ (1 <= b /\ b <= 400) /\ n <= 1000 /\ (0 < (b : Int) ^ n /\ (b : Int) ^ n <= 100000) /\ (∀ i : Nat, i < b -> (b : Int) ^ n * (i : Int) < (wide : Int)) /\
  ∀ (H' : Hp) (ks : LI), (∀ c u, c ≠ x -> H c = some u -> H' c = some u) -> ChAt H' C x r b ((b : Int) ^ n) ks -> Wins rows signs ((b : Int) ^ n) b many ks -> Q .non H'
def spChBegin : Sp := fun vs H Q _ => ∃ x : Addr, vs = [.ref x] /\ ∀ (t : Addr) (H' : Hp), Same H H' -> H' t = some (.tup [.int 0]) -> Q (.ref t) H'
section
variable {P : Program} {w : World} {K : PySem.W.Frag} {mg : Str -> Option Value} {base : Heap} {f : Addr} {fd : FuncData} {dV : Value} {C : Addr}
theorem sc_Choosing___init__ : FnScope ["self", "machine", "base", "at"] ["self", "machine", "base", "at"] (defScope s_Choosing___init__) := ⟨rfl, rfl, rfl, by decide +kernel, rfl, by decide +kernel, by decide +kernel⟩
theorem sc_Choosing_begin : FnScope ["self"] ["self"] (defScope s_Choosing_begin) := ⟨rfl, rfl, rfl, by decide +kernel, rfl, by decide +kernel, by decide +kernel⟩
theorem ok_chInit (F : FunD K "__init__" "Choosing.__init__" s_Choosing___init__ dV f fd) (cc : CCls K C) (G_power_of : DefOk P w K mg base "power_of" 1 ["base", "times"] [] spPower) (G_rooms_with : DefOk P w K mg base "rooms_with" 1 ["machine", "sign"] [] spRoomsW) (G_parts_alone : DefOk P w K mg base "parts_alone" 1 ["base", "below"] [] spParts)
    (G_rooms_leading_to : DefOk P w K mg base "rooms_leading_to" 1 ["machine", "goals", "taken"] [] (spLeadL K)) : FnOk P w K mg base CX0 2 f fd ["self", "machine", "base", "at"] (spChInit C) := by
  refine F.ok sc_Choosing___init__ (fun vs H Q E h => ?_) (fun cdv A outer s H vs Q E hr h => ?_)
  · (refine Obt.ex8 h fun x dx m r g b n many h_0 => Obt.ex3 h_0 fun wide rows signs h_1 => Obt.and2 h_1 fun e_2 _ => ?_; subst e_2; clear h_1 h_0 h)
    rfl
  (refine Obt.ex8 h fun x dx m r g b n many h_0 => Obt.ex3 h_0 fun wide rows signs h_1 => Obt.and12 h_1 fun e_2 hx M R lsg t_3 t_4 t_5 hn t_6 hf k => Obt.and2 t_3 fun n0 n1 => Obt.and2 t_4 fun w0 w1 => Obt.and2 t_5 fun b0 b1 => Obt.and2 t_6 fun p0 p1 => ?_; subst e_2; clear t_6 t_5 t_4 t_3 h_1 h_0 h)
  refine ⟨_, (pss_cons (ps_fld (pv 0) (pe_ix ix_tup (pv 1) pe_int (fun _ _ => rfl)) rfl)
      (pss_cons (ps_fld (pv 0) (pv 2) rfl)
      (pss_cons (ps_fld (pv 0) (pe_cd G_power_of hr (pa_cons (pv 2) (pa_cons (pv 3) pa_nil))) rfl)
      (pss_one (ps_fld (pv 0) (pe_cd G_rooms_leading_to hr (pa_cons (pv 1) (pa_cons (pe_cd G_rooms_with hr (pa_cons (pv 1) (pa_cons pe_int pa_nil))) (pa_cons (pe_cd G_parts_alone hr (pa_cons (pv 2) (pa_cons (pe_fld (pv 0) rfl) pa_nil))) pa_nil)))) rfl))))), ?_⟩
  have ntx : ∀ {a : Addr} {ys : List V}, H a = some (.tup ys) -> a ≠ x := fun e => ne_of e hx (by intro z; cases z)
  refine ⟨_, rfl, m, _, _, _, rfl, rfl, qT_ M.tup, rfl, _, rfl, x, C, dx, [], rfl, hx, cc.cl, cc.nr, by decide, ?_⟩
  refine ⟨_, rfl, _, rfl, x, C, dx, _, rfl, upd_same, cc.cl, cc.nb, by show 1 < 1000; decide, ?_⟩
  refine ⟨_, rfl, _, rfl, (b : Int), n, rfl, ⟨by omega, by omega⟩, hn, _, rfl, x, C, dx, _, rfl, upd_same, cc.cl, cc.nl, by show 2 < 1000; decide, ?_⟩
  obtain ⟨H3, eH3⟩ : ∃ H3, upd (upd (upd H x (HO.ins C dx (putF "rows" (V.ref r) []))) x (HO.ins C dx (putF "base" (V.int b) (putF "rows" (V.ref r) [])))) x (HO.ins C dx (putF "below" (V.int ((b : Int) ^ n)) (putF "base" (V.int b) (putF "rows" (V.ref r) [])))) = H3 := ⟨_, rfl⟩
  have keep : ∀ c u, c ≠ x -> H c = some u -> H3 c = some u := fun c u hc e => by rw [<- eH3, upd_ne hc, upd_ne hc, upd_ne hc]; exact e
  have hx3 : H3 x = some (.ins C dx [("rows", .ref r), ("base", .int b), ("below", .int ((b : Int) ^ n))]) := by rw [<- eH3, upd_same]; rfl
  have M3 := M.same fun a ys e => keep a _ (ntx e) e
  rw [eH3]
  refine ⟨_, rfl, _, rfl, m, r, g, wide, rows, signs, 1, rfl, M3, by omega, fun gl H4 s4 hgl0 hgl => ?_⟩
  rw [lsg] at hgl
  have hx4 := s4 _ _ hx3
  refine ⟨_, rfl, _, rfl, x, C, dx, _, _, rfl, hx4, cc.cl, cc.nl, rfl, b, _, rfl, by omega, ⟨p0, p1⟩, fun tk H5 s5 htk0 htk => ?_⟩
  have hx5 := s5 _ _ hx4
  have M5 := M3.same fun a ys e => (s4.trans s5) _ _ e
  refine ⟨m, r, g, gl, tk, many, wide, rows, signs, roomsI signs 1 many, bareI ((b : Int) ^ n) b, rfl, M5, R, ⟨n0, n1⟩, ⟨w0, w1⟩, s5 _ _ hgl, roomsI_nodup _ _ _, fun q hq => ⟨(roomsI_mem.mp hq).1, (roomsI_mem.mp hq).2.1⟩, htk, by unfold bareI; simp; omega, fun fg hfg => ?_, fun D H6 ks s6 hD0 hD nd k1 k2 => ?_⟩
  · (refine Obt.ex1 (List.mem_map.mp hfg) fun i h_0 => Obt.and2 h_0 fun hi e_1 => ?_; subst e_1; clear h_0)
    exact ⟨Int.mul_nonneg (by omega) (by omega), hf i (List.mem_range.mp hi)⟩
  have hx6 := s6 _ _ hx5
  refine ⟨_, rfl, x, C, dx, _, rfl, hx6, cc.cl, cc.nw, by show 3 < 1000; decide, ?_⟩
  have nDx : D ≠ x := ne_of hD hx6 (by intro z; cases z)
  refine k _ ks (fun c u hc e => ?_) ⟨dx, D, upd_same, by rw [upd_ne nDx]; exact hD⟩ ⟨nd, k1, k2⟩
  rw [upd_ne hc]
  exact (s4.trans (s5.trans s6)) _ _ (keep c u hc e)
theorem ok_chBegin (F : FunD K "begin" "Choosing.begin" s_Choosing_begin dV f fd) : FnOk P w K mg base CX0 1 f fd ["self"] spChBegin := by
  refine F.ok sc_Choosing_begin (fun vs H Q E h => ?_) (fun cdv A outer s H vs Q E hr h => ?_)
  · (refine Obt.ex1 h fun x h_0 => Obt.and2 h_0 fun e_1 _ => ?_; subst e_1; clear h_0 h)
    rfl
  (refine Obt.ex1 h fun x h_0 => Obt.and2 h_0 fun e_1 q => ?_; subst e_1; clear h_0 h)
  refine ⟨_, (pss_one (ps_ret (pe_tup (pa_cons pe_int pa_nil)))), ?_⟩
  exact ⟨(by show 1 <= sizeLine; decide), fun t ht => q t _ (same_new ht _) upd_same⟩
end
theorem sorted_eq : ∀ {xs ys : LI}, xs.Pairwise (· < ·) -> ys.Pairwise (· < ·) -> (∀ q, q ∈ xs ↔ q ∈ ys) -> xs = ys
  | [], [], _, _, _ => rfl
  | [], y :: ys, _, _, h => by cases (h y).mpr List.mem_cons_self
  | x :: xs, [], _, _, h => by cases (h x).mp List.mem_cons_self
  | x :: xs, y :: ys, hx, hy, h => by
    have hx' := List.pairwise_cons.mp hx
    have hy' := List.pairwise_cons.mp hy
    have e : x = y := by
      rcases List.mem_cons.mp ((h x).mp List.mem_cons_self) with z | z
      · exact z
      · rcases List.mem_cons.mp ((h y).mpr List.mem_cons_self) with z2 | z2
        · exact z2.symm
        · have h1 := hx'.1 y z2
          have h2 := hy'.1 x z
          omega
    subst e
    congr 1
    refine sorted_eq hx'.2 hy'.2 fun q => ⟨fun hq => ?_, fun hq => ?_⟩
    · rcases List.mem_cons.mp ((h q).mp (List.mem_cons_of_mem _ hq)) with z | z
      · have h1 := hx'.1 q hq
        omega
      · exact z
    · rcases List.mem_cons.mp ((h q).mpr (List.mem_cons_of_mem _ hq)) with z | z
      · have h1 := hy'.1 q hq
        omega
      · exact z
def nextI (rows : LL) (ps fs : LI) (many : Nat) : LI := ((List.range many).filter fun q : Nat => decide (∃ p ∈ ps, ∃ f ∈ fs, stepI rows p f = (q : Int))).map fun q : Nat => (q : Int)
theorem nextI_mem {rows : LL} {ps fs : LI} {many : Nat} {q : Int} : q ∈ nextI rows ps fs many ↔ (0 <= q /\ q < (many : Int)) /\ ∃ p ∈ ps, ∃ f ∈ fs, stepI rows p f = q := by
  unfold nextI
  rw [List.mem_map]
  constructor
  · (refine fun i_0 => Obt.ex1 i_0 fun i h_1 => Obt.and2 h_1 fun hi e_2 => ?_; subst e_2; clear h_1 i_0)
    have h := List.mem_filter.mp hi
    have h1 := List.mem_range.mp h.1
    exact ⟨⟨by omega, by omega⟩, of_decide_eq_true h.2⟩
  · (refine fun i_0 => Obt.and2 i_0 fun t_1 h2 => Obt.and2 t_1 fun h0 h1 => ?_; clear t_1 i_0)
    (refine Obt.ex1 (nat_of h0) fun n e_0 => ?_; subst e_0)
    exact ⟨n, List.mem_filter.mpr ⟨List.mem_range.mpr (by omega), decide_eq_true h2⟩, rfl⟩
theorem nextI_sorted (rows : LL) (ps fs : LI) (many : Nat) : (nextI rows ps fs many).Pairwise (· < ·) := by
  unfold nextI
  refine List.pairwise_map.mpr (List.Pairwise.imp (fun {a b} h => ?_) (List.pairwise_lt_range.filter _))
  omega
theorem nextI_len (rows : LL) (ps fs : LI) (many : Nat) : (nextI rows ps fs many).length <= many := by
  unfold nextI
  rw [lm_]
  exact Nat.le_trans (List.length_filter_le _ _) (by simp)
theorem nextI_congr {rows : LL} {ps fs gs : LI} {many : Nat} (h : ∀ f, f ∈ fs ↔ f ∈ gs) : nextI rows ps fs many = nextI rows ps gs many :=
  sorted_eq (nextI_sorted ..) (nextI_sorted ..) fun q => by
    rw [nextI_mem, nextI_mem]
    exact ⟨fun ⟨h0, p, hp, f, hf, e⟩ => ⟨h0, p, hp, f, (h f).mp hf, e⟩, fun ⟨h0, p, hp, f, hf, e⟩ => ⟨h0, p, hp, f, (h f).mpr hf, e⟩⟩
theorem sorted_next {rows : LL} {ps fs ms : LI} {many : Nat} (hs : ms.Pairwise (· <= ·)) (nd : ms.Nodup) (h : ∀ q, q ∈ ms ↔ (0 <= q /\ q < (many : Int)) /\ ∃ p ∈ ps, ∃ f ∈ fs, stepI rows p f = q) : ms = nextI rows ps fs many := by
  refine sorted_eq ((hs.and nd).imp fun h => ?_) (nextI_sorted ..) fun q => by rw [h, nextI_mem]
  have h1 := h.1
  have h2 := h.2
  omega
def withL (g : Int) (b : Nat) (lo : Int) : LI := (List.range b).map fun i : Nat => withI g b lo (i : Int)
def reachL (rows : LL) (ps fs : LI) : LI := fs.flatMap fun f => ps.map fun p => stepI rows p f
theorem reachL_mem {rows : LL} {ps fs : LI} {q : Int} : q ∈ reachL rows ps fs ↔ ∃ p ∈ ps, ∃ f ∈ fs, stepI rows p f = q := by
  unfold reachL
  rw [List.mem_flatMap]
  constructor
  · (refine fun i_0 => Obt.ex1 i_0 fun f h_1 => Obt.and2 h_1 fun hf hq => ?_; clear h_1 i_0)
    (refine Obt.ex1 (List.mem_map.mp hq) fun p h_0 => Obt.and2 h_0 fun hp e => ?_; clear h_0)
    exact ⟨p, hp, f, hf, e⟩
  · (refine fun i_0 => Obt.ex1 i_0 fun p h_1 => Obt.and2 h_1 fun hp t_2 => Obt.ex1 t_2 fun f h_3 => Obt.and2 h_3 fun hf e => ?_; clear h_3 t_2 h_1 i_0)
    exact ⟨f, hf, List.mem_map.mpr ⟨p, hp, e⟩⟩
theorem reachL_len (rows : LL) (ps : LI) : ∀ fs : LI, (reachL rows ps fs).length = fs.length * ps.length
  | [] => by show 0 = 0 * _; omega
  | f :: fs => by
    have ih := reachL_len rows ps fs
    have e : reachL rows ps (f :: fs) = (ps.map fun p => stepI rows p f) ++ reachL rows ps fs := rfl
    rw [e, List.length_append, lm_, ih, List.length_cons, Nat.succ_mul]
    omega
theorem reachL_snoc (rows : LL) (ps fs : LI) (f : Int) : reachL rows ps (fs ++ [f]) = reachL rows ps fs ++ ps.map fun p => stepI rows p f := by
  unfold reachL
  rw [List.flatMap_append]
  simp
theorem nstep_in {many wide : Nat} {rows : LL} (R : RowsOk many wide rows) {y f : Int} (y0 : 0 <= y) (y1 : y < (many : Int)) (f0 : 0 <= f) (f1 : f < (wide : Int)) : 0 <= stepI rows y f /\ stepI rows y f < (many : Int) := by
  obtain ⟨r0, rl, rv⟩ := R
  have l : y.toNat < rows.length := by omega
  have e : rows.getD y.toNat [] = rows[y.toNat] := by rw [List.getD_eq_getElem?_getD, List.getElem?_eq_getElem l]; rfl
  have hm := List.getElem_mem l
  have l2 : f.toNat < rows[y.toNat].length := by rw [rl _ hm]; omega
  have e2 : rows[y.toNat].getD f.toNat 0 = rows[y.toNat][f.toNat] := by rw [List.getD_eq_getElem?_getD, List.getElem?_eq_getElem l2]; rfl
  unfold stepI
  rw [e, e2]
  exact rv _ hm _ (List.getElem_mem l2)
def spChStep (C : Addr) : Sp := fun vs H Q _ => ∃ (x t m r g : Addr) (b many wide : Nat) (lo fg : Int) (ks ps : LI) (rows : LL) (signs : LI), vs = [.ref x, .ref t, .int fg] /\ ChAt H C x r b lo ks /\ MachAt H m r g wide rows signs /\ RowsOk many wide rows /\ many <= 60 /\
  H t = some (.tup (ps.map V.int)) /\ ps.length <= 20 /\ (∀ p ∈ ps, 0 <= p /\ p < (many : Int)) /\ (1 <= b /\ b <= 20) /\ (0 < lo /\ lo <= 100000) /\ (∀ f ∈ withL fg b lo, 0 <= f /\ f < (wide : Int)) /\
  ∀ (T : Addr) (H' : Hp), Same H H' -> H' T = some (.tup ((nextI rows ps (withL fg b lo) many).map V.int)) -> Q (.ref T) H'
def spChSign (C : Addr) : Sp := fun vs H Q _ => ∃ (x t r : Addr) (b lo : Int) (ks ps : LI), vs = [.ref x, .ref t] /\ ChAt H C x r b lo ks /\ H t = some (.tup (ps.map V.int)) /\ ps.length <= 1000 /\
  ∀ H' : Hp, Same H H' -> Q (.int (if (ps.map fun p => decide (p ∈ ks)).any id = true then 1 else 0)) H'
section
variable {P : Program} {w : World} {K : PySem.W.Frag} {mg : Str -> Option Value} {base : Heap} {f : Addr} {fd : FuncData} {dV : Value} {C : Addr}
theorem sc_Choosing_step : FnScope ["self", "place", "figure", "reached", "part", "whole"] ["self", "place", "figure"] (defScope s_Choosing_step) := ⟨rfl, rfl, rfl, by decide +kernel, rfl, by decide +kernel, by decide +kernel⟩
theorem bk_Choosing_step_0 : BlkScope ["self", "place", "figure", "reached", "part", "whole"] (defScope s_Choosing_step) ["here", "self", "whole"] [none, some 0, some 5] { kind := ScopeKind.function, names := [(".0", NameKind.local), ("here", NameKind.local), ("self", NameKind.free), ("whole", NameKind.free)], isGenerator := false, isCoroutine := false, more := [] } := ⟨rfl, by decide +kernel, by decide +kernel, by decide +kernel, by decide +kernel, rfl, by decide +kernel⟩
theorem sc_Choosing_sign : FnScope ["self", "place"] ["self", "place"] (defScope s_Choosing_sign) := ⟨rfl, rfl, rfl, by decide +kernel, rfl, by decide +kernel, by decide +kernel⟩
theorem bk_Choosing_sign_0 : BlkScope ["self", "place"] (defScope s_Choosing_sign) ["here", "self"] [none, some 0] { kind := ScopeKind.function, names := [(".0", NameKind.local), ("here", NameKind.local), ("self", NameKind.free)], isGenerator := false, isCoroutine := false, more := [] } := ⟨rfl, by decide +kernel, by decide +kernel, by decide +kernel, by decide +kernel, rfl, by decide +kernel⟩
theorem ok_chStep (F : FunD K "step" "Choosing.step" s_Choosing_step dV f fd) (cc : CCls K C) (G_with_part : DefOk P w K mg base "with_part" 1 ["figure", "base", "below", "part"] [] spWithP) (z_range : mg "range" = none) (z_tuple : mg "tuple" = none) (z_sorted : mg "sorted" = none) (z_set : mg "set" = none) : FnOk P w K mg base CX0 2 f fd ["self", "place", "figure"] (spChStep C) := by
  refine F.ok sc_Choosing_step (fun vs H Q E h => ?_) (fun cdv A outer s H vs Q E hr h => ?_)
  · (refine Obt.ex8 h fun x t m r g b many wide h_0 => Obt.ex6 h_0 fun lo fg ks ps rows signs h_1 => Obt.and2 h_1 fun e_2 _ => ?_; subst e_2; clear h_1 h_0 h)
    rfl
  (refine Obt.ex8 h fun x t m r g b many wide h_0 => Obt.ex6 h_0 fun lo fg ks ps rows signs h_1 => Obt.and12 h_1 fun e_2 CH M R n1 ht lp hp t_3 t_4 hf k => Obt.and2 t_3 fun b0 b1 => Obt.and2 t_4 fun l0 l1 => ?_; subst e_2; clear t_4 t_3 h_1 h_0 h)
  (refine Obt.ex2 CH.ob fun dx D h_0 => Obt.and2 h_0 fun hx hD => ?_; clear h_0)
  obtain ⟨hm, ⟨ras, hr', hA⟩, hg⟩ := M
  refine ⟨_, (pss_cons (ps_set (i := 3) sc_Choosing_step.nd rfl (Or.inl rfl) (pe_lst pa_nil))
      (pss_cons (ps_for PassesOwn.never rfl (pi_range1 rfl z_range (pa_cons (pe_fld (pv 0) rfl) pa_nil)) (pg_name (i := 4) sc_Choosing_step.nd rfl (Or.inl rfl)) (pss_cons (ps_set (i := 5) sc_Choosing_step.nd rfl (Or.inr rfl) (pe_cd G_with_part hr (pa_cons (pv 2) (pa_cons (pe_fld (pv 0) rfl) (pa_cons (pe_fld (pv 0) rfl) (pa_cons (pv 4) pa_nil))))))
      (pss_one (ps_expr (pe_bm PySem.F.plainAttrs_list PySem.F.slot_list_extend PySem.F.type_list_extend mt_extend (pv 3) (pa_cons (pe_comp rfl bk_Choosing_step_0 (pi_tup (pv 1)) (fun _ _ _ _ => (pg_name (i := 0) bk_Choosing_step_0.nd rfl (Or.inl rfl))) (fun _ _ _ _ => (pe_ix (ix_tupK K) (pe_ix (ix_tupK K) (pe_fldK K (pv 1) rfl) (pv 0) (fun _ _ => rfl)) (pv 2) (fun _ _ => rfl)))) pa_nil))))))
      (pss_one (ps_ret (pe_callTy call_tuple_of (by rfl) z_tuple bt_tuple (pa_cons (pe_callB (call_sortedS rfl) (by rfl) z_sorted bt_sorted (pa_cons (pe_callTy (call_setL rfl) (by rfl) z_set bt_set (pa_cons (pv 3) pa_nil)) pa_nil)) pa_nil)))))), ?_⟩
  refine ⟨(by show 0 <= sizeLine; decide), fun L hL => ?_⟩
  have sL := same_new hL (HO.lst [])
  refine ⟨_, rfl, x, C, dx, _, _, rfl, sL _ _ hx, cc.cl, cc.nb, rfl, (b : Int), rfl, by omega, by omega, ?_⟩
  refine for_range (fun i σ' H' => ∃ v1 v2, σ' = [some (.ref x), some (.ref t), some (.int fg), some (.ref L), v1, v2] /\ Same H H' /\ H' L = some (.lst ((reachL rows ps ((withL fg b lo).take i)).map V.int))) ⟨none, none, rfl, sL, upd_same⟩ ?_ ?_
  · (refine fun i σ' H1 hi i_0 => Obt.ex2 i_0 fun v1 v2 h_1 => Obt.and3 h_1 fun e_2 s1 hL1 => ?_; subst e_2; clear h_1 i_0)
    rw [Int.toNat_natCast] at hi
    have hx1 := s1 _ _ hx
    obtain ⟨w0, ew⟩ : ∃ w0, withI fg b lo (0 + (i : Int)) = w0 := ⟨_, rfl⟩
    have ei : (withL fg b lo).take (i + 1) = (withL fg b lo).take i ++ [w0] := by
      unfold withL
      rw [<- List.map_take, <- List.map_take, List.take_range, List.take_range, Nat.min_eq_left (by omega), Nat.min_eq_left (by omega), List.range_succ, List.map_append, <- ew, Int.zero_add]
      rfl
    have hw : w0 ∈ withL fg b lo := by
      rw [<- ew, Int.zero_add]
      exact List.mem_map.mpr ⟨i, List.mem_range.mpr hi, rfl⟩
    (refine Obt.and2 (hf w0 hw) fun f0 f1 => ?_)
    have ll : (reachL rows ps ((withL fg b lo).take i)).length <= 400 := by
      rw [reachL_len, List.length_take]
      exact Nat.le_trans (Nat.mul_le_mul (Nat.le_trans (Nat.min_le_left _ _) (show i <= 20 by omega)) lp) (by decide)
    refine ⟨_, rfl, _, rfl, x, C, dx, _, _, rfl, hx1, cc.cl, cc.nb, rfl, _, rfl, x, C, dx, _, _, rfl, hx1, cc.cl, cc.nl, rfl, _, rfl, fg, (b : Int), lo, 0 + (i : Int), rfl, ⟨by omega, by omega⟩, ⟨l0, l1⟩, ?_⟩
    rw [ew]
    refine ⟨_, rfl, .inl ⟨rfl, _, qL_ hL1⟩, _, rfl, t, rfl, ⟨_, qT_ (s1 _ _ ht)⟩, ?_⟩
    refine comp_tup (K := K) (xs := ps.map V.int) (fun D j ys H' => Same H1 H' /\ ys = ((ps.take j).map fun p => stepI rows p w0).map V.int) (fun D hD => ⟨same_new hD _, rfl⟩) (fun D j ys H' _ hq0 => by (refine Obt.and2 hq0 fun e _ => ?_; clear hq0); exact qT_ (e _ _ (s1 _ _ ht))) ?_ ?_
    · (refine fun D j y ys H2 Q' hD hj hy i_0 => Obt.and2 i_0 fun s2 e_1 => fun k' => ?_; subst e_1; clear i_0)
      (refine Obt.ex1 (ints_at hj) fun z h_0 => Obt.and2 h_0 fun e_1 hz => ?_; subst e_1; clear h_0)
      have lj := (gi_ hz).1
      (refine Obt.and2 (hp z (mq_ hz)) fun z0 z1 => ?_)
      have s12 := s1.trans s2
      (refine Obt.ex2 (row_step (hA.same fun a ys e => s12 _ _ e) R z0 z1 f0 f1) fun ra rr h_0 => Obt.and3 h_0 fun e1 e2 e3 => ?_; clear h_0)
      refine ⟨_, rfl, x, C, dx, _, _, rfl, s12 _ _ hx, cc.cl, cc.nr, rfl, _, rfl, r, _, _, _, rfl, rfl, qT_ (s12 _ _ hr'), e1, _, rfl, ra, _, _, _, rfl, rfl, qT_ e2, e3, ?_⟩
      refine k' _ _ hy (small1000 (by rw [lm_, lm_, List.length_take]; omega)) ⟨same_upd s2 hD, ?_⟩
      rw [List.take_add_one, hz, List.map_append, List.map_append]
      rfl
    · (refine fun D ys H2 hD hy i_0 => Obt.and2 i_0 fun s2 e_1 => ?_; subst e_1; clear i_0)
      rw [lm_, List.take_length] at hy
      have nDL : L ≠ D := ne_of_none hL1 hD
      refine ⟨L, D, _, _, rfl, rfl, s2 _ _ hL1, hy, small (by rw [lm_, lm_, lm_]; omega), ?_⟩
      refine ⟨_, _, rfl, same_upd (s1.trans s2) hL, ?_⟩
      rw [upd_same, ei, reachL_snoc, List.map_append]
  · (refine fun σ' H1 i_0 => Obt.ex2 i_0 fun v1 v2 h_1 => Obt.and3 h_1 fun e_2 s1 hL1 => ?_; subst e_2; clear h_1 i_0)
    rw [Int.toNat_natCast, List.take_of_length_le (by unfold withL; simp)] at hL1
    obtain ⟨ns, en⟩ : ∃ ns, reachL rows ps (withL fg b lo) = ns := ⟨_, rfl⟩
    have hns : ∀ q, q ∈ ns ↔ ∃ p ∈ ps, ∃ f ∈ withL fg b lo, stepI rows p f = q := fun q => by rw [<- en]; exact reachL_mem
    have hin : ∀ q ∈ ns, 0 <= q /\ q < (many : Int) := fun q hq => by
      (refine Obt.ex1 ((hns q).mp hq) fun p h_0 => Obt.and2 h_0 fun hp' t_1 => Obt.ex1 t_1 fun fg' h_2 => Obt.and2 h_2 fun hf' e => ?_; clear h_2 t_1 h_0)
      rw [<- e]
      exact nstep_in R (hp p hp').1 (hp p hp').2 (hf _ hf').1 (hf _ hf').2
    have lw : (withL fg b lo).length = b := by unfold withL; simp
    have ll : ns.length <= 400 := by
      rw [<- en, reachL_len, lw]
      exact Nat.le_trans (Nat.mul_le_mul b1 lp) (by decide)
    rw [en] at hL1
    have lo60 : (onceI ns).length <= many := few_below many (once_nodup ns) fun q hq => hin q (once_mem.mp hq)
    refine ⟨_, rfl, L, ns, rfl, hL1, by omega, fun S hS => ⟨S, onceI ns, rfl, upd_same, by omega, fun l ms hl pm srt => ⟨l, _, rfl, .inl ⟨qL_ upd_same, fun T hT => ?_⟩⟩⟩⟩
    refine k T _ (s1.trans ((same_new hS _).trans ((same_new hl _).trans (same_new hT _)))) ?_
    rw [upd_same, sorted_next srt (pm.nodup_iff.mpr (once_nodup ns)) fun q => ?_]
    rw [pm.mem_iff, once_mem]
    exact ⟨fun h => ⟨hin q h, (hns q).mp h⟩, fun h => (hns q).mpr h.2⟩
theorem ok_chSign (F : FunD K "sign" "Choosing.sign" s_Choosing_sign dV f fd) (cc : CCls K C) (z_any : mg "any" = none) : FnOk P w K mg base CX0 1 f fd ["self", "place"] (spChSign C) := by
  refine F.ok sc_Choosing_sign (fun vs H Q E h => ?_) (fun cdv A outer s H vs Q E hr h => ?_)
  · (refine Obt.ex7 h fun x t r b lo ks ps h_0 => Obt.and2 h_0 fun e_1 _ => ?_; subst e_1; clear h_0 h)
    rfl
  (refine Obt.ex7 h fun x t r b lo ks ps h_0 => Obt.and5 h_0 fun e_1 CH ht lp k => ?_; subst e_1; clear h_0 h)
  (refine Obt.ex2 CH.ob fun dx D h_0 => Obt.and2 h_0 fun hx hD => ?_; clear h_0)
  have hu := hu_of hr
  refine ⟨_, (pss_one (ps_ret (pe_ifExp (pt_val (pe_callB (call_any rfl) (by rfl) z_any bt_any (pa_cons (pe_comp rfl bk_Choosing_sign_0 (pi_tup (pv 1)) (fun _ _ _ _ => (pg_name (i := 0) bk_Choosing_sign_0.nd rfl (Or.inl rfl))) (fun _ _ _ _ => (pe_cmp (pc_din hu (pv 0) (pe_fldK K (pv 1) rfl)) (by with_unfolding_all rfl)))) pa_nil))) pe_int pe_int))), ?_⟩
  refine ⟨_, rfl, t, rfl, ⟨_, qT_ ht⟩, ?_⟩
  refine comp_tup (K := K) (xs := ps.map V.int) (fun D j ys H' => Same H H' /\ ys = ((ps.take j).map fun p => decide (p ∈ ks)).map V.bl) (fun D hD => ⟨same_new hD _, rfl⟩) (fun D j ys H' _ hq0 => by (refine Obt.and2 hq0 fun e _ => ?_; clear hq0); exact qT_ (e _ _ ht)) ?_ ?_
  · (refine fun L j y ys H2 Q' hL hj hy i_0 => Obt.and2 i_0 fun s2 e_1 => fun k' => ?_; subst e_1; clear i_0)
    (refine Obt.ex1 (ints_at hj) fun z h_0 => Obt.and2 h_0 fun e_1 hz => ?_; subst e_1; clear h_0)
    refine ⟨_, rfl, _, rfl, x, C, dx, _, _, rfl, s2 _ _ hx, cc.cl, cc.nw, rfl, D, _, rfl, DGet.k (k := Sum.inl z) (s2 _ _ hD), ?_⟩
    refine k' _ _ hy (small1000 (by rw [lm_, lm_, List.length_take]; omega)) ⟨same_upd s2 hL, ?_⟩
    rw [List.take_add_one, hz, List.map_append, List.map_append, kvT_val]
    rfl
  · (refine fun L ys H2 hL hy i_0 => Obt.and2 i_0 fun s2 e_1 => ?_; subst e_1; clear i_0)
    rw [lm_, List.take_length] at hy
    refine ⟨L, _, rfl, qL_ hy, _, rfl, ?_⟩
    have kk := k H2 s2
    cases c : (ps.map fun p => decide (p ∈ ks)).any id with
    | true =>
      rw [c, if_pos rfl] at kk
      exact iteT kk
    | false =>
      rw [c, if_neg (by decide)] at kk
      exact iteF kk
end
def spNBeginC (C CC : Addr) : Sp := fun vs H Q _ => ∃ (x wk r : Addr) (b lo b' lo' : Int) (ks : LI), vs = [.ref x] /\ NwAt H C x wk b lo /\ ChAt H CC wk r b' lo' ks /\ ∀ (t : Addr) (H' : Hp), Same H H' -> H' t = some (.tup [.int 0]) -> Q (.ref t) H'
def spNStepC (C CC : Addr) : Sp := fun vs H Q _ => ∃ (x wk t m r g : Addr) (b many wide : Nat) (lo lo' fg : Int) (ks ps : LI) (rows : LL) (signs : LI), vs = [.ref x, .ref t, .int fg] /\ NwAt H C x wk b lo /\ ChAt H CC wk r b lo' ks /\ MachAt H m r g wide rows signs /\ RowsOk many wide rows /\ many <= 60 /\
  H t = some (.tup (ps.map V.int)) /\ ps.length <= 20 /\ (∀ p ∈ ps, 0 <= p /\ p < (many : Int)) /\ (1 <= b /\ b <= 20) /\ (0 < lo /\ lo <= 100000) /\ (0 < lo' /\ lo' <= 100000) /\ (∀ f ∈ withL (withoutI fg b lo) b lo', 0 <= f /\ f < (wide : Int)) /\
  ∀ (T : Addr) (H' : Hp), Same H H' -> H' T = some (.tup ((nextI rows ps (withL (withoutI fg b lo) b lo') many).map V.int)) -> Q (.ref T) H'
def spNSignC (C CC : Addr) : Sp := fun vs H Q _ => ∃ (x wk t r : Addr) (b lo b' lo' : Int) (ks ps : LI), vs = [.ref x, .ref t] /\ NwAt H C x wk b lo /\ ChAt H CC wk r b' lo' ks /\ H t = some (.tup (ps.map V.int)) /\ ps.length <= 1000 /\
  ∀ H' : Hp, Same H H' -> Q (.int (if (ps.map fun p => decide (p ∈ ks)).any id = true then 1 else 0)) H'
section
variable {P : Program} {w : World} {K : PySem.W.Frag} {mg : Str -> Option Value} {base : Heap} {f : Addr} {fd : FuncData} {dV : Value} {C CC : Addr}
theorem ok_nbeginC (F : FunD K "begin" "Narrowing.begin" s_Narrowing_begin dV f fd) (nc : NCls K C) (GEC_begin : DefMe P w K mg base CC "begin" 1 ["self"] spChBegin) : FnOk P w K mg base CX0 2 f fd ["self"] (spNBeginC C CC) := by
  refine F.ok sc_Narrowing_begin (fun vs H Q E h => ?_) (fun cdv A outer s H vs Q E hr h => ?_)
  · (refine Obt.ex8 h fun x wk r b lo b' lo' ks h_0 => Obt.and2 h_0 fun e_1 _ => ?_; subst e_1; clear h_0 h)
    rfl
  (refine Obt.ex8 h fun x wk r b lo b' lo' ks h_0 => Obt.and4 h_0 fun e_1 t_2 CH q => ?_; subst e_1; obtain ⟨dx, hx⟩ := t_2; clear h_0 h)
  (refine Obt.ex2 CH.ob fun dw D h_0 => Obt.and2 h_0 fun hw hD => ?_; clear h_0)
  refine ⟨_, (pss_one (ps_ret (pe_me0 GEC_begin hr (pe_fld (pv 0) rfl)))), ?_⟩
  exact ⟨_, rfl, x, C, dx, _, _, rfl, hx, nc.cl, nc.nw, rfl, wk, dw, _, rfl, hw, rfl, wk, rfl, q⟩
theorem ok_nstepC (F : FunD K "step" "Narrowing.step" s_Narrowing_step dV f fd) (nc : NCls K C) (GEC_step : DefMe P w K mg base CC "step" 2 ["self", "place", "figure"] (spChStep CC)) (G_without_part : DefOk P w K mg base "without_part" 1 ["figure", "base", "below"] [] spWithout) : FnOk P w K mg base CX0 3 f fd ["self", "place", "figure"] (spNStepC C CC) := by
  refine F.ok sc_Narrowing_step (fun vs H Q E h => ?_) (fun cdv A outer s H vs Q E hr h => ?_)
  · (refine Obt.ex8 h fun x wk t m r g b many h_0 => Obt.ex8 h_0 fun wide lo lo' fg ks ps rows signs h_1 => Obt.and2 h_1 fun e_2 _ => ?_; subst e_2; clear h_1 h_0 h)
    rfl
  (refine Obt.ex8 h fun x wk t m r g b many h_0 => Obt.ex8 h_0 fun wide lo lo' fg ks ps rows signs h_1 => Obt.and14 h_1 fun e_2 t_3 CH M R n1 ht lp hp hb hlo hlo' hf k => ?_; subst e_2; obtain ⟨dx, hx⟩ := t_3; clear h_1 h_0 h)
  (refine Obt.ex2 CH.ob fun dw D h_0 => Obt.and2 h_0 fun hw hD => ?_; clear h_0)
  refine ⟨_, (pss_one (ps_ret (pe_me GEC_step hr (pe_fld (pv 0) rfl) (pa_cons (pv 1) (pa_cons (pe_cd G_without_part hr (pa_cons (pv 2) (pa_cons (pe_fld (pv 0) rfl) (pa_cons (pe_fld (pv 0) rfl) pa_nil)))) pa_nil))))), ?_⟩
  refine ⟨_, rfl, x, C, dx, _, _, rfl, hx, nc.cl, nc.nw, rfl, wk, dw, _, rfl, hw, rfl, _, rfl, _, rfl, _, rfl, x, C, dx, _, _, rfl, hx, nc.cl, nc.nb, rfl, _, rfl, x, C, dx, _, _, rfl, hx, nc.cl, nc.nl, rfl, fg, (b : Int), lo, rfl, ⟨by omega, by omega⟩, hlo, ?_⟩
  exact ⟨wk, t, m, r, g, b, many, wide, lo', _, ks, ps, rows, signs, rfl, CH, M, R, n1, ht, lp, hp, hb, hlo', hf, k⟩
theorem ok_nsignC (F : FunD K "sign" "Narrowing.sign" s_Narrowing_sign dV f fd) (nc : NCls K C) (GEC_sign : DefMe P w K mg base CC "sign" 1 ["self", "place"] (spChSign CC)) : FnOk P w K mg base CX0 2 f fd ["self", "place"] (spNSignC C CC) := by
  refine F.ok sc_Narrowing_sign (fun vs H Q E h => ?_) (fun cdv A outer s H vs Q E hr h => ?_)
  · (refine Obt.ex8 h fun x wk t r b lo b' lo' h_0 => Obt.ex2 h_0 fun ks ps h_1 => Obt.and2 h_1 fun e_2 _ => ?_; subst e_2; clear h_1 h_0 h)
    rfl
  (refine Obt.ex8 h fun x wk t r b lo b' lo' h_0 => Obt.ex2 h_0 fun ks ps h_1 => Obt.and6 h_1 fun e_2 t_3 CH ht lp k => ?_; subst e_2; obtain ⟨dx, hx⟩ := t_3; clear h_1 h_0 h)
  (refine Obt.ex2 CH.ob fun dw D h_0 => Obt.and2 h_0 fun hw hD => ?_; clear h_0)
  refine ⟨_, (pss_one (ps_ret (pe_me GEC_sign hr (pe_fld (pv 0) rfl) (pa_cons (pv 1) pa_nil)))), ?_⟩
  exact ⟨_, rfl, x, C, dx, _, _, rfl, hx, nc.cl, nc.nw, rfl, wk, dw, _, rfl, hw, rfl, _, rfl, wk, t, r, b', lo', ks, ps, rfl, CH, ht, lp, k⟩
end
theorem mulmod {l x r : Int} (l0 : 0 < l) (r0 : 0 <= r) (r1 : r < l) : (r + l * x) % l = r /\ (r + l * x) / l = x := by
  refine ⟨?_, ?_⟩
  · rw [Int.add_mul_emod_self_left]
    exact Int.emod_eq_of_lt r0 r1
  · rw [Int.add_mul_ediv_left _ _ (by omega), Int.ediv_eq_zero_of_lt r0 r1, Int.zero_add]
theorem without_with {g b lo p : Int} (l0 : 0 < lo) (p0 : 0 <= p) (p1 : p < b) : withoutI (withI g b lo p) b lo = g := by
  have b0 : 0 < b := by omega
  have m0 : 0 <= g % lo := Int.emod_nonneg _ (by omega)
  have m1 : g % lo < lo := Int.emod_lt_of_pos _ l0
  have e1 : withI g b lo p = g % lo + lo * (p + b * (g / lo)) := by
    unfold withI
    rw [Int.mul_add, Int.mul_assoc, Int.add_assoc]
  have h1 := mulmod (x := p + b * (g / lo)) l0 m0 m1
  have h2 := mulmod (x := g / lo) b0 p0 p1
  unfold withoutI
  rw [e1, h1.1, <- Int.ediv_ediv_of_nonneg (show 0 <= lo by omega), h1.2, h2.2]
  exact Int.emod_add_mul_ediv g lo
theorem with_without {f b lo : Int} (l0 : 0 < lo) (b0 : 0 < b) : withI (withoutI f b lo) b lo (f / lo % b) = f := by
  have m0 : 0 <= f % lo := Int.emod_nonneg _ (by omega)
  have m1 : f % lo < lo := Int.emod_lt_of_pos _ l0
  have h1 := mulmod (x := f / (lo * b)) l0 m0 m1
  unfold withI
  unfold withoutI
  rw [h1.1, h1.2, <- Int.ediv_ediv_of_nonneg (show 0 <= lo by omega)]
  have e1 : f / lo % b + b * (f / lo / b) = f / lo := Int.emod_add_mul_ediv _ _
  have e2 : f % lo + lo * (f / lo) = f := Int.emod_add_mul_ediv _ _
  have e3 : lo * (f / lo % b) + lo * b * (f / lo / b) = lo * (f / lo) := by rw [Int.mul_assoc, <- Int.mul_add, e1]
  omega
theorem withL_mem {g f lo M : Int} {b : Nat} (l0 : 0 < lo) (b0 : 0 < b) (g0 : 0 <= g) (g1 : g < lo * M) : f ∈ withL g b lo ↔ (0 <= f /\ f < lo * b * M) /\ withoutI f b lo = g := by
  unfold withL
  rw [List.mem_map]
  have lb0 : 0 < lo * (b : Int) := Int.mul_pos l0 (by omega)
  constructor
  · (refine fun i_0 => Obt.ex1 i_0 fun i h_1 => Obt.and2 h_1 fun hi e_2 => ?_; subst e_2; clear h_1 i_0)
    have hi' := List.mem_range.mp hi
    have m0 : 0 <= g % lo := Int.emod_nonneg _ (by omega)
    have m1 : g % lo < lo := Int.emod_lt_of_pos _ l0
    have q0 : 0 <= g / lo := Int.ediv_nonneg g0 (by omega)
    have q1 : g / lo < M := Int.ediv_lt_of_lt_mul l0 (by rw [Int.mul_comm]; exact g1)
    have k0 : 0 <= lo * (i : Int) := Int.mul_nonneg (by omega) (by omega)
    have k1 : lo * (i : Int) <= lo * ((b : Int) - 1) := Int.mul_le_mul_of_nonneg_left (by omega) (by omega)
    have k2 : lo * ((b : Int) - 1) = lo * b - lo := by rw [Int.mul_sub, Int.mul_one]
    have k3 : 0 <= lo * (b : Int) * (g / lo) := Int.mul_nonneg (by omega) q0
    have k4 : lo * (b : Int) * (g / lo) <= lo * b * (M - 1) := Int.mul_le_mul_of_nonneg_left (by omega) (by omega)
    have k5 : lo * (b : Int) * (M - 1) = lo * b * M - lo * b := by rw [Int.mul_sub, Int.mul_one]
    refine ⟨⟨?_, ?_⟩, without_with l0 (by omega) (by omega)⟩
    · unfold withI
      omega
    · unfold withI
      omega
  · (refine fun i_0 => Obt.and2 i_0 fun t_1 e_2 => Obt.and2 t_1 fun f0 f1 => ?_; subst e_2; clear t_1 i_0)
    have m0 : 0 <= f / lo % (b : Int) := Int.emod_nonneg _ (by omega)
    have m1 : f / lo % (b : Int) < b := Int.emod_lt_of_pos _ (by omega)
    (refine Obt.ex1 (nat_of m0) fun n hn => ?_)
    refine ⟨n, List.mem_range.mpr (by omega), ?_⟩
    show withI (withoutI f b lo) b lo (n : Int) = f
    rw [<- hn]
    exact with_without l0 (by omega)
theorem without_in {f b lo M : Int} (l0 : 0 < lo) (b0 : 0 < b) (f0 : 0 <= f) (f1 : f < lo * b * M) : 0 <= withoutI f b lo /\ withoutI f b lo < lo * M := by
  have m0 : 0 <= f % lo := Int.emod_nonneg _ (by omega)
  have m1 : f % lo < lo := Int.emod_lt_of_pos _ l0
  have lb : 0 < lo * b := Int.mul_pos l0 b0
  have q0 : 0 <= f / (lo * b) := Int.ediv_nonneg f0 (by omega)
  have q1 : f / (lo * b) < M := Int.ediv_lt_of_lt_mul lb (by rw [Int.mul_comm]; exact f1)
  have k0 : 0 <= lo * (f / (lo * b)) := Int.mul_nonneg (by omega) q0
  have k1 : lo * (f / (lo * b)) <= lo * (M - 1) := Int.mul_le_mul_of_nonneg_left (by omega) (by omega)
  have k2 : lo * (M - 1) = lo * M - lo := by rw [Int.mul_sub, Int.mul_one]
  unfold withoutI
  omega
theorem bare_with (lo : Int) (b : Nat) : bareI lo b = withL 0 b lo := by
  unfold bareI withL
  refine List.map_congr_left fun i _ => ?_
  show lo * (i : Int) = withI 0 b lo i
  unfold withI
  rw [Int.zero_emod, Int.zero_ediv, Int.mul_zero]
  omega
theorem atI_all {xs : List V} {j : Int} {p : V -> Prop} (j0 : 0 <= j) (j1 : j < (xs.length : Int)) (h : ∀ y ∈ xs, p y) : ∃ y, atI xs j = some y /\ p y := by
  have hj : j.toNat < xs.length := by omega
  have ej : j = ((j.toNat : Nat) : Int) := by omega
  refine ⟨xs[j.toNat], ?_, h _ (List.getElem_mem hj)⟩
  have q : atI xs ((j.toNat : Nat) : Int) = some xs[j.toNat] := atI_nat (List.getElem?_eq_getElem hj)
  rw [<- ej] at q
  exact q
def SideOk (b n : Nat) : Prop := (2 <= b /\ b <= 10) /\ (1 <= n /\ n <= 4) /\ b ^ n <= 16
theorem side_pick {H : Hp} {t0 t1 t2 t3 t4 t5 t6 t7 : Addr} {j : Int} (a0 : H t0 = some (.tup [.int 2, .int 1])) (a1 : H t1 = some (.tup [.int 2, .int 2])) (a2 : H t2 = some (.tup [.int 2, .int 3])) (a3 : H t3 = some (.tup [.int 2, .int 4])) (a4 : H t4 = some (.tup [.int 3, .int 1])) (a5 : H t5 = some (.tup [.int 3, .int 2])) (a6 : H t6 = some (.tup [.int 4, .int 2])) (a7 : H t7 = some (.tup [.int 10, .int 1])) (j0 : 0 <= j) (j1 : j < 8) : ∃ y, atI [V.ref t0, V.ref t1, V.ref t2, V.ref t3, V.ref t4, V.ref t5, V.ref t6, V.ref t7] j = some y /\ ∃ (t : Addr) (b n : Nat), y = .ref t /\ H t = some (.tup [.int b, .int n]) /\ SideOk b n := by
  refine atI_all j0 j1 fun y hy => ?_
  simp only [List.mem_cons, List.not_mem_nil, or_false] at hy
  rcases hy with rfl | rfl | rfl | rfl | rfl | rfl | rfl | rfl
  · exact ⟨t0, 2, 1, rfl, a0, ⟨by decide, by decide⟩, ⟨by decide, by decide⟩, by decide⟩
  · exact ⟨t1, 2, 2, rfl, a1, ⟨by decide, by decide⟩, ⟨by decide, by decide⟩, by decide⟩
  · exact ⟨t2, 2, 3, rfl, a2, ⟨by decide, by decide⟩, ⟨by decide, by decide⟩, by decide⟩
  · exact ⟨t3, 2, 4, rfl, a3, ⟨by decide, by decide⟩, ⟨by decide, by decide⟩, by decide⟩
  · exact ⟨t4, 3, 1, rfl, a4, ⟨by decide, by decide⟩, ⟨by decide, by decide⟩, by decide⟩
  · exact ⟨t5, 3, 2, rfl, a5, ⟨by decide, by decide⟩, ⟨by decide, by decide⟩, by decide⟩
  · exact ⟨t6, 4, 2, rfl, a6, ⟨by decide, by decide⟩, ⟨by decide, by decide⟩, by decide⟩
  · exact ⟨t7, 10, 1, rfl, a7, ⟨by decide, by decide⟩, ⟨by decide, by decide⟩, by decide⟩
def spSides : Sp := fun vs H Q _ => ∃ c : Int, vs = [.int c] /\ ∀ (t : Addr) (H' : Hp) (b n : Nat), Same H H' -> H' t = some (.tup [.int b, .int n]) -> SideOk b n -> Q (.ref t) H'
theorem kvT_mem : ∀ {ks : LI} {q : Int}, q ∈ ks -> ks.Nodup -> putK (kvT ks) (Sum.inl q) (V.bl true) = kvT ks := by
  intro ks q h nd
  unfold putK
  rw [if_pos (show ((kvT ks).any fun kv => decide (kv.fst = Sum.inl q)) = true from List.any_eq_true.mpr ⟨(Sum.inl q, V.bl true), List.mem_map.mpr ⟨q, h, rfl⟩, by simp⟩)]
  refine (List.map_congr_left fun kv hk => ?_).trans (List.map_id _)
  (refine Obt.ex1 (List.mem_map.mp hk) fun k h_0 => Obt.and2 h_0 fun _ e_1 => ?_; subst e_1; clear h_0)
  show (if (Sum.inl k : Key) = Sum.inl q then ((Sum.inl k : Key), V.bl true) else (Sum.inl k, V.bl true)) = (Sum.inl k, V.bl true)
  split <;> rfl
def addK (ks : LI) (q : Int) : LI := if q ∈ ks then ks else ks ++ [q]
theorem addK_put {ks : LI} {q : Int} (nd : ks.Nodup) : putK (kvT ks) (Sum.inl q) (V.bl true) = kvT (addK ks q) := by
  unfold addK
  by_cases c : q ∈ ks
  · rw [if_pos c]; exact kvT_mem c nd
  · rw [if_neg c]; exact kvT_put c
theorem addK_mem {ks : LI} {q p : Int} : p ∈ addK ks q ↔ p ∈ ks \/ p = q := by
  unfold addK
  by_cases c : q ∈ ks
  · rw [if_pos c]
    exact ⟨.inl, fun h => by rcases h with z | z; exact z; rw [z]; exact c⟩
  · rw [if_neg c, List.mem_append, List.mem_singleton]
theorem addK_nd {ks : LI} {q : Int} (nd : ks.Nodup) : (addK ks q).Nodup := by
  unfold addK
  by_cases c : q ∈ ks
  · rw [if_pos c]; exact nd
  · rw [if_neg c]; exact nd_snoc nd c
theorem nextI_succ (rows : LL) (ps fs : LI) (n : Nat) : nextI rows ps fs (n + 1) = nextI rows ps fs n ++ (if ∃ p ∈ ps, ∃ f ∈ fs, stepI rows p f = (n : Int) then [(n : Int)] else []) := by
  unfold nextI
  rw [List.range_succ, List.filter_append, List.map_append]
  congr 1
  by_cases c : ∃ p ∈ ps, ∃ f ∈ fs, stepI rows p f = (n : Int)
  · rw [if_pos c, List.filter_cons_of_pos (by exact decide_eq_true c)]; rfl
  · rw [if_neg c, List.filter_cons_of_neg (by rw [decide_eq_false c]; decide)]; rfl
def spNext (K : PySem.W.Frag) : Sp := fun vs H Q _ => ∃ (p m l r g : Addr) (many wide : Nat) (ps fs : LI) (rows : LL) (signs : LI), vs = [.ref p, .ref m, .ref l] /\ H p = some (.tup (ps.map V.int)) /\ MachAt H m r g wide rows signs /\ RowsOk many wide rows /\ H l = some (.lst (fs.map V.int)) /\ many <= 400 /\
  (∀ q ∈ ps, 0 <= q /\ q < (many : Int)) /\ (∀ q ∈ fs, 0 <= q /\ q < (wide : Int)) /\ ∀ (T : Addr) (H' : Hp), Same H H' -> H' T = some (.tup ((nextI rows ps fs many).map V.int)) -> Q (.ref T) H'
section
variable {P : Program} {w : World} {K : PySem.W.Frag} {mg : Str -> Option Value} {base : Heap} {f : Addr} {fd : FuncData} {dV : Value}
theorem sc__law_sides : FnScope ["_law_number_here"] ["_law_number_here"] (defScope s__law_sides) := ⟨rfl, rfl, rfl, by decide +kernel, rfl, by decide +kernel, by decide +kernel⟩
theorem sc__law_next : FnScope ["_law_place", "_law_machine_here", "_law_figures_by", "_law_there", "_law_q", "_law_f"] ["_law_place", "_law_machine_here", "_law_figures_by"] (defScope s__law_next) := ⟨rfl, rfl, rfl, by decide +kernel, rfl, by decide +kernel, by decide +kernel⟩
theorem bk__law_next_0 : BlkScope ["_law_place", "_law_machine_here", "_law_figures_by", "_law_there", "_law_q", "_law_f"] (defScope s__law_next) ["_law_q", "_law_there"] [none, some 3] { kind := ScopeKind.function, names := [(".0", NameKind.local), ("_law_q", NameKind.local), ("_law_there", NameKind.free)], isGenerator := false, isCoroutine := false, more := [] } := ⟨rfl, by decide +kernel, by decide +kernel, by decide +kernel, by decide +kernel, rfl, by decide +kernel⟩
theorem ok_sides (F : FunD K "_law_sides" "_law_sides" s__law_sides dV f fd) : FnOk P w K mg base CX0 1 f fd ["_law_number_here"] spSides := by
  refine F.ok sc__law_sides (fun vs H Q E h => ?_) (fun cdv A outer s H vs Q E hr h => ?_)
  · (refine Obt.ex1 h fun c h_0 => Obt.and2 h_0 fun e_1 _ => ?_; subst e_1; clear h_0 h)
    rfl
  (refine Obt.ex1 h fun c h_0 => Obt.and2 h_0 fun e_1 k => ?_; subst e_1; clear h_0 h)
  refine body_w (ws_one (w_ret (w_ix ix_list (w_lst (wa_cons (PEW.mk (pe_tup (pa_cons pe_int (pa_cons pe_int pa_nil)))) (wa_cons (PEW.mk (pe_tup (pa_cons pe_int (pa_cons pe_int pa_nil)))) (wa_cons (PEW.mk (pe_tup (pa_cons pe_int (pa_cons pe_int pa_nil)))) (wa_cons (PEW.mk (pe_tup (pa_cons pe_int (pa_cons pe_int pa_nil)))) (wa_cons (PEW.mk (pe_tup (pa_cons pe_int (pa_cons pe_int pa_nil)))) (wa_cons (PEW.mk (pe_tup (pa_cons pe_int (pa_cons pe_int pa_nil)))) (wa_cons (PEW.mk (pe_tup (pa_cons pe_int (pa_cons pe_int pa_nil)))) (wa_cons (PEW.mk (pe_tup (pa_cons pe_int (pa_cons pe_int pa_nil)))) wa_nil))))))))) (PEW.mk (pe_op op_mod (pv 0) pe_int)) (fun _ _ => rfl)))) ?_
  have two : 2 <= sizeLine := by decide
  refine ⟨two, fun t0 h0 => ⟨two, fun t1 h1 => ⟨two, fun t2 h2 => ⟨two, fun t3 h3 => ⟨two, fun t4 h4 => ⟨two, fun t5 h5 => ⟨two, fun t6 h6 => ⟨two, fun t7 h7 => ⟨(by show 8 <= sizeLine; decide), fun l hl => ?_⟩⟩⟩⟩⟩⟩⟩⟩⟩
  have s0 := same_new h0 (HO.tup [V.int 2, V.int 1])
  have s1 := same_new h1 (HO.tup [V.int 2, V.int 2])
  have s2 := same_new h2 (HO.tup [V.int 2, V.int 3])
  have s3 := same_new h3 (HO.tup [V.int 2, V.int 4])
  have s4 := same_new h4 (HO.tup [V.int 3, V.int 1])
  have s5 := same_new h5 (HO.tup [V.int 3, V.int 2])
  have s6 := same_new h6 (HO.tup [V.int 4, V.int 2])
  have s7 := same_new h7 (HO.tup [V.int 10, V.int 1])
  have s8 := same_new hl (HO.lst [V.ref t0, V.ref t1, V.ref t2, V.ref t3, V.ref t4, V.ref t5, V.ref t6, V.ref t7])
  have u7 := s7.trans s8
  have u6 := s6.trans u7
  have u5 := s5.trans u6
  have u4 := s4.trans u5
  have u3 := s3.trans u4
  have u2 := s2.trans u3
  have u1 := s1.trans u2
  have r8 := mod_in (a := c) (b := (8 : Int)) (by decide)
  (refine Obt.ex1 (side_pick (u1 _ _ upd_same) (u2 _ _ upd_same) (u3 _ _ upd_same) (u4 _ _ upd_same) (u5 _ _ upd_same) (u6 _ _ upd_same) (u7 _ _ upd_same) (s8 _ _ upd_same) r8.1 r8.2) fun y h_0 => Obt.and2 h_0 fun ey t_1 => Obt.ex3 t_1 fun t b n h_2 => Obt.and3 h_2 fun e_3 ht hs => ?_; subst e_3; clear h_2 t_1 h_0)
  exact ⟨_, rfl, _, _, rfl, rfl, (by show (0 : Int) < 8; decide), l, _, _, _, rfl, rfl, qL_ upd_same, ey, k t _ b n (s0.trans u1) ht hs⟩
theorem ok_next (F : FunD K "_law_next" "_law_next" s__law_next dV f fd) (z_range : mg "range" = none) (z_len : mg "len" = none) (z_tuple : mg "tuple" = none) : FnOk P w K mg base CX0 1 f fd ["_law_place", "_law_machine_here", "_law_figures_by"] (spNext K) := by
  refine F.ok sc__law_next (fun vs H Q E h => ?_) (fun cdv A outer s H vs Q E hr h => ?_)
  · (refine Obt.ex8 h fun p m l r g many wide ps h_0 => Obt.ex3 h_0 fun fs rows signs h_1 => Obt.and2 h_1 fun e_2 _ => ?_; subst e_2; clear h_1 h_0 h)
    rfl
  (refine Obt.ex8 h fun p m l r g many wide ps h_0 => Obt.ex3 h_0 fun fs rows signs h_1 => Obt.and9 h_1 fun e_2 hp M R hl n1 hps hfs k => ?_; subst e_2; clear h_1 h_0 h)
  obtain ⟨hm, ⟨ras, hr', hA⟩, hg⟩ := M
  have hu := hu_of hr
  refine ⟨_, (pss_cons (ps_set (i := 3) sc__law_next.nd rfl (Or.inr rfl) pe_dnewK)
      (pss_cons (ps_for PassesOwn.never rfl (pi_tup (pv 0)) (pg_name (i := 4) sc__law_next.nd rfl (Or.inl rfl)) (pss_one (ps_for PassesOwn.never rfl (pi_list (pv 2)) (pg_name (i := 5) sc__law_next.nd rfl (Or.inl rfl)) (pss_one (ps_dput hu (pv 3) (pe_ix ix_tup (pe_ix ix_tup (pe_ix ix_tup (pv 1) pe_int (fun _ _ => rfl)) (pv 4) (fun _ _ => rfl)) (pv 5) (fun _ _ => rfl)) pe_bl rfl)))))
      (pss_one (ps_ret (pe_callTy call_tuple_of (by rfl) z_tuple bt_tuple (pa_cons (pe_compI rfl bk__law_next_0 (pi_range1 rfl z_range (pa_cons (pe_callB call_len_seq (by rfl) z_len bt_len (pa_cons (pe_ix ix_tup (pv 1) pe_int (fun _ _ => rfl)) pa_nil)) pa_nil)) (fun _ _ _ _ => (pg_name (i := 0) bk__law_next_0.nd rfl (Or.inl rfl))) (fun _ _ _ _ => (pt_cmp (pc_din hu (pv 0) (pv 1)) (by with_unfolding_all rfl))) (fun _ _ _ _ => (pv 0))) pa_nil)))))), ?_⟩
  refine fun D hD => ?_
  have sD := same_new hD (HO.dK [])
  try dsimp only [gName]
  refine cut_G (t := tFor _ _ _) (fun σ' H' => ∃ (ks : LI) (v1 v2 : OV), σ' = [some (.ref p), some (.ref m), some (.ref l), some (.ref D), v1, v2] /\ Same H H' /\ H' D = some (.dK (kvT ks)) /\ ks.Nodup /\ ∀ q, q ∈ ks ↔ ∃ p ∈ ps, ∃ f ∈ fs, stepI rows p f = q) ?_ (fun D' nxt => ?_)
  rotate_left
  · refine ⟨_, rfl, p, rfl, ⟨_, qT_ (sD _ _ hp)⟩, ?_⟩
    refine for_tup (K := K) (xs := ps.map V.int) (fun i σ' H' => ∃ (ks : LI) (v1 v2 : OV), σ' = [some (.ref p), some (.ref m), some (.ref l), some (.ref D), v1, v2] /\ Same H H' /\ H' D = some (.dK (kvT ks)) /\ ks.Nodup /\ ∀ q, q ∈ ks ↔ ∃ p ∈ ps.take i, ∃ f ∈ fs, stepI rows p f = q)
      ⟨[], none, none, rfl, sD, upd_same, List.Pairwise.nil, fun q => ⟨fun h => (by cases h), fun ⟨_, h, _⟩ => (by cases h)⟩⟩ (fun i σ' H' _ hq0 => by (refine Obt.ex3 hq0 fun _ _ _ h_0 => Obt.and3 h_0 fun _ e _ => ?_; clear h_0 hq0); exact qT_ (e _ _ hp)) ?_ ?_
    · (refine fun i y σ' H2 hi i_0 => Obt.ex3 i_0 fun ks v1 v2 h_1 => Obt.and5 h_1 fun e_2 s2 hD2 nd2 hk2 => ?_; subst e_2; clear h_1 i_0)
      (refine Obt.ex1 (ints_at hi) fun z h_0 => Obt.and2 h_0 fun e_1 hz => ?_; subst e_1; clear h_0)
      (refine Obt.and2 (hps z (mq_ hz)) fun z0 z1 => ?_)
      refine ⟨_, rfl, l, rfl, ⟨_, qL_ (s2 _ _ hl)⟩, ?_⟩
      refine for_list (K := K) (xs := fs.map V.int) (fun j σ' H' => ∃ (ks : LI) (v2 : OV), σ' = [some (.ref p), some (.ref m), some (.ref l), some (.ref D), some (.int z), v2] /\ Same H H' /\ H' D = some (.dK (kvT ks)) /\ ks.Nodup /\ ∀ q, q ∈ ks ↔ (∃ p ∈ ps.take i, ∃ f ∈ fs, stepI rows p f = q) \/ ∃ f ∈ fs.take j, stepI rows z f = q)
        ⟨ks, v2, rfl, s2, hD2, nd2, fun q => ⟨fun h => .inl ((hk2 q).mp h), fun h => by
          rcases h with h | ⟨_, h, _⟩
          · exact (hk2 q).mpr h
          · cases h⟩⟩ (fun j σ' H' _ hq0 => by (refine Obt.ex2 hq0 fun _ _ h_0 => Obt.and3 h_0 fun _ e _ => ?_; clear h_0 hq0); exact qL_ (e _ _ hl)) ?_ ?_
      · (refine fun j y σ' H3 hj i_0 => Obt.ex2 i_0 fun ks v2 h_1 => Obt.and5 h_1 fun e_2 s3 hD3 nd3 hk3 => ?_; subst e_2; clear h_1 i_0)
        (refine Obt.ex1 (ints_at hj) fun fg h_0 => Obt.and2 h_0 fun e_1 hfg => ?_; subst e_1; clear h_0)
        (refine Obt.and2 (hfs fg (mq_ hfg)) fun f0 f1 => ?_)
        (refine Obt.ex2 (row_step (hA.same fun a ys e => s3 _ _ e) R z0 z1 f0 f1) fun ra rr h_0 => Obt.and3 h_0 fun e1 e2 e3 => ?_; clear h_0)
        have kl := few_below many nd3 fun q hq => by
          rcases (hk3 q).mp hq with ⟨p', hp', f', hf', e⟩ | ⟨f', hf', e⟩
          · rw [<- e]
            exact nstep_in R (hps p' (List.mem_of_mem_take hp')).1 (hps p' (List.mem_of_mem_take hp')).2 (hfs f' hf').1 (hfs f' hf').2
          · rw [<- e]
            exact nstep_in R z0 z1 (hfs f' (List.mem_of_mem_take hf')).1 (hfs f' (List.mem_of_mem_take hf')).2
        refine ⟨_, rfl, _, rfl, m, _, _, _, rfl, rfl, qT_ (s3 _ _ hm), rfl, _, rfl, r, _, _, _, rfl, rfl, qT_ (s3 _ _ hr'), e1, _, rfl, ra, _, _, _, rfl, rfl, qT_ e2, e3, D, _, rfl, DPut.k (k := Sum.inl _) hD3 (small1000 (by unfold kvT; rw [lm_]; omega)), ?_⟩
        rw [addK_put nd3]
        refine ⟨_, _, rfl, same_upd s3 hD, upd_same, addK_nd nd3, fun q => ?_⟩
        rw [addK_mem, hk3]
        constructor
        · rintro ((h | ⟨f', hf', e⟩) | h)
          · exact .inl h
          · exact .inr ⟨f', (take_mem hfg).mpr (.inl hf'), e⟩
          · exact .inr ⟨fg, (take_mem hfg).mpr (.inr rfl), h.symm⟩
        · rintro (h | ⟨f', hf', e⟩)
          · exact .inl (.inl h)
          · rcases (take_mem hfg).mp hf' with h | h
            · exact .inl (.inr ⟨f', h, e⟩)
            · rw [h] at e
              exact .inr e.symm
      · (refine fun σ' H3 i_0 => Obt.ex2 i_0 fun ks v2 h_1 => Obt.and5 h_1 fun e_2 s3 hD3 nd3 hk3 => ?_; subst e_2; clear h_1 i_0)
        rw [lm_, List.take_length] at hk3
        refine ⟨ks, _, _, rfl, s3, hD3, nd3, fun q => ?_⟩
        rw [hk3]
        constructor
        · rintro (⟨p', hp', h⟩ | h)
          · exact ⟨p', (take_mem hz).mpr (.inl hp'), h⟩
          · exact ⟨z, (take_mem hz).mpr (.inr rfl), h⟩
        · (refine fun i_0 => Obt.ex1 i_0 fun p' h_1 => Obt.and2 h_1 fun hp' h => ?_; clear h_1 i_0)
          rcases (take_mem hz).mp hp' with h' | h'
          · exact .inl ⟨p', h', h⟩
          · rw [h'] at h
            exact .inr h
    · (refine fun σ' H2 i_0 => Obt.ex3 i_0 fun ks v1 v2 h_1 => Obt.and5 h_1 fun e_2 s2 hD2 nd2 hk2 => ?_; subst e_2; clear h_1 i_0)
      rw [lm_, List.take_length] at hk2
      exact nxt _ _ ⟨ks, v1, v2, rfl, s2, hD2, nd2, hk2⟩
  (refine fun σ' H1 i_0 => Obt.ex3 i_0 fun ks v1 v2 h_1 => Obt.and5 h_1 fun e_2 s1 hD1 nd hks => ?_; subst e_2; clear h_1 i_0)
  have lr : ras.length = many := by rw [hA.length, R.len]
  refine ⟨_, rfl, m, _, _, _, rfl, rfl, qT_ (s1 _ _ hm), rfl, r, _, rfl, .inr (qT_ (s1 _ _ hr')), _, rfl, by omega, by rw [lm_, lr]; omega, ?_⟩
  refine comp_rangeI (fun D i ys H' => Same H1 H' /\ ys = (nextI rows ps fs i).map V.int) (fun D hD => ⟨same_new hD _, rfl⟩) ?_ ?_
  · (refine fun L i ys H2 Qy Qn hL hi hy i_0 => Obt.and2 i_0 fun s2 e_1 => fun ky kn => ?_; subst e_1; clear i_0)
    rw [lm_, lr, Int.toNat_natCast] at hi
    have ln := nextI_len rows ps fs i
    refine ⟨_, rfl, _, rfl, D, _, rfl, DGet.k (k := Sum.inl (0 + (i : Int))) (s2 _ _ hD1), _, rfl, ?_⟩
    rw [kvT_val]
    refine iteD (fun c => ?_) (fun c => ?_)
    · rw [hks, Int.zero_add] at c
      refine ⟨_, rfl, ky _ _ hy (small1000 (by rw [lm_]; omega)) ⟨same_upd s2 hL, ?_⟩⟩
      rw [nextI_succ, if_pos c, List.map_append, Int.zero_add]
      rfl
    · rw [hks, Int.zero_add] at c
      refine kn _ hy ⟨s2, ?_⟩
      rw [nextI_succ, if_neg c, List.append_nil]
  · (refine fun L ys H2 hL hy i_0 => Obt.and2 i_0 fun s2 e_1 => ?_; subst e_1; clear i_0)
    rw [lm_, lr, Int.toNat_natCast] at hy
    refine ⟨L, _, rfl, .inl ⟨qL_ hy, fun T hT => k T _ (s1.trans (s2.trans (same_new hT _))) upd_same⟩⟩
end
def alG (al : List Bool) (q : Nat) : Bool := al.getD q false
theorem alG_set {al : List Bool} {z q : Nat} (hz : z < al.length) : alG (al.set z true) q = if q = z then true else alG al q := by
  unfold alG
  rw [List.getD_eq_getElem?_getD, List.getD_eq_getElem?_getD, List.getElem?_set]
  by_cases e : z = q
  · subst e
    rw [if_pos rfl, if_pos rfl, if_pos hz]
    rfl
  · rw [if_neg e, if_neg (Ne.symm e)]
def Lets (rows : LL) (al : List Bool) (q : Nat) (f : Int) : Prop := alG al (stepI rows (q : Int) f).toNat = true -> alG al q = true
def Closed (rows : LL) (fs : LI) (many : Nat) (al : List Bool) : Prop := ∀ q : Nat, q < many -> ∀ f ∈ fs, Lets rows al q f
def cntA (al : List Bool) : Nat := al.countP id
structure AlOk (rows : LL) (fs gs : LI) (many : Nat) (al : List Bool) : Prop where
  len : al.length = many
  snd : ∀ q : Nat, alG al q = true -> LeadsTo rows fs gs (q : Int)
  gol : ∀ q : Nat, q < many -> (q : Int) ∈ gs -> alG al q = true
def Tri (rows : LL) (fs : LI) (many k z j : Nat) (al : List Bool) : Prop := Closed rows fs many al \/ k + 1 <= cntA al \/ (k <= cntA al /\ (∀ q : Nat, q < z -> ∀ f ∈ fs, Lets rows al q f) /\ ∀ f ∈ fs.take j, Lets rows al z f)
section
variable {rows : LL} {fs gs : LI} {many wide k z j : Nat} {al : List Bool} {fg : Int}
theorem tri_skip (h : Tri rows fs many k z j al) (hj : fs[j]? = some fg) (c : Lets rows al z fg) : Tri rows fs many k z (j + 1) al := by
  rcases h with h | h | ⟨h1, h2, h3⟩
  · exact .inl h
  · exact .inr (.inl h)
  · refine .inr (.inr ⟨h1, h2, fun f hf => ?_⟩)
    rcases (take_mem hj).mp hf with q | q
    · exact h3 f q
    · rw [q]; exact c
theorem al_set (o : AlOk rows fs gs many al) (R : RowsOk many wide rows) (hz : z < many) (hj : fs[j]? = some fg) (hf : 0 <= fg /\ fg < (wide : Int)) (h : Tri rows fs many k z j al) (c : alG al (stepI rows (z : Int) fg).toNat = true) : AlOk rows fs gs many (al.set z true) /\ Tri rows fs many k z (j + 1) (al.set z true) := by
  have hl : z < al.length := by rw [o.len]; exact hz
  cases e : alG al z with
  | true =>
    have es : al.set z true = al := by
      have e1 : al[z] = true := by
        have : alG al z = al[z] := by unfold alG; rw [List.getD_eq_getElem?_getD, List.getElem?_eq_getElem hl]; rfl
        rw [<- this]; exact e
      rw [<- e1]
      exact List.set_getElem_self hl
    rw [es]
    exact ⟨o, tri_skip h hj fun _ => e⟩
  | false =>
    have ec : cntA (al.set z true) = cntA al + 1 := by
      unfold cntA
      have e1 : al[z] = false := by
        have : alG al z = al[z] := by unfold alG; rw [List.getD_eq_getElem?_getD, List.getElem?_eq_getElem hl]; rfl
        rw [<- this]; exact e
      rw [List.countP_set hl, e1]
      simp
    refine ⟨⟨by rw [List.length_set]; exact o.len, fun q hq => ?_, fun q hq hg => ?_⟩, .inr (.inl ?_)⟩
    · rw [alG_set hl] at hq
      by_cases eq : q = z
      · subst eq
        refine LeadsTo.step (mq_ hj) ?_
        have h1 := o.snd _ c
        have h2 := (nstep_in R (show (0 : Int) <= (q : Int) by omega) (by omega) hf.1 hf.2).1
        rw [Int.toNat_of_nonneg h2] at h1
        exact h1
      · rw [if_neg eq] at hq
        exact o.snd q hq
    · rw [alG_set hl]
      by_cases eq : q = z
      · rw [if_pos eq]
      · rw [if_neg eq]; exact o.gol q hq hg
    · rw [ec]
      rcases h with h | h | ⟨h1, _⟩
      · have := h z hz fg (mq_ hj) c
        rw [e] at this
        cases this
      · omega
      · omega
theorem tri_row (h : Tri rows fs many k z fs.length al) : Tri rows fs many k (z + 1) 0 al := by
  rcases h with h | h | ⟨h1, h2, h3⟩
  · exact .inl h
  · exact .inr (.inl h)
  · refine .inr (.inr ⟨h1, fun q hq f hf => ?_, fun f hf => by cases hf⟩)
    rcases Nat.lt_or_ge q z with y | y
    · exact h2 q y f hf
    · have : q = z := by omega
      subst this
      exact h3 f (by rw [List.take_length]; exact hf)
theorem tri_turn (h : Tri rows fs many k many 0 al) : Closed rows fs many al \/ k + 1 <= cntA al := by
  rcases h with h | h | ⟨h1, h2, h3⟩
  · exact .inl h
  · exact .inr h
  · exact .inl h2
theorem al_end (o : AlOk rows fs gs many al) (h : Closed rows fs many al \/ many <= cntA al) : Closed rows fs many al := by
  rcases h with h | h
  · exact h
  · have hc : al.countP id = al.length := Nat.le_antisymm List.countP_le_length (by rw [o.len]; exact h)
    have hall := List.countP_eq_length.mp hc
    intro q hq f hf _
    have hl : q < al.length := by rw [o.len]; exact hq
    have : alG al q = al[q] := by unfold alG; rw [List.getD_eq_getElem?_getD, List.getElem?_eq_getElem hl]; rfl
    rw [this]
    exact hall _ (List.getElem_mem hl)
theorem al_all (o : AlOk rows fs gs many al) (R : RowsOk many wide rows) (hfs : ∀ f ∈ fs, 0 <= f /\ f < (wide : Int)) (h : Closed rows fs many al) : ∀ (row : LI) (q : Nat), q < many -> (∀ f ∈ row, f ∈ fs) -> walkI rows row (q : Int) ∈ gs -> alG al q = true
  | [], q, hq, _, hg => o.gol q hq hg
  | f :: row, q, hq, hr, hg => by
    have hf := hr f List.mem_cons_self
    have st := nstep_in R (show (0 : Int) <= (q : Int) by omega) (by omega) (hfs f hf).1 (hfs f hf).2
    refine h q hq f hf (al_all o R hfs h row _ (by omega) (fun g hg' => hr g (List.mem_cons_of_mem _ hg')) ?_)
    rw [Int.toNat_of_nonneg st.1]
    exact hg
theorem al_iff (o : AlOk rows fs gs many al) (R : RowsOk many wide rows) (hfs : ∀ f ∈ fs, 0 <= f /\ f < (wide : Int)) (h : Closed rows fs many al) (q : Int) (q0 : 0 <= q) (q1 : q < (many : Int)) : al.getD q.toNat false = true ↔ LeadsTo rows fs gs q := by
  (refine Obt.ex1 (nat_of q0) fun n e_0 => ?_; subst e_0)
  rw [Int.toNat_natCast]
  exact ⟨fun e => o.snd n e, fun ⟨row, hr, hg⟩ => al_all o R hfs h row n (by omega) hr hg⟩
end
theorem LeadsTo.congr {rows : LL} {fs fs' gs : LI} {q : Int} (h : ∀ f ∈ fs, f ∈ fs') (l : LeadsTo rows fs gs q) : LeadsTo rows fs' gs q := by
  (refine Obt.ex1 l fun row h_0 => Obt.and2 h_0 fun h1 h2 => ?_; clear h_0 l)
  exact ⟨row, fun f hf => h f (h1 f hf), h2⟩
theorem ixN_nat {n z : Nat} (h : z < n) : ixN n (z : Int) = some z := by
  unfold ixN
  rw [if_pos (by omega), if_pos (by omega), Int.toNat_natCast]
def spAlive (K : PySem.W.Frag) : Sp := fun vs H Q _ => ∃ (m l r g : Addr) (many wide : Nat) (fs : LI) (rows : LL) (signs : LI), vs = [.ref m, .ref l] /\ MachAt H m r g wide rows signs /\ RowsOk many wide rows /\ signs.length = many /\ many <= 400 /\ H l = some (.lst (fs.map V.int)) /\ (∀ f ∈ fs, 0 <= f /\ f < (wide : Int)) /\
  ∀ (L : Addr) (H' : Hp) (al : List Bool), Same H H' -> H' L = some (.lst (al.map V.bl)) -> al.length = many -> (∀ q : Int, 0 <= q -> q < (many : Int) -> (al.getD q.toNat false = true ↔ LeadsTo rows fs (roomsI signs 1 many) q)) -> Q (.ref L) H'
theorem map_setB (al : List Bool) (z : Nat) : (al.map V.bl).set z (V.bl true) = (al.set z true).map V.bl := (List.map_set ..).symm
section
variable {P : Program} {w : World} {K : PySem.W.Frag} {mg : Str -> Option Value} {base : Heap} {f : Addr} {fd : FuncData} {dV : Value}
theorem sc__law_alive : FnScope ["_law_machine_here", "_law_bare", "_law_alive_here", "_law_turn", "_law_q", "_law_f"] ["_law_machine_here", "_law_bare"] (defScope s__law_alive) := ⟨rfl, rfl, rfl, by decide +kernel, rfl, by decide +kernel, by decide +kernel⟩
theorem bk__law_alive_0 : BlkScope ["_law_machine_here", "_law_bare", "_law_alive_here", "_law_turn", "_law_q", "_law_f"] (defScope s__law_alive) ["_law_sign_here"] [none] { kind := ScopeKind.function, names := [(".0", NameKind.local), ("_law_sign_here", NameKind.local)], isGenerator := false, isCoroutine := false, more := [] } := ⟨rfl, by decide +kernel, by decide +kernel, by decide +kernel, by decide +kernel, rfl, by decide +kernel⟩
theorem ok_alive (F : FunD K "_law_alive" "_law_alive" s__law_alive dV f fd) (z_range : mg "range" = none) (z_len : mg "len" = none) : FnOk P w K mg base CX0 1 f fd ["_law_machine_here", "_law_bare"] (spAlive K) := by
  refine F.ok sc__law_alive (fun vs H Q E h => ?_) (fun cdv A outer s H vs Q E hr h => ?_)
  · (refine Obt.ex8 h fun m l r g many wide fs rows h_0 => Obt.ex1 h_0 fun signs h_1 => Obt.and2 h_1 fun e_2 _ => ?_; subst e_2; clear h_1 h_0 h)
    rfl
  (refine Obt.ex8 h fun m l r g many wide fs rows h_0 => Obt.ex1 h_0 fun signs h_1 => Obt.and8 h_1 fun e_2 M R lsg n1 hl hfs k => ?_; subst e_2; clear h_1 h_0 h)
  obtain ⟨hm, ⟨ras, hr', hA⟩, hg⟩ := M
  obtain ⟨gs, egs⟩ : ∃ gs, roomsI signs 1 many = gs := ⟨_, rfl⟩
  refine ⟨_, (pss_cons (ps_setComp (i := 2) rfl sc__law_alive.nd rfl (Or.inl rfl) bk__law_alive_0 (pi_tup (pe_ix ix_tup (pv 0) pe_int (fun _ _ => rfl))) (fun _ _ _ _ => (pg_name (i := 0) bk__law_alive_0.nd rfl (Or.inl rfl))) (fun _ _ _ _ => (pe_cmpR op_eq (pv 0) pe_int (nomark _))))
      (pss_cons (ps_for PassesOwn.never rfl (pi_range1 rfl z_range (pa_cons (pe_callB call_len_seq (by rfl) z_len bt_len (pa_cons (pv 2) pa_nil)) pa_nil)) (pg_name (i := 3) sc__law_alive.nd rfl (Or.inl rfl)) (pss_one (ps_for PassesOwn.never rfl (pi_range1 rfl z_range (pa_cons (pe_callB call_len_seq (by rfl) z_len bt_len (pa_cons (pv 2) pa_nil)) pa_nil)) (pg_name (i := 4) sc__law_alive.nd rfl (Or.inl rfl)) (pss_one (ps_for PassesOwn.never rfl (pi_list (pv 1)) (pg_name (i := 5) sc__law_alive.nd rfl (Or.inl rfl)) (pss_one (ps_if (pt_val (pe_ix ix_list (pv 2) (pe_ix ix_tup (pe_ix ix_tup (pe_ix ix_tup (pv 0) pe_int (fun _ _ => rfl)) (pv 4) (fun _ _ => rfl)) (pv 5) (fun _ _ => rfl)) (fun _ _ => rfl))) (pss_one (ps_asg pe_bl (pg_sub (pv 2) (pv 4) set_list))) pss_nil)))))))
      (pss_one (ps_ret (pv 2))))), ?_⟩
  refine ⟨_, rfl, m, _, _, _, rfl, rfl, qT_ hm, rfl, g, rfl, ⟨_, qT_ hg⟩, ?_⟩
  refine comp_tup (K := K) (xs := signs.map V.int) (fun D i ys H' => Same H H' /\ ys = ((signs.take i).map fun s => decide (V.int s = V.int 1)).map V.bl) (fun D hD => ⟨same_new hD _, rfl⟩) (fun D i ys H' _ hq0 => by (refine Obt.and2 hq0 fun e _ => ?_; clear hq0); exact qT_ (e _ _ hg)) ?_ ?_
  · (refine fun D j y ys H2 Q' hD hj hy i_0 => Obt.and2 i_0 fun s2 e_1 => fun k' => ?_; subst e_1; clear i_0)
    (refine Obt.ex1 (ints_at hj) fun z h_0 => Obt.and2 h_0 fun e_1 hz => ?_; subst e_1; clear h_0)
    have lj := (gi_ hz).1
    refine ⟨_, rfl, rfl, k' _ _ hy (small1000 (by rw [lm_, lm_, List.length_take]; omega)) ⟨same_upd s2 hD, ?_⟩⟩
    rw [List.take_add_one, hz, List.map_append, List.map_append]
    rfl
  (refine fun L ys H1 hL hL1 i_0 => Obt.and2 i_0 fun s1 e_1 => ?_; subst e_1; clear i_0)
  rw [lm_, List.take_length] at hL1
  obtain ⟨al0, ea⟩ : ∃ al0, (signs.map fun s => decide (V.int s = V.int 1)) = al0 := ⟨_, rfl⟩
  rw [ea] at hL1
  have ok0 : AlOk rows fs gs many al0 := by
    have lal : al0.length = many := by rw [<- ea, lm_]; exact lsg
    have ev : ∀ q : Nat, q < many -> (alG al0 q = true ↔ signs.getD q 0 = 1) := fun q hq => by
      have hq' : q < signs.length := by omega
      unfold alG
      rw [<- ea, List.getD_eq_getElem?_getD, List.getElem?_map, List.getElem?_eq_getElem hq', List.getD_eq_getElem?_getD, List.getElem?_eq_getElem hq']
      show decide (V.int signs[q] = V.int 1) = true ↔ signs[q] = 1
      rw [decide_eq_true_iff]
      exact ⟨fun h => V.int.inj h, fun h => by rw [h]⟩
    refine ⟨lal, fun q hq => ?_, fun q hq hg => ?_⟩
    · have hq' : q < many := by
        rcases Nat.lt_or_ge q many with z | z
        · exact z
        · unfold alG at hq
          rw [List.getD_eq_getElem?_getD, List.getElem?_eq_none (by omega)] at hq
          cases hq
      refine LeadsTo.goal ?_
      rw [<- egs]
      exact roomsI_mem.mpr ⟨by omega, by omega, by rw [Int.toNat_natCast]; exact (ev q hq').mp hq⟩
    · rw [<- egs] at hg
      have := (roomsI_mem.mp hg).2.2
      rw [Int.toNat_natCast] at this
      exact (ev q hq).mpr this
  rw [egs] at k
  clear ea
  try dsimp only [gName]
  refine cut_G (t := tFor _ _ _) (fun σ' H' => ∃ (al : List Bool) (v1 v2 v3 : OV), σ' = [some (.ref m), some (.ref l), some (.ref L), v1, v2, v3] /\ Same H H' /\ H' L = some (.lst (al.map V.bl)) /\ AlOk rows fs gs many al /\ (Closed rows fs many al \/ many <= cntA al)) ?_ (fun D' nxt => ?_)
  rotate_left
  · refine ⟨_, rfl, L, _, rfl, .inl (qL_ hL1), _, rfl, by omega, by rw [lm_, ok0.len]; omega, ?_⟩
    refine for_range (fun i σ' H' => ∃ (al : List Bool) (v1 v2 v3 : OV), σ' = [some (.ref m), some (.ref l), some (.ref L), v1, v2, v3] /\ Same H H' /\ H' L = some (.lst (al.map V.bl)) /\ AlOk rows fs gs many al /\ (Closed rows fs many al \/ i <= cntA al)) ⟨al0, none, none, none, rfl, s1, hL1, ok0, .inr (Nat.zero_le _)⟩ ?_ ?_
    · (refine fun i σ' H2 hi i_0 => Obt.ex4 i_0 fun al v1 v2 v3 h_1 => Obt.and5 h_1 fun e_2 s2 hL2 o2 h2 => ?_; subst e_2; clear h_1 i_0)
      refine ⟨_, rfl, L, _, rfl, .inl (qL_ hL2), _, rfl, by omega, by rw [lm_, o2.len]; omega, ?_⟩
      refine for_range (fun z σ' H' => ∃ (al : List Bool) (v2 v3 : OV), σ' = [some (.ref m), some (.ref l), some (.ref L), some (.int (0 + (i : Int))), v2, v3] /\ Same H H' /\ H' L = some (.lst (al.map V.bl)) /\ AlOk rows fs gs many al /\ Tri rows fs many i z 0 al)
        ⟨al, v2, v3, rfl, s2, hL2, o2, by
          rcases h2 with h | h
          · exact .inl h
          · exact .inr (.inr ⟨h, fun q hq => absurd hq (Nat.not_lt_zero _), fun f hf => by cases hf⟩)⟩ ?_ ?_
      · (refine fun z σ' H3 hz i_0 => Obt.ex3 i_0 fun al v2 v3 h_1 => Obt.and5 h_1 fun e_2 s3 hL3 o3 t3 => ?_; subst e_2; clear h_1 i_0)
        rw [lm_, o2.len, Int.toNat_natCast] at hz
        refine ⟨_, rfl, l, rfl, ⟨_, qL_ (s3 _ _ hl)⟩, ?_⟩
        refine for_list (K := K) (xs := fs.map V.int) (fun j σ' H' => ∃ (al : List Bool) (v3 : OV), σ' = [some (.ref m), some (.ref l), some (.ref L), some (.int (0 + (i : Int))), some (.int (0 + (z : Int))), v3] /\ Same H H' /\ H' L = some (.lst (al.map V.bl)) /\ AlOk rows fs gs many al /\ Tri rows fs many i z j al)
          ⟨al, v3, rfl, s3, hL3, o3, t3⟩ (fun j σ' H' _ hq0 => by (refine Obt.ex2 hq0 fun _ _ h_0 => Obt.and3 h_0 fun _ e _ => ?_; clear h_0 hq0); exact qL_ (e _ _ hl)) ?_ ?_
        · (refine fun j y σ' H4 hj i_0 => Obt.ex2 i_0 fun al v3 h_1 => Obt.and5 h_1 fun e_2 s4 hL4 o4 t4 => ?_; subst e_2; clear h_1 i_0)
          (refine Obt.ex1 (ints_at hj) fun fg h_0 => Obt.and2 h_0 fun e_1 hfg => ?_; subst e_1; clear h_0)
          have hf := hfs fg (mq_ hfg)
          have ez : (0 : Int) + (z : Int) = (z : Int) := Int.zero_add _
          (refine Obt.ex2 (row_step (hA.same fun a ys e => s4 _ _ e) R (show (0 : Int) <= (z : Int) by omega) (by omega) hf.1 hf.2) fun ra rr h_0 => Obt.and3 h_0 fun e1 e2 e3 => ?_; clear h_0)
          have st := nstep_in R (show (0 : Int) <= (z : Int) by omega) (by omega) hf.1 hf.2
          rw [<- ez] at e1
          refine ⟨_, rfl, _, rfl, m, _, _, _, rfl, rfl, qT_ (s4 _ _ hm), rfl, _, rfl, r, _, _, _, rfl, rfl, qT_ (s4 _ _ hr'), e1, _, rfl, ra, _, _, _, rfl, rfl, qT_ e2, e3, L, _, _, _, rfl, rfl, qL_ hL4, atI_bls st.1 (by rw [o4.len]; exact st.2), _, rfl, ?_⟩
          cases c : al.getD (stepI rows (z : Int) fg).toNat false with
          | true =>
            refine iteT ⟨_, rfl, _, rfl, L, _, _, z, rfl, rfl, hL4, ?_, ?_⟩
            · rw [lm_, o4.len, ez]
              exact ixN_nat hz
            · (refine Obt.and2 (al_set o4 R hz hfg hf t4 c) fun o5 t5 => ?_)
              exact ⟨al.set z true, _, rfl, same_upd s4 hL, by rw [upd_same, map_setB], o5, t5⟩
          | false =>
            exact iteF ⟨al, _, rfl, s4, hL4, o4, tri_skip t4 hfg fun h => by rw [show alG al (stepI rows (z : Int) fg).toNat = false from c] at h; cases h⟩
        · (refine fun σ' H4 i_0 => Obt.ex2 i_0 fun al v3 h_1 => Obt.and5 h_1 fun e_2 s4 hL4 o4 t4 => ?_; subst e_2; clear h_1 i_0)
          rw [lm_] at t4
          exact ⟨al, _, _, rfl, s4, hL4, o4, tri_row t4⟩
      · (refine fun σ' H3 i_0 => Obt.ex3 i_0 fun al v2 v3 h_1 => Obt.and5 h_1 fun e_2 s3 hL3 o3 t3 => ?_; subst e_2; clear h_1 i_0)
        rw [lm_, o2.len, Int.toNat_natCast] at t3
        exact ⟨al, _, _, _, rfl, s3, hL3, o3, tri_turn t3⟩
    · (refine fun σ' H2 i_0 => Obt.ex4 i_0 fun al v1 v2 v3 h_1 => Obt.and5 h_1 fun e_2 s2 hL2 o2 h2 => ?_; subst e_2; clear h_1 i_0)
      rw [lm_, ok0.len, Int.toNat_natCast] at h2
      exact nxt _ _ ⟨al, v1, v2, v3, rfl, s2, hL2, o2, h2⟩
  (refine fun σ' H2 i_0 => Obt.ex4 i_0 fun al v1 v2 v3 h_1 => Obt.and5 h_1 fun e_2 s2 hL2 o2 h2 => ?_; subst e_2; clear h_1 i_0)
  have cl := al_end o2 h2
  exact ⟨_, rfl, k L _ al s2 hL2 o2.len (al_iff o2 R hfs cl)⟩
end
def figsL (n : Nat) (b lo g : Int) : LI := ((List.range n).filter fun f : Nat => decide (withoutI (f : Int) b lo = g)).map fun f : Nat => (f : Int)
theorem figsL_succ (n : Nat) (b lo g : Int) : figsL (n + 1) b lo g = figsL n b lo g ++ (if withoutI (n : Int) b lo = g then [(n : Int)] else []) := by
  unfold figsL
  rw [List.range_succ, List.filter_append, List.map_append]
  congr 1
  by_cases c : withoutI (n : Int) b lo = g
  · rw [if_pos c, List.filter_cons_of_pos (by exact decide_eq_true c)]; rfl
  · rw [if_neg c, List.filter_cons_of_neg (by rw [decide_eq_false c]; decide)]; rfl
theorem figsL_mem {n : Nat} {b lo g q : Int} : q ∈ figsL n b lo g ↔ (0 <= q /\ q < (n : Int)) /\ withoutI q b lo = g := by
  unfold figsL
  rw [List.mem_map]
  constructor
  · (refine fun i_0 => Obt.ex1 i_0 fun i h_1 => Obt.and2 h_1 fun hi e_2 => ?_; subst e_2; clear h_1 i_0)
    have h := List.mem_filter.mp hi
    have h1 := List.mem_range.mp h.1
    exact ⟨⟨by omega, by omega⟩, of_decide_eq_true h.2⟩
  · (refine fun i_0 => Obt.and2 i_0 fun t_1 h2 => Obt.and2 t_1 fun h0 h1 => ?_; clear t_1 i_0)
    (refine Obt.ex1 (nat_of h0) fun m e_0 => ?_; subst e_0)
    exact ⟨m, List.mem_filter.mpr ⟨List.mem_range.mpr (by omega), decide_eq_true h2⟩, rfl⟩
theorem figsL_len (n : Nat) (b lo g : Int) : (figsL n b lo g).length <= n := by
  unfold figsL
  rw [lm_]
  exact Nat.le_trans (List.length_filter_le _ _) (by simp)
structure ByL (H0 H : Hp) (T : Addr) (las : List Addr) (N i : Nat) (b lo : Int) : Prop where
  at_ : H T = some (.lst (las.map V.ref))
  len : las.length = N
  nd : las.Nodup
  fresh : ∀ a ∈ las, H0 a = none
  lst : ∀ (g : Nat) (la : Addr), las[g]? = some la -> H la = some (.lst ((figsL i b lo (g : Int)).map V.int))
theorem ByL.same {H0 H H' : Hp} {T : Addr} {las : List Addr} {N i : Nat} {b lo : Int} (h : ByL H0 H T las N i b lo) (s : Same H H') : ByL H0 H' T las N i b lo :=
  ⟨s _ _ h.at_, h.len, h.nd, h.fresh, fun g la e => s _ _ (h.lst g la e)⟩
theorem ByL.get {H0 H : Hp} {T : Addr} {las : List Addr} {N i : Nat} {b lo g : Int} (h : ByL H0 H T las N i b lo) (g0 : 0 <= g) (g1 : g < (N : Int)) : ∃ la, las[g.toNat]? = some la /\ atI (las.map V.ref) g = some (.ref la) /\ H la = some (.lst ((figsL i b lo g).map V.int)) := by
  (refine Obt.ex1 (nat_of g0) fun n e_0 => ?_; subst e_0)
  have hn : n < las.length := by rw [h.len]; omega
  have e : las[n]? = some las[n] := List.getElem?_eq_getElem hn
  exact ⟨las[n], e, atI_nat (by rw [List.getElem?_map, e]; rfl), h.lst n _ e⟩
theorem nd_at {las : List Addr} (nd : las.Nodup) {i j : Nat} {a : Addr} (h : las[i]? = some a) (h' : las[j]? = some a) : i = j := by
  (refine Obt.ex1 (gi_ h) fun hi ei => ?_)
  (refine Obt.ex1 (gi_ h') fun hj ej => ?_)
  exact (List.getElem_inj nd).mp (ei.trans ej.symm)
def spByLeft (K : PySem.W.Frag) : Sp := fun vs H Q _ => ∃ (b wide k N : Nat) (M : Int), vs = [.int b, .int wide, .int k] /\ (2 <= b /\ b <= 10) /\ wide <= 100 /\ k <= 100 /\ (wide : Int) = (b : Int) ^ k * b * M /\ (N : Int) = (b : Int) ^ k * M /\
  ∀ (T : Addr) (H' : Hp) (las : List Addr), Same H H' -> ByL H H' T las N wide b ((b : Int) ^ k) -> Q (.ref T) H'
section
variable {P : Program} {w : World} {K : PySem.W.Frag} {mg : Str -> Option Value} {base : Heap} {f : Addr} {fd : FuncData} {dV : Value}
theorem sc__law_by_left : FnScope ["_law_base", "_law_wide_here", "_law_at", "_law_by_left_here", "_law_f"] ["_law_base", "_law_wide_here", "_law_at"] (defScope s__law_by_left) := ⟨rfl, rfl, rfl, by decide +kernel, rfl, by decide +kernel, by decide +kernel⟩
theorem bk__law_by_left_0 : BlkScope ["_law_base", "_law_wide_here", "_law_at", "_law_by_left_here", "_law_f"] (defScope s__law_by_left) ["_law_k"] [none] { kind := ScopeKind.function, names := [(".0", NameKind.local), ("_law_k", NameKind.local)], isGenerator := false, isCoroutine := false, more := [] } := ⟨rfl, by decide +kernel, by decide +kernel, by decide +kernel, by decide +kernel, rfl, by decide +kernel⟩
theorem ok_byLeft (F : FunD K "_law_by_left" "_law_by_left" s__law_by_left dV f fd) (G__law_without : DefOk P w K mg base "_law_without" 1 ["_law_figure", "_law_base", "_law_at"] [] spWithoutL) (z_range : mg "range" = none) : FnOk P w K mg base CX0 2 f fd ["_law_base", "_law_wide_here", "_law_at"] (spByLeft K) := by
  refine F.ok sc__law_by_left (fun vs H Q E h => ?_) (fun cdv A outer s H vs Q E hr h => ?_)
  · (refine Obt.ex5 h fun b wide kk N M h_0 => Obt.and2 h_0 fun e_1 _ => ?_; subst e_1; clear h_0 h)
    rfl
  (refine Obt.ex5 h fun b wide kk N M h_0 => Obt.and7 h_0 fun e_1 t_2 w1 hk ew eN k => Obt.and2 t_2 fun b0 b1 => ?_; subst e_1; clear t_2 h_0 h)
  obtain ⟨lo, elo⟩ : ∃ lo, (b : Int) ^ kk = lo := ⟨_, rfl⟩
  have l0 : 0 < lo := by rw [<- elo]; exact Int.pow_pos (by omega)
  rw [elo] at ew eN k
  have eW : (wide : Int) = (N : Int) * b := by rw [ew, eN, Int.mul_assoc, Int.mul_assoc, Int.mul_comm M]
  have ed : (wide : Int) / (b : Int) = (N : Int) := by rw [eW]; exact Int.mul_ediv_cancel _ (by omega)
  have hN : N <= 100 := by
    have : (N : Int) * 1 <= N * b := Int.mul_le_mul_of_nonneg_left (by omega) (by omega)
    omega
  refine ⟨_, (pss_cons (ps_setComp (i := 3) rfl sc__law_by_left.nd rfl (Or.inl rfl) bk__law_by_left_0 (pi_range1 rfl z_range (pa_cons (pe_op op_fdiv (pv 1) (pv 0)) pa_nil)) (fun _ _ _ _ => (pg_name (i := 0) bk__law_by_left_0.nd rfl (Or.inl rfl))) (fun _ _ _ _ => (pe_lst pa_nil)))
      (pss_cons (ps_for PassesOwn.never rfl (pi_range1 rfl z_range (pa_cons (pv 1) pa_nil)) (pg_name (i := 4) sc__law_by_left.nd rfl (Or.inl rfl)) (pss_one (ps_expr (pe_bm PySem.F.plainAttrs_list PySem.F.slot_list_append PySem.F.type_list_append mt_append (pe_ix ix_list (pv 3) (pe_cd G__law_without hr (pa_cons (pv 4) (pa_cons (pv 0) (pa_cons (pv 2) pa_nil)))) (fun _ _ => rfl)) (pa_cons (pv 4) pa_nil)))))
      (pss_one (ps_ret (pv 3))))), ?_⟩
  refine ⟨_, rfl, _, rfl, _, _, rfl, rfl, ⟨by omega, by omega⟩, _, rfl, by omega, by omega, ?_⟩
  rw [ed, Int.toNat_natCast]
  refine comp_range (fun D i ys H' => Same H H' /\ ∃ las : List Addr, ys = las.map V.ref /\ las.length = i /\ las.Nodup /\ ∀ a ∈ las, a ≠ D /\ H a = none /\ H' a = some (.lst [])) (fun D hD => ⟨same_new hD _, [], rfl, rfl, List.Pairwise.nil, fun a h => by cases h⟩) ?_ ?_
  · (refine fun D i ys H1 Q' hD hi hy i_0 => Obt.and2 i_0 fun s1 t_1 => Obt.ex1 t_1 fun las h_2 => Obt.and4 h_2 fun e_3 hl nd hla => fun k' => ?_; subst e_3; clear h_2 t_1 i_0)
    refine ⟨(by show 0 <= sizeLine; decide), fun L hL => ?_⟩
    have nDL : D ≠ L := ne_of_none hy hL
    have nl : L ∉ las := fun z => by
      have := (hla L z).2.2
      rw [hL] at this
      cases this
    refine k' _ _ (by rw [upd_ne nDL]; exact hy) (small1000 (by rw [lm_]; omega)) ⟨same_upd (s1.trans (same_new hL _)) hD, las ++ [L], by rw [List.map_append]; rfl, by simp [hl], ?_, fun a ha => ?_⟩
    · exact List.nodup_append.mpr ⟨nd, List.pairwise_singleton _ L, fun a ha c hc => by rw [List.mem_singleton.mp hc]; intro z; exact nl (z ▸ ha)⟩
    · rcases ma_.mp ha with z | z
      · have h := hla a z
        have na : a ≠ L := fun e => nl (by rw [<- e]; exact z)
        exact ⟨h.1, h.2.1, by rw [upd_ne h.1, upd_ne na]; exact h.2.2⟩
      · rw [List.mem_singleton.mp z]
        exact ⟨Ne.symm nDL, s1.free hL, by rw [upd_ne (Ne.symm nDL), upd_same]⟩
  (refine fun T ys H1 hT hT1 i_0 => Obt.and2 i_0 fun s1 t_1 => Obt.ex1 t_1 fun las h_2 => Obt.and4 h_2 fun e_3 hl nd hla => ?_; subst e_3; clear h_2 t_1 i_0)
  have B0 : ByL H H1 T las N 0 b lo := ⟨hT1, hl, nd, fun a ha => (hla a ha).2.1, fun g la e => (hla la (mq_ e)).2.2⟩
  refine ⟨_, rfl, _, rfl, by omega, by omega, ?_⟩
  refine for_range (fun i σ' H' => ∃ v, σ' = [some (.int b), some (.int wide), some (.int kk), some (.ref T), v] /\ Same H H' /\ ByL H H' T las N i b lo) ⟨none, rfl, s1, B0⟩ ?_ ?_
  · (refine fun i σ' H2 hi i_0 => Obt.ex1 i_0 fun v h_1 => Obt.and3 h_1 fun e_2 s2 B2 => ?_; subst e_2; clear h_1 i_0)
    rw [Int.toNat_natCast] at hi
    have zi : (0 : Int) + (i : Int) = (i : Int) := Int.zero_add _
    rw [zi]
    refine ⟨_, rfl, _, rfl, _, rfl, _, rfl, (i : Int), (b : Int), kk, rfl, ⟨by omega, by omega⟩, ⟨by omega, by omega⟩, by omega, fun H3 s3 => ?_⟩
    rw [elo]
    (refine Obt.and2 (without_in (f := (i : Int)) (b := (b : Int)) (M := M) l0 (by omega) (by omega) (by rw [<- ew]; omega)) fun g0 g1 => ?_)
    rw [<- eN] at g1
    have B3 := B2.same s3
    (refine Obt.ex1 (B3.get g0 g1) fun la h_0 => Obt.and3 h_0 fun e1 e2 e3 => ?_; clear h_0)
    have ln := figsL_len i b lo (withoutI (i : Int) b lo)
    refine ⟨T, _, _, _, rfl, rfl, qL_ B3.at_, e2, .inl ⟨rfl, _, qL_ e3⟩, _, rfl, la, _, _, rfl, rfl, e3, small1000 (by rw [lm_]; omega), ?_⟩
    have fla : H la = none := B3.fresh la (mq_ e1)
    have nT : T ≠ la := fun z => by
      rw [z] at hT1
      have := B3.at_
      rw [z, e3] at this
      have h1 : ((figsL i b lo (withoutI (i : Int) b lo)).map V.int) = las.map V.ref := by
        have := Option.some.inj this
        injection this
      cases hq : las with
      | nil => rw [hq] at e1; cases e1
      | cons a r =>
        rw [hq] at h1
        cases hf : figsL i b lo (withoutI (i : Int) b lo) with
        | nil => rw [hf] at h1; cases h1
        | cons c d => rw [hf] at h1; cases h1
    refine ⟨_, rfl, same_upd (s2.trans s3) fla, ⟨by rw [upd_ne nT]; exact B3.at_, B3.len, B3.nd, B3.fresh, fun g lb eb => ?_⟩⟩
    by_cases c : lb = la
    · subst c
      have eg := nd_at B3.nd eb e1
      have eg' : (g : Int) = withoutI (i : Int) b lo := by omega
      rw [upd_same, figsL_succ, eg', if_pos rfl, List.map_append]
      rfl
    · rw [upd_ne c, figsL_succ, if_neg (fun z => c ?_), List.append_nil]
      · exact B3.lst g lb eb
      · rw [z, Int.toNat_natCast, eb] at e1
        exact Option.some.inj e1
  · (refine fun σ' H2 i_0 => Obt.ex1 i_0 fun v h_1 => Obt.and3 h_1 fun e_2 s2 B2 => ?_; subst e_2; clear h_1 i_0)
    rw [Int.toNat_natCast] at B2
    exact ⟨_, rfl, k T _ las s2 B2⟩
end
structure Three (H : Hp) (CN CR CC m r g W w1 w2 w3 : Addr) (b many wide : Nat) (lo1 lo2 lo3 : Int) (rows : LL) (signs ks2 ks3 : LI) : Prop where
  at_ : H W = some (.lst [.ref w1, .ref w2, .ref w3])
  one : ∃ k1, NwAt H CN w1 k1 b lo1 /\ RdAt H CR k1 r g
  two : ChAt H CC w2 r b lo2 ks2
  thr : ∃ k3, NwAt H CN w3 k3 b lo3 /\ ChAt H CC k3 r b lo2 ks3
  mach : MachAt H m r g wide rows signs
  rok : RowsOk many wide rows
  sgn : signs.length = many
  few : many <= 20
  bb : 1 <= b /\ b <= 20
  l1 : 0 < lo1 /\ lo1 <= 100000
  l2 : 0 < lo2 /\ lo2 <= 100000
  l3 : 0 < lo3 /\ lo3 <= 100000
theorem Three.same {H H' : Hp} {CN CR CC m r g W w1 w2 w3 : Addr} {b many wide : Nat} {lo1 lo2 lo3 : Int} {rows : LL} {signs ks2 ks3 : LI} (h : Three H CN CR CC m r g W w1 w2 w3 b many wide lo1 lo2 lo3 rows signs ks2 ks3) (s : Same H H') : Three H' CN CR CC m r g W w1 w2 w3 b many wide lo1 lo2 lo3 rows signs ks2 ks3 :=
  ⟨s _ _ h.at_, (let ⟨k, a, b⟩ := h.one; ⟨k, a.same s, b.same s⟩), h.two.same s, (let ⟨k, a, b⟩ := h.thr; ⟨k, a.same s, b.same s⟩), h.mach.same fun a ys e => s _ _ e, h.rok, h.sgn, h.few, h.bb, h.l1, h.l2, h.l3⟩
structure Places (H : Hp) (Pl t1 t2 : Addr) (many : Nat) (p0 : Int) (ps1 ps2 : LI) : Prop where
  at_ : H Pl = some (.lst [.int p0, .ref t1, .ref t2])
  a1 : H t1 = some (.tup (ps1.map V.int))
  a2 : H t2 = some (.tup (ps2.map V.int))
  i0 : 0 <= p0 /\ p0 < (many : Int)
  i1 : ∀ p ∈ ps1, 0 <= p /\ p < (many : Int)
  i2 : ∀ p ∈ ps2, 0 <= p /\ p < (many : Int)
  n1 : ps1.length <= many
  n2 : ps2.length <= many
theorem Places.same {H H' : Hp} {Pl t1 t2 : Addr} {many : Nat} {p0 : Int} {ps1 ps2 : LI} (h : Places H Pl t1 t2 many p0 ps1 ps2) (s : Same H H') : Places H' Pl t1 t2 many p0 ps1 ps2 :=
  ⟨s _ _ h.at_, s _ _ h.a1, s _ _ h.a2, h.i0, h.i1, h.i2, h.n1, h.n2⟩
def winI (ks ps : LI) : Int := if (ps.map fun p => decide (p ∈ ks)).any id = true then 1 else 0
def spAsked (CN CR CC : Addr) : Sp := fun vs H Q _ => ∃ (m r g W w1 w2 w3 Pl t1 t2 Du : Addr) (b many wide : Nat) (lo1 lo2 lo3 : Int) (rows : LL) (signs ks2 ks3 : LI) (p0 : Int) (ps1 ps2 : LI), vs = [.ref W, .ref Pl, .ref Du] /\ Three H CN CR CC m r g W w1 w2 w3 b many wide lo1 lo2 lo3 rows signs ks2 ks3 /\ Places H Pl t1 t2 many p0 ps1 ps2 /\
  H Du = some (.lst [.int (signs.getD p0.toNat 0), .int (winI ks2 ps1), .int (winI ks3 ps2)]) /\ ∀ H' : Hp, Same H H' -> Q (.bl true) H'
def spStepped (CN CR CC : Addr) : Sp := fun vs H Q _ => ∃ (m r g W w1 w2 w3 Pl t1 t2 St Du u1 u2 : Addr) (b many wide : Nat) (lo1 lo2 lo3 : Int) (rows : LL) (signs ks2 ks3 : LI) (p0 s0 s1 s2 : Int) (ps1 ps2 : LI), vs = [.ref W, .ref Pl, .ref St, .ref Du] /\ Three H CN CR CC m r g W w1 w2 w3 b many wide lo1 lo2 lo3 rows signs ks2 ks3 /\ Places H Pl t1 t2 many p0 ps1 ps2 /\
  H St = some (.lst [.int s0, .int s1, .int s2]) /\ H Du = some (.lst [.int (stepI rows p0 (withoutI s0 b lo1)), .ref u1, .ref u2]) /\ H u1 = some (.tup ((nextI rows ps1 (withL s1 b lo2) many).map V.int)) /\ H u2 = some (.tup ((nextI rows ps2 (withL (withoutI s2 b lo3) b lo2) many).map V.int)) /\
  (0 <= withoutI s0 b lo1 /\ withoutI s0 b lo1 < (wide : Int)) /\ (∀ f ∈ withL s1 b lo2, 0 <= f /\ f < (wide : Int)) /\ (∀ f ∈ withL (withoutI s2 b lo3) b lo2, 0 <= f /\ f < (wide : Int)) /\ ∀ H' : Hp, Same H H' -> Q (.bl true) H'
section
variable {P : Program} {w : World} {K : PySem.W.Frag} {mg : Str -> Option Value} {base : Heap} {f : Addr} {fd : FuncData} {dV : Value} {CN CR CC : Addr}
theorem sc__law_asked : FnScope ["_law_walks", "_law_places", "_law_due", "_law_walk", "_law_place", "_law_sign_here"] ["_law_walks", "_law_places", "_law_due"] (defScope s__law_asked) := ⟨rfl, rfl, rfl, by decide +kernel, rfl, by decide +kernel, by decide +kernel⟩
theorem sc__law_stepped : FnScope ["_law_walks", "_law_places", "_law_steps", "_law_due", "_law_k"] ["_law_walks", "_law_places", "_law_steps", "_law_due"] (defScope s__law_stepped) := ⟨rfl, rfl, rfl, by decide +kernel, rfl, by decide +kernel, by decide +kernel⟩
theorem ok_asked (F : FunD K "_law_asked" "_law_asked" s__law_asked dV f fd) (G__law_same : DefOk P w K mg base "_law_same" 3 ["_law_found", "_law_due"] [] spSame1) (GE1_sign : DefMe P w K mg base CN "sign" 2 ["self", "place"] (spNSignR CN CR)) (GE2_sign : DefMe P w K mg base CC "sign" 1 ["self", "place"] (spChSign CC)) (GE3_sign : DefMe P w K mg base CN "sign" 2 ["self", "place"] (spNSignC CN CC)) (z_zip : mg "zip" = none) : FnOk P w K mg base CX0 4 f fd ["_law_walks", "_law_places", "_law_due"] (spAsked CN CR CC) := by
  refine F.ok sc__law_asked (fun vs H Q E h => ?_) (fun cdv A outer s H vs Q E hr h => ?_)
  · (refine Obt.ex8 h fun m r g W w1 w2 w3 Pl h_0 => Obt.ex8 h_0 fun t1 t2 Du b many wide lo1 lo2 h_1 => Obt.ex8 h_1 fun lo3 rows signs ks2 ks3 p0 ps1 ps2 h_2 => Obt.and2 h_2 fun e_3 _ => ?_; subst e_3; clear h_2 h_1 h_0 h)
    rfl
  (refine Obt.ex8 h fun m r g W w1 w2 w3 Pl h_0 => Obt.ex8 h_0 fun t1 t2 Du b many wide lo1 lo2 h_1 => Obt.ex8 h_1 fun lo3 rows signs ks2 ks3 p0 ps1 ps2 h_2 => Obt.and5 h_2 fun e_3 T3 PL hDu k => ?_; subst e_3; clear h_2 h_1 h_0 h)
  refine ⟨_, (pss_cons (ps_for PassesOwn.never rfl (pi_zip3 rfl z_zip (pa_cons (pv 0) (pa_cons (pv 1) (pa_cons (pv 2) pa_nil)))) (pg_tup rfl (pgs_cons (pg_name (i := 3) sc__law_asked.nd rfl (Or.inl rfl)) (pgs_cons (pg_name (i := 4) sc__law_asked.nd rfl (Or.inl rfl)) (pgs_cons (pg_name (i := 5) sc__law_asked.nd rfl (Or.inl rfl)) pgs_nil)))) (pss_one (ps_if (pt_not (pt_val (pe_cd G__law_same hr (pa_cons (pe_alt (pe_me GE1_sign hr (pv 3) (pa_cons (pv 4) pa_nil)) (pe_alt (pe_me GE2_sign hr (pv 3) (pa_cons (pv 4) pa_nil)) (pe_me GE3_sign hr (pv 3) (pa_cons (pv 4) pa_nil)))) (pa_cons (pv 5) pa_nil))))) (pss_one (ps_ret pe_bl)) pss_nil)))
      (pss_one (ps_ret pe_bl))), ?_⟩
  refine ⟨_, rfl, _, rfl, _, rfl, W, Pl, Du, rfl, ⟨_, qL_ T3.at_⟩, ⟨_, qL_ PL.at_⟩, ⟨_, qL_ hDu⟩, ?_⟩
  refine for_zip3 (K := K) (xs := [.ref w1, .ref w2, .ref w3]) (ys := [.int p0, .ref t1, .ref t2]) (zs := [.int (signs.getD p0.toNat 0), .int (winI ks2 ps1), .int (winI ks3 ps2)]) rfl rfl (fun i σ' H' => ∃ v1 v2 v3, σ' = [some (.ref W), some (.ref Pl), some (.ref Du), v1, v2, v3] /\ Same H H') ⟨none, none, none, rfl, fun _ _ e => e⟩ (fun i σ' H' _ hq0 => by (refine Obt.ex3 hq0 fun _ _ _ h_0 => Obt.and2 h_0 fun _ e => ?_; clear h_0 hq0); exact ⟨qL_ (e _ _ T3.at_), qL_ (e _ _ PL.at_), qL_ (e _ _ hDu)⟩) ?_ ?_
  · (refine fun i x y u σ' H1 T hx hy hu i_0 => Obt.ex3 i_0 fun v1 v2 v3 h_1 => Obt.and2 h_1 fun e_2 s1 => fun hT => ?_; subst e_2; clear h_1 i_0)
    have s2 := s1.trans (same_new hT (HO.tup [x, y, u]))
    have T4 := T3.same s2
    have P4 := PL.same s2
    have few := T4.few
    refine ⟨T, [x, y, u], rfl, qT_ upd_same, rfl, x, [y, u], rfl, y, [u], rfl, u, [], rfl, rfl, ?_⟩
    rcases i with _ | _ | _ | i
    · cases hx
      cases hy
      cases hu
      (refine Obt.ex1 T4.one fun k1 h_0 => Obt.and2 h_0 fun t_1 RD => ?_; obtain ⟨dx, hx⟩ := t_1; clear h_0)
      refine .inl ⟨_, rfl, w1, dx, _, rfl, hx, rfl, _, rfl, w1, k1, m, r, g, b, lo1, p0, wide, rows, signs, rfl, ⟨dx, hx⟩, RD, T4.mach, by rw [T4.sgn]; exact P4.i0, ?_⟩
      exact ⟨_, rfl, _, _, rfl, .inl ⟨_, rfl, rfl⟩, _, rfl, iteF ⟨_, _, _, rfl, s2⟩⟩
    · cases hx
      cases hy
      cases hu
      (refine Obt.ex2 T4.two.ob fun dx D h_0 => Obt.and2 h_0 fun hx hD => ?_; clear h_0)
      refine .inr (.inl ⟨_, rfl, w2, dx, _, rfl, hx, rfl, _, rfl, w2, t1, r, b, lo2, ks2, ps1, rfl, T4.two, P4.a1, Nat.le_trans P4.n1 (by omega), fun H5 s5 => ?_⟩)
      exact ⟨_, rfl, _, _, rfl, .inl ⟨_, rfl, rfl⟩, _, rfl, iteF ⟨_, _, _, rfl, s2.trans s5⟩⟩
    · cases hx
      cases hy
      cases hu
      (refine Obt.ex1 T4.thr fun k3 h_0 => Obt.and2 h_0 fun t_1 CH => ?_; obtain ⟨dx, hx⟩ := t_1; clear h_0)
      refine .inr (.inr ⟨_, rfl, w3, dx, _, rfl, hx, rfl, _, rfl, w3, k3, t2, r, b, lo3, b, lo2, ks3, ps2, rfl, ⟨dx, hx⟩, CH, P4.a2, Nat.le_trans P4.n2 (by omega), fun H5 s5 => ?_⟩)
      exact ⟨_, rfl, _, _, rfl, .inl ⟨_, rfl, rfl⟩, _, rfl, iteF ⟨_, _, _, rfl, s2.trans s5⟩⟩
    · cases hx
  · (refine fun σ' H1 i_0 => Obt.ex3 i_0 fun v1 v2 v3 h_1 => Obt.and2 h_1 fun e_2 s1 => ?_; subst e_2; clear h_1 i_0)
    exact k _ s1
theorem ok_stepped (F : FunD K "_law_stepped" "_law_stepped" s__law_stepped dV f fd) (G__law_same : DefOk P w K mg base "_law_same" 3 ["_law_found", "_law_due"] [] spSame1) (GE1_step : DefMe P w K mg base CN "step" 2 ["self", "place", "figure"] (spNStepR CN CR)) (GE2_step : DefMe P w K mg base CC "step" 2 ["self", "place", "figure"] (spChStep CC)) (GE3_step : DefMe P w K mg base CN "step" 3 ["self", "place", "figure"] (spNStepC CN CC)) (z_range : mg "range" = none) (z_len : mg "len" = none) : FnOk P w K mg base CX0 4 f fd ["_law_walks", "_law_places", "_law_steps", "_law_due"] (spStepped CN CR CC) := by
  refine F.ok sc__law_stepped (fun vs H Q E h => ?_) (fun cdv A outer s H vs Q E hr h => ?_)
  · (refine Obt.ex8 h fun m r g W w1 w2 w3 Pl h_0 => Obt.ex8 h_0 fun t1 t2 St Du u1 u2 b many h_1 => Obt.ex8 h_1 fun wide lo1 lo2 lo3 rows signs ks2 ks3 h_2 => Obt.ex6 h_2 fun p0 s0 s1 s2 ps1 ps2 h_3 => Obt.and2 h_3 fun e_4 _ => ?_; subst e_4; clear h_3 h_2 h_1 h_0 h)
    rfl
  (refine Obt.ex8 h fun m r g W w1 w2 w3 Pl h_0 => Obt.ex8 h_0 fun t1 t2 St Du u1 u2 b many h_1 => Obt.ex8 h_1 fun wide lo1 lo2 lo3 rows signs ks2 ks3 h_2 => Obt.ex6 h_2 fun p0 s0 s1 s2 ps1 ps2 h_3 => Obt.and11 h_3 fun e_4 T3 PL hSt hDu hu1 hu2 hw0 hw1 hw2 k => ?_; subst e_4; clear h_3 h_2 h_1 h_0 h)
  refine ⟨_, (pss_cons (ps_for PassesOwn.never rfl (pi_range1 rfl z_range (pa_cons (pe_callB call_len_seq (by rfl) z_len bt_len (pa_cons (pv 0) pa_nil)) pa_nil)) (pg_name (i := 4) sc__law_stepped.nd rfl (Or.inl rfl)) (pss_one (ps_if (pt_not (pt_val (pe_cd G__law_same hr (pa_cons (pe_alt (pe_me GE1_step hr (pe_ix ix_list (pv 0) (pv 4) (fun _ _ => rfl)) (pa_cons (pe_ix ix_list (pv 1) (pv 4) (fun _ _ => rfl)) (pa_cons (pe_ix ix_list (pv 2) (pv 4) (fun _ _ => rfl)) pa_nil))) (pe_alt (pe_me GE2_step hr (pe_ix ix_list (pv 0) (pv 4) (fun _ _ => rfl)) (pa_cons (pe_ix ix_list (pv 1) (pv 4) (fun _ _ => rfl)) (pa_cons (pe_ix ix_list (pv 2) (pv 4) (fun _ _ => rfl)) pa_nil))) (pe_me GE3_step hr (pe_ix ix_list (pv 0) (pv 4) (fun _ _ => rfl)) (pa_cons (pe_ix ix_list (pv 1) (pv 4) (fun _ _ => rfl)) (pa_cons (pe_ix ix_list (pv 2) (pv 4) (fun _ _ => rfl)) pa_nil))))) (pa_cons (pe_ix ix_list (pv 3) (pv 4) (fun _ _ => rfl)) pa_nil))))) (pss_one (ps_ret pe_bl)) pss_nil)))
      (pss_one (ps_ret pe_bl))), ?_⟩
  refine ⟨_, rfl, W, _, rfl, .inl (qL_ T3.at_), _, rfl, (by show -(2 ^ 62 : Int) <= 3; decide), (by show (3 : Int) < 2 ^ 62; decide), ?_⟩
  refine for_range (fun i σ' H' => ∃ v1, σ' = [some (.ref W), some (.ref Pl), some (.ref St), some (.ref Du), v1] /\ Same H H') ⟨none, rfl, fun _ _ e => e⟩ ?_ ?_
  · (refine fun i σ' H1 hi i_0 => Obt.ex1 i_0 fun v1 h_1 => Obt.and2 h_1 fun e_2 q1 => ?_; subst e_2; clear h_1 i_0)
    have T4 := T3.same q1
    have P4 := PL.same q1
    have few := T4.few
    have bb := T4.bb
    have hS4 := q1 _ _ hSt
    have hD4 := q1 _ _ hDu
    have n1 := nextI_len rows ps1 (withL s1 b lo2) many
    have n2 := nextI_len rows ps2 (withL (withoutI s2 b lo3) b lo2) many
    rcases i with _ | _ | _ | i
    · (refine Obt.ex1 T4.one fun k1 h_0 => Obt.and2 h_0 fun t_1 RD => ?_; obtain ⟨dx, hx⟩ := t_1; clear h_0)
      refine .inl ⟨_, rfl, _, rfl, W, _, _, _, rfl, rfl, qL_ T4.at_, rfl, w1, dx, _, rfl, hx, rfl, _, rfl, _, rfl, Pl, _, _, _, rfl, rfl, qL_ P4.at_, rfl, _, rfl, _, rfl, St, _, _, _, rfl, rfl, qL_ hS4, rfl, w1, k1, m, r, g, b, lo1, p0, s0, many, wide, rows, signs, rfl, ⟨dx, hx⟩, RD, T4.mach, T4.rok, P4.i0, ⟨by omega, by omega⟩, T4.l1, hw0, ?_⟩
      exact ⟨_, rfl, _, rfl, Du, _, _, _, rfl, rfl, qL_ hD4, rfl, _, _, rfl, .inl ⟨_, rfl, rfl⟩, _, rfl, iteF ⟨_, rfl, q1⟩⟩
    · (refine Obt.ex2 T4.two.ob fun dx D h_0 => Obt.and2 h_0 fun hx hD => ?_; clear h_0)
      refine .inr (.inl ⟨_, rfl, _, rfl, W, _, _, _, rfl, rfl, qL_ T4.at_, rfl, w2, dx, _, rfl, hx, rfl, _, rfl, _, rfl, Pl, _, _, _, rfl, rfl, qL_ P4.at_, rfl, _, rfl, _, rfl, St, _, _, _, rfl, rfl, qL_ hS4, rfl, w2, t1, m, r, g, b, many, wide, lo2, s1, ks2, ps1, rows, signs, rfl, T4.two, T4.mach, T4.rok, by omega, P4.a1, Nat.le_trans P4.n1 few, P4.i1, bb, T4.l2, hw1, fun T5 H5 q5 hT5 => ?_⟩)
      exact ⟨_, rfl, _, rfl, Du, _, _, _, rfl, rfl, qL_ (q5 _ _ hD4), rfl, _, _, rfl, .inr ⟨_, _, _, rfl, rfl, hT5, (q1.trans q5) _ _ hu1, by omega⟩, _, rfl, iteF ⟨_, rfl, q1.trans q5⟩⟩
    · (refine Obt.ex1 T4.thr fun k3 h_0 => Obt.and2 h_0 fun t_1 CH => ?_; obtain ⟨dx, hx⟩ := t_1; clear h_0)
      refine .inr (.inr ⟨_, rfl, _, rfl, W, _, _, _, rfl, rfl, qL_ T4.at_, rfl, w3, dx, _, rfl, hx, rfl, _, rfl, _, rfl, Pl, _, _, _, rfl, rfl, qL_ P4.at_, rfl, _, rfl, _, rfl, St, _, _, _, rfl, rfl, qL_ hS4, rfl, w3, k3, t2, m, r, g, b, many, wide, lo3, lo2, s2, ks3, ps2, rows, signs, rfl, ⟨dx, hx⟩, CH, T4.mach, T4.rok, by omega, P4.a2, Nat.le_trans P4.n2 few, P4.i2, bb, T4.l3, T4.l2, hw2, fun T5 H5 q5 hT5 => ?_⟩)
      exact ⟨_, rfl, _, rfl, Du, _, _, _, rfl, rfl, qL_ (q5 _ _ hD4), rfl, _, _, rfl, .inr ⟨_, _, _, rfl, rfl, hT5, (q1.trans q5) _ _ hu2, by omega⟩, _, rfl, iteF ⟨_, rfl, q1.trans q5⟩⟩
    · exact absurd hi (by show ¬ (i + 1 + 1 + 1 < 3); omega)
  · (refine fun σ' H1 i_0 => Obt.ex1 i_0 fun v1 h_1 => Obt.and2 h_1 fun e_2 q1 => ?_; subst e_2; clear h_1 i_0)
    exact k _ q1
end
structure Sz (b n wd N into at_ over : Nat) : Prop where
  hb : 2 <= b /\ b <= 10
  hn : 1 <= n /\ n <= 4
  w16 : 1 <= wd /\ wd <= 16
  n16 : 1 <= N /\ N <= 16
  ew : (b : Int) ^ n = (wd : Int)
  ed : (wd : Int) / (b : Int) = (N : Int)
  e1 : (wd : Int) * (b : Int) = (b : Int) ^ into * (b : Int) * (b : Int) ^ (n - into)
  f1 : (wd : Int) = (b : Int) ^ into * (b : Int) ^ (n - into)
  e2 : (wd : Int) = (b : Int) ^ at_ * (b : Int) * (b : Int) ^ (n - 1 - at_)
  f2 : (N : Int) = (b : Int) ^ at_ * (b : Int) ^ (n - 1 - at_)
  e3 : (wd : Int) = (b : Int) ^ over * (b : Int) * (b : Int) ^ (n - 1 - over)
  f3 : (N : Int) = (b : Int) ^ over * (b : Int) ^ (n - 1 - over)
  l1 : 0 < (b : Int) ^ into /\ (b : Int) ^ into <= 100000
  l2 : 0 < (b : Int) ^ at_ /\ (b : Int) ^ at_ <= 100000
  l3 : 0 < (b : Int) ^ over /\ (b : Int) ^ over <= 100000
  n1 : into <= n
  n2 : at_ < n
  n3 : over < n
theorem sz_mk {b n into at_ over : Nat} (h : SideOk b n) (h1 : into <= n) (h2 : at_ < n) (h3 : over < n) : Sz b n (b ^ n) (b ^ (n - 1)) into at_ over := by
  (refine Obt.and3 h fun hb hn h16 => ?_; clear h)
  have b0 : 0 < b := by omega
  have cst : ∀ k : Nat, ((b ^ k : Nat) : Int) = (b : Int) ^ k := fun k => by push_cast; rfl
  have low : ∀ k : Nat, k <= n -> b ^ k <= 16 := fun k hk => Nat.le_trans (Nat.pow_le_pow_right b0 hk) h16
  have lowI : ∀ k : Nat, k <= n -> 0 < (b : Int) ^ k /\ (b : Int) ^ k <= 100000 := fun k hk => by
    have := low k hk
    rw [<- cst k]
    exact ⟨by have := Nat.pow_pos (n := k) b0; omega, by omega⟩
  have pw : ∀ k : Nat, k < n -> (b : Int) ^ n = (b : Int) ^ k * (b : Int) * (b : Int) ^ (n - 1 - k) := fun k hk => by
    rw [<- Int.pow_succ, <- Int.pow_add]
    congr 1
    omega
  have pm : ∀ k : Nat, k < n -> (b : Int) ^ (n - 1) = (b : Int) ^ k * (b : Int) ^ (n - 1 - k) := fun k hk => by
    rw [<- Int.pow_add]
    congr 1
    omega
  have ps : (b : Int) ^ n = (b : Int) ^ (n - 1) * (b : Int) := by
    rw [<- Int.pow_succ]
    congr 1
    omega
  refine ⟨hb, hn, ⟨Nat.pow_pos b0, h16⟩, ⟨Nat.pow_pos b0, low _ (by omega)⟩, (cst n).symm, ?_, ?_, ?_, ?_, ?_, ?_, ?_, lowI _ h1, lowI _ (by omega), lowI _ (by omega), h1, h2, h3⟩
  · rw [cst, cst, ps]
    exact Int.mul_ediv_cancel _ (by omega)
  · rw [cst, Int.mul_assoc, Int.mul_comm (b : Int) ((b : Int) ^ (n - into)), <- Int.mul_assoc, <- Int.pow_add]
    congr 2
    omega
  · rw [cst, <- Int.pow_add]
    congr 1
    omega
  · rw [cst]; exact pw at_ h2
  · rw [cst]; exact pm at_ h2
  · rw [cst]; exact pw over h3
  · rw [cst]; exact pm over h3
theorem made_same {H H' : Hp} {C x dx : Addr} (hx : H x = none) (hd : H dx = none) (k : ∀ c u, c ≠ x -> (upd (upd H dx (HO.own x)) x (HO.ins C dx [])) c = some u -> H' c = some u) : Same H H' := fun c u e =>
  k c u (ne_of_none e hx) (by rw [upd_ne (ne_of_none e hx), upd_ne (ne_of_none e hd)]; exact e)
theorem made_at {H : Hp} {C x dx a : Addr} {o : HO} (hx : H x = none) (hd : H dx = none) (e : H a = some o) : (upd (upd H dx (HO.own x)) x (HO.ins C dx [])) a = some o := by
  rw [upd_ne (ne_of_none e hx), upd_ne (ne_of_none e hd)]; exact e
theorem MachAt.made {H : Hp} {C x dx m r g : Addr} {wide : Nat} {rows : LL} {signs : LI} (M : MachAt H m r g wide rows signs) (hx : H x = none) (hd : H dx = none) : MachAt (upd (upd H dx (HO.own x)) x (HO.ins C dx [])) m r g wide rows signs :=
  M.same fun a ys e => made_at hx hd e
theorem NwAt.lst {H : Hp} {C x wk W : Addr} {b lo : Int} {xs ys : List V} (h : NwAt H C x wk b lo) (hW : H W = some (.lst xs)) : NwAt (upd H W (.lst ys)) C x wk b lo := by
  (refine Obt.ex1 h.ob fun dx h1 => ?_)
  exact ⟨dx, by rw [upd_ne (ne_of h1 hW (by intro z; cases z))]; exact h1⟩
theorem RdAt.lst {H : Hp} {C x r g W : Addr} {xs ys : List V} (h : RdAt H C x r g) (hW : H W = some (.lst xs)) : RdAt (upd H W (.lst ys)) C x r g := by
  (refine Obt.ex1 h.ob fun dx h1 => ?_)
  exact ⟨dx, by rw [upd_ne (ne_of h1 hW (by intro z; cases z))]; exact h1⟩
theorem ChAt.lst {H : Hp} {C x r W : Addr} {b lo : Int} {ks : LI} {xs ys : List V} (h : ChAt H C x r b lo ks) (hW : H W = some (.lst xs)) : ChAt (upd H W (.lst ys)) C x r b lo ks := by
  (refine Obt.ex2 h.ob fun dx D h_0 => Obt.and2 h_0 fun h1 h2 => ?_; clear h_0)
  exact ⟨dx, D, by rw [upd_ne (ne_of h1 hW (by intro z; cases z))]; exact h1, by rw [upd_ne (ne_of h2 hW (by intro z; cases z))]; exact h2⟩
theorem MachAt.lst {H : Hp} {m r g W : Addr} {wide : Nat} {rows : LL} {signs : LI} {xs ys : List V} (M : MachAt H m r g wide rows signs) (hW : H W = some (.lst xs)) : MachAt (upd H W (.lst ys)) m r g wide rows signs :=
  M.same fun a zs e => by rw [upd_ne (ne_of e hW (by intro z; cases z))]; exact e
theorem win_alive {ks : LI} {al : List Bool} : ∀ {ps : LI}, (∀ p ∈ ps, p ∈ ks ↔ al.getD p.toNat false = true) -> winI ks ps = aliveI al ps
  | [], _ => rfl
  | p :: ps, h => by
    have ih := win_alive (ps := ps) fun q hq => h q (List.mem_cons_of_mem _ hq)
    have hp := h p List.mem_cons_self
    unfold winI at ih ⊢
    cases c : al.getD p.toNat false with
    | true =>
      have e : aliveI al (p :: ps) = 1 := if_pos c
      rw [e, if_pos]
      have : decide (p ∈ ks) = true := decide_eq_true (hp.mpr c)
      simp [this]
    | false =>
      have hn : decide (p ∈ ks) = false := decide_eq_false fun z => by rw [hp.mp z] at c; cases c
      rw [aliveI_cons c, <- ih]
      simp [hn]
theorem wins_alive {rows : LL} {signs : LI} {lo M : Int} {b many wide : Nat} {ks : LI} {al : List Bool} (W : Wins rows signs lo b many ks) (l0 : 0 < lo) (b0 : 0 < b) (ew : (wide : Int) = lo * b * M) (M0 : 0 < M)
    (ha : ∀ q : Int, 0 <= q -> q < (many : Int) -> (al.getD q.toNat false = true ↔ LeadsTo rows (figsL wide b lo 0) (roomsI signs 1 many) q)) {ps : LI} (hp : ∀ p ∈ ps, 0 <= p /\ p < (many : Int)) : winI ks ps = aliveI al ps := by
  have fm : ∀ f, f ∈ bareI lo b ↔ f ∈ figsL wide b lo 0 := fun f => by
    rw [bare_with, withL_mem (M := M) l0 b0 (Int.le_refl 0) (Int.mul_pos l0 M0), figsL_mem, ew]
  refine win_alive fun p h => ?_
  (refine Obt.and2 (hp p h) fun p0 p1 => ?_)
  rw [ha p p0 p1]
  exact ⟨fun z => (W.2.1 p z).2.congr fun f hf => (fm f).mp hf, fun z => W.2.2 p p0 p1 (z.congr fun f hf => (fm f).mpr hf)⟩
theorem next_same {rows : LL} {lo M g : Int} {b many wide : Nat} {ps : LI} (l0 : 0 < lo) (b0 : 0 < b) (ew : (wide : Int) = lo * b * M) (g0 : 0 <= g) (g1 : g < lo * M) : nextI rows ps (figsL wide b lo g) many = nextI rows ps (withL g b lo) many :=
  nextI_congr fun f => by rw [withL_mem (M := M) l0 b0 g0 g1, figsL_mem, ew]
theorem figs_in {wide : Nat} {b lo g : Int} : ∀ f ∈ figsL wide b lo g, 0 <= f /\ f < (wide : Int) := fun f hf => (figsL_mem.mp hf).1
theorem withL_in {lo M g : Int} {b wide : Nat} (l0 : 0 < lo) (b0 : 0 < b) (ew : (wide : Int) = lo * b * M) (g0 : 0 <= g) (g1 : g < lo * M) : ∀ f ∈ withL g b lo, 0 <= f /\ f < (wide : Int) := fun f hf => by
  rw [ew]
  exact ((withL_mem (M := M) l0 b0 g0 g1).mp hf).1
theorem for_listG {K : PySem.W.Frag} {a : Addr} {xs : List V} {g : TG} {tb : TS} {D : Ends} {σ : St} {H : Hp} (Pv : Nat -> St -> Hp -> Prop) (h0 : Pv 0 σ H) (hl : ∀ i σ H, i <= xs.length -> Pv i σ H -> SqL K H a xs)
    (hs : ∀ i x σ H (D' : Ends), xs[i]? = some x -> Pv i σ H -> (∀ σ' H', Pv (i + 1) σ' H' -> D'.nx σ' H') -> g x σ H fun σ2 H2 => tb D' σ2 H2) (hd : ∀ σ H, Pv xs.length σ H -> D.nx σ H) :
    ∃ W : Nat -> Nat -> St -> Hp -> Prop, (∃ m, W 0 m σ H) /\ ∀ i m σ H, W i m σ H ->
      ((Itl K a).stop i H /\ D.nx σ H) \/ ((Itl K a).go i H /\ ∃ N : St -> Hp -> Prop, (∀ σ' H', N σ' H' -> ∃ m', m' < m /\ W (i + 1) m' σ' H') /\ ∀ x H', (Itl K a).yld i H x H' -> g x σ H' fun σ2 H2 => tb { D with nx := N, ct := N, bk := D.nx } σ2 H2) :=
  for_list Pv h0 hl (fun i x σ H hx p => hs i x σ H _ hx p fun _ _ h => h) hd
def spLaw (K : PySem.W.Frag) : Sp := fun vs H Q _ => ∃ (a : Addr) (ns : LI), vs = [.ref a] /\ SqL K H a (ns.map V.int) /\ ns.length <= 63 /\ ∀ H', Q (.bl true) H'
section
variable {P : Program} {w : World} {K : PySem.W.Frag} {mg : Str -> Option Value} {base : Heap} {f : Addr} {fd : FuncData} {dV : Value} {CN CR CC CK : Addr}
theorem sc_law : FnScope ["_law_script", "_law_base", "_law_many", "_law_wide_here", "_law_machine_here", "_law_into", "_law_at", "_law_over", "_law_walks", "_law_walk", "_law_by_left_here", "_law_alive_here", "_law_places", "_law_first", "_law_cell", "_law_due", "_law_steps", "_law_ahead", "_law_last"] ["_law_script"] (defScope s_law) := ⟨rfl, rfl, rfl, by decide +kernel, rfl, by decide +kernel, by decide +kernel⟩
theorem ok_law (F : FunD K "law" "law" s_law dV f fd)
    (GM_Narrowing : DefMk P w K mg base "Narrowing" CN 2 ["self", "walk", "base", "at"] (spNInit CN)) (GM_Reading : DefMk P w K mg base "Reading" CR 1 ["self", "machine"] (spRInit CR)) (GM_Choosing : DefMk P w K mg base "Choosing" CC 2 ["self", "machine", "base", "at"] (spChInit CC))
    (G__law_number : DefOk P w K mg base "_law_number" 1 ["_law_script", "_law_k"] [] (spNum K)) (G__law_sides : DefOk P w K mg base "_law_sides" 1 ["_law_number_here"] [] spSides) (G__law_wide : DefOk P w K mg base "_law_wide" 1 ["_law_base", "_law_many"] [] spWideP)
    (G__law_machine : DefOk P w K mg base "_law_machine" 2 ["_law_script", "_law_start", "_law_wide_here", "_law_many"] [] (spMachC K)) (G__law_by_left : DefOk P w K mg base "_law_by_left" 2 ["_law_base", "_law_wide_here", "_law_at"] [] (spByLeft K)) (G__law_alive : DefOk P w K mg base "_law_alive" 1 ["_law_machine_here", "_law_bare"] [] (spAlive K))
    (G__law_one_alive : DefOk P w K mg base "_law_one_alive" 1 ["_law_place", "_law_alive_here"] [] (spOneAlive K)) (G__law_without : DefOk P w K mg base "_law_without" 1 ["_law_figure", "_law_base", "_law_at"] [] spWithoutL) (G__law_next : DefOk P w K mg base "_law_next" 1 ["_law_place", "_law_machine_here", "_law_figures_by"] [] (spNext K))
    (G__law_asked : DefOk P w K mg base "_law_asked" 4 ["_law_walks", "_law_places", "_law_due"] [] (spAsked CN CR CC)) (G__law_stepped : DefOk P w K mg base "_law_stepped" 4 ["_law_walks", "_law_places", "_law_steps", "_law_due"] [] (spStepped CN CR CC)) (G__law_same : DefOk P w K mg base "_law_same" 4 ["_law_found", "_law_due"] [] spSame2)
    (GE1_begin : DefMe P w K mg base CN "begin" 2 ["self"] (spNBeginR CN CR)) (GE2_begin : DefMe P w K mg base CC "begin" 1 ["self"] spChBegin) (GE3_begin : DefMe P w K mg base CN "begin" 2 ["self"] (spNBeginC CN CC))
    (g_Walk : mg "Walk" = some (.ref CK)) (tyN : ∀ {H : Hp} {a dx : Addr} {fs : List (Str × V)}, H a = some (.ins CN dx fs) -> TyOf K H (.ref a) (.ref CN)) (tyC : ∀ {H : Hp} {a dx : Addr} {fs : List (Str × V)}, H a = some (.ins CC dx fs) -> TyOf K H (.ref a) (.ref CC))
    (kk1 : PySem.W.kitOne K (.ref CN) (.ref CK) = some true) (kk2 : PySem.W.kitOne K (.ref CC) (.ref CK) = some true) (z_isinstance : mg "isinstance" = none) : FnOk P w K mg base CX0 5 f fd ["_law_script"] (spLaw K) := by
  refine F.ok sc_law (fun vs H Q E h => ?_) (fun cdv A outer s H vs Q E hr h => ?_)
  · (refine Obt.ex2 h fun a ns h_0 => Obt.and2 h_0 fun e_1 _ => ?_; subst e_1; clear h_0 h)
    rfl
  (refine Obt.ex2 h fun a ns h_0 => Obt.and4 h_0 fun e_1 hS h63 k => ?_; subst e_1; clear h_0 h)
  refine body_w (ws_cons (PSW.mk (ps_asg (pe_cd G__law_sides hr (pa_cons (pe_cd G__law_number hr (pa_cons (pv 0) (pa_cons pe_int pa_nil))) pa_nil)) (pg_tup rfl (pgs_cons (pg_name (i := 1) sc_law.nd rfl (Or.inl rfl)) (pgs_cons (pg_name (i := 2) sc_law.nd rfl (Or.inl rfl)) pgs_nil)))))
      (ws_cons (PSW.mk (ps_set (i := 3) sc_law.nd rfl (Or.inl rfl) (pe_cd G__law_wide hr (pa_cons (pv 1) (pa_cons (pv 2) pa_nil)))))
      (ws_cons (PSW.mk (ps_set (i := 4) sc_law.nd rfl (Or.inl rfl) (pe_cd G__law_machine hr (pa_cons (pv 0) (pa_cons pe_int (pa_cons (pv 3) (pa_cons (pe_op op_add pe_int (pe_op op_mod (pe_cd G__law_number hr (pa_cons (pv 0) (pa_cons pe_int pa_nil))) pe_int)) pa_nil)))))))
      (ws_cons (PSW.mk (ps_set (i := 5) sc_law.nd rfl (Or.inl rfl) (pe_op op_mod (pe_cd G__law_number hr (pa_cons (pv 0) (pa_cons pe_int pa_nil))) (pe_op op_add (pv 2) pe_int))))
      (ws_cons (PSW.mk (ps_set (i := 6) sc_law.nd rfl (Or.inl rfl) (pe_op op_mod (pe_cd G__law_number hr (pa_cons (pv 0) (pa_cons pe_int pa_nil))) (pv 2))))
      (ws_cons (PSW.mk (ps_set (i := 7) sc_law.nd rfl (Or.inl rfl) (pe_op op_mod (pe_op op_fdiv (pe_cd G__law_number hr (pa_cons (pv 0) (pa_cons pe_int pa_nil))) pe_int) (pv 2))))
      (ws_cons (w_set (i := 8) sc_law.nd rfl (Or.inl rfl) (w_lst (wa_cons (PEW.mk (pe_mko GM_Narrowing hr (pa_cons (pe_mko GM_Reading hr (pa_cons (pv 4) pa_nil)) (pa_cons (pv 1) (pa_cons (pv 5) pa_nil))))) (wa_cons (PEW.mk (pe_mko GM_Choosing hr (pa_cons (pv 4) (pa_cons (pv 1) (pa_cons (pv 6) pa_nil))))) wa_nil))))
      (ws_cons (PSW.mk (ps_expr (pe_bm PySem.F.plainAttrs_list PySem.F.slot_list_append PySem.F.type_list_append mt_append (pv 8) (pa_cons (pe_mko GM_Narrowing hr (pa_cons (pe_mko GM_Choosing hr (pa_cons (pv 4) (pa_cons (pv 1) (pa_cons (pv 6) pa_nil)))) (pa_cons (pv 1) (pa_cons (pv 7) pa_nil)))) pa_nil))))
      (ws_cons (PSW.mk (ps_for PassesOwn.never rfl (pi_list (pv 8)) (pg_name (i := 9) sc_law.nd rfl (Or.inl rfl)) (pss_one (ps_if (pt_not (pt_val (pe_callB call_isO (by rfl) z_isinstance bt_isinstance (pa_cons (pv 9) (pa_cons (pe_glob (v := .ref _) rfl g_Walk rfl) pa_nil))))) (pss_one (ps_ret pe_bl)) pss_nil))))
      (ws_cons (PSW.mk (ps_set (i := 10) sc_law.nd rfl (Or.inl rfl) (pe_cd G__law_by_left hr (pa_cons (pv 1) (pa_cons (pv 3) (pa_cons (pv 6) pa_nil))))))
      (ws_cons (PSW.mk (ps_set (i := 11) sc_law.nd rfl (Or.inl rfl) (pe_cd G__law_alive hr (pa_cons (pv 4) (pa_cons (pe_ix ix_list (pv 10) pe_int (fun _ _ => rfl)) pa_nil)))))
      (ws_cons (PSW.mk (ps_set (i := 12) sc_law.nd rfl (Or.inl rfl) (pe_lst (pa_cons pe_int (pa_cons (pe_tup (pa_cons pe_int pa_nil)) (pa_cons (pe_tup (pa_cons pe_int pa_nil)) pa_nil))))))
      (ws_cons (w_set (i := 13) sc_law.nd rfl (Or.inl rfl) (w_lst (wa_cons (PEW.mk (pe_ix ix_tup (pe_ix ix_tup (pv 4) pe_int (fun _ _ => rfl)) pe_int (fun _ _ => rfl))) (wa_cons (PEW.mk (pe_cd G__law_one_alive hr (pa_cons (pe_tup (pa_cons pe_int pa_nil)) (pa_cons (pv 11) pa_nil)))) (wa_cons (PEW.mk (pe_cd G__law_one_alive hr (pa_cons (pe_tup (pa_cons pe_int pa_nil)) (pa_cons (pv 11) pa_nil)))) wa_nil)))))
      (ws_cons (w_for PassesOwn.never rfl (pi_list (pv 0)) (pg_name (i := 14) sc_law.nd rfl (Or.inl rfl)) (ws_cons (w_set (i := 15) sc_law.nd rfl (Or.inl rfl) (w_lst (wa_cons (PEW.mk (pe_ix ix_tup (pe_ix ix_tup (pv 4) pe_int (fun _ _ => rfl)) (pe_ix ix_list (pv 12) pe_int (fun _ _ => rfl)) (fun _ _ => rfl))) (wa_cons (PEW.mk (pe_cd G__law_one_alive hr (pa_cons (pe_ix ix_list (pv 12) pe_int (fun _ _ => rfl)) (pa_cons (pv 11) pa_nil)))) (wa_cons (PEW.mk (pe_cd G__law_one_alive hr (pa_cons (pe_ix ix_list (pv 12) pe_int (fun _ _ => rfl)) (pa_cons (pv 11) pa_nil)))) wa_nil)))))
      (ws_cons (PSW.mk (ps_if (pt_not (pt_val (pe_cd G__law_asked hr (pa_cons (pv 8) (pa_cons (pv 12) (pa_cons (pv 15) pa_nil)))))) (pss_one (ps_ret pe_bl)) pss_nil))
      (ws_cons (w_set (i := 16) sc_law.nd rfl (Or.inl rfl) (w_lst (wa_cons (PEW.mk (pe_op op_mod (pv 14) (pe_op op_mul (pv 3) (pv 1)))) (wa_cons (PEW.mk (pe_op op_mod (pv 14) (pe_op op_fdiv (pv 3) (pv 1)))) (wa_cons (PEW.mk (pe_op op_mod (pe_op op_fdiv (pv 14) pe_int) (pv 3))) wa_nil)))))
      (ws_cons (w_set (i := 17) sc_law.nd rfl (Or.inl rfl) (w_lst (wa_cons (PEW.mk (pe_ix ix_tup (pe_ix ix_tup (pe_ix ix_tup (pv 4) pe_int (fun _ _ => rfl)) (pe_ix ix_list (pv 12) pe_int (fun _ _ => rfl)) (fun _ _ => rfl)) (pe_cd G__law_without hr (pa_cons (pe_ix ix_list (pv 16) pe_int (fun _ _ => rfl)) (pa_cons (pv 1) (pa_cons (pv 5) pa_nil)))) (fun _ _ => rfl))) wa_nil)))
      (ws_cons (PSW.mk (ps_expr (pe_bm PySem.F.plainAttrs_list PySem.F.slot_list_append PySem.F.type_list_append mt_append (pv 17) (pa_cons (pe_cd G__law_next hr (pa_cons (pe_ix ix_list (pv 12) pe_int (fun _ _ => rfl)) (pa_cons (pv 4) (pa_cons (pe_ix ix_list (pv 10) (pe_ix ix_list (pv 16) pe_int (fun _ _ => rfl)) (fun _ _ => rfl)) pa_nil)))) pa_nil))))
      (ws_cons (PSW.mk (ps_expr (pe_bm PySem.F.plainAttrs_list PySem.F.slot_list_append PySem.F.type_list_append mt_append (pv 17) (pa_cons (pe_cd G__law_next hr (pa_cons (pe_ix ix_list (pv 12) pe_int (fun _ _ => rfl)) (pa_cons (pv 4) (pa_cons (pe_ix ix_list (pv 10) (pe_cd G__law_without hr (pa_cons (pe_ix ix_list (pv 16) pe_int (fun _ _ => rfl)) (pa_cons (pv 1) (pa_cons (pv 7) pa_nil)))) (fun _ _ => rfl)) pa_nil)))) pa_nil))))
      (ws_cons (PSW.mk (ps_if (pt_not (pt_val (pe_cd G__law_stepped hr (pa_cons (pv 8) (pa_cons (pv 12) (pa_cons (pv 16) (pa_cons (pv 17) pa_nil))))))) (pss_one (ps_ret pe_bl)) pss_nil))
      (ws_one (PSW.mk (ps_set (i := 12) sc_law.nd rfl (Or.inl rfl) (pv 17))))))))))))
      (ws_cons (w_if (PTW.mk (pt_not (pt_val (pe_cd G__law_same hr (pa_cons (pe_tup (pa_cons (pe_alt (pe_me0 GE1_begin hr (pe_ix ix_list (pv 8) pe_int (fun _ _ => rfl))) (pe_alt (pe_me0 GE2_begin hr (pe_ix ix_list (pv 8) pe_int (fun _ _ => rfl))) (pe_me0 GE3_begin hr (pe_ix ix_list (pv 8) pe_int (fun _ _ => rfl))))) (pa_cons (pe_alt (pe_me0 GE1_begin hr (pe_ix ix_list (pv 8) pe_int (fun _ _ => rfl))) (pe_alt (pe_me0 GE2_begin hr (pe_ix ix_list (pv 8) pe_int (fun _ _ => rfl))) (pe_me0 GE3_begin hr (pe_ix ix_list (pv 8) pe_int (fun _ _ => rfl))))) (pa_cons (pe_alt (pe_me0 GE1_begin hr (pe_ix ix_list (pv 8) pe_int (fun _ _ => rfl))) (pe_alt (pe_me0 GE2_begin hr (pe_ix ix_list (pv 8) pe_int (fun _ _ => rfl))) (pe_me0 GE3_begin hr (pe_ix ix_list (pv 8) pe_int (fun _ _ => rfl))))) pa_nil)))) (pa_cons (pe_tup (pa_cons pe_int (pa_cons (pe_tup (pa_cons pe_int pa_nil)) (pa_cons (pe_tup (pa_cons pe_int pa_nil)) pa_nil)))) pa_nil)))))) (ws_one (PSW.mk (ps_ret pe_bl))) ws_nil)
      (ws_cons (PSW.mk (ps_set (i := 18) sc_law.nd rfl (Or.inl rfl) (pe_op op_sub (pv 3) pe_int)))
      (ws_cons (w_set (i := 17) sc_law.nd rfl (Or.inl rfl) (w_lst (wa_cons (PEW.mk (pe_ix ix_tup (pe_ix ix_tup (pe_ix ix_tup (pv 4) pe_int (fun _ _ => rfl)) pe_int (fun _ _ => rfl)) (pe_cd G__law_without hr (pa_cons (pv 18) (pa_cons (pv 1) (pa_cons (pv 5) pa_nil)))) (fun _ _ => rfl))) (wa_cons (PEW.mk (pe_cd G__law_next hr (pa_cons (pe_tup (pa_cons pe_int pa_nil)) (pa_cons (pv 4) (pa_cons (pe_ix ix_list (pv 10) (pe_op op_sub (pe_op op_fdiv (pv 3) (pv 1)) pe_int) (fun _ _ => rfl)) pa_nil))))) wa_nil))))
      (ws_cons (PSW.mk (ps_expr (pe_bm PySem.F.plainAttrs_list PySem.F.slot_list_append PySem.F.type_list_append mt_append (pv 17) (pa_cons (pe_cd G__law_next hr (pa_cons (pe_tup (pa_cons pe_int pa_nil)) (pa_cons (pv 4) (pa_cons (pe_ix ix_list (pv 10) (pe_cd G__law_without hr (pa_cons (pv 18) (pa_cons (pv 1) (pa_cons (pv 7) pa_nil)))) (fun _ _ => rfl)) pa_nil)))) pa_nil))))
      (ws_one (w_ret (PEW.mk (pe_and (pe_cd G__law_asked hr (pa_cons (pv 8) (pa_cons (pe_lst (pa_cons pe_int (pa_cons (pe_tup (pa_cons pe_int pa_nil)) (pa_cons (pe_tup (pa_cons pe_int pa_nil)) pa_nil)))) (pa_cons (pv 13) pa_nil)))) (pe_one (pe_cd G__law_stepped hr (pa_cons (pv 8) (pa_cons (pe_lst (pa_cons pe_int (pa_cons (pe_tup (pa_cons pe_int pa_nil)) (pa_cons (pe_tup (pa_cons pe_int pa_nil)) pa_nil)))) (pa_cons (pe_lst (pa_cons (pv 18) (pa_cons (pe_op op_sub (pe_op op_fdiv (pv 3) (pv 1)) pe_int) (pa_cons (pv 18) pa_nil)))) (pa_cons (pv 17) pa_nil)))))))))))))))))))))))))))) ?_
  refine ⟨_, rfl, a, _, ns, rfl, hS, h63, by decide, by decide, fun x x0 x1 => ⟨x, rfl, fun t H1 b n s1 ht hs => ⟨t, _, rfl, qT_ ht, rfl, _, _, rfl, _, _, rfl, rfl, ?_⟩⟩⟩
  have hs' := hs
  (refine Obt.and3 hs fun t_0 t_1 h16 => Obt.and2 t_0 fun b0 b1 => Obt.and2 t_1 fun n0 n1 => ?_; clear t_1 t_0 hs)
  obtain ⟨wd, ewd⟩ : ∃ wd : Nat, b ^ n = wd := ⟨_, rfl⟩
  have ewi : (b : Int) ^ n = (wd : Int) := by rw [<- ewd]; push_cast; rfl
  have w1 : 1 <= wd := by rw [<- ewd]; exact Nat.pow_pos (by omega)
  have w16 : wd <= 16 := by rw [<- ewd]; exact h16
  try dsimp only [gName, tNext]
  refine cut_G (t := tAsg _ _) (fun σ' H' => σ' = [some (.ref a), some (.int (b : Int)), some (.int (n : Int)), some (.int (wd : Int)), none, none, none, none, none, none, none, none, none, none, none, none, none, none, none] /\ H' = H1) ?_ (fun D' nxt => ?_)
  rotate_left
  · exact ⟨_, rfl, _, rfl, (b : Int), n, rfl, ⟨by omega, by omega⟩, by omega, nxt _ _ ⟨by rw [<- ewi]; rfl, rfl⟩⟩
  (refine fun σ' H1' i_0 => Obt.and2 i_0 fun e_1 e_2 => ?_; subst e_1; subst e_2; clear i_0)
  try dsimp only [gName, tNext]
  refine cut_G (t := tAsg _ _) (fun σ' H' => ∃ (m r g : Addr) (mq : Nat) (rows : LL) (signs : LI), σ' = [some (.ref a), some (.int (b : Int)), some (.int (n : Int)), some (.int (wd : Int)), some (.ref m), none, none, none, none, none, none, none, none, none, none, none, none, none, none] /\ Same H1' H' /\ MachAt H' m r g wd rows signs /\ RowsOk mq wd rows /\ signs.length = mq /\ 1 <= mq /\ mq <= 5) ?_ (fun D' nxt => ?_)
  rotate_left
  · refine ⟨_, rfl, _, rfl, _, rfl, a, _, ns, rfl, s1.seq hS, h63, by decide, by decide, fun y y0 y1 => ?_⟩
    have md := mod_in (a := y) (b := 5) (by decide)
    (refine Obt.ex1 (nat_of (show 0 <= 1 + y % 5 by omega)) fun mq em => ?_)
    refine ⟨_, _, rfl, rfl, (by show (0 : Int) < 5; decide), _, _, rfl, rfl, a, 4, mq, wd, ns, by rw [<- em]; rfl, s1.seq hS, h63, ⟨by decide, by decide⟩, ⟨by omega, by omega⟩, ⟨by omega, by omega⟩, fun m r g H2 rows signs s2 M R lsg => ?_⟩
    exact nxt _ _ ⟨m, r, g, mq, rows, signs, rfl, s2, M, R, lsg, by omega, by omega⟩
  (refine fun σ' H2 i_0 => Obt.ex6 i_0 fun m r g mq rows signs h_1 => Obt.and7 h_1 fun e_2 s2 M2 R lsg q1 q5 => ?_; subst e_2; clear h_1 i_0)
  have hS2 := (s1.trans s2).seq hS
  try dsimp only [gName, tNext]
  refine cut_G (t := tAsg _ _) (fun σ' H' => ∃ into : Nat, into <= n /\ σ' = [some (.ref a), some (.int (b : Int)), some (.int (n : Int)), some (.int (wd : Int)), some (.ref m), some (.int (into : Int)), none, none, none, none, none, none, none, none, none, none, none, none, none] /\ H' = H2) ?_ (fun D' nxt => ?_)
  rotate_left
  · refine ⟨_, rfl, a, _, ns, rfl, hS2, h63, by decide, by decide, fun y y0 y1 => ?_⟩
    have md := mod_in (a := y) (b := (n : Int) + 1) (by omega)
    (refine Obt.ex1 (nat_of md.1) fun into em => ?_)
    exact ⟨_, rfl, _, _, rfl, rfl, _, _, rfl, rfl, (by omega), nxt _ _ ⟨into, by omega, by rw [<- em]; rfl, rfl⟩⟩
  (refine fun σ' H2' i_0 => Obt.ex1 i_0 fun into h_1 => Obt.and3 h_1 fun hinto e_2 e_3 => ?_; subst e_2; subst e_3; clear h_1 i_0)
  try dsimp only [gName, tNext]
  refine cut_G (t := tAsg _ _) (fun σ' H' => ∃ at_ : Nat, at_ < n /\ σ' = [some (.ref a), some (.int (b : Int)), some (.int (n : Int)), some (.int (wd : Int)), some (.ref m), some (.int (into : Int)), some (.int (at_ : Int)), none, none, none, none, none, none, none, none, none, none, none, none] /\ H' = H2') ?_ (fun D' nxt => ?_)
  rotate_left
  · refine ⟨_, rfl, a, _, ns, rfl, hS2, h63, by decide, by decide, fun y y0 y1 => ?_⟩
    have md := mod_in (a := y) (b := (n : Int)) (by omega)
    (refine Obt.ex1 (nat_of md.1) fun at_ em => ?_)
    exact ⟨_, rfl, _, _, rfl, rfl, (by omega), nxt _ _ ⟨at_, by omega, by rw [<- em]; rfl, rfl⟩⟩
  (refine fun σ' H2 i_0 => Obt.ex1 i_0 fun at_ h_1 => Obt.and3 h_1 fun hat e_2 e_3 => ?_; subst e_2; subst e_3; clear h_1 i_0)
  try dsimp only [gName, tNext]
  refine cut_G (t := tAsg _ _) (fun σ' H' => ∃ over : Nat, over < n /\ σ' = [some (.ref a), some (.int (b : Int)), some (.int (n : Int)), some (.int (wd : Int)), some (.ref m), some (.int (into : Int)), some (.int (at_ : Int)), some (.int (over : Int)), none, none, none, none, none, none, none, none, none, none, none] /\ H' = H2) ?_ (fun D' nxt => ?_)
  rotate_left
  · refine ⟨_, rfl, a, _, ns, rfl, hS2, h63, by decide, by decide, fun y y0 y1 => ?_⟩
    have md := mod_in (a := y / 7) (b := (n : Int)) (by omega)
    (refine Obt.ex1 (nat_of md.1) fun over em => ?_)
    exact ⟨_, _, rfl, rfl, ⟨by decide, by decide⟩, _, rfl, _, _, rfl, rfl, (by omega), nxt _ _ ⟨over, by omega, by rw [<- em]; rfl, rfl⟩⟩
  (refine fun σ' H2' i_0 => Obt.ex1 i_0 fun over h_1 => Obt.and3 h_1 fun hover e_2 e_3 => ?_; subst e_2; subst e_3; clear h_1 i_0)
  have SZ := sz_mk hs' hinto hat hover
  rw [ewd] at SZ
  obtain ⟨N, eN⟩ : ∃ N : Nat, b ^ (n - 1) = N := ⟨_, rfl⟩
  rw [eN] at SZ
  clear eN ewd ewi hs'
  have hfig : ∀ i : Nat, i < b -> (b : Int) ^ at_ * (i : Int) < (wd : Int) := fun i hi => by
    have m0 : (0 : Int) < (b : Int) ^ (n - 1 - at_) := Int.pow_pos (by omega)
    have h1 := withL_in (g := 0) (M := (b : Int) ^ (n - 1 - at_)) SZ.l2.1 (show 0 < b by omega) SZ.e2 (Int.le_refl 0) (Int.mul_pos SZ.l2.1 m0)
    rw [<- bare_with] at h1
    exact (h1 _ (List.mem_map.mpr ⟨i, List.mem_range.mpr hi, rfl⟩)).2
  try dsimp only [gName, tNext]
  refine cut_G (t := tAsg _ _) (fun σ' H' => ∃ (W w1 w2 k1 : Addr) (ks2 : LI), σ' = [some (.ref a), some (.int (b : Int)), some (.int (n : Int)), some (.int (wd : Int)), some (.ref m), some (.int (into : Int)), some (.int (at_ : Int)), some (.int (over : Int)), some (.ref W), none, none, none, none, none, none, none, none, none, none] /\ Same H2' H' /\ H2' W = none /\ H' W = some (.lst [.ref w1, .ref w2]) /\ NwAt H' CN w1 k1 b ((b : Int) ^ into) /\ RdAt H' CR k1 r g /\ ChAt H' CC w2 r b ((b : Int) ^ at_) ks2 /\ Wins rows signs ((b : Int) ^ at_) b mq ks2) ?_ (fun D' nxt => ?_)
  rotate_left
  · refine ⟨_, rfl, fun x1 d1 hx1 hd1 _ => ⟨x1, d1, m, r, g, wd, rows, signs, rfl, upd_same, M2.made hx1 hd1, fun H3 c3 RD3 => ⟨rfl, ?_⟩⟩⟩
    have s3 := made_same hx1 hd1 c3
    refine ⟨_, rfl, _, rfl, fun x2 d2 hx2 hd2 _ => ⟨x2, d2, x1, (b : Int), into, rfl, upd_same, ⟨by omega, by omega⟩, by omega, fun H4 c4 NW4 => ⟨rfl, ?_⟩⟩⟩
    have s4 := made_same hx2 hd2 c4
    have s34 := s3.trans s4
    have M4 := M2.same fun c zs e => s34 _ _ e
    refine ⟨_, rfl, _, rfl, _, rfl, fun x3 d3 hx3 hd3 _ => ⟨x3, d3, m, r, g, b, at_, mq, wd, rows, signs, rfl, upd_same, M4.made hx3 hd3, R, lsg, ⟨by omega, by omega⟩, ⟨by omega, by omega⟩, ⟨by omega, by omega⟩, by omega, SZ.l2, hfig, fun H5 ks2 c5 CH5 W5 => ⟨rfl, ?_⟩⟩⟩
    have s5 := made_same hx3 hd3 c5
    refine ⟨(by show 2 <= sizeLine; decide), fun W hW => ?_⟩
    have s6 := same_new hW (HO.lst [.ref x2, .ref x3])
    have s345 := s34.trans s5
    exact nxt _ _ ⟨W, x2, x3, x1, ks2, rfl, s345.trans s6, s345.free hW, upd_same, NW4.same (s5.trans s6), RD3.same (s4.trans (s5.trans s6)), CH5.same s6, W5⟩
  (refine fun σ' H3 i_0 => Obt.ex5 i_0 fun W w1 w2 k1 ks2 h_1 => Obt.and8 h_1 fun e_2 s3 fW hW3 NW1 RD1 CH2 WI2 => ?_; subst e_2; clear h_1 i_0)
  try dsimp only [gName, tNext]
  refine cut_G (t := tDrop _) (fun σ' H' => ∃ (w3 : Addr) (ks3 : LI), σ' = [some (.ref a), some (.int (b : Int)), some (.int (n : Int)), some (.int (wd : Int)), some (.ref m), some (.int (into : Int)), some (.int (at_ : Int)), some (.int (over : Int)), some (.ref W), none, none, none, none, none, none, none, none, none, none] /\ Same H2' H' /\ Three H' CN CR CC m r g W w1 w2 w3 b mq wd ((b : Int) ^ into) ((b : Int) ^ at_) ((b : Int) ^ over) rows signs ks2 ks3 /\ Wins rows signs ((b : Int) ^ at_) b mq ks3) ?_ (fun D' nxt => ?_)
  rotate_left
  · have M3 := M2.same fun c zs e => s3 _ _ e
    refine ⟨_, rfl, .inl ⟨rfl, _, qL_ hW3⟩, ?_⟩
    refine ⟨_, rfl, _, rfl, _, rfl, fun x3 d3 hx3 hd3 _ => ⟨x3, d3, m, r, g, b, at_, mq, wd, rows, signs, rfl, upd_same, M3.made hx3 hd3, R, lsg, ⟨by omega, by omega⟩, ⟨by omega, by omega⟩, ⟨by omega, by omega⟩, by omega, SZ.l2, hfig, fun H5 ks3 c5 CH5 W5 => ⟨rfl, ?_⟩⟩⟩
    have s5 := made_same hx3 hd3 c5
    refine ⟨_, rfl, _, rfl, fun x4 d4 hx4 hd4 _ => ⟨x4, d4, x3, (b : Int), over, rfl, upd_same, ⟨by omega, by omega⟩, by omega, fun H6 c6 NW6 => ⟨rfl, ?_⟩⟩⟩
    have s6 := made_same hx4 hd4 c6
    have s56 := s5.trans s6
    have hW6 := s56 _ _ hW3
    refine ⟨W, _, _, rfl, rfl, hW6, small1000 (by show 2 <= 1000; decide), ?_⟩
    refine nxt _ _ ⟨x4, ks3, rfl, same_upd (s3.trans s56) fW, ⟨upd_same, ⟨k1, (NW1.same s56).lst hW6, (RD1.same s56).lst hW6⟩, (CH2.same s56).lst hW6, ⟨x3, NW6.lst hW6, (CH5.same s6).lst hW6⟩, (M3.same fun c zs e => s56 _ _ e).lst hW6, R, lsg, by omega, ⟨by omega, by omega⟩, SZ.l1, SZ.l2, SZ.l3⟩, W5⟩
  (refine fun σ' H4 i_0 => Obt.ex2 i_0 fun w3 ks3 h_1 => Obt.and4 h_1 fun e_2 s4 T4 WI3 => ?_; subst e_2; clear h_1 i_0)
  have few := T4.few
  try dsimp only [gName, tNext]
  refine cut_G (t := tFor _ _ _) (fun σ' H' => ∃ v9 : OV, σ' = [some (.ref a), some (.int (b : Int)), some (.int (n : Int)), some (.int (wd : Int)), some (.ref m), some (.int (into : Int)), some (.int (at_ : Int)), some (.int (over : Int)), some (.ref W), v9, none, none, none, none, none, none, none, none, none] /\ H' = H4) ?_ (fun D' nxt => ?_)
  rotate_left
  · refine ⟨_, rfl, W, rfl, ⟨_, qL_ T4.at_⟩, for_list (K := K) (xs := [.ref w1, .ref w2, .ref w3]) (fun i σ' H' => ∃ v9 : OV, σ' = [some (.ref a), some (.int (b : Int)), some (.int (n : Int)), some (.int (wd : Int)), some (.ref m), some (.int (into : Int)), some (.int (at_ : Int)), some (.int (over : Int)), some (.ref W), v9, none, none, none, none, none, none, none, none, none] /\ H' = H4) ⟨none, rfl, rfl⟩ (fun i σ' H' _ hq0 => by (refine Obt.ex1 hq0 fun _ h_0 => Obt.and2 h_0 fun _ e => ?_; clear h_0 hq0); rw [e]; exact qL_ T4.at_) ?_ ?_⟩
    · (refine fun i y σ' H5 hi i_0 => Obt.ex1 i_0 fun v9 h_1 => Obt.and2 h_1 fun e_2 e_3 => ?_; subst e_2; subst e_3; clear h_1 i_0)
      rcases i with _ | _ | _ | i
      · cases hi
        (refine Obt.ex1 T4.one fun kk h_0 => Obt.and2 h_0 fun t_1 _ => ?_; obtain ⟨dx, hx⟩ := t_1; clear h_0)
        exact ⟨_, rfl, _, _, _, _, _, rfl, tyN hx, rfl, kk1, _, rfl, iteF ⟨_, rfl, rfl⟩⟩
      · cases hi
        (refine Obt.ex2 T4.two.ob fun dx D h_0 => Obt.and2 h_0 fun hx _ => ?_; clear h_0)
        exact ⟨_, rfl, _, _, _, _, _, rfl, tyC hx, rfl, kk2, _, rfl, iteF ⟨_, rfl, rfl⟩⟩
      · cases hi
        (refine Obt.ex1 T4.thr fun kk h_0 => Obt.and2 h_0 fun t_1 _ => ?_; obtain ⟨dx, hx⟩ := t_1; clear h_0)
        exact ⟨_, rfl, _, _, _, _, _, rfl, tyN hx, rfl, kk1, _, rfl, iteF ⟨_, rfl, rfl⟩⟩
      · cases hi
    · (refine fun σ' H5 i_0 => Obt.ex1 i_0 fun v9 h_1 => Obt.and2 h_1 fun e_2 e_3 => ?_; subst e_2; subst e_3; clear h_1 i_0)
      exact nxt _ _ ⟨_, rfl, rfl⟩
  (refine fun σ' H4' i_0 => Obt.ex1 i_0 fun v9 h_1 => Obt.and2 h_1 fun e_2 e_3 => ?_; subst e_2; subst e_3; clear h_1 i_0)
  try dsimp only [gName, tNext]
  refine cut_G (t := tAsg _ _) (fun σ' H' => ∃ (T : Addr) (las : List Addr), σ' = [some (.ref a), some (.int (b : Int)), some (.int (n : Int)), some (.int (wd : Int)), some (.ref m), some (.int (into : Int)), some (.int (at_ : Int)), some (.int (over : Int)), some (.ref W), v9, some (.ref T), none, none, none, none, none, none, none, none] /\ Same H4' H' /\ ByL H4' H' T las N wd b ((b : Int) ^ at_)) ?_ (fun D' nxt => ?_)
  rotate_left
  · exact ⟨_, rfl, _, rfl, _, rfl, b, wd, at_, N, _, rfl, ⟨by omega, by omega⟩, by omega, by omega, SZ.e2, SZ.f2, fun T H5 las s5 B5 => nxt _ _ ⟨T, las, rfl, s5, B5⟩⟩
  (refine fun σ' H5 i_0 => Obt.ex2 i_0 fun T las h_1 => Obt.and3 h_1 fun e_2 s5 B5 => ?_; subst e_2; clear h_1 i_0)
  have T5 := T4.same s5
  try dsimp only [gName, tNext]
  refine cut_G (t := tAsg _ _) (fun σ' H' => ∃ (L : Addr) (al : List Bool), σ' = [some (.ref a), some (.int (b : Int)), some (.int (n : Int)), some (.int (wd : Int)), some (.ref m), some (.int (into : Int)), some (.int (at_ : Int)), some (.int (over : Int)), some (.ref W), v9, some (.ref T), some (.ref L), none, none, none, none, none, none, none] /\ Same H5 H' /\ H' L = some (.lst (al.map V.bl)) /\ al.length = mq /\ (∀ q : Int, 0 <= q -> q < (mq : Int) -> (al.getD q.toNat false = true ↔ LeadsTo rows (figsL wd b ((b : Int) ^ at_) 0) (roomsI signs 1 mq) q))) ?_ (fun D' nxt => ?_)
  rotate_left
  · (refine Obt.ex1 (B5.get (g := 0) (by decide) (by have := SZ.n16; omega)) fun la h_0 => Obt.and3 h_0 fun _ e2 e3 => ?_; clear h_0)
    exact ⟨_, rfl, _, rfl, T, _, _, _, rfl, rfl, qL_ B5.at_, e2, m, la, r, g, mq, wd, _, rows, signs, rfl, T5.mach, R, lsg, by omega, e3, figs_in, fun L H6 al s6 hL6 lal hal => nxt _ _ ⟨L, al, rfl, s6, hL6, lal, hal⟩⟩
  (refine fun σ' H6 i_0 => Obt.ex2 i_0 fun L al h_1 => Obt.and5 h_1 fun e_2 s6 hL6 lal hal => ?_; subst e_2; clear h_1 i_0)
  have M20 : (0 : Int) < (b : Int) ^ (n - 1 - at_) := Int.pow_pos (by omega)
  have win2 : ∀ {ps : LI}, (∀ p ∈ ps, 0 <= p /\ p < (mq : Int)) -> winI ks2 ps = aliveI al ps := fun hp => wins_alive WI2 SZ.l2.1 (by omega) SZ.e2 M20 hal hp
  have win3 : ∀ {ps : LI}, (∀ p ∈ ps, 0 <= p /\ p < (mq : Int)) -> winI ks3 ps = aliveI al ps := fun hp => wins_alive WI3 SZ.l2.1 (by omega) SZ.e2 M20 hal hp
  have z00 : ∀ p ∈ [(0 : Int)], 0 <= p /\ p < (mq : Int) := fun p hp => by rw [List.mem_singleton.mp hp]; omega
  clear hal WI2 WI3
  have T6 := T5.same s6
  have B6 := B5.same s6
  try dsimp only [gName, tNext]
  refine cut_G (t := tAsg _ _) (fun σ' H' => ∃ Pl t1 t2 : Addr, σ' = [some (.ref a), some (.int (b : Int)), some (.int (n : Int)), some (.int (wd : Int)), some (.ref m), some (.int (into : Int)), some (.int (at_ : Int)), some (.int (over : Int)), some (.ref W), v9, some (.ref T), some (.ref L), some (.ref Pl), none, none, none, none, none, none] /\ Same H6 H' /\ Places H' Pl t1 t2 mq 0 [0] [0]) ?_ (fun D' nxt => ?_)
  rotate_left
  · refine ⟨(by show 1 <= sizeLine; decide), fun t1 ht1 => ⟨(by show 1 <= sizeLine; decide), fun t2 ht2 => ⟨(by show 3 <= sizeLine; decide), fun Pl hPl => ?_⟩⟩⟩
    have q1' := same_new ht1 (HO.tup [.int 0])
    have q2' := same_new ht2 (HO.tup [.int 0])
    have q3' := same_new hPl (HO.lst [.int 0, .ref t1, .ref t2])
    exact nxt _ _ ⟨Pl, t1, t2, rfl, q1'.trans (q2'.trans q3'), ⟨upd_same, (q2'.trans q3') _ _ upd_same, q3' _ _ upd_same, ⟨by omega, by omega⟩, z00, z00, by show 1 <= mq; omega, by show 1 <= mq; omega⟩⟩
  (refine fun σ' H7 i_0 => Obt.ex3 i_0 fun Pl t1 t2 h_1 => Obt.and3 h_1 fun e_2 s7 P7 => ?_; subst e_2; clear h_1 i_0)
  have T7 := T6.same s7
  have hL7 := s7 _ _ hL6
  try dsimp only [gName, tNext]
  refine cut_G (t := tAsg _ _) (fun σ' H' => ∃ Fi : Addr, σ' = [some (.ref a), some (.int (b : Int)), some (.int (n : Int)), some (.int (wd : Int)), some (.ref m), some (.int (into : Int)), some (.int (at_ : Int)), some (.int (over : Int)), some (.ref W), v9, some (.ref T), some (.ref L), some (.ref Pl), some (.ref Fi), none, none, none, none, none] /\ Same H7 H' /\ H' Fi = some (.lst [.int (signs.getD (0 : Int).toNat 0), .int (aliveI al [0]), .int (aliveI al [0])])) ?_ (fun D' nxt => ?_)
  rotate_left
  · refine ⟨_, rfl, m, _, _, _, rfl, rfl, qT_ T7.mach.tup, rfl, g, _, _, _, rfl, rfl, qT_ T7.mach.sgn, atI_ints (by decide) (by omega), ?_⟩
    refine ⟨(by show 1 <= sizeLine; decide), fun u1 hu1 => ?_⟩
    have r1 := same_new hu1 (HO.tup [.int 0])
    refine ⟨_, rfl, u1, L, [0], al, rfl, upd_same, r1 _ _ hL7, by rw [lal]; exact z00, ?_⟩
    refine ⟨(by show 1 <= sizeLine; decide), fun u2 hu2 => ?_⟩
    have r2 := same_new hu2 (HO.tup [.int 0])
    refine ⟨_, rfl, u2, L, [0], al, rfl, upd_same, (r1.trans r2) _ _ hL7, by rw [lal]; exact z00, ?_⟩
    refine ⟨(by show 3 <= sizeLine; decide), fun Fi hFi => ?_⟩
    exact nxt _ _ ⟨Fi, rfl, r1.trans (r2.trans (same_new hFi _)), upd_same⟩
  (refine fun σ' H8 i_0 => Obt.ex1 i_0 fun Fi h_1 => Obt.and3 h_1 fun e_2 s8 hFi8 => ?_; subst e_2; clear h_1 i_0)
  have s678 := s6.trans (s7.trans s8)
  have T8 := T7.same s8
  have P8 := P7.same s8
  have hL8 := s8 _ _ hL7
  have B8 := B6.same (s7.trans s8)
  have hS8 := (s1.trans (s2.trans (s4.trans (s5.trans s678)))).seq hS
  clear hL7 hL6 P7 T7 B6 T6 T5 B5 hS2
  have wb := SZ.w16
  have nb := SZ.n16
  try dsimp only [gName, tNext]
  refine cut_G (t := tFor _ _ _) (fun σ' H' => ∃ (v12 v14 v15 v16 v17 : OV), σ' = [some (.ref a), some (.int (b : Int)), some (.int (n : Int)), some (.int (wd : Int)), some (.ref m), some (.int (into : Int)), some (.int (at_ : Int)), some (.int (over : Int)), some (.ref W), v9, some (.ref T), some (.ref L), v12, some (.ref Fi), v14, v15, v16, v17, none] /\ Same H8 H') ?_ (fun D' nxt => ?_)
  rotate_left
  · refine ⟨_, rfl, a, rfl, ⟨_, hS8⟩, ?_⟩
    refine for_listG (K := K) (xs := ns.map V.int) (fun i σ' H' => ∃ (Pl t1 t2 : Addr) (p0 : Int) (ps1 ps2 : LI) (v14 v15 v16 v17 : OV), σ' = [some (.ref a), some (.int (b : Int)), some (.int (n : Int)), some (.int (wd : Int)), some (.ref m), some (.int (into : Int)), some (.int (at_ : Int)), some (.int (over : Int)), some (.ref W), v9, some (.ref T), some (.ref L), some (.ref Pl), some (.ref Fi), v14, v15, v16, v17, none] /\ Same H8 H' /\ Places H' Pl t1 t2 mq p0 ps1 ps2) ⟨Pl, t1, t2, 0, [0], [0], none, none, none, none, rfl, fun _ _ e => e, P8⟩ (fun i σ' H' _ hq0 => by (refine Obt.ex8 hq0 fun _ _ _ _ _ _ _ _ h_0 => Obt.ex2 h_0 fun _ _ h_1 => Obt.and3 h_1 fun _ e _ => ?_; clear h_1 h_0 hq0); exact e.seq hS8) ?_ ?_
    · clear P8 nxt s7
      (refine fun i y σ' H9 D9 hi i_0 => Obt.ex8 i_0 fun Pl t1 t2 p0 ps1 ps2 v14 v15 h_1 => Obt.ex2 h_1 fun v16 v17 h_2 => Obt.and3 h_2 fun e_3 s9 P9 => fun nx9 => ?_; subst e_3; clear h_2 h_1 i_0)
      (refine Obt.ex1 (ints_at hi) fun z h_0 => Obt.and2 h_0 fun e_1 hz => ?_; subst e_1; clear h_0)
      have T9 := T8.same s9
      have B9 := B8.same s9
      have hL9 := s9 _ _ hL8
      try dsimp only [gName, tNext]
      refine cut_G (t := tAsg _ _) (fun σ' H' => ∃ Du : Addr, σ' = [some (.ref a), some (.int (b : Int)), some (.int (n : Int)), some (.int (wd : Int)), some (.ref m), some (.int (into : Int)), some (.int (at_ : Int)), some (.int (over : Int)), some (.ref W), v9, some (.ref T), some (.ref L), some (.ref Pl), some (.ref Fi), some (.int z), some (.ref Du), v16, v17, none] /\ Same H9 H' /\ H' Du = some (.lst [.int (signs.getD p0.toNat 0), .int (winI ks2 ps1), .int (winI ks3 ps2)])) ?_ (fun D' nxt => ?_)
      rotate_left
      · refine ⟨_, rfl, m, _, _, _, rfl, rfl, qT_ T9.mach.tup, rfl, _, rfl, Pl, _, _, _, rfl, rfl, qL_ P9.at_, rfl, g, _, _, _, rfl, rfl, qT_ T9.mach.sgn, atI_ints P9.i0.1 (by rw [lsg]; exact P9.i0.2), ?_⟩
        refine ⟨_, rfl, Pl, _, _, _, rfl, rfl, qL_ P9.at_, rfl, _, rfl, t1, L, ps1, al, rfl, P9.a1, hL9, by rw [lal]; exact P9.i1, ?_⟩
        refine ⟨_, rfl, Pl, _, _, _, rfl, rfl, qL_ P9.at_, rfl, _, rfl, t2, L, ps2, al, rfl, P9.a2, hL9, by rw [lal]; exact P9.i2, ?_⟩
        refine ⟨(by show 3 <= sizeLine; decide), fun Du hDu => ?_⟩
        exact nxt _ _ ⟨Du, rfl, same_new hDu _, by rw [win2 P9.i1, win3 P9.i2]; exact upd_same⟩
      (refine fun σ' H10 i_0 => Obt.ex1 i_0 fun Du h_1 => Obt.and3 h_1 fun e_2 s10 hDu => ?_; subst e_2; clear h_1 i_0)
      refine ⟨_, rfl, _, rfl, _, rfl, m, r, g, W, w1, w2, w3, Pl, t1, t2, Du, b, mq, wd, _, _, _, rows, signs, ks2, ks3, p0, ps1, ps2, rfl, T9.same s10, P9.same s10, hDu, fun H11 s11 => ⟨_, rfl, iteF ?_⟩⟩
      have s911 := s10.trans s11
      clear hDu
      try dsimp only [gName, tNext]
      refine cut_G (t := tAsg _ _) (fun σ' H' => ∃ (St : Addr) (z0 z1 z2 : Int), (0 <= z0 /\ z0 < (wd : Int) * b) /\ (0 <= z1 /\ z1 < (N : Int)) /\ (0 <= z2 /\ z2 < (wd : Int)) /\ σ' = [some (.ref a), some (.int (b : Int)), some (.int (n : Int)), some (.int (wd : Int)), some (.ref m), some (.int (into : Int)), some (.int (at_ : Int)), some (.int (over : Int)), some (.ref W), v9, some (.ref T), some (.ref L), some (.ref Pl), some (.ref Fi), some (.int z), some (.ref Du), some (.ref St), v17, none] /\ Same H11 H' /\ H' St = some (.lst [.int z0, .int z1, .int z2])) ?_ (fun D' nxt => ?_)
      rotate_left
      · have wb0 : (0 : Int) < (wd : Int) * b := Int.mul_pos (by omega) (by omega)
        have dd := SZ.ed
        refine ⟨_, rfl, _, rfl, _, rfl, _, _, rfl, rfl, .inl ⟨by omega, by omega⟩, _, _, rfl, rfl, wb0, _, rfl, _, rfl, _, rfl, _, _, rfl, rfl, ⟨by omega, by omega⟩, _, _, rfl, rfl, (by rw [dd]; omega), _, rfl, _, _, rfl, rfl, ⟨by decide, by decide⟩, _, rfl, _, _, rfl, rfl, (by omega), (by show 3 <= sizeLine; decide), fun St hSt => ?_⟩
        exact nxt _ _ ⟨St, _, _, _, mod_in wb0, mod_in (by omega), mod_in (by omega), rfl, same_new hSt _, by rw [<- dd]; exact upd_same⟩
      (refine fun σ' H12 i_0 => Obt.ex4 i_0 fun St z0 z1 z2 h_1 => Obt.and6 h_1 fun hz0 hz1 hz2 e_2 s12 hSt => ?_; subst e_2; clear h_1 i_0)
      have s912 := s911.trans s12
      have T12 := T9.same s912
      have P12 := P9.same s912
      have B12 := B9.same s912
      clear hL9 T9 P9 B9 s10 s11 s911 s12
      have wi0 := without_in (f := z0) (b := (b : Int)) SZ.l1.1 (by omega) hz0.1 (by rw [<- SZ.e1]; exact hz0.2)
      rw [<- SZ.f1] at wi0
      have wi2 := without_in (f := z2) (b := (b : Int)) SZ.l3.1 (by omega) hz2.1 (by rw [<- SZ.e3]; exact hz2.2)
      rw [<- SZ.f3] at wi2
      try dsimp only [gName, tNext]
      refine cut_G (t := tAsg _ _) (fun σ' H' => ∃ Ah : Addr, σ' = [some (.ref a), some (.int (b : Int)), some (.int (n : Int)), some (.int (wd : Int)), some (.ref m), some (.int (into : Int)), some (.int (at_ : Int)), some (.int (over : Int)), some (.ref W), v9, some (.ref T), some (.ref L), some (.ref Pl), some (.ref Fi), some (.int z), some (.ref Du), some (.ref St), some (.ref Ah), none] /\ Same H12 H' /\ H12 Ah = none /\ H' Ah = some (.lst [.int (stepI rows p0 (withoutI z0 b ((b : Int) ^ into)))])) ?_ (fun D' nxt => ?_)
      rotate_left
      · obtain ⟨hm, ⟨ras, hr', hA⟩, hg⟩ := T12.mach
        (refine Obt.ex2 (row_step hA R P12.i0.1 P12.i0.2 wi0.1 wi0.2) fun ra rr h_0 => Obt.and3 h_0 fun e1 e2 e3 => ?_; clear h_0)
        have wdb : (wd : Int) * b <= 16 * 10 := Int.mul_le_mul (by omega) (by omega) (by omega) (by omega)
        refine ⟨_, rfl, m, _, _, _, rfl, rfl, qT_ hm, rfl, _, rfl, Pl, _, _, _, rfl, rfl, qL_ P12.at_, rfl, r, _, _, _, rfl, rfl, qT_ hr', e1, ?_⟩
        refine ⟨_, rfl, St, _, _, _, rfl, rfl, qL_ hSt, rfl, _, rfl, _, rfl, z0, (b : Int), into, rfl, ⟨hz0.1, by omega⟩, ⟨by omega, by omega⟩, by omega, fun H13 s13 => ?_⟩
        refine ⟨ra, _, _, _, rfl, rfl, qT_ (s13 _ _ e2), e3, (by show 1 <= sizeLine; decide), fun Ah hAh => ?_⟩
        exact nxt _ _ ⟨Ah, rfl, s13.trans (same_new hAh _), s13.free hAh, upd_same⟩
      (refine fun σ' H13 i_0 => Obt.ex1 i_0 fun Ah h_1 => Obt.and4 h_1 fun e_2 s13 fAh hAh => ?_; subst e_2; clear h_1 i_0)
      try dsimp only [gName, tNext]
      refine cut_G (t := tDrop _) (fun σ' H' => ∃ T1 : Addr, σ' = [some (.ref a), some (.int (b : Int)), some (.int (n : Int)), some (.int (wd : Int)), some (.ref m), some (.int (into : Int)), some (.int (at_ : Int)), some (.int (over : Int)), some (.ref W), v9, some (.ref T), some (.ref L), some (.ref Pl), some (.ref Fi), some (.int z), some (.ref Du), some (.ref St), some (.ref Ah), none] /\ Same H12 H' /\ H' Ah = some (.lst [.int (stepI rows p0 (withoutI z0 b ((b : Int) ^ into))), .ref T1]) /\ H' T1 = some (.tup ((nextI rows ps1 (withL z1 b ((b : Int) ^ at_)) mq).map V.int))) ?_ (fun D' nxt => ?_)
      rotate_left
      · have T13 := T12.same s13
        have P13 := P12.same s13
        have B13 := B12.same s13
        (refine Obt.ex1 (B13.get hz1.1 hz1.2) fun la h_0 => Obt.and3 h_0 fun _ e2 e3 => ?_; clear h_0)
        refine ⟨_, rfl, .inl ⟨rfl, _, qL_ hAh⟩, ?_⟩
        refine ⟨_, rfl, Pl, _, _, _, rfl, rfl, qL_ P13.at_, rfl, _, rfl, _, rfl, _, rfl, St, _, _, _, rfl, rfl, qL_ (s13 _ _ hSt), rfl, T, _, _, _, rfl, rfl, qL_ B13.at_, e2, t1, m, la, r, g, mq, wd, ps1, _, rows, signs, rfl, P13.a1, T13.mach, R, e3, by omega, P13.i1, figs_in, fun T1 H14 s14 hT1 => ?_⟩
        have hAh14 := s14 _ _ hAh
        refine ⟨Ah, _, _, rfl, rfl, hAh14, small1000 (by show 1 <= 1000; decide), nxt _ _ ⟨T1, rfl, same_upd (s13.trans s14) fAh, upd_same, ?_⟩⟩
        rw [upd_ne (ne_of hT1 hAh14 (by intro z; cases z)), hT1, next_same SZ.l2.1 (by omega) SZ.e2 hz1.1 (by rw [<- SZ.f2]; exact hz1.2)]
      clear hAh s13
      (refine fun σ' H13 i_0 => Obt.ex1 i_0 fun T1 h_1 => Obt.and4 h_1 fun e_2 s13 hAh hT1 => ?_; subst e_2; clear h_1 i_0)
      try dsimp only [gName, tNext]
      refine cut_G (t := tDrop _) (fun σ' H' => ∃ T2 : Addr, σ' = [some (.ref a), some (.int (b : Int)), some (.int (n : Int)), some (.int (wd : Int)), some (.ref m), some (.int (into : Int)), some (.int (at_ : Int)), some (.int (over : Int)), some (.ref W), v9, some (.ref T), some (.ref L), some (.ref Pl), some (.ref Fi), some (.int z), some (.ref Du), some (.ref St), some (.ref Ah), none] /\ Same H12 H' /\ H' Ah = some (.lst [.int (stepI rows p0 (withoutI z0 b ((b : Int) ^ into))), .ref T1, .ref T2]) /\ H' T1 = some (.tup ((nextI rows ps1 (withL z1 b ((b : Int) ^ at_)) mq).map V.int)) /\ H' T2 = some (.tup ((nextI rows ps2 (withL (withoutI z2 b ((b : Int) ^ over)) b ((b : Int) ^ at_)) mq).map V.int))) ?_ (fun D' nxt => ?_)
      rotate_left
      · have P13 := P12.same s13
        refine ⟨_, rfl, .inl ⟨rfl, _, qL_ hAh⟩, ?_⟩
        refine ⟨_, rfl, Pl, _, _, _, rfl, rfl, qL_ P13.at_, rfl, _, rfl, _, rfl, _, rfl, St, _, _, _, rfl, rfl, qL_ (s13 _ _ hSt), rfl, _, rfl, _, rfl, z2, (b : Int), over, rfl, ⟨hz2.1, by omega⟩, ⟨by omega, by omega⟩, by omega, fun H14 s14 => ?_⟩
        have s124 := s13.trans s14
        have T14 := T12.same s124
        have P14 := P12.same s124
        have B14 := B12.same s124
        (refine Obt.ex1 (B14.get wi2.1 wi2.2) fun la h_0 => Obt.and3 h_0 fun _ e2 e3 => ?_; clear h_0)
        refine ⟨T, _, _, _, rfl, rfl, qL_ B14.at_, e2, t2, m, la, r, g, mq, wd, ps2, _, rows, signs, rfl, P14.a2, T14.mach, R, e3, by omega, P14.i2, figs_in, fun T2 H15 s15 hT2 => ?_⟩
        have hAh15 := (s14.trans s15) _ _ hAh
        have hT15 := (s14.trans s15) _ _ hT1
        refine ⟨Ah, _, _, rfl, rfl, hAh15, small1000 (by show 2 <= 1000; decide), nxt _ _ ⟨T2, rfl, same_upd (s124.trans s15) fAh, upd_same, ?_, ?_⟩⟩
        · rw [upd_ne (ne_of hT15 hAh15 (by intro z; cases z))]; exact hT15
        · rw [upd_ne (ne_of hT2 hAh15 (by intro z; cases z)), hT2, next_same SZ.l2.1 (by omega) SZ.e2 wi2.1 (by rw [<- SZ.f2]; exact wi2.2)]
      clear hAh s13 hT1
      (refine fun σ' H13 i_0 => Obt.ex1 i_0 fun T2 h_1 => Obt.and5 h_1 fun e_2 s13 hAh hT1 hT2 => ?_; subst e_2; clear h_1 i_0)
      refine ⟨_, rfl, _, rfl, _, rfl, _, rfl, m, r, g, W, w1, w2, w3, Pl, t1, t2, St, Ah, T1, T2, b, mq, wd, _, _, _, rows, signs, ks2, ks3, p0, z0, z1, z2, ps1, ps2, rfl, T12.same s13, P12.same s13, s13 _ _ hSt, hAh, hT1, hT2, wi0, withL_in SZ.l2.1 (by omega) SZ.e2 hz1.1 (by rw [<- SZ.f2]; exact hz1.2), withL_in SZ.l2.1 (by omega) SZ.e2 wi2.1 (by rw [<- SZ.f2]; exact wi2.2), fun H14 s14 => ⟨_, rfl, iteF ?_⟩⟩
      exact ⟨_, rfl, nx9 _ _ ⟨Ah, T1, T2, _, _, _, _, _, _, _, rfl, s9.trans (s912.trans (s13.trans s14)), ⟨s14 _ _ hAh, s14 _ _ hT1, s14 _ _ hT2, nstep_in R P12.i0.1 P12.i0.2 wi0.1 wi0.2, fun p hp => (nextI_mem.mp hp).1, fun p hp => (nextI_mem.mp hp).1, nextI_len .., nextI_len ..⟩⟩⟩
    · (refine fun σ' H9 i_0 => Obt.ex8 i_0 fun Pl t1 t2 p0 ps1 ps2 v14 v15 h_1 => Obt.ex2 h_1 fun v16 v17 h_2 => Obt.and3 h_2 fun e_3 s9 P9 => ?_; subst e_3; clear h_2 h_1 i_0)
      exact nxt _ _ ⟨_, _, _, _, _, rfl, s9⟩
  (refine fun σ' H9 i_0 => Obt.ex5 i_0 fun v12 v14 v15 v16 v17 h_1 => Obt.and2 h_1 fun e_2 s9 => ?_; subst e_2; clear h_1 i_0)
  have T9 := T8.same s9
  have B9 := B8.same s9
  have hFi9 := s9 _ _ hFi8
  clear P8 T8 B8 hL8 hS8 s7 s678
  (refine Obt.ex1 T9.one fun ka h_0 => Obt.and2 h_0 fun t_1 RDa => ?_; obtain ⟨da, hxa⟩ := t_1; clear h_0)
  refine .inl ⟨_, rfl, W, _, _, _, rfl, rfl, qL_ T9.at_, rfl, w1, da, _, rfl, hxa, rfl, w1, ka, r, g, b, _, rfl, ⟨da, hxa⟩, RDa, ?_⟩
  (refine Obt.ex2 T9.two.ob fun db D h_0 => Obt.and2 h_0 fun hxb hDb => ?_; clear h_0)
  refine .inr (.inl ⟨_, rfl, W, _, _, _, rfl, rfl, qL_ T9.at_, rfl, w2, db, _, rfl, hxb, rfl, w2, rfl, fun ta H10 s10 hta => ?_⟩)
  have T10 := T9.same s10
  (refine Obt.ex1 T10.thr fun kc h_0 => Obt.and2 h_0 fun t_1 CHc => ?_; obtain ⟨dc, hxc⟩ := t_1; clear h_0)
  refine .inr (.inr ⟨_, rfl, W, _, _, _, rfl, rfl, qL_ T10.at_, rfl, w3, dc, _, rfl, hxc, rfl, w3, kc, r, b, _, b, _, ks3, rfl, ⟨dc, hxc⟩, CHc, fun tb H11 s11 htb => ?_⟩)
  refine ⟨(by show 3 <= sizeLine; decide), fun TA hTA => ⟨(by show 1 <= sizeLine; decide), fun u1 hu1 => ⟨(by show 1 <= sizeLine; decide), fun u2 hu2 => ⟨(by show 3 <= sizeLine; decide), fun TB hTB => ?_⟩⟩⟩⟩
  have r1 := same_new hTA (HO.tup [.int 0, .ref ta, .ref tb])
  have r2 := same_new hu1 (HO.tup [.int 0])
  have r3 := same_new hu2 (HO.tup [.int 0])
  have r4 := same_new hTB (HO.tup [.int 0, .ref u1, .ref u2])
  have r34 := r3.trans r4
  have r234 := r2.trans r34
  have r1234 := r1.trans r234
  refine ⟨TA, TB, _, _, rfl, r234 _ _ upd_same, upd_same, rfl, (by show 3 <= 1000; decide), fun i x' y' hx' hy' => ?_, _, rfl, iteF ?_⟩
  · rcases i with _ | _ | _ | i
    · cases hx'
      cases hy'
      exact .inl ⟨0, rfl, rfl⟩
    · cases hx'
      cases hy'
      exact .inr ⟨ta, u1, [0], rfl, rfl, (s11.trans r1234) _ _ hta, r34 _ _ upd_same, by decide⟩
    · cases hx'
      cases hy'
      exact .inr ⟨tb, u2, [0], rfl, rfl, r1234 _ _ htb, r4 _ _ upd_same, by decide⟩
    · cases hx'
  obtain ⟨H12, eH12⟩ : ∃ H12, upd (upd (upd (upd H11 TA (HO.tup [.int 0, .ref ta, .ref tb])) u1 (HO.tup [.int 0])) u2 (HO.tup [.int 0])) TB (HO.tup [.int 0, .ref u1, .ref u2]) = H12 := ⟨_, rfl⟩
  have s12 : Same H9 H12 := by rw [<- eH12]; exact s10.trans (s11.trans r1234)
  rw [eH12]
  have T12 := T9.same s12
  have B12 := B9.same s12
  have hFi12 := s12 _ _ hFi9
  clear eH12 r1 r2 r3 r4 r34 r234 r1234 hta htb hu1 hu2 hTA hTB T9 T10 B9 s10 s11 hFi9
  have dd := SZ.ed
  have wdb : (wd : Int) * 1 <= (wd : Int) * b := Int.mul_le_mul_of_nonneg_left (by omega) (by omega)
  have wi0 := without_in (f := (wd : Int) - 1) (b := (b : Int)) SZ.l1.1 (by omega) (by omega) (by rw [<- SZ.e1]; omega)
  rw [<- SZ.f1] at wi0
  have wi2 := without_in (f := (wd : Int) - 1) (b := (b : Int)) SZ.l3.1 (by omega) (by omega) (by rw [<- SZ.e3]; omega)
  rw [<- SZ.f3] at wi2
  have gN : 0 <= (N : Int) - 1 /\ (N : Int) - 1 < (N : Int) := ⟨by omega, by omega⟩
  try dsimp only [gName, tNext]
  refine cut_G (t := tAsg _ _) (fun σ' H' => σ' = [some (.ref a), some (.int (b : Int)), some (.int (n : Int)), some (.int (wd : Int)), some (.ref m), some (.int (into : Int)), some (.int (at_ : Int)), some (.int (over : Int)), some (.ref W), v9, some (.ref T), some (.ref L), v12, some (.ref Fi), v14, v15, v16, v17, some (.int ((wd : Int) - 1))] /\ H' = H12) ?_ (fun D' nxt => ?_)
  rotate_left
  · exact ⟨_, rfl, _, _, rfl, rfl, nxt _ _ ⟨rfl, rfl⟩⟩
  (refine fun σ' H12' i_0 => Obt.and2 i_0 fun e_1 e_2 => ?_; subst e_1; subst e_2; clear i_0)
  try dsimp only [gName, tNext]
  refine cut_G (t := tAsg _ _) (fun σ' H' => ∃ Ah T1 : Addr, σ' = [some (.ref a), some (.int (b : Int)), some (.int (n : Int)), some (.int (wd : Int)), some (.ref m), some (.int (into : Int)), some (.int (at_ : Int)), some (.int (over : Int)), some (.ref W), v9, some (.ref T), some (.ref L), v12, some (.ref Fi), v14, v15, v16, some (.ref Ah), some (.int ((wd : Int) - 1))] /\ Same H12' H' /\ H12' Ah = none /\ H' Ah = some (.lst [.int (stepI rows 0 (withoutI ((wd : Int) - 1) b ((b : Int) ^ into))), .ref T1]) /\ H' T1 = some (.tup ((nextI rows [0] (withL ((N : Int) - 1) b ((b : Int) ^ at_)) mq).map V.int))) ?_ (fun D' nxt => ?_)
  rotate_left
  · obtain ⟨hm, ⟨ras, hr', hA⟩, hg⟩ := T12.mach
    (refine Obt.ex2 (row_step hA R (Int.le_refl 0) (show (0 : Int) < (mq : Int) by omega) wi0.1 wi0.2) fun ra rr h_0 => Obt.and3 h_0 fun e1 e2 e3 => ?_; clear h_0)
    refine ⟨_, rfl, m, _, _, _, rfl, rfl, qT_ hm, rfl, r, _, _, _, rfl, rfl, qT_ hr', e1, ?_⟩
    refine ⟨_, rfl, _, rfl, _, rfl, (wd : Int) - 1, (b : Int), into, rfl, ⟨by omega, by omega⟩, ⟨by omega, by omega⟩, by omega, fun H13 s13 => ?_⟩
    refine ⟨ra, _, _, _, rfl, rfl, qT_ (s13 _ _ e2), e3, (by show 1 <= sizeLine; decide), fun u hu => ?_⟩
    have r1 := same_new hu (HO.tup [.int 0])
    have s131 := s13.trans r1
    have T13 := T12.same s131
    have B13 := B12.same s131
    (refine Obt.ex1 (B13.get gN.1 gN.2) fun la h_0 => Obt.and3 h_0 fun _ f2 f3 => ?_; clear h_0)
    refine ⟨_, rfl, _, rfl, _, rfl, _, rfl, _, _, rfl, rfl, ⟨by omega, by omega⟩, _, _, rfl, rfl, T, _, _, _, rfl, rfl, qL_ B13.at_, (by rw [dd]; exact f2), u, m, la, r, g, mq, wd, [0], _, rows, signs, rfl, upd_same, T13.mach, R, f3, by omega, z00, figs_in, fun T1 H14 s14 hT1 => ?_⟩
    refine ⟨(by show 2 <= sizeLine; decide), fun Ah hAh => ?_⟩
    refine nxt _ _ ⟨Ah, T1, rfl, s131.trans (s14.trans (same_new hAh _)), (s131.trans s14).free hAh, upd_same, ?_⟩
    rw [same_new hAh _ _ _ hT1, next_same SZ.l2.1 (by omega) SZ.e2 gN.1 (by rw [<- SZ.f2]; exact gN.2)]
  (refine fun σ' H13 i_0 => Obt.ex2 i_0 fun Ah T1 h_1 => Obt.and5 h_1 fun e_2 s13 fAh hAh hT1 => ?_; subst e_2; clear h_1 i_0)
  try dsimp only [gName, tNext]
  refine cut_G (t := tDrop _) (fun σ' H' => ∃ T2 : Addr, σ' = [some (.ref a), some (.int (b : Int)), some (.int (n : Int)), some (.int (wd : Int)), some (.ref m), some (.int (into : Int)), some (.int (at_ : Int)), some (.int (over : Int)), some (.ref W), v9, some (.ref T), some (.ref L), v12, some (.ref Fi), v14, v15, v16, some (.ref Ah), some (.int ((wd : Int) - 1))] /\ Same H12' H' /\ H' Ah = some (.lst [.int (stepI rows 0 (withoutI ((wd : Int) - 1) b ((b : Int) ^ into))), .ref T1, .ref T2]) /\ H' T1 = some (.tup ((nextI rows [0] (withL ((N : Int) - 1) b ((b : Int) ^ at_)) mq).map V.int)) /\ H' T2 = some (.tup ((nextI rows [0] (withL (withoutI ((wd : Int) - 1) b ((b : Int) ^ over)) b ((b : Int) ^ at_)) mq).map V.int))) ?_ (fun D' nxt => ?_)
  rotate_left
  · refine ⟨_, rfl, .inl ⟨rfl, _, qL_ hAh⟩, (by show 1 <= sizeLine; decide), fun u hu => ?_⟩
    have r1 := same_new hu (HO.tup [.int 0])
    refine ⟨_, rfl, _, rfl, _, rfl, _, rfl, _, rfl, (wd : Int) - 1, (b : Int), over, rfl, ⟨by omega, by omega⟩, ⟨by omega, by omega⟩, by omega, fun H14 s14 => ?_⟩
    have s134 := r1.trans s14
    have s124 := s13.trans s134
    have T14 := T12.same s124
    have B14 := B12.same s124
    (refine Obt.ex1 (B14.get wi2.1 wi2.2) fun la h_0 => Obt.and3 h_0 fun _ f2 f3 => ?_; clear h_0)
    refine ⟨T, _, _, _, rfl, rfl, qL_ B14.at_, f2, u, m, la, r, g, mq, wd, [0], _, rows, signs, rfl, s14 _ _ upd_same, T14.mach, R, f3, by omega, z00, figs_in, fun T2 H15 s15 hT2 => ?_⟩
    have hAh15 := (s134.trans s15) _ _ hAh
    have hT15 := (s134.trans s15) _ _ hT1
    refine ⟨Ah, _, _, rfl, rfl, hAh15, small1000 (by show 2 <= 1000; decide), nxt _ _ ⟨T2, rfl, same_upd (s124.trans s15) fAh, upd_same, ?_, ?_⟩⟩
    · rw [upd_ne (ne_of hT15 hAh15 (by intro z; cases z))]; exact hT15
    · rw [upd_ne (ne_of hT2 hAh15 (by intro z; cases z)), hT2, next_same SZ.l2.1 (by omega) SZ.e2 wi2.1 (by rw [<- SZ.f2]; exact wi2.2)]
  clear hAh s13 hT1
  (refine fun σ' H13 i_0 => Obt.ex1 i_0 fun T2 h_1 => Obt.and5 h_1 fun e_2 s13 hAh hT1 hT2 => ?_; subst e_2; clear h_1 i_0)
  have hT1' : H13 T1 = some (.tup ((nextI rows [0] (withL ((wd : Int) / b - 1) b ((b : Int) ^ at_)) mq).map V.int)) := by rw [dd]; exact hT1
  have T13 := T12.same s13
  have hFi13 := s13 _ _ hFi12
  have pl : ∀ {H : Hp} {Pl t1 t2 : Addr}, H t1 = none -> (upd H t1 (.tup [.int 0])) t2 = none -> (upd (upd H t1 (.tup [.int 0])) t2 (.tup [.int 0])) Pl = none -> Places (upd (upd (upd H t1 (.tup [.int 0])) t2 (.tup [.int 0])) Pl (.lst [.int 0, .ref t1, .ref t2])) Pl t1 t2 mq 0 [0] [0] := fun h1 h2 h3 =>
    ⟨upd_same, ((same_new h2 _).trans (same_new h3 _)) _ _ upd_same, (same_new h3 _) _ _ upd_same, ⟨by omega, by omega⟩, z00, z00, by show 1 <= mq; omega, by show 1 <= mq; omega⟩
  refine ⟨_, rfl, (by show 1 <= sizeLine; decide), fun t1 ht1 => ⟨(by show 1 <= sizeLine; decide), fun t2 ht2 => ⟨(by show 3 <= sizeLine; decide), fun Pl hPl => ?_⟩⟩⟩
  have sP := (same_new ht1 (HO.tup [.int 0])).trans ((same_new ht2 (HO.tup [.int 0])).trans (same_new hPl (HO.lst [.int 0, .ref t1, .ref t2])))
  refine ⟨_, rfl, m, r, g, W, w1, w2, w3, Pl, t1, t2, Fi, b, mq, wd, _, _, _, rows, signs, ks2, ks3, 0, [0], [0], rfl, T13.same sP, pl ht1 ht2 hPl, by rw [win2 z00, win3 z00]; exact sP _ _ hFi13, fun H14 s14 => ⟨_, rfl, iteT ?_⟩⟩
  have sP14 := sP.trans s14
  refine ⟨_, rfl, (by show 1 <= sizeLine; decide), fun t3 ht3 => ⟨(by show 1 <= sizeLine; decide), fun t4 ht4 => ⟨(by show 3 <= sizeLine; decide), fun Pl2 hPl2 => ?_⟩⟩⟩
  have sP2 := (same_new ht3 (HO.tup [.int 0])).trans ((same_new ht4 (HO.tup [.int 0])).trans (same_new hPl2 (HO.lst [.int 0, .ref t3, .ref t4])))
  refine ⟨_, rfl, _, rfl, _, rfl, _, _, rfl, rfl, ⟨by omega, by omega⟩, _, _, rfl, rfl, _, rfl, (by show 3 <= sizeLine; decide), fun St hSt => ?_⟩
  have sQ := sP14.trans (sP2.trans (same_new hSt (HO.lst [.int ((wd : Int) - 1), .int ((wd : Int) / b - 1), .int ((wd : Int) - 1)])))
  refine ⟨_, rfl, m, r, g, W, w1, w2, w3, Pl2, t3, t4, St, Ah, T1, T2, b, mq, wd, _, _, _, rows, signs, ks2, ks3, 0, (wd : Int) - 1, (wd : Int) / b - 1, (wd : Int) - 1, [0], [0], rfl, T13.same sQ, (pl ht3 ht4 hPl2).same (same_new hSt _), upd_same, sQ _ _ hAh, sQ _ _ hT1', sQ _ _ hT2, wi0, by rw [dd]; exact withL_in SZ.l2.1 (by omega) SZ.e2 gN.1 (by rw [<- SZ.f2]; exact gN.2), withL_in SZ.l2.1 (by omega) SZ.e2 wi2.1 (by rw [<- SZ.f2]; exact wi2.2), fun H15 _ => k H15⟩
end
@[elab_as_elim] theorem len1 {motive : List Value -> Prop} {us : List Value} (hl : us.length = 1) (h : ∀ a0, motive [a0]) : motive us := match us, hl with | [a0], _ => h _
@[elab_as_elim] theorem len2 {motive : List Value -> Prop} {us : List Value} (hl : us.length = 2) (h : ∀ a0 a1, motive [a0, a1]) : motive us := match us, hl with | [a0, a1], _ => h _ _
@[elab_as_elim] theorem len3 {motive : List Value -> Prop} {us : List Value} (hl : us.length = 3) (h : ∀ a0 a1 a2, motive [a0, a1, a2]) : motive us := match us, hl with | [a0, a1, a2], _ => h _ _ _
@[elab_as_elim] theorem len4 {motive : List Value -> Prop} {us : List Value} (hl : us.length = 4) (h : ∀ a0 a1 a2 a3, motive [a0, a1, a2, a3]) : motive us := match us, hl with | [a0, a1, a2, a3], _ => h _ _ _ _
@[elab_as_elim] theorem len5 {motive : List Value -> Prop} {us : List Value} (hl : us.length = 5) (h : ∀ a0 a1 a2 a3 a4, motive [a0, a1, a2, a3, a4]) : motive us := match us, hl with | [a0, a1, a2, a3, a4], _ => h _ _ _ _ _
@[elab_as_elim] theorem len6 {motive : List Value -> Prop} {us : List Value} (hl : us.length = 6) (h : ∀ a0 a1 a2 a3 a4 a5, motive [a0, a1, a2, a3, a4, a5]) : motive us := match us, hl with | [a0, a1, a2, a3, a4, a5], _ => h _ _ _ _ _ _
@[elab_as_elim] theorem len7 {motive : List Value -> Prop} {us : List Value} (hl : us.length = 7) (h : ∀ a0 a1 a2 a3 a4 a5 a6, motive [a0, a1, a2, a3, a4, a5, a6]) : motive us := match us, hl with | [a0, a1, a2, a3, a4, a5, a6], _ => h _ _ _ _ _ _ _
theorem all_mk {l : PySem.W.OpenLaw} {w : World} {K : PySem.W.Frag} {h : Heap} {mg : Str -> Option Value} {fa : Addr} (X : K.In h) (G : h.Ns mainGlobals mg) (hfa : mg "law" = some (.ref fa))
    {f_Reading_begin f_Reading_step f_Reading_sign f_Narrowing_begin f_Narrowing_step f_Narrowing_sign f_Choosing_begin f_Choosing_step f_Choosing_sign f_power_of f_without_part f_with_part f_parts_alone f_rooms_with f_rooms_leading_to f_Reading___init__ f_Narrowing___init__ f_Choosing___init__ f__law_number f__law_whole f__law_same f__law_sign f__law_machine f__law_sides f__law_wide f__law_without f__law_alive f__law_next f__law_one_alive f__law_by_left f__law_asked f__law_stepped f_law : Addr} {od_Reading_begin an_Reading_begin od_Reading_step an_Reading_step od_Reading_sign an_Reading_sign od_Narrowing_begin an_Narrowing_begin od_Narrowing_step an_Narrowing_step od_Narrowing_sign an_Narrowing_sign od_Choosing_begin an_Choosing_begin od_Choosing_step an_Choosing_step od_Choosing_sign an_Choosing_sign od_power_of an_power_of od_without_part an_without_part od_with_part an_with_part od_parts_alone an_parts_alone od_rooms_with an_rooms_with od_rooms_leading_to an_rooms_leading_to od_Reading___init__ an_Reading___init__ od_Narrowing___init__ an_Narrowing___init__ od_Choosing___init__ an_Choosing___init__ od__law_number an__law_number od__law_whole an__law_whole od__law_same an__law_same od__law_sign an__law_sign od__law_machine an__law_machine od__law_sides an__law_sides od__law_wide an__law_wide od__law_without an__law_without od__law_alive an__law_alive od__law_next an__law_next od__law_one_alive an__law_one_alive od__law_by_left an__law_by_left od__law_asked an__law_asked od__law_stepped an__law_stepped od_law an_law : Option Addr} {sl_Reading_begin sl_Reading_step sl_Reading_sign sl_Narrowing_begin sl_Narrowing_step sl_Narrowing_sign sl_Choosing_begin sl_Choosing_step sl_Choosing_sign sl_power_of sl_without_part sl_with_part sl_parts_alone sl_rooms_with sl_rooms_leading_to sl_Reading___init__ sl_Narrowing___init__ sl_Choosing___init__ sl__law_number sl__law_whole sl__law_same sl__law_sign sl__law_machine sl__law_sides sl__law_wide sl__law_without sl__law_alive sl__law_next sl__law_one_alive sl__law_by_left sl__law_asked sl__law_stepped sl_law : Array (Option Value)} {oc_Reading_begin kV_Reading_begin dc_Reading_begin pm_Reading_begin cd_Reading_begin ct_Reading_begin oc_Reading_step kV_Reading_step dc_Reading_step pm_Reading_step cd_Reading_step ct_Reading_step oc_Reading_sign kV_Reading_sign dc_Reading_sign pm_Reading_sign cd_Reading_sign ct_Reading_sign oc_Narrowing_begin kV_Narrowing_begin dc_Narrowing_begin pm_Narrowing_begin cd_Narrowing_begin ct_Narrowing_begin oc_Narrowing_step kV_Narrowing_step dc_Narrowing_step pm_Narrowing_step cd_Narrowing_step ct_Narrowing_step oc_Narrowing_sign kV_Narrowing_sign dc_Narrowing_sign pm_Narrowing_sign cd_Narrowing_sign ct_Narrowing_sign oc_Choosing_begin kV_Choosing_begin dc_Choosing_begin pm_Choosing_begin cd_Choosing_begin ct_Choosing_begin oc_Choosing_step kV_Choosing_step dc_Choosing_step pm_Choosing_step cd_Choosing_step ct_Choosing_step oc_Choosing_sign kV_Choosing_sign dc_Choosing_sign pm_Choosing_sign cd_Choosing_sign ct_Choosing_sign oc_power_of kV_power_of dc_power_of pm_power_of cd_power_of ct_power_of oc_without_part kV_without_part dc_without_part pm_without_part cd_without_part ct_without_part oc_with_part kV_with_part dc_with_part pm_with_part cd_with_part ct_with_part oc_parts_alone kV_parts_alone dc_parts_alone pm_parts_alone cd_parts_alone ct_parts_alone oc_rooms_with kV_rooms_with dc_rooms_with pm_rooms_with cd_rooms_with ct_rooms_with oc_rooms_leading_to kV_rooms_leading_to dc_rooms_leading_to pm_rooms_leading_to cd_rooms_leading_to ct_rooms_leading_to oc_Reading___init__ kV_Reading___init__ dc_Reading___init__ pm_Reading___init__ cd_Reading___init__ ct_Reading___init__ oc_Narrowing___init__ kV_Narrowing___init__ dc_Narrowing___init__ pm_Narrowing___init__ cd_Narrowing___init__ ct_Narrowing___init__ oc_Choosing___init__ kV_Choosing___init__ dc_Choosing___init__ pm_Choosing___init__ cd_Choosing___init__ ct_Choosing___init__ oc__law_number kV__law_number dc__law_number pm__law_number cd__law_number ct__law_number oc__law_whole kV__law_whole dc__law_whole pm__law_whole cd__law_whole ct__law_whole oc__law_same kV__law_same dc__law_same pm__law_same cd__law_same ct__law_same oc__law_sign kV__law_sign dc__law_sign pm__law_sign cd__law_sign ct__law_sign oc__law_machine kV__law_machine dc__law_machine pm__law_machine cd__law_machine ct__law_machine oc__law_sides kV__law_sides dc__law_sides pm__law_sides cd__law_sides ct__law_sides oc__law_wide kV__law_wide dc__law_wide pm__law_wide cd__law_wide ct__law_wide oc__law_without kV__law_without dc__law_without pm__law_without cd__law_without ct__law_without oc__law_alive kV__law_alive dc__law_alive pm__law_alive cd__law_alive ct__law_alive oc__law_next kV__law_next dc__law_next pm__law_next cd__law_next ct__law_next oc__law_one_alive kV__law_one_alive dc__law_one_alive pm__law_one_alive cd__law_one_alive ct__law_one_alive oc__law_by_left kV__law_by_left dc__law_by_left pm__law_by_left cd__law_by_left ct__law_by_left oc__law_asked kV__law_asked dc__law_asked pm__law_asked cd__law_asked ct__law_asked oc__law_stepped kV__law_stepped dc__law_stepped pm__law_stepped cd__law_stepped ct__law_stepped oc_law kV_law dc_law pm_law cd_law ct_law : Value}
    (a_power_of : PySem.W.nsIn K mainGlobals "power_of" = some (some (.ref f_power_of))) (l_power_of : K.lookup f_power_of = some ⟨oc_power_of, od_power_of, .func (PySem.W.fnOf "power_of" "power_of" (defArgs s_power_of) (defBody s_power_of) (defScope s_power_of) .none kV_power_of dc_power_of pm_power_of an_power_of cd_power_of ct_power_of), sl_power_of⟩) (c_power_of : PySem.W.codeIn K cd_power_of "power_of" = true) (k_power_of : PySem.W.keepIn K (.ref f_power_of) = true)
    (a_without_part : PySem.W.nsIn K mainGlobals "without_part" = some (some (.ref f_without_part))) (l_without_part : K.lookup f_without_part = some ⟨oc_without_part, od_without_part, .func (PySem.W.fnOf "without_part" "without_part" (defArgs s_without_part) (defBody s_without_part) (defScope s_without_part) .none kV_without_part dc_without_part pm_without_part an_without_part cd_without_part ct_without_part), sl_without_part⟩) (c_without_part : PySem.W.codeIn K cd_without_part "without_part" = true) (k_without_part : PySem.W.keepIn K (.ref f_without_part) = true)
    (a_with_part : PySem.W.nsIn K mainGlobals "with_part" = some (some (.ref f_with_part))) (l_with_part : K.lookup f_with_part = some ⟨oc_with_part, od_with_part, .func (PySem.W.fnOf "with_part" "with_part" (defArgs s_with_part) (defBody s_with_part) (defScope s_with_part) .none kV_with_part dc_with_part pm_with_part an_with_part cd_with_part ct_with_part), sl_with_part⟩) (c_with_part : PySem.W.codeIn K cd_with_part "with_part" = true) (k_with_part : PySem.W.keepIn K (.ref f_with_part) = true)
    (a_parts_alone : PySem.W.nsIn K mainGlobals "parts_alone" = some (some (.ref f_parts_alone))) (l_parts_alone : K.lookup f_parts_alone = some ⟨oc_parts_alone, od_parts_alone, .func (PySem.W.fnOf "parts_alone" "parts_alone" (defArgs s_parts_alone) (defBody s_parts_alone) (defScope s_parts_alone) .none kV_parts_alone dc_parts_alone pm_parts_alone an_parts_alone cd_parts_alone ct_parts_alone), sl_parts_alone⟩) (c_parts_alone : PySem.W.codeIn K cd_parts_alone "parts_alone" = true) (k_parts_alone : PySem.W.keepIn K (.ref f_parts_alone) = true)
    (a_rooms_with : PySem.W.nsIn K mainGlobals "rooms_with" = some (some (.ref f_rooms_with))) (l_rooms_with : K.lookup f_rooms_with = some ⟨oc_rooms_with, od_rooms_with, .func (PySem.W.fnOf "rooms_with" "rooms_with" (defArgs s_rooms_with) (defBody s_rooms_with) (defScope s_rooms_with) .none kV_rooms_with dc_rooms_with pm_rooms_with an_rooms_with cd_rooms_with ct_rooms_with), sl_rooms_with⟩) (c_rooms_with : PySem.W.codeIn K cd_rooms_with "rooms_with" = true) (k_rooms_with : PySem.W.keepIn K (.ref f_rooms_with) = true)
    (a_rooms_leading_to : PySem.W.nsIn K mainGlobals "rooms_leading_to" = some (some (.ref f_rooms_leading_to))) (l_rooms_leading_to : K.lookup f_rooms_leading_to = some ⟨oc_rooms_leading_to, od_rooms_leading_to, .func (PySem.W.fnOf "rooms_leading_to" "rooms_leading_to" (defArgs s_rooms_leading_to) (defBody s_rooms_leading_to) (defScope s_rooms_leading_to) .none kV_rooms_leading_to dc_rooms_leading_to pm_rooms_leading_to an_rooms_leading_to cd_rooms_leading_to ct_rooms_leading_to), sl_rooms_leading_to⟩) (c_rooms_leading_to : PySem.W.codeIn K cd_rooms_leading_to "rooms_leading_to" = true) (k_rooms_leading_to : PySem.W.keepIn K (.ref f_rooms_leading_to) = true)
    (a__law_number : PySem.W.nsIn K mainGlobals "_law_number" = some (some (.ref f__law_number))) (l__law_number : K.lookup f__law_number = some ⟨oc__law_number, od__law_number, .func (PySem.W.fnOf "_law_number" "_law_number" (defArgs s__law_number) (defBody s__law_number) (defScope s__law_number) .none kV__law_number dc__law_number pm__law_number an__law_number cd__law_number ct__law_number), sl__law_number⟩) (c__law_number : PySem.W.codeIn K cd__law_number "_law_number" = true) (k__law_number : PySem.W.keepIn K (.ref f__law_number) = true)
    (a__law_whole : PySem.W.nsIn K mainGlobals "_law_whole" = some (some (.ref f__law_whole))) (l__law_whole : K.lookup f__law_whole = some ⟨oc__law_whole, od__law_whole, .func (PySem.W.fnOf "_law_whole" "_law_whole" (defArgs s__law_whole) (defBody s__law_whole) (defScope s__law_whole) .none kV__law_whole dc__law_whole pm__law_whole an__law_whole cd__law_whole ct__law_whole), sl__law_whole⟩) (c__law_whole : PySem.W.codeIn K cd__law_whole "_law_whole" = true) (k__law_whole : PySem.W.keepIn K (.ref f__law_whole) = true)
    (a__law_same : PySem.W.nsIn K mainGlobals "_law_same" = some (some (.ref f__law_same))) (l__law_same : K.lookup f__law_same = some ⟨oc__law_same, od__law_same, .func (PySem.W.fnOf "_law_same" "_law_same" (defArgs s__law_same) (defBody s__law_same) (defScope s__law_same) .none kV__law_same dc__law_same pm__law_same an__law_same cd__law_same ct__law_same), sl__law_same⟩) (c__law_same : PySem.W.codeIn K cd__law_same "_law_same" = true) (k__law_same : PySem.W.keepIn K (.ref f__law_same) = true)
    (a__law_sign : PySem.W.nsIn K mainGlobals "_law_sign" = some (some (.ref f__law_sign))) (l__law_sign : K.lookup f__law_sign = some ⟨oc__law_sign, od__law_sign, .func (PySem.W.fnOf "_law_sign" "_law_sign" (defArgs s__law_sign) (defBody s__law_sign) (defScope s__law_sign) .none kV__law_sign dc__law_sign pm__law_sign an__law_sign cd__law_sign ct__law_sign), sl__law_sign⟩) (c__law_sign : PySem.W.codeIn K cd__law_sign "_law_sign" = true) (k__law_sign : PySem.W.keepIn K (.ref f__law_sign) = true)
    (a__law_machine : PySem.W.nsIn K mainGlobals "_law_machine" = some (some (.ref f__law_machine))) (l__law_machine : K.lookup f__law_machine = some ⟨oc__law_machine, od__law_machine, .func (PySem.W.fnOf "_law_machine" "_law_machine" (defArgs s__law_machine) (defBody s__law_machine) (defScope s__law_machine) .none kV__law_machine dc__law_machine pm__law_machine an__law_machine cd__law_machine ct__law_machine), sl__law_machine⟩) (c__law_machine : PySem.W.codeIn K cd__law_machine "_law_machine" = true) (k__law_machine : PySem.W.keepIn K (.ref f__law_machine) = true)
    (a__law_sides : PySem.W.nsIn K mainGlobals "_law_sides" = some (some (.ref f__law_sides))) (l__law_sides : K.lookup f__law_sides = some ⟨oc__law_sides, od__law_sides, .func (PySem.W.fnOf "_law_sides" "_law_sides" (defArgs s__law_sides) (defBody s__law_sides) (defScope s__law_sides) .none kV__law_sides dc__law_sides pm__law_sides an__law_sides cd__law_sides ct__law_sides), sl__law_sides⟩) (c__law_sides : PySem.W.codeIn K cd__law_sides "_law_sides" = true) (k__law_sides : PySem.W.keepIn K (.ref f__law_sides) = true)
    (a__law_wide : PySem.W.nsIn K mainGlobals "_law_wide" = some (some (.ref f__law_wide))) (l__law_wide : K.lookup f__law_wide = some ⟨oc__law_wide, od__law_wide, .func (PySem.W.fnOf "_law_wide" "_law_wide" (defArgs s__law_wide) (defBody s__law_wide) (defScope s__law_wide) .none kV__law_wide dc__law_wide pm__law_wide an__law_wide cd__law_wide ct__law_wide), sl__law_wide⟩) (c__law_wide : PySem.W.codeIn K cd__law_wide "_law_wide" = true) (k__law_wide : PySem.W.keepIn K (.ref f__law_wide) = true)
    (a__law_without : PySem.W.nsIn K mainGlobals "_law_without" = some (some (.ref f__law_without))) (l__law_without : K.lookup f__law_without = some ⟨oc__law_without, od__law_without, .func (PySem.W.fnOf "_law_without" "_law_without" (defArgs s__law_without) (defBody s__law_without) (defScope s__law_without) .none kV__law_without dc__law_without pm__law_without an__law_without cd__law_without ct__law_without), sl__law_without⟩) (c__law_without : PySem.W.codeIn K cd__law_without "_law_without" = true) (k__law_without : PySem.W.keepIn K (.ref f__law_without) = true)
    (a__law_alive : PySem.W.nsIn K mainGlobals "_law_alive" = some (some (.ref f__law_alive))) (l__law_alive : K.lookup f__law_alive = some ⟨oc__law_alive, od__law_alive, .func (PySem.W.fnOf "_law_alive" "_law_alive" (defArgs s__law_alive) (defBody s__law_alive) (defScope s__law_alive) .none kV__law_alive dc__law_alive pm__law_alive an__law_alive cd__law_alive ct__law_alive), sl__law_alive⟩) (c__law_alive : PySem.W.codeIn K cd__law_alive "_law_alive" = true) (k__law_alive : PySem.W.keepIn K (.ref f__law_alive) = true)
    (a__law_next : PySem.W.nsIn K mainGlobals "_law_next" = some (some (.ref f__law_next))) (l__law_next : K.lookup f__law_next = some ⟨oc__law_next, od__law_next, .func (PySem.W.fnOf "_law_next" "_law_next" (defArgs s__law_next) (defBody s__law_next) (defScope s__law_next) .none kV__law_next dc__law_next pm__law_next an__law_next cd__law_next ct__law_next), sl__law_next⟩) (c__law_next : PySem.W.codeIn K cd__law_next "_law_next" = true) (k__law_next : PySem.W.keepIn K (.ref f__law_next) = true)
    (a__law_one_alive : PySem.W.nsIn K mainGlobals "_law_one_alive" = some (some (.ref f__law_one_alive))) (l__law_one_alive : K.lookup f__law_one_alive = some ⟨oc__law_one_alive, od__law_one_alive, .func (PySem.W.fnOf "_law_one_alive" "_law_one_alive" (defArgs s__law_one_alive) (defBody s__law_one_alive) (defScope s__law_one_alive) .none kV__law_one_alive dc__law_one_alive pm__law_one_alive an__law_one_alive cd__law_one_alive ct__law_one_alive), sl__law_one_alive⟩) (c__law_one_alive : PySem.W.codeIn K cd__law_one_alive "_law_one_alive" = true) (k__law_one_alive : PySem.W.keepIn K (.ref f__law_one_alive) = true)
    (a__law_by_left : PySem.W.nsIn K mainGlobals "_law_by_left" = some (some (.ref f__law_by_left))) (l__law_by_left : K.lookup f__law_by_left = some ⟨oc__law_by_left, od__law_by_left, .func (PySem.W.fnOf "_law_by_left" "_law_by_left" (defArgs s__law_by_left) (defBody s__law_by_left) (defScope s__law_by_left) .none kV__law_by_left dc__law_by_left pm__law_by_left an__law_by_left cd__law_by_left ct__law_by_left), sl__law_by_left⟩) (c__law_by_left : PySem.W.codeIn K cd__law_by_left "_law_by_left" = true) (k__law_by_left : PySem.W.keepIn K (.ref f__law_by_left) = true)
    (a__law_asked : PySem.W.nsIn K mainGlobals "_law_asked" = some (some (.ref f__law_asked))) (l__law_asked : K.lookup f__law_asked = some ⟨oc__law_asked, od__law_asked, .func (PySem.W.fnOf "_law_asked" "_law_asked" (defArgs s__law_asked) (defBody s__law_asked) (defScope s__law_asked) .none kV__law_asked dc__law_asked pm__law_asked an__law_asked cd__law_asked ct__law_asked), sl__law_asked⟩) (c__law_asked : PySem.W.codeIn K cd__law_asked "_law_asked" = true) (k__law_asked : PySem.W.keepIn K (.ref f__law_asked) = true)
    (a__law_stepped : PySem.W.nsIn K mainGlobals "_law_stepped" = some (some (.ref f__law_stepped))) (l__law_stepped : K.lookup f__law_stepped = some ⟨oc__law_stepped, od__law_stepped, .func (PySem.W.fnOf "_law_stepped" "_law_stepped" (defArgs s__law_stepped) (defBody s__law_stepped) (defScope s__law_stepped) .none kV__law_stepped dc__law_stepped pm__law_stepped an__law_stepped cd__law_stepped ct__law_stepped), sl__law_stepped⟩) (c__law_stepped : PySem.W.codeIn K cd__law_stepped "_law_stepped" = true) (k__law_stepped : PySem.W.keepIn K (.ref f__law_stepped) = true)
    (a_law : PySem.W.nsIn K mainGlobals "law" = some (some (.ref f_law))) (l_law : K.lookup f_law = some ⟨oc_law, od_law, .func (PySem.W.fnOf "law" "law" (defArgs s_law) (defBody s_law) (defScope s_law) .none kV_law dc_law pm_law an_law cd_law ct_law), sl_law⟩) (c_law : PySem.W.codeIn K cd_law "law" = true) (k_law : PySem.W.keepIn K (.ref f_law) = true)
    (y_len : PySem.W.nsIn K mainGlobals "len" = some none)
    (y_range : PySem.W.nsIn K mainGlobals "range" = some none)
    (y_tuple : PySem.W.nsIn K mainGlobals "tuple" = some none)
    (y_list : PySem.W.nsIn K mainGlobals "list" = some none)
    (y_isinstance : PySem.W.nsIn K mainGlobals "isinstance" = some none)
    (y_int : PySem.W.nsIn K mainGlobals "int" = some none)
    (y_bool : PySem.W.nsIn K mainGlobals "bool" = some none)
    (y_zip : PySem.W.nsIn K mainGlobals "zip" = some none)
    (y_reversed : PySem.W.nsIn K mainGlobals "reversed" = some none)
    (y_sorted : PySem.W.nsIn K mainGlobals "sorted" = some none)
    (y_set : PySem.W.nsIn K mainGlobals "set" = some none)
    (y_any : PySem.W.nsIn K mainGlobals "any" = some none)
    (y_enumerate : PySem.W.nsIn K mainGlobals "enumerate" = some none)
    (y_dict : PySem.W.nsIn K mainGlobals "dict" = some none)
    {C_Walk : Addr} (cl_Walk : PySem.W.nsIn K mainGlobals "Walk" = some (some (.ref C_Walk)))
    {C_Reading : Addr} (cl_Reading : PySem.W.nsIn K mainGlobals "Reading" = some (some (.ref C_Reading)))
    {C_Narrowing : Addr} (cl_Narrowing : PySem.W.nsIn K mainGlobals "Narrowing" = some (some (.ref C_Narrowing)))
    {C_Choosing : Addr} (cl_Choosing : PySem.W.nsIn K mainGlobals "Choosing" = some (some (.ref C_Choosing)))
    (a_Reading_begin : PySem.W.findIn K (.ref C_Reading) "begin" = some (some (.ref f_Reading_begin))) (l_Reading_begin : K.lookup f_Reading_begin = some ⟨oc_Reading_begin, od_Reading_begin, .func (PySem.W.fnOf "begin" "Reading.begin" (defArgs s_Reading_begin) (defBody s_Reading_begin) (defScope s_Reading_begin) .none kV_Reading_begin dc_Reading_begin pm_Reading_begin an_Reading_begin cd_Reading_begin ct_Reading_begin), sl_Reading_begin⟩) (c_Reading_begin : PySem.W.codeIn K cd_Reading_begin "Reading.begin" = true) (k_Reading_begin : PySem.W.keepIn K (.ref f_Reading_begin) = true)
    (a_Reading_step : PySem.W.findIn K (.ref C_Reading) "step" = some (some (.ref f_Reading_step))) (l_Reading_step : K.lookup f_Reading_step = some ⟨oc_Reading_step, od_Reading_step, .func (PySem.W.fnOf "step" "Reading.step" (defArgs s_Reading_step) (defBody s_Reading_step) (defScope s_Reading_step) .none kV_Reading_step dc_Reading_step pm_Reading_step an_Reading_step cd_Reading_step ct_Reading_step), sl_Reading_step⟩) (c_Reading_step : PySem.W.codeIn K cd_Reading_step "Reading.step" = true) (k_Reading_step : PySem.W.keepIn K (.ref f_Reading_step) = true)
    (a_Reading_sign : PySem.W.findIn K (.ref C_Reading) "sign" = some (some (.ref f_Reading_sign))) (l_Reading_sign : K.lookup f_Reading_sign = some ⟨oc_Reading_sign, od_Reading_sign, .func (PySem.W.fnOf "sign" "Reading.sign" (defArgs s_Reading_sign) (defBody s_Reading_sign) (defScope s_Reading_sign) .none kV_Reading_sign dc_Reading_sign pm_Reading_sign an_Reading_sign cd_Reading_sign ct_Reading_sign), sl_Reading_sign⟩) (c_Reading_sign : PySem.W.codeIn K cd_Reading_sign "Reading.sign" = true) (k_Reading_sign : PySem.W.keepIn K (.ref f_Reading_sign) = true)
    (a_Narrowing_begin : PySem.W.findIn K (.ref C_Narrowing) "begin" = some (some (.ref f_Narrowing_begin))) (l_Narrowing_begin : K.lookup f_Narrowing_begin = some ⟨oc_Narrowing_begin, od_Narrowing_begin, .func (PySem.W.fnOf "begin" "Narrowing.begin" (defArgs s_Narrowing_begin) (defBody s_Narrowing_begin) (defScope s_Narrowing_begin) .none kV_Narrowing_begin dc_Narrowing_begin pm_Narrowing_begin an_Narrowing_begin cd_Narrowing_begin ct_Narrowing_begin), sl_Narrowing_begin⟩) (c_Narrowing_begin : PySem.W.codeIn K cd_Narrowing_begin "Narrowing.begin" = true) (k_Narrowing_begin : PySem.W.keepIn K (.ref f_Narrowing_begin) = true)
    (a_Narrowing_step : PySem.W.findIn K (.ref C_Narrowing) "step" = some (some (.ref f_Narrowing_step))) (l_Narrowing_step : K.lookup f_Narrowing_step = some ⟨oc_Narrowing_step, od_Narrowing_step, .func (PySem.W.fnOf "step" "Narrowing.step" (defArgs s_Narrowing_step) (defBody s_Narrowing_step) (defScope s_Narrowing_step) .none kV_Narrowing_step dc_Narrowing_step pm_Narrowing_step an_Narrowing_step cd_Narrowing_step ct_Narrowing_step), sl_Narrowing_step⟩) (c_Narrowing_step : PySem.W.codeIn K cd_Narrowing_step "Narrowing.step" = true) (k_Narrowing_step : PySem.W.keepIn K (.ref f_Narrowing_step) = true)
    (a_Narrowing_sign : PySem.W.findIn K (.ref C_Narrowing) "sign" = some (some (.ref f_Narrowing_sign))) (l_Narrowing_sign : K.lookup f_Narrowing_sign = some ⟨oc_Narrowing_sign, od_Narrowing_sign, .func (PySem.W.fnOf "sign" "Narrowing.sign" (defArgs s_Narrowing_sign) (defBody s_Narrowing_sign) (defScope s_Narrowing_sign) .none kV_Narrowing_sign dc_Narrowing_sign pm_Narrowing_sign an_Narrowing_sign cd_Narrowing_sign ct_Narrowing_sign), sl_Narrowing_sign⟩) (c_Narrowing_sign : PySem.W.codeIn K cd_Narrowing_sign "Narrowing.sign" = true) (k_Narrowing_sign : PySem.W.keepIn K (.ref f_Narrowing_sign) = true)
    (a_Choosing_begin : PySem.W.findIn K (.ref C_Choosing) "begin" = some (some (.ref f_Choosing_begin))) (l_Choosing_begin : K.lookup f_Choosing_begin = some ⟨oc_Choosing_begin, od_Choosing_begin, .func (PySem.W.fnOf "begin" "Choosing.begin" (defArgs s_Choosing_begin) (defBody s_Choosing_begin) (defScope s_Choosing_begin) .none kV_Choosing_begin dc_Choosing_begin pm_Choosing_begin an_Choosing_begin cd_Choosing_begin ct_Choosing_begin), sl_Choosing_begin⟩) (c_Choosing_begin : PySem.W.codeIn K cd_Choosing_begin "Choosing.begin" = true) (k_Choosing_begin : PySem.W.keepIn K (.ref f_Choosing_begin) = true)
    (a_Choosing_step : PySem.W.findIn K (.ref C_Choosing) "step" = some (some (.ref f_Choosing_step))) (l_Choosing_step : K.lookup f_Choosing_step = some ⟨oc_Choosing_step, od_Choosing_step, .func (PySem.W.fnOf "step" "Choosing.step" (defArgs s_Choosing_step) (defBody s_Choosing_step) (defScope s_Choosing_step) .none kV_Choosing_step dc_Choosing_step pm_Choosing_step an_Choosing_step cd_Choosing_step ct_Choosing_step), sl_Choosing_step⟩) (c_Choosing_step : PySem.W.codeIn K cd_Choosing_step "Choosing.step" = true) (k_Choosing_step : PySem.W.keepIn K (.ref f_Choosing_step) = true)
    (a_Choosing_sign : PySem.W.findIn K (.ref C_Choosing) "sign" = some (some (.ref f_Choosing_sign))) (l_Choosing_sign : K.lookup f_Choosing_sign = some ⟨oc_Choosing_sign, od_Choosing_sign, .func (PySem.W.fnOf "sign" "Choosing.sign" (defArgs s_Choosing_sign) (defBody s_Choosing_sign) (defScope s_Choosing_sign) .none kV_Choosing_sign dc_Choosing_sign pm_Choosing_sign an_Choosing_sign cd_Choosing_sign ct_Choosing_sign), sl_Choosing_sign⟩) (c_Choosing_sign : PySem.W.codeIn K cd_Choosing_sign "Choosing.sign" = true) (k_Choosing_sign : PySem.W.keepIn K (.ref f_Choosing_sign) = true)
    (a_Reading___init__ : PySem.W.findIn K (.ref C_Reading) "__init__" = some (some (.ref f_Reading___init__))) (l_Reading___init__ : K.lookup f_Reading___init__ = some ⟨oc_Reading___init__, od_Reading___init__, .func (PySem.W.fnOf "__init__" "Reading.__init__" (defArgs s_Reading___init__) (defBody s_Reading___init__) (defScope s_Reading___init__) .none kV_Reading___init__ dc_Reading___init__ pm_Reading___init__ an_Reading___init__ cd_Reading___init__ ct_Reading___init__), sl_Reading___init__⟩) (c_Reading___init__ : PySem.W.codeIn K cd_Reading___init__ "Reading.__init__" = true) (k_Reading___init__ : PySem.W.keepIn K (.ref f_Reading___init__) = true)
    (a_Narrowing___init__ : PySem.W.findIn K (.ref C_Narrowing) "__init__" = some (some (.ref f_Narrowing___init__))) (l_Narrowing___init__ : K.lookup f_Narrowing___init__ = some ⟨oc_Narrowing___init__, od_Narrowing___init__, .func (PySem.W.fnOf "__init__" "Narrowing.__init__" (defArgs s_Narrowing___init__) (defBody s_Narrowing___init__) (defScope s_Narrowing___init__) .none kV_Narrowing___init__ dc_Narrowing___init__ pm_Narrowing___init__ an_Narrowing___init__ cd_Narrowing___init__ ct_Narrowing___init__), sl_Narrowing___init__⟩) (c_Narrowing___init__ : PySem.W.codeIn K cd_Narrowing___init__ "Narrowing.__init__" = true) (k_Narrowing___init__ : PySem.W.keepIn K (.ref f_Narrowing___init__) = true)
    (a_Choosing___init__ : PySem.W.findIn K (.ref C_Choosing) "__init__" = some (some (.ref f_Choosing___init__))) (l_Choosing___init__ : K.lookup f_Choosing___init__ = some ⟨oc_Choosing___init__, od_Choosing___init__, .func (PySem.W.fnOf "__init__" "Choosing.__init__" (defArgs s_Choosing___init__) (defBody s_Choosing___init__) (defScope s_Choosing___init__) .none kV_Choosing___init__ dc_Choosing___init__ pm_Choosing___init__ an_Choosing___init__ cd_Choosing___init__ ct_Choosing___init__), sl_Choosing___init__⟩) (c_Choosing___init__ : PySem.W.codeIn K cd_Choosing___init__ "Choosing.__init__" = true) (k_Choosing___init__ : PySem.W.keepIn K (.ref f_Choosing___init__) = true)
    (cR_pg : PySem.W.plainGet K C_Reading Str.empty = true)
    (cR_hd : PySem.W.hasDictIn K C_Reading = true)
    (cR_po : PySem.W.plainOver K C_Reading = true)
    (cR_sa : PySem.W.findIn K (.ref C_Reading) "__setattr__" = some (some (.builtin "object.__setattr__")))
    (cR_n_rows : PySem.W.findIn K (.ref C_Reading) "rows" = some none)
    (cR_n_signs : PySem.W.findIn K (.ref C_Reading) "signs" = some none)
    (cR_mk : PySem.W.makesIn K C_Reading = true)
    (cR_fi : PySem.W.isFn K (.ref f_Reading___init__) = true)
    (cR_kp : PySem.W.keepIn K (.ref C_Reading) = true)
    (fn_Reading_begin : PySem.W.isFn K (.ref f_Reading_begin) = true)
    (fn_Reading_step : PySem.W.isFn K (.ref f_Reading_step) = true)
    (fn_Reading_sign : PySem.W.isFn K (.ref f_Reading_sign) = true)
    (cN_pg : PySem.W.plainGet K C_Narrowing Str.empty = true)
    (cN_hd : PySem.W.hasDictIn K C_Narrowing = true)
    (cN_po : PySem.W.plainOver K C_Narrowing = true)
    (cN_sa : PySem.W.findIn K (.ref C_Narrowing) "__setattr__" = some (some (.builtin "object.__setattr__")))
    (cN_n_walk : PySem.W.findIn K (.ref C_Narrowing) "walk" = some none)
    (cN_n_base : PySem.W.findIn K (.ref C_Narrowing) "base" = some none)
    (cN_n_below : PySem.W.findIn K (.ref C_Narrowing) "below" = some none)
    (cN_mk : PySem.W.makesIn K C_Narrowing = true)
    (cN_fi : PySem.W.isFn K (.ref f_Narrowing___init__) = true)
    (cN_kp : PySem.W.keepIn K (.ref C_Narrowing) = true)
    (fn_Narrowing_begin : PySem.W.isFn K (.ref f_Narrowing_begin) = true)
    (fn_Narrowing_step : PySem.W.isFn K (.ref f_Narrowing_step) = true)
    (fn_Narrowing_sign : PySem.W.isFn K (.ref f_Narrowing_sign) = true)
    (cC_pg : PySem.W.plainGet K C_Choosing Str.empty = true)
    (cC_hd : PySem.W.hasDictIn K C_Choosing = true)
    (cC_po : PySem.W.plainOver K C_Choosing = true)
    (cC_sa : PySem.W.findIn K (.ref C_Choosing) "__setattr__" = some (some (.builtin "object.__setattr__")))
    (cC_n_rows : PySem.W.findIn K (.ref C_Choosing) "rows" = some none)
    (cC_n_base : PySem.W.findIn K (.ref C_Choosing) "base" = some none)
    (cC_n_below : PySem.W.findIn K (.ref C_Choosing) "below" = some none)
    (cC_n_winning : PySem.W.findIn K (.ref C_Choosing) "winning" = some none)
    (cC_mk : PySem.W.makesIn K C_Choosing = true)
    (cC_fi : PySem.W.isFn K (.ref f_Choosing___init__) = true)
    (cC_kp : PySem.W.keepIn K (.ref C_Choosing) = true)
    (fn_Choosing_begin : PySem.W.isFn K (.ref f_Choosing_begin) = true)
    (fn_Choosing_step : PySem.W.isFn K (.ref f_Choosing_step) = true)
    (fn_Choosing_sign : PySem.W.isFn K (.ref f_Choosing_sign) = true)
    (cN_cc : PySem.W.findIn K (.ref C_Narrowing) "__class__" = some (some (.builtin "object.__class__")))
    (cN_mo : PySem.W.mroIn K C_Narrowing (.type "object") = some true)
    (kk_cN : PySem.W.kitOne K (.ref C_Narrowing) (.ref C_Walk) = some true)
    (cC_cc : PySem.W.findIn K (.ref C_Choosing) "__class__" = some (some (.builtin "object.__class__")))
    (cC_mo : PySem.W.mroIn K C_Choosing (.type "object") = some true)
    (kk_cC : PySem.W.kitOne K (.ref C_Choosing) (.ref C_Walk) = some true)
    (c_sp : PySem.W.specialIn K (.builtin "object.__class__") "__get__" = some (some (.builtin "getset_descriptor.__get__")))
    (c_tk : PySem.W.takesIn K (.builtin "object.__class__") = some true) :
    ∃ fd : FuncData, (∀ (s : Shared) (v : Value), BindsTo s fd ⟨[v], []⟩ [("_law_script", v)]) /\ ∀ base : Heap, K.In base -> base.Ns mainGlobals mg -> FnOk l.prog w K mg base CX0 5 fa fd ["_law_script"] (spLaw K) := by
  have e := hfa.symm.trans (PySem.W.mg_of X G a_law)
  cases e
  have F_Reading_begin := fund_mk (st := s_Reading_begin) l_Reading_begin c_Reading_begin k_Reading_begin
  have b_Reading_begin := F_Reading_begin.binds (ps := ["self"]) fun _ _ _ _ _ _ us hl => len1 hl fun _ => rfl
  have F_Reading_step := fund_mk (st := s_Reading_step) l_Reading_step c_Reading_step k_Reading_step
  have b_Reading_step := F_Reading_step.binds (ps := ["self", "place", "figure"]) fun _ _ _ _ _ _ us hl => len3 hl fun _ _ _ => rfl
  have F_Reading_sign := fund_mk (st := s_Reading_sign) l_Reading_sign c_Reading_sign k_Reading_sign
  have b_Reading_sign := F_Reading_sign.binds (ps := ["self", "place"]) fun _ _ _ _ _ _ us hl => len2 hl fun _ _ => rfl
  have F_Narrowing_begin := fund_mk (st := s_Narrowing_begin) l_Narrowing_begin c_Narrowing_begin k_Narrowing_begin
  have b_Narrowing_begin := F_Narrowing_begin.binds (ps := ["self"]) fun _ _ _ _ _ _ us hl => len1 hl fun _ => rfl
  have F_Narrowing_step := fund_mk (st := s_Narrowing_step) l_Narrowing_step c_Narrowing_step k_Narrowing_step
  have b_Narrowing_step := F_Narrowing_step.binds (ps := ["self", "place", "figure"]) fun _ _ _ _ _ _ us hl => len3 hl fun _ _ _ => rfl
  have F_Narrowing_sign := fund_mk (st := s_Narrowing_sign) l_Narrowing_sign c_Narrowing_sign k_Narrowing_sign
  have b_Narrowing_sign := F_Narrowing_sign.binds (ps := ["self", "place"]) fun _ _ _ _ _ _ us hl => len2 hl fun _ _ => rfl
  have F_Choosing_begin := fund_mk (st := s_Choosing_begin) l_Choosing_begin c_Choosing_begin k_Choosing_begin
  have b_Choosing_begin := F_Choosing_begin.binds (ps := ["self"]) fun _ _ _ _ _ _ us hl => len1 hl fun _ => rfl
  have F_Choosing_step := fund_mk (st := s_Choosing_step) l_Choosing_step c_Choosing_step k_Choosing_step
  have b_Choosing_step := F_Choosing_step.binds (ps := ["self", "place", "figure"]) fun _ _ _ _ _ _ us hl => len3 hl fun _ _ _ => rfl
  have F_Choosing_sign := fund_mk (st := s_Choosing_sign) l_Choosing_sign c_Choosing_sign k_Choosing_sign
  have b_Choosing_sign := F_Choosing_sign.binds (ps := ["self", "place"]) fun _ _ _ _ _ _ us hl => len2 hl fun _ _ => rfl
  have F_power_of := fund_mk (st := s_power_of) l_power_of c_power_of k_power_of
  have b_power_of := F_power_of.binds (ps := ["base", "times"]) fun _ _ _ _ _ _ us hl => len2 hl fun _ _ => rfl
  have m_power_of := PySem.W.mg_of X G a_power_of
  have F_without_part := fund_mk (st := s_without_part) l_without_part c_without_part k_without_part
  have b_without_part := F_without_part.binds (ps := ["figure", "base", "below"]) fun _ _ _ _ _ _ us hl => len3 hl fun _ _ _ => rfl
  have m_without_part := PySem.W.mg_of X G a_without_part
  have F_with_part := fund_mk (st := s_with_part) l_with_part c_with_part k_with_part
  have b_with_part := F_with_part.binds (ps := ["figure", "base", "below", "part"]) fun _ _ _ _ _ _ us hl => len4 hl fun _ _ _ _ => rfl
  have m_with_part := PySem.W.mg_of X G a_with_part
  have F_parts_alone := fund_mk (st := s_parts_alone) l_parts_alone c_parts_alone k_parts_alone
  have b_parts_alone := F_parts_alone.binds (ps := ["base", "below"]) fun _ _ _ _ _ _ us hl => len2 hl fun _ _ => rfl
  have m_parts_alone := PySem.W.mg_of X G a_parts_alone
  have F_rooms_with := fund_mk (st := s_rooms_with) l_rooms_with c_rooms_with k_rooms_with
  have b_rooms_with := F_rooms_with.binds (ps := ["machine", "sign"]) fun _ _ _ _ _ _ us hl => len2 hl fun _ _ => rfl
  have m_rooms_with := PySem.W.mg_of X G a_rooms_with
  have F_rooms_leading_to := fund_mk (st := s_rooms_leading_to) l_rooms_leading_to c_rooms_leading_to k_rooms_leading_to
  have b_rooms_leading_to := F_rooms_leading_to.binds (ps := ["machine", "goals", "taken"]) fun _ _ _ _ _ _ us hl => len3 hl fun _ _ _ => rfl
  have m_rooms_leading_to := PySem.W.mg_of X G a_rooms_leading_to
  have F_Reading___init__ := fund_mk (st := s_Reading___init__) l_Reading___init__ c_Reading___init__ k_Reading___init__
  have b_Reading___init__ := F_Reading___init__.binds (ps := ["self", "machine"]) fun _ _ _ _ _ _ us hl => len2 hl fun _ _ => rfl
  have F_Narrowing___init__ := fund_mk (st := s_Narrowing___init__) l_Narrowing___init__ c_Narrowing___init__ k_Narrowing___init__
  have b_Narrowing___init__ := F_Narrowing___init__.binds (ps := ["self", "walk", "base", "at"]) fun _ _ _ _ _ _ us hl => len4 hl fun _ _ _ _ => rfl
  have F_Choosing___init__ := fund_mk (st := s_Choosing___init__) l_Choosing___init__ c_Choosing___init__ k_Choosing___init__
  have b_Choosing___init__ := F_Choosing___init__.binds (ps := ["self", "machine", "base", "at"]) fun _ _ _ _ _ _ us hl => len4 hl fun _ _ _ _ => rfl
  have F__law_number := fund_mk (st := s__law_number) l__law_number c__law_number k__law_number
  have b__law_number := F__law_number.binds (ps := ["_law_script", "_law_k"]) fun _ _ _ _ _ _ us hl => len2 hl fun _ _ => rfl
  have m__law_number := PySem.W.mg_of X G a__law_number
  have F__law_whole := fund_mk (st := s__law_whole) l__law_whole c__law_whole k__law_whole
  have b__law_whole := F__law_whole.binds (ps := ["_law_found"]) fun _ _ _ _ _ _ us hl => len1 hl fun _ => rfl
  have m__law_whole := PySem.W.mg_of X G a__law_whole
  have F__law_same := fund_mk (st := s__law_same) l__law_same c__law_same k__law_same
  have b__law_same := F__law_same.binds (ps := ["_law_found", "_law_due"]) fun _ _ _ _ _ _ us hl => len2 hl fun _ _ => rfl
  have m__law_same := PySem.W.mg_of X G a__law_same
  have F__law_sign := fund_mk (st := s__law_sign) l__law_sign c__law_sign k__law_sign
  have b__law_sign := F__law_sign.binds (ps := ["_law_number_here"]) fun _ _ _ _ _ _ us hl => len1 hl fun _ => rfl
  have m__law_sign := PySem.W.mg_of X G a__law_sign
  have F__law_machine := fund_mk (st := s__law_machine) l__law_machine c__law_machine k__law_machine
  have b__law_machine := F__law_machine.binds (ps := ["_law_script", "_law_start", "_law_wide_here", "_law_many"]) fun _ _ _ _ _ _ us hl => len4 hl fun _ _ _ _ => rfl
  have m__law_machine := PySem.W.mg_of X G a__law_machine
  have F__law_sides := fund_mk (st := s__law_sides) l__law_sides c__law_sides k__law_sides
  have b__law_sides := F__law_sides.binds (ps := ["_law_number_here"]) fun _ _ _ _ _ _ us hl => len1 hl fun _ => rfl
  have m__law_sides := PySem.W.mg_of X G a__law_sides
  have F__law_wide := fund_mk (st := s__law_wide) l__law_wide c__law_wide k__law_wide
  have b__law_wide := F__law_wide.binds (ps := ["_law_base", "_law_many"]) fun _ _ _ _ _ _ us hl => len2 hl fun _ _ => rfl
  have m__law_wide := PySem.W.mg_of X G a__law_wide
  have F__law_without := fund_mk (st := s__law_without) l__law_without c__law_without k__law_without
  have b__law_without := F__law_without.binds (ps := ["_law_figure", "_law_base", "_law_at"]) fun _ _ _ _ _ _ us hl => len3 hl fun _ _ _ => rfl
  have m__law_without := PySem.W.mg_of X G a__law_without
  have F__law_alive := fund_mk (st := s__law_alive) l__law_alive c__law_alive k__law_alive
  have b__law_alive := F__law_alive.binds (ps := ["_law_machine_here", "_law_bare"]) fun _ _ _ _ _ _ us hl => len2 hl fun _ _ => rfl
  have m__law_alive := PySem.W.mg_of X G a__law_alive
  have F__law_next := fund_mk (st := s__law_next) l__law_next c__law_next k__law_next
  have b__law_next := F__law_next.binds (ps := ["_law_place", "_law_machine_here", "_law_figures_by"]) fun _ _ _ _ _ _ us hl => len3 hl fun _ _ _ => rfl
  have m__law_next := PySem.W.mg_of X G a__law_next
  have F__law_one_alive := fund_mk (st := s__law_one_alive) l__law_one_alive c__law_one_alive k__law_one_alive
  have b__law_one_alive := F__law_one_alive.binds (ps := ["_law_place", "_law_alive_here"]) fun _ _ _ _ _ _ us hl => len2 hl fun _ _ => rfl
  have m__law_one_alive := PySem.W.mg_of X G a__law_one_alive
  have F__law_by_left := fund_mk (st := s__law_by_left) l__law_by_left c__law_by_left k__law_by_left
  have b__law_by_left := F__law_by_left.binds (ps := ["_law_base", "_law_wide_here", "_law_at"]) fun _ _ _ _ _ _ us hl => len3 hl fun _ _ _ => rfl
  have m__law_by_left := PySem.W.mg_of X G a__law_by_left
  have F__law_asked := fund_mk (st := s__law_asked) l__law_asked c__law_asked k__law_asked
  have b__law_asked := F__law_asked.binds (ps := ["_law_walks", "_law_places", "_law_due"]) fun _ _ _ _ _ _ us hl => len3 hl fun _ _ _ => rfl
  have m__law_asked := PySem.W.mg_of X G a__law_asked
  have F__law_stepped := fund_mk (st := s__law_stepped) l__law_stepped c__law_stepped k__law_stepped
  have b__law_stepped := F__law_stepped.binds (ps := ["_law_walks", "_law_places", "_law_steps", "_law_due"]) fun _ _ _ _ _ _ us hl => len4 hl fun _ _ _ _ => rfl
  have m__law_stepped := PySem.W.mg_of X G a__law_stepped
  have F_law := fund_mk (st := s_law) l_law c_law k_law
  have b_law := F_law.binds (ps := ["_law_script"]) fun _ _ _ _ _ _ us hl => len1 hl fun _ => rfl
  have m_law := PySem.W.mg_of X G a_law
  have z_len := PySem.W.mg_none_of X G y_len
  have z_range := PySem.W.mg_none_of X G y_range
  have z_tuple := PySem.W.mg_none_of X G y_tuple
  have z_list := PySem.W.mg_none_of X G y_list
  have z_isinstance := PySem.W.mg_none_of X G y_isinstance
  have z_int := PySem.W.mg_none_of X G y_int
  have z_bool := PySem.W.mg_none_of X G y_bool
  have z_zip := PySem.W.mg_none_of X G y_zip
  have z_reversed := PySem.W.mg_none_of X G y_reversed
  have z_sorted := PySem.W.mg_none_of X G y_sorted
  have z_set := PySem.W.mg_none_of X G y_set
  have z_any := PySem.W.mg_none_of X G y_any
  have z_enumerate := PySem.W.mg_none_of X G y_enumerate
  have z_dict := PySem.W.mg_none_of X G y_dict
  have g_Walk := PySem.W.mg_of X G cl_Walk
  have g_Reading := PySem.W.mg_of X G cl_Reading
  have g_Narrowing := PySem.W.mg_of X G cl_Narrowing
  have g_Choosing := PySem.W.mg_of X G cl_Choosing
  refine ⟨PySem.W.fnOf "law" "law" (defArgs s_law) (defBody s_law) (defScope s_law) .none kV_law dc_law pm_law an_law cd_law ct_law, fun s v => .of_eq rfl, fun base _ _ => ?_⟩
  have cls_Reading := (show Cls K C_Reading from ⟨cR_pg, cR_hd, cR_po, cR_sa⟩)
  have mk_Reading := (show Mk K C_Reading f_Reading___init__ from ⟨cR_mk, a_Reading___init__, cR_fi, cR_kp⟩)
  have cls_Narrowing := (show Cls K C_Narrowing from ⟨cN_pg, cN_hd, cN_po, cN_sa⟩)
  have mk_Narrowing := (show Mk K C_Narrowing f_Narrowing___init__ from ⟨cN_mk, a_Narrowing___init__, cN_fi, cN_kp⟩)
  have cls_Choosing := (show Cls K C_Choosing from ⟨cC_pg, cC_hd, cC_po, cC_sa⟩)
  have mk_Choosing := (show Mk K C_Choosing f_Choosing___init__ from ⟨cC_mk, a_Choosing___init__, cC_fi, cC_kp⟩)
  have rc := (show RCls K C_Reading from ⟨cls_Reading, cR_n_rows, cR_n_signs⟩)
  have nc := (show NCls K C_Narrowing from ⟨cls_Narrowing, cN_n_walk, cN_n_base, cN_n_below⟩)
  have ch := (show CCls K C_Choosing from ⟨cls_Choosing, cC_n_rows, cC_n_base, cC_n_below, cC_n_winning⟩)
  have G_power_of : DefOk l.prog w K mg base "power_of" 1 ["base", "times"] [] (spPower) := ⟨_, _, [], m_power_of, k_power_of, .nil, b_power_of, ok_power F_power_of z_range⟩
  have G_without_part : DefOk l.prog w K mg base "without_part" 1 ["figure", "base", "below"] [] (spWithout) := ⟨_, _, [], m_without_part, k_without_part, .nil, b_without_part, ok_without F_without_part ⟩
  have G_with_part : DefOk l.prog w K mg base "with_part" 1 ["figure", "base", "below", "part"] [] (spWithP) := ⟨_, _, [], m_with_part, k_with_part, .nil, b_with_part, ok_withP F_with_part ⟩
  have G_parts_alone : DefOk l.prog w K mg base "parts_alone" 1 ["base", "below"] [] (spParts) := ⟨_, _, [], m_parts_alone, k_parts_alone, .nil, b_parts_alone, ok_parts F_parts_alone z_range⟩
  have G_rooms_with : DefOk l.prog w K mg base "rooms_with" 1 ["machine", "sign"] [] (spRoomsW) := ⟨_, _, [], m_rooms_with, k_rooms_with, .nil, b_rooms_with, ok_roomsW F_rooms_with z_enumerate⟩
  have G_rooms_leading_to : DefOk l.prog w K mg base "rooms_leading_to" 1 ["machine", "goals", "taken"] [] (spLeadL K) := ⟨_, _, [], m_rooms_leading_to, k_rooms_leading_to, .nil, b_rooms_leading_to, ok_leadL F_rooms_leading_to z_enumerate z_list z_dict⟩
  have GM_Reading : DefMk l.prog w K mg base "Reading" C_Reading 1 ["self", "machine"] (spRInit C_Reading) := ⟨g_Reading, cls_Reading, _, _, mk_Reading, b_Reading___init__, ok_rinit F_Reading___init__ rc⟩
  have GM_Narrowing : DefMk l.prog w K mg base "Narrowing" C_Narrowing 2 ["self", "walk", "base", "at"] (spNInit C_Narrowing) := ⟨g_Narrowing, cls_Narrowing, _, _, mk_Narrowing, b_Narrowing___init__, ok_ninit F_Narrowing___init__ nc G_power_of⟩
  have GM_Choosing : DefMk l.prog w K mg base "Choosing" C_Choosing 2 ["self", "machine", "base", "at"] (spChInit C_Choosing) := ⟨g_Choosing, cls_Choosing, _, _, mk_Choosing, b_Choosing___init__, ok_chInit F_Choosing___init__ ch G_power_of G_rooms_with G_parts_alone G_rooms_leading_to⟩
  have GER_begin := (show DefMe l.prog w K mg base C_Reading "begin" 1 ["self"] (spRBegin) from ⟨cls_Reading, _, _, ⟨a_Reading_begin, fn_Reading_begin, k_Reading_begin⟩, b_Reading_begin, ok_rbegin F_Reading_begin ⟩)
  have GER_step := (show DefMe l.prog w K mg base C_Reading "step" 1 ["self", "place", "figure"] (spRStep C_Reading) from ⟨cls_Reading, _, _, ⟨a_Reading_step, fn_Reading_step, k_Reading_step⟩, b_Reading_step, ok_rstep F_Reading_step rc⟩)
  have GER_sign := (show DefMe l.prog w K mg base C_Reading "sign" 1 ["self", "place"] (spRSign C_Reading) from ⟨cls_Reading, _, _, ⟨a_Reading_sign, fn_Reading_sign, k_Reading_sign⟩, b_Reading_sign, ok_rsign F_Reading_sign rc⟩)
  have GEC_begin := (show DefMe l.prog w K mg base C_Choosing "begin" 1 ["self"] (spChBegin) from ⟨cls_Choosing, _, _, ⟨a_Choosing_begin, fn_Choosing_begin, k_Choosing_begin⟩, b_Choosing_begin, ok_chBegin F_Choosing_begin ⟩)
  have GEC_step := (show DefMe l.prog w K mg base C_Choosing "step" 2 ["self", "place", "figure"] (spChStep C_Choosing) from ⟨cls_Choosing, _, _, ⟨a_Choosing_step, fn_Choosing_step, k_Choosing_step⟩, b_Choosing_step, ok_chStep F_Choosing_step ch G_with_part z_range z_tuple z_sorted z_set⟩)
  have GEC_sign := (show DefMe l.prog w K mg base C_Choosing "sign" 1 ["self", "place"] (spChSign C_Choosing) from ⟨cls_Choosing, _, _, ⟨a_Choosing_sign, fn_Choosing_sign, k_Choosing_sign⟩, b_Choosing_sign, ok_chSign F_Choosing_sign ch z_any⟩)
  have GE1_begin := (show DefMe l.prog w K mg base C_Narrowing "begin" 2 ["self"] (spNBeginR C_Narrowing C_Reading) from ⟨cls_Narrowing, _, _, ⟨a_Narrowing_begin, fn_Narrowing_begin, k_Narrowing_begin⟩, b_Narrowing_begin, ok_nbeginR F_Narrowing_begin nc GER_begin⟩)
  have GE1_step := (show DefMe l.prog w K mg base C_Narrowing "step" 2 ["self", "place", "figure"] (spNStepR C_Narrowing C_Reading) from ⟨cls_Narrowing, _, _, ⟨a_Narrowing_step, fn_Narrowing_step, k_Narrowing_step⟩, b_Narrowing_step, ok_nstepR F_Narrowing_step nc GER_step G_without_part⟩)
  have GE1_sign := (show DefMe l.prog w K mg base C_Narrowing "sign" 2 ["self", "place"] (spNSignR C_Narrowing C_Reading) from ⟨cls_Narrowing, _, _, ⟨a_Narrowing_sign, fn_Narrowing_sign, k_Narrowing_sign⟩, b_Narrowing_sign, ok_nsignR F_Narrowing_sign nc GER_sign⟩)
  have GE3_begin := (show DefMe l.prog w K mg base C_Narrowing "begin" 2 ["self"] (spNBeginC C_Narrowing C_Choosing) from ⟨cls_Narrowing, _, _, ⟨a_Narrowing_begin, fn_Narrowing_begin, k_Narrowing_begin⟩, b_Narrowing_begin, ok_nbeginC F_Narrowing_begin nc GEC_begin⟩)
  have GE3_step := (show DefMe l.prog w K mg base C_Narrowing "step" 3 ["self", "place", "figure"] (spNStepC C_Narrowing C_Choosing) from ⟨cls_Narrowing, _, _, ⟨a_Narrowing_step, fn_Narrowing_step, k_Narrowing_step⟩, b_Narrowing_step, ok_nstepC F_Narrowing_step nc GEC_step G_without_part⟩)
  have GE3_sign := (show DefMe l.prog w K mg base C_Narrowing "sign" 2 ["self", "place"] (spNSignC C_Narrowing C_Choosing) from ⟨cls_Narrowing, _, _, ⟨a_Narrowing_sign, fn_Narrowing_sign, k_Narrowing_sign⟩, b_Narrowing_sign, ok_nsignC F_Narrowing_sign nc GEC_sign⟩)
  have G__law_number : DefOk l.prog w K mg base "_law_number" 1 ["_law_script", "_law_k"] [] (spNum K) := ⟨_, _, [], m__law_number, k__law_number, .nil, b__law_number, ok_num F__law_number z_len⟩
  have G__law_whole : DefOk l.prog w K mg base "_law_whole" 1 ["_law_found"] [] (spWholeN) := ⟨_, _, [], m__law_whole, k__law_whole, .nil, b__law_whole, ok_wholeN F__law_whole z_isinstance z_int z_bool⟩
  have GF := (show DefOk l.prog w K mg base "_law_same" 0 ["_law_found", "_law_due"] [] (fun _ _ _ _ => False) from ⟨_, _, [], m__law_same, k__law_same, .nil, b__law_same, ⟨fun _ _ _ _ h => h.elim, fun _ _ _ _ _ _ _ _ _ _ _ _ _ h => h.elim⟩⟩)
  have G__law_same : DefOk l.prog w K mg base "_law_same" 2 ["_law_found", "_law_due"] [] (spSame0) := ⟨_, _, [], m__law_same, k__law_same, .nil, b__law_same, ok_same0 F__law_same G__law_whole GF z_isinstance z_tuple z_len z_range⟩
  have GS0 := G__law_same
  have G__law_same : DefOk l.prog w K mg base "_law_same" 3 ["_law_found", "_law_due"] [] (spSame1) := ⟨_, _, [], m__law_same, k__law_same, .nil, b__law_same, ok_same1 F__law_same G__law_whole GS0 z_isinstance z_tuple z_len z_range⟩
  have GS1 := G__law_same
  have G__law_same : DefOk l.prog w K mg base "_law_same" 4 ["_law_found", "_law_due"] [] (spSame2) := ⟨_, _, [], m__law_same, k__law_same, .nil, b__law_same, ok_same2 F__law_same G__law_whole GS1 z_isinstance z_tuple z_len z_range⟩
  have G__law_sign : DefOk l.prog w K mg base "_law_sign" 1 ["_law_number_here"] [] (spSignN) := ⟨_, _, [], m__law_sign, k__law_sign, .nil, b__law_sign, ok_signN F__law_sign ⟩
  have G__law_machine : DefOk l.prog w K mg base "_law_machine" 2 ["_law_script", "_law_start", "_law_wide_here", "_law_many"] [] (spMachC K) := ⟨_, _, [], m__law_machine, k__law_machine, .nil, b__law_machine, ok_machC F__law_machine G__law_number G__law_sign z_range z_tuple⟩
  have G__law_sides : DefOk l.prog w K mg base "_law_sides" 1 ["_law_number_here"] [] (spSides) := ⟨_, _, [], m__law_sides, k__law_sides, .nil, b__law_sides, ok_sides F__law_sides ⟩
  have G__law_wide : DefOk l.prog w K mg base "_law_wide" 1 ["_law_base", "_law_many"] [] (spWideP) := ⟨_, _, [], m__law_wide, k__law_wide, .nil, b__law_wide, ok_wideP F__law_wide z_range⟩
  have G__law_without : DefOk l.prog w K mg base "_law_without" 1 ["_law_figure", "_law_base", "_law_at"] [] (spWithoutL) := ⟨_, _, [], m__law_without, k__law_without, .nil, b__law_without, ok_withoutL F__law_without z_reversed⟩
  have G__law_alive : DefOk l.prog w K mg base "_law_alive" 1 ["_law_machine_here", "_law_bare"] [] (spAlive K) := ⟨_, _, [], m__law_alive, k__law_alive, .nil, b__law_alive, ok_alive F__law_alive z_range z_len⟩
  have G__law_next : DefOk l.prog w K mg base "_law_next" 1 ["_law_place", "_law_machine_here", "_law_figures_by"] [] (spNext K) := ⟨_, _, [], m__law_next, k__law_next, .nil, b__law_next, ok_next F__law_next z_range z_len z_tuple⟩
  have G__law_one_alive : DefOk l.prog w K mg base "_law_one_alive" 1 ["_law_place", "_law_alive_here"] [] (spOneAlive K) := ⟨_, _, [], m__law_one_alive, k__law_one_alive, .nil, b__law_one_alive, ok_oneAlive F__law_one_alive ⟩
  have G__law_by_left : DefOk l.prog w K mg base "_law_by_left" 2 ["_law_base", "_law_wide_here", "_law_at"] [] (spByLeft K) := ⟨_, _, [], m__law_by_left, k__law_by_left, .nil, b__law_by_left, ok_byLeft F__law_by_left G__law_without z_range⟩
  have G__law_asked : DefOk l.prog w K mg base "_law_asked" 4 ["_law_walks", "_law_places", "_law_due"] [] (spAsked C_Narrowing C_Reading C_Choosing) := ⟨_, _, [], m__law_asked, k__law_asked, .nil, b__law_asked, ok_asked F__law_asked GS1 GE1_sign GEC_sign GE3_sign z_zip⟩
  have G__law_stepped : DefOk l.prog w K mg base "_law_stepped" 4 ["_law_walks", "_law_places", "_law_steps", "_law_due"] [] (spStepped C_Narrowing C_Reading C_Choosing) := ⟨_, _, [], m__law_stepped, k__law_stepped, .nil, b__law_stepped, ok_stepped F__law_stepped GS1 GE1_step GEC_step GE3_step z_range z_len⟩
  exact ok_law F_law GM_Narrowing GM_Reading GM_Choosing G__law_number G__law_sides G__law_wide G__law_machine G__law_by_left G__law_alive G__law_one_alive G__law_without G__law_next G__law_asked G__law_stepped G__law_same GE1_begin GEC_begin GE3_begin g_Walk (fun e => TyOf.ins e cls_Narrowing cN_cc c_sp c_tk cN_mo) (fun e => TyOf.ins e cls_Choosing cC_cc c_sp c_tk cC_mo) kk_cN kk_cC z_isinstance
theorem walk {l : PySem.W.OpenLaw} {q : Program} {loose : List Str} {XP : (Str -> Option Value) -> Heap -> Prop} {YP : World -> Heap -> Prop} {d : DefRec} {K : Params -> PySem.W.Frag} (hn : l.most = some 63) (hdf : d.params.defaults = [])
    (hY : ∀ (w : World) (h : Heap), YP w h -> (K w.params).In h)
    (F : ∀ (w : World) (mg : Str -> Option Value) (fa : Addr) (h : Heap), (K w.params).In h -> h.Ns mainGlobals mg -> mg d.name = some (.ref fa) ->
      ∃ fd : FuncData, (∀ (s : Shared) (u : Value), BindsTo s fd ⟨[u], []⟩ [("_law_script", u)]) /\ ∀ base : Heap, (K w.params).In base -> base.Ns mainGlobals mg -> FnOk l.prog w (K w.params) mg base CX0 5 fa fd ["_law_script"] (spLaw (K w.params))) :
    PySem.W.WalkO q loose XP YP l.row.toRowW d [] (fun f vs => PySem.call f vs) :=
  L2.walk_of (n := 63) (k := 5) (x := "_law_script") (CX := fun _ => CX0) (sp := fun w => spLaw (K w.params)) hn (by decide) hdf ⟨rfl, by decide, by decide⟩ hY F (fun _ _ a ns hl _ hS => ⟨a, ns, rfl, hS, hl, fun _ => rfl⟩) fun _ _ _ _ _ z => z
end My
open PySem PySem.W PyProof.Rows
set_option maxRecDepth 100000 in
set_option maxHeartbeats 0 in
theorem PySem.Challenge.cw_figuretell_k22_narrowing_and_choosing_holds : PySem.Challenge.rw_figuretell_k22_narrowing_and_choosing.Holds := by
  w_on; o_law; k_head; (case hw => w_witness2)
  k_fill
  refine My.walk (l := PySem.Challenge.rw_figuretell_k22_narrowing_and_choosing) rfl rfl (fun w h Y => PySem.W.kIn_of Y) ?F
  case F =>
    intro w mg fa h KX G hmg
    refine' My.all_mk KX G hmg ?a_power_of ?l_power_of ?c_power_of ?k_power_of ?a_without_part ?l_without_part ?c_without_part ?k_without_part ?a_with_part ?l_with_part ?c_with_part ?k_with_part ?a_parts_alone ?l_parts_alone ?c_parts_alone ?k_parts_alone ?a_rooms_with ?l_rooms_with ?c_rooms_with ?k_rooms_with ?a_rooms_leading_to ?l_rooms_leading_to ?c_rooms_leading_to ?k_rooms_leading_to ?a__law_number ?l__law_number ?c__law_number ?k__law_number ?a__law_whole ?l__law_whole ?c__law_whole ?k__law_whole ?a__law_same ?l__law_same ?c__law_same ?k__law_same ?a__law_sign ?l__law_sign ?c__law_sign ?k__law_sign ?a__law_machine ?l__law_machine ?c__law_machine ?k__law_machine ?a__law_sides ?l__law_sides ?c__law_sides ?k__law_sides ?a__law_wide ?l__law_wide ?c__law_wide ?k__law_wide ?a__law_without ?l__law_without ?c__law_without ?k__law_without ?a__law_alive ?l__law_alive ?c__law_alive ?k__law_alive ?a__law_next ?l__law_next ?c__law_next ?k__law_next ?a__law_one_alive ?l__law_one_alive ?c__law_one_alive ?k__law_one_alive ?a__law_by_left ?l__law_by_left ?c__law_by_left ?k__law_by_left ?a__law_asked ?l__law_asked ?c__law_asked ?k__law_asked ?a__law_stepped ?l__law_stepped ?c__law_stepped ?k__law_stepped ?a_law ?l_law ?c_law ?k_law ?y_len ?y_range ?y_tuple ?y_list ?y_isinstance ?y_int ?y_bool ?y_zip ?y_reversed ?y_sorted ?y_set ?y_any ?y_enumerate ?y_dict ?cl_Walk ?cl_Reading ?cl_Narrowing ?cl_Choosing ?a_Reading_begin ?l_Reading_begin ?c_Reading_begin ?k_Reading_begin ?a_Reading_step ?l_Reading_step ?c_Reading_step ?k_Reading_step ?a_Reading_sign ?l_Reading_sign ?c_Reading_sign ?k_Reading_sign ?a_Narrowing_begin ?l_Narrowing_begin ?c_Narrowing_begin ?k_Narrowing_begin ?a_Narrowing_step ?l_Narrowing_step ?c_Narrowing_step ?k_Narrowing_step ?a_Narrowing_sign ?l_Narrowing_sign ?c_Narrowing_sign ?k_Narrowing_sign ?a_Choosing_begin ?l_Choosing_begin ?c_Choosing_begin ?k_Choosing_begin ?a_Choosing_step ?l_Choosing_step ?c_Choosing_step ?k_Choosing_step ?a_Choosing_sign ?l_Choosing_sign ?c_Choosing_sign ?k_Choosing_sign ?a_Reading___init__ ?l_Reading___init__ ?c_Reading___init__ ?k_Reading___init__ ?a_Narrowing___init__ ?l_Narrowing___init__ ?c_Narrowing___init__ ?k_Narrowing___init__ ?a_Choosing___init__ ?l_Choosing___init__ ?c_Choosing___init__ ?k_Choosing___init__ ?cR_pg ?cR_hd ?cR_po ?cR_sa ?cR_n_rows ?cR_n_signs ?cR_mk ?cR_fi ?cR_kp ?fn_Reading_begin ?fn_Reading_step ?fn_Reading_sign ?cN_pg ?cN_hd ?cN_po ?cN_sa ?cN_n_walk ?cN_n_base ?cN_n_below ?cN_mk ?cN_fi ?cN_kp ?fn_Narrowing_begin ?fn_Narrowing_step ?fn_Narrowing_sign ?cC_pg ?cC_hd ?cC_po ?cC_sa ?cC_n_rows ?cC_n_base ?cC_n_below ?cC_n_winning ?cC_mk ?cC_fi ?cC_kp ?fn_Choosing_begin ?fn_Choosing_step ?fn_Choosing_sign ?cN_cc ?cN_mo ?kk_cN ?cC_cc ?cC_mo ?kk_cC ?c_sp ?c_tk
    (case a_power_of => k_is); (case l_power_of => k_is); (case c_power_of => k_is); (case k_power_of => k_is)
    (case a_without_part => k_is); (case l_without_part => k_is); (case c_without_part => k_is); (case k_without_part => k_is)
    (case a_with_part => k_is); (case l_with_part => k_is); (case c_with_part => k_is); (case k_with_part => k_is)
    (case a_parts_alone => k_is); (case l_parts_alone => k_is); (case c_parts_alone => k_is); (case k_parts_alone => k_is)
    (case a_rooms_with => k_is); (case l_rooms_with => k_is); (case c_rooms_with => k_is); (case k_rooms_with => k_is)
    (case a_rooms_leading_to => k_is); (case l_rooms_leading_to => k_is); (case c_rooms_leading_to => k_is); (case k_rooms_leading_to => k_is)
    (case a__law_number => k_is); (case l__law_number => k_is); (case c__law_number => k_is); (case k__law_number => k_is)
    (case a__law_whole => k_is); (case l__law_whole => k_is); (case c__law_whole => k_is); (case k__law_whole => k_is)
    (case a__law_same => k_is); (case l__law_same => k_is); (case c__law_same => k_is); (case k__law_same => k_is)
    (case a__law_sign => k_is); (case l__law_sign => k_is); (case c__law_sign => k_is); (case k__law_sign => k_is)
    (case a__law_machine => k_is); (case l__law_machine => k_is); (case c__law_machine => k_is); (case k__law_machine => k_is)
    (case a__law_sides => k_is); (case l__law_sides => k_is); (case c__law_sides => k_is); (case k__law_sides => k_is)
    (case a__law_wide => k_is); (case l__law_wide => k_is); (case c__law_wide => k_is); (case k__law_wide => k_is)
    (case a__law_without => k_is); (case l__law_without => k_is); (case c__law_without => k_is); (case k__law_without => k_is)
    (case a__law_alive => k_is); (case l__law_alive => k_is); (case c__law_alive => k_is); (case k__law_alive => k_is)
    (case a__law_next => k_is); (case l__law_next => k_is); (case c__law_next => k_is); (case k__law_next => k_is)
    (case a__law_one_alive => k_is); (case l__law_one_alive => k_is); (case c__law_one_alive => k_is); (case k__law_one_alive => k_is)
    (case a__law_by_left => k_is); (case l__law_by_left => k_is); (case c__law_by_left => k_is); (case k__law_by_left => k_is)
    (case a__law_asked => k_is); (case l__law_asked => k_is); (case c__law_asked => k_is); (case k__law_asked => k_is)
    (case a__law_stepped => k_is); (case l__law_stepped => k_is); (case c__law_stepped => k_is); (case k__law_stepped => k_is)
    (case a_law => k_is); (case l_law => k_is); (case c_law => k_is); (case k_law => k_is)
    (case y_len => k_is); (case y_range => k_is); (case y_tuple => k_is); (case y_list => k_is); (case y_isinstance => k_is); (case y_int => k_is); (case y_bool => k_is); (case y_zip => k_is); (case y_reversed => k_is); (case y_sorted => k_is); (case y_set => k_is); (case y_any => k_is); (case y_enumerate => k_is); (case y_dict => k_is)
    (case cl_Walk => k_is)
    (case cl_Reading => k_is)
    (case cl_Narrowing => k_is)
    (case cl_Choosing => k_is)
    (case a_Reading_begin => k_is); (case l_Reading_begin => k_is); (case c_Reading_begin => k_is); (case k_Reading_begin => k_is)
    (case a_Reading_step => k_is); (case l_Reading_step => k_is); (case c_Reading_step => k_is); (case k_Reading_step => k_is)
    (case a_Reading_sign => k_is); (case l_Reading_sign => k_is); (case c_Reading_sign => k_is); (case k_Reading_sign => k_is)
    (case a_Narrowing_begin => k_is); (case l_Narrowing_begin => k_is); (case c_Narrowing_begin => k_is); (case k_Narrowing_begin => k_is)
    (case a_Narrowing_step => k_is); (case l_Narrowing_step => k_is); (case c_Narrowing_step => k_is); (case k_Narrowing_step => k_is)
    (case a_Narrowing_sign => k_is); (case l_Narrowing_sign => k_is); (case c_Narrowing_sign => k_is); (case k_Narrowing_sign => k_is)
    (case a_Choosing_begin => k_is); (case l_Choosing_begin => k_is); (case c_Choosing_begin => k_is); (case k_Choosing_begin => k_is)
    (case a_Choosing_step => k_is); (case l_Choosing_step => k_is); (case c_Choosing_step => k_is); (case k_Choosing_step => k_is)
    (case a_Choosing_sign => k_is); (case l_Choosing_sign => k_is); (case c_Choosing_sign => k_is); (case k_Choosing_sign => k_is)
    (case a_Reading___init__ => k_is); (case l_Reading___init__ => k_is); (case c_Reading___init__ => k_is); (case k_Reading___init__ => k_is)
    (case a_Narrowing___init__ => k_is); (case l_Narrowing___init__ => k_is); (case c_Narrowing___init__ => k_is); (case k_Narrowing___init__ => k_is)
    (case a_Choosing___init__ => k_is); (case l_Choosing___init__ => k_is); (case c_Choosing___init__ => k_is); (case k_Choosing___init__ => k_is)
    (case cR_pg => first | k_is | k_exc | decide | kernel_rfl)
    (case cR_hd => first | k_is | k_exc | decide | kernel_rfl)
    (case cR_po => first | k_is | k_exc | decide | kernel_rfl)
    (case cR_sa => first | k_is | k_exc | decide | kernel_rfl)
    (case cR_n_rows => first | k_is | k_exc | decide | kernel_rfl)
    (case cR_n_signs => first | k_is | k_exc | decide | kernel_rfl)
    (case cR_mk => first | k_is | k_exc | decide | kernel_rfl)
    (case cR_fi => first | k_is | k_exc | decide | kernel_rfl)
    (case cR_kp => first | k_is | k_exc | decide | kernel_rfl)
    (case fn_Reading_begin => first | k_is | k_exc | decide | kernel_rfl)
    (case fn_Reading_step => first | k_is | k_exc | decide | kernel_rfl)
    (case fn_Reading_sign => first | k_is | k_exc | decide | kernel_rfl)
    (case cN_pg => first | k_is | k_exc | decide | kernel_rfl)
    (case cN_hd => first | k_is | k_exc | decide | kernel_rfl)
    (case cN_po => first | k_is | k_exc | decide | kernel_rfl)
    (case cN_sa => first | k_is | k_exc | decide | kernel_rfl)
    (case cN_n_walk => first | k_is | k_exc | decide | kernel_rfl)
    (case cN_n_base => first | k_is | k_exc | decide | kernel_rfl)
    (case cN_n_below => first | k_is | k_exc | decide | kernel_rfl)
    (case cN_mk => first | k_is | k_exc | decide | kernel_rfl)
    (case cN_fi => first | k_is | k_exc | decide | kernel_rfl)
    (case cN_kp => first | k_is | k_exc | decide | kernel_rfl)
    (case fn_Narrowing_begin => first | k_is | k_exc | decide | kernel_rfl)
    (case fn_Narrowing_step => first | k_is | k_exc | decide | kernel_rfl)
    (case fn_Narrowing_sign => first | k_is | k_exc | decide | kernel_rfl)
    (case cC_pg => first | k_is | k_exc | decide | kernel_rfl)
    (case cC_hd => first | k_is | k_exc | decide | kernel_rfl)
    (case cC_po => first | k_is | k_exc | decide | kernel_rfl)
    (case cC_sa => first | k_is | k_exc | decide | kernel_rfl)
    (case cC_n_rows => first | k_is | k_exc | decide | kernel_rfl)
    (case cC_n_base => first | k_is | k_exc | decide | kernel_rfl)
    (case cC_n_below => first | k_is | k_exc | decide | kernel_rfl)
    (case cC_n_winning => first | k_is | k_exc | decide | kernel_rfl)
    (case cC_mk => first | k_is | k_exc | decide | kernel_rfl)
    (case cC_fi => first | k_is | k_exc | decide | kernel_rfl)
    (case cC_kp => first | k_is | k_exc | decide | kernel_rfl)
    (case fn_Choosing_begin => first | k_is | k_exc | decide | kernel_rfl)
    (case fn_Choosing_step => first | k_is | k_exc | decide | kernel_rfl)
    (case fn_Choosing_sign => first | k_is | k_exc | decide | kernel_rfl)
    (case cN_cc => first | k_is | k_exc | decide | kernel_rfl)
    (case cN_mo => first | k_is | k_exc | decide | kernel_rfl)
    (case kk_cN => first | k_is | k_exc | decide | kernel_rfl)
    (case cC_cc => first | k_is | k_exc | decide | kernel_rfl)
    (case cC_mo => first | k_is | k_exc | decide | kernel_rfl)
    (case kk_cC => first | k_is | k_exc | decide | kernel_rfl)
    (case c_sp => first | k_is | k_exc | decide | kernel_rfl)
    (case c_tk => first | k_is | k_exc | decide | kernel_rfl)
