import PyProof.Rows.All
import Wide.All
import OpenK.AllK
import Wide.FinOn
import Lean
import PyProof.EqAt
import PyProof.EqKinds
import PyProof.TupleCall
import PyProof.NeKinds
import PyProof.ExcBaseAll.ValueError
import PyProof.ExcClass3
import OpenK.KOwn
import PyProof.Rows.FStr
import KE.KTryMore
import PyProof.ExcAttrAll.ValueError
import KE.KDictList
import PyProof.CompMap
import PyProof.ExcInit
import PyProof.InstStoreFacts
import PySem.Challenge.RW_figuretell_k05_what_is_refused
set_option Elab.async false
set_option linter.all false
set_option maxRecDepth 100000
/-! THE HAND LAYER, for ints, bools, texts, own classes, LISTS and tuples (index, slices, in, append, pop ..), calls, loops. Paste it whole ahead of your own text; what your proof does not reach may be deleted. -/
namespace L2
open PySem PySem.Spec PyProof.Rows

/-- a key: an int or a str -/
abbrev Key := Sum Int Str
def keyIs : Key → Value → Bool
  | .inl k, v => Value.isInt k v
  | .inr x, v => Value.isStrOf x v
def keyH (w : World) : Key → Int
  | .inl k => hashInt k
  | .inr x => hashStr w x
theorem keyIs_shape : ∀ {k : Key} {v : Value}, keyIs k v = true → (∃ i t, k = Sum.inl i ∧ v = Value.int i t) ∨ (∃ x t, k = Sum.inr x ∧ v = Value.str x t)
  | .inl i, v, h => by
    obtain ⟨t, e⟩ := Value.isInt_shape (k := i) (v := v) h
    exact .inl ⟨i, t, rfl, e⟩
  | .inr x, v, h => by
    obtain ⟨t, e⟩ := Value.isStrOf_shape (x := x) (v := v) h
    exact .inr ⟨x, t, rfl, e⟩
theorem keyIs_int (i : Int) (t : Tok) : keyIs (.inl i) (.int i t) = true := by simp [keyIs, Value.isInt]
theorem keyIs_str (x : Str) (t : Tok) : keyIs (.inr x) (.str x t) = true := by simp [keyIs, Value.isStrOf]
theorem key_ll (a b : Int) : decide ((Sum.inl a : Key) = Sum.inl b) = (a == b) := by
  by_cases e : a = b
  · subst e; simp
  · have h : ¬ (Sum.inl a : Key) = Sum.inl b := fun q => e (Sum.inl.inj q)
    rw [decide_eq_false h]
    exact (beq_eq_false_iff_ne.mpr e).symm
theorem key_rr (a b : Str) : decide ((Sum.inr a : Key) = Sum.inr b) = decide (a = b) := by
  by_cases e : a = b
  · subst e; simp
  · have h : ¬ (Sum.inr a : Key) = Sum.inr b := fun q => e (Sum.inr.inj q)
    rw [decide_eq_false h, decide_eq_false e]
theorem key_lr (a : Int) (b : Str) : decide ((Sum.inl a : Key) = Sum.inr b) = false := decide_eq_false (fun q => nomatch q)
theorem key_rl (a : Str) (b : Int) : decide ((Sum.inr a : Key) = Sum.inl b) = false := decide_eq_false (fun q => nomatch q)

def mixKind (prog : Program) (w : World) : PySem.KeyKind prog w Key where
  is := keyIs
  hash := keyH w
  inj := fun v a b ha hb => by
    rcases keyIs_shape ha with ⟨i, t, rfl, rfl⟩ | ⟨x, t, rfl, rfl⟩
    · rcases keyIs_shape hb with ⟨j, u, rfl, e⟩ | ⟨y, u, rfl, e⟩
      · injection e with e1 _; rw [e1]
      · exact nomatch e
    · rcases keyIs_shape hb with ⟨j, u, rfl, e⟩ | ⟨y, u, rfl, e⟩
      · exact nomatch e
      · injection e with e1 _; rw [e1]
  byValue := fun k v h => by
    rcases keyIs_shape h with ⟨i, t, rfl, rfl⟩ | ⟨x, t, rfl, rfl⟩ <;> rfl
  pyHash := fun hv h => by
    rcases keyIs_shape hv with ⟨i, t, rfl, rfl⟩ | ⟨x, t, rfl, rfl⟩
    · exact wpAny_pyHash_int h
    · exact wpAny_pyHash_str h
  eqBool := fun hu hv h => by
    rcases keyIs_shape hu with ⟨i, t, rfl, rfl⟩ | ⟨x, t, rfl, rfl⟩
    · rcases keyIs_shape hv with ⟨j, u, rfl, rfl⟩ | ⟨y, u, rfl, rfl⟩
      · rw [key_ll] at h; exact wpAny_eqBool_int h
      · rw [key_lr] at h; exact SeqAt.EqAt.int_str i t y u _ _ _ _ h
    · rcases keyIs_shape hv with ⟨j, u, rfl, rfl⟩ | ⟨y, u, rfl, rfl⟩
      · rw [key_rl] at h; exact SeqAt.EqAt.str_int x t j u _ _ _ _ h
      · rw [key_rr] at h; exact wpAny_eqBool_str h
  «strs» := fun k x t v h => by
    rcases keyIs_shape h with ⟨i, u, rfl, e⟩ | ⟨y, u, rfl, e⟩
    · exact nomatch e
    · injection e with e1 _
      subst e1
      cases v <;> rfl

theorem mixKind_int (prog : Program) (w : World) (i : Int) (t : Tok) : (mixKind prog w).is (.inl i) (.int i t) = true := keyIs_int i t
theorem mixKind_str (prog : Program) (w : World) (x : Str) (t : Tok) : (mixKind prog w).is (.inr x) (.str x t) = true := keyIs_str x t
end L2

namespace L2
open PySem PySem.Spec PyProof.Rows

/-- a value, without the heap -/
inductive V where
  | non | bl (b : Bool) | int (i : Int) | str (x : Str) | byt (b : Array UInt8) | flt (b : UInt64) | ref (a : Addr) | ty (n : String)
  deriving DecidableEq

def RelV : V → Value → Prop
  | .non, u => u = Value.none
  | .bl b, u => u = Value.bool b
  | .int i, u => ∃ t, u = Value.int i t
  | .str x, u => ∃ t, u = Value.str x t
  | .byt b, u => ∃ t, u = Value.bytes b t
  | .flt b, u => ∃ t, u = Value.float b t
  | .ref a, u => u = Value.ref a
  | .ty n, u => u = Value.type n

abbrev Vals : List V → List Value → Prop := Paired RelV
theorem Vals.length {xs : List V} {us : List Value} (r : Vals xs us) : xs.length = us.length := Paired.length r
theorem Vals.get : ∀ {xs : List V} {us : List Value} {i : Nat} {x : V}, Vals xs us → xs[i]? = some x → ∃ u, us[i]? = some u ∧ RelV x u
  | _, _, _, _, .nil, e => by simp at e
  | _, _, 0, _, .cons r _, e => by simp at e; subst e; exact ⟨_, rfl, r⟩
  | _, _, i + 1, x, .cons _ t, e => by
    obtain ⟨u, h1, h2⟩ := Vals.get (i := i) (x := x) t (by simpa using e)
    exact ⟨u, by simpa using h1, h2⟩
theorem Vals.set {x : V} {u : Value} (r : RelV x u) : ∀ {xs : List V} {us : List Value} (i : Nat), Vals xs us → Vals (xs.set i x) (us.set i u)
  | _, _, _, .nil => .nil
  | _, _, 0, .cons _ t => .cons r t
  | _, _, i + 1, .cons q t => .cons q (Vals.set r i t)
theorem Vals.append : ∀ {xs ys : List V} {us ws : List Value}, Vals xs us → Vals ys ws → Vals (xs ++ ys) (us ++ ws)
  | _, _, _, _, .nil, s => s
  | _, _, _, _, .cons r t, s => .cons r (Vals.append t s)
theorem Vals.take : ∀ {xs : List V} {us : List Value} (n : Nat), Vals xs us → Vals (xs.take n) (us.take n)
  | _, _, 0, _ => .nil
  | _, _, _ + 1, .nil => .nil
  | _, _, n + 1, .cons r t => .cons r (Vals.take n t)
theorem Vals.drop : ∀ {xs : List V} {us : List Value} (n : Nat), Vals xs us → Vals (xs.drop n) (us.drop n)
  | _, _, 0, r => r
  | _, _, _ + 1, .nil => .nil
  | _, _, n + 1, .cons _ t => Vals.drop n t
theorem Vals.none_of : ∀ {xs : List V} {us : List Value} {i : Nat}, Vals xs us → xs[i]? = none → us[i]? = none := fun {xs us i} r e => by
  have h1 := r.length
  have h2 : xs.length ≤ i := List.getElem?_eq_none_iff.mp e
  exact List.getElem?_eq_none_iff.mpr (by omega)

def RelO : Option V → Option Value → Prop
  | some v, some u => RelV v u
  | none, none => True
  | _, _ => False
def KV {κ : Type} : List (κ × V) → List (κ × Value) → Prop := Paired fun (p : κ × V) (q : κ × Value) => p.1 = q.1 ∧ RelV p.2 q.2

/-- a key of a dict (00_mix): an int or a text -/
def kV : Key → V
  | .inl i => .int i
  | .inr x => .str x

/-- what stands at a tracked address -/
inductive HO where
  /-- a list -/
  | lst (xs : List V)
  /-- a tuple (never changes) -/
  | tup (xs : List V)
  /-- a dict whose keys are ints and texts; one whose keys are tuples of ints and texts (the empty one is both) -/
  | dK (kvs : List (Key × V)) | dT (kvs : List (List Key × V))
  /-- a set of ints: its members, its size -/
  | set (S : Int → Bool) (n : Nat)
  /-- an instance of the class at C, its dict at dx, its attributes -/
  | ins (C dx : Addr) (fs : List (Str × V))
  /-- the dict of the instance at x -/
  | own (x : Addr)
  /-- the dict of an exception -/
  | xd (fs : List (Str × V))
  /-- a bound method, f of x -/
  | met (f x : Addr)
  /-- a range object lo, lo + 1, .. below hi -/
  | rng (lo hi : Int)
  /-- a thing that is known to the object (the script; a dict while a loop walks it): read, never written while it is so -/
  | frz (o : Obj) (u : HO)
  /-- a code object's table -/
  | tbl (ps : Array Value)
  /-- any other thing, by what is true of its one object (a def of one's own: SetO a S n := HO.ext fun h => ..) -/
  | ext (φ : Heap → Prop)

abbrev Hp := Addr → Option HO
def upd (H : Hp) (a : Addr) (o : HO) : Hp := fun b => if b = a then some o else H b
theorem upd_same {H : Hp} {a : Addr} {o : HO} : upd H a o a = some o := by unfold upd; rw [if_pos rfl]
theorem upd_ne {H : Hp} {a b : Addr} {o : HO} (h : b ≠ a) : upd H a o b = H b := by unfold upd; rw [if_neg h]
theorem upd_upd {H : Hp} {a : Addr} {o u : HO} : upd (upd H a o) a u = upd H a u := by
  funext b; unfold upd; split <;> rfl
/-- two objects of different content stand apart -/
theorem ne_of {H : Hp} {a b : Addr} {o u : HO} (h : H a = some o) (h' : H b = some u) (d : o ≠ u) : a ≠ b := by
  intro e; subst e; rw [h] at h'; exact d (Option.some.inj h')
theorem ne_of_none {H : Hp} {a b : Addr} {o : HO} (h : H a = some o) (h' : H b = none) : a ≠ b := by
  intro e; subst e; rw [h] at h'; cases h'

section
variable (P : Program) (w : World)
def ObjOk (H : Hp) (h : Heap) (a : Addr) : HO → Prop
  | .lst xs => xs.length ≤ sizeLine ∧ ∃ (its : List Value) (n : Nat), Vals xs its ∧ h.get? a = some { cls := .type "list", data := .seq its.toArray n }
  | .tup xs => xs.length ≤ sizeLine ∧ ∃ its : List Value, Vals xs its ∧ IsTup h a its.toArray
  | .dK kvs => kvs.length ≤ sizeLine ∧ (a == sysModules) = false ∧ ∃ vs, KV kvs vs ∧ h.DictOf (mixKind P w) a vs
  | .dT kvs => kvs.length ≤ sizeLine ∧ (a == sysModules) = false ∧ ∃ xs : List (List Key × Addr × Value),
      Paired (fun (p : List Key × V) (q : List Key × Addr × Value) => p.1 = q.1 ∧ H q.2.1 = some (.tup (p.1.map kV)) ∧ RelV p.2 q.2.2) kvs xs ∧
      ∃ o es ep, h.get? a = some o ∧ o.ExactDict ∧ o.data = .dict es ep ∧ es.toList = xs.map (entryOfKey (tupleKind (mixKind P w))) ∧ (xs.map (·.1)).Nodup
  | .set S n => h.SetOf (intKind P w) a S n
  | .ins C dx fs => H dx = some (.own a) ∧ fs.length ≤ 1000 ∧ dx ≠ a ∧ h.get? a = some (PySem.W.instObj C dx) ∧
      ∃ mA, h.Ns1 dx mA ∧ (∀ f, RelO (fs.lookup f) (mA f)) ∧ PySem.Within mA (fs.map (·.1))
  | .own _ => ∃ o, h.get? a = some o
  | .xd fs => ∃ mA, h.Ns1 a mA ∧ ∀ f, RelO (fs.lookup f) (mA f)
  | .rng lo hi => ∃ t u v, h.get? a = some { cls := .type "range", data := .fields #[.int lo t, .int hi u, .int 1 v] }
  | .frz o u => h.get? a = some o ∧ ObjOk H h a u
  | .tbl ps => h.get? a = some { cls := .none, data := .fields ps }
  | .met f x => h.get? a = some (PySem.W.methodObj (.ref f) (.ref x))
  | .ext φ => φ h ∧ (∃ o, h.get? a = some o) ∧ ∀ h1 h2 : Heap, φ h1 → (∀ o, h1.get? a = some o → h2.get? a = some o) → φ h2
/-- the abstract heap is held -/
def HOk (H : Hp) (h : Heap) : Prop := ∀ a o, H a = some o → ObjOk P w H h a o
end

section
variable {P : Program} {w : World} {H H' : Hp} {h h' : Heap} {a : Addr} {o : HO}
theorem ObjOk.lt (x : ObjOk P w H h a o) : a < h.objs.size := by
  cases o with
  | lst xs => obtain ⟨_, _, _, _, e⟩ := x; exact Heap.lt_size e
  | tup xs => obtain ⟨_, _, _, p⟩ := x; exact p.lt
  | dK kvs => obtain ⟨_, _, _, _, o, _, _, e, _⟩ := x; exact Heap.lt_size e
  | dT kvs => obtain ⟨_, _, _, _, o, _, _, e, _⟩ := x; exact Heap.lt_size e
  | set S n => obtain ⟨o, _, _, _, e, _⟩ := x; exact Heap.lt_size e
  | ins C dx fs => obtain ⟨_, _, _, e, _⟩ := x; exact Heap.lt_size e
  | own y => obtain ⟨_, e⟩ := x; exact Heap.lt_size e
  | xd fs => obtain ⟨_, ⟨_, _, _, e, _⟩, _⟩ := x; exact Heap.lt_size e
  | rng lo hi => obtain ⟨_, _, _, e⟩ := x; exact Heap.lt_size e
  | frz ob u => obtain ⟨e, _⟩ := x; exact Heap.lt_size e
  | tbl ps => exact Heap.lt_size (show h.get? a = some _ from x)
  | met f y => exact Heap.lt_size (show h.get? a = some _ from x)
  | ext φ => obtain ⟨_, ⟨_, e⟩, _⟩ := x; exact Heap.lt_size e
theorem Paired.mapP {α β : Type} {F G : α → β → Prop} : ∀ {l₁ : List α} {l₂ : List β}, Paired F l₁ l₂ → (∀ a b, F a b → G a b) → Paired G l₁ l₂
  | _, _, .nil, _ => .nil
  | _, _, .cons r t, f => .cons (f _ _ r) (Paired.mapP t f)
/-- what an object's description leans on: its own object, its own dict, the tuples -/
theorem ObjOk.stay (x : ObjOk P w H h a o) (k : ∀ b u, (b = a ∨ H b = some (.own a)) → h.get? b = some u → h'.get? b = some u)
    (ho : ∀ b, H b = some (.own a) → H' b = some (.own a)) (ht : ∀ b xs, H b = some (.tup xs) → H' b = some (.tup xs)) : ObjOk P w H' h' a o := by
  induction o with
  | lst xs => obtain ⟨z, its, n, r, e⟩ := x; exact ⟨z, its, n, r, k _ _ (.inl rfl) e⟩
  | tup xs => obtain ⟨z, its, r, ob, e, c⟩ := x; exact ⟨z, its, r, ob, k _ _ (.inl rfl) e, c⟩
  | dK kvs => obtain ⟨z, y, vs, r, ob, es, ep, e, c⟩ := x; exact ⟨z, y, vs, r, ob, es, ep, k _ _ (.inl rfl) e, c⟩
  | dT kvs =>
    obtain ⟨z, y, xs, r, ob, es, ep, e, c⟩ := x
    exact ⟨z, y, xs, Paired.mapP r fun p q z => ⟨z.1, ht _ _ z.2.1, z.2.2⟩, ob, es, ep, k _ _ (.inl rfl) e, c⟩
  | set S n => obtain ⟨ob, es, ep, t, e, c⟩ := x; exact ⟨ob, es, ep, t, k _ _ (.inl rfl) e, c⟩
  | ins C dx fs =>
    obtain ⟨d, z, ne, e, mA, ⟨od, es, ep, e2, c⟩, r⟩ := x
    exact ⟨ho _ d, z, ne, k _ _ (.inl rfl) e, mA, ⟨od, es, ep, k _ _ (.inr d) e2, c⟩, r⟩
  | own y => obtain ⟨ob, e⟩ := x; exact ⟨ob, k _ _ (.inl rfl) e⟩
  | xd fs => obtain ⟨mA, ⟨od, es, ep, e, c⟩, r⟩ := x; exact ⟨mA, ⟨od, es, ep, k _ _ (.inl rfl) e, c⟩, r⟩
  | rng lo hi => obtain ⟨t, u, v, e⟩ := x; exact ⟨t, u, v, k _ _ (.inl rfl) e⟩
  | frz ob u ih => obtain ⟨e, q⟩ := x; exact ⟨k _ _ (.inl rfl) e, ih q⟩
  | tbl ps =>
    have e : h.get? a = some { cls := .none, data := .fields ps } := x
    show h'.get? a = some { cls := .none, data := .fields ps }
    exact k a _ (.inl rfl) e
  | met f y =>
    have e : h.get? a = some (PySem.W.methodObj (.ref f) (.ref y)) := x
    show h'.get? a = some (PySem.W.methodObj (.ref f) (.ref y))
    exact k a _ (.inl rfl) e
  | ext φ => obtain ⟨p, ⟨o, e⟩, st⟩ := x; exact ⟨st _ _ p fun o q => k _ _ (.inl rfl) q, ⟨o, k _ _ (.inl rfl) e⟩, st⟩
theorem HOk.lt (x : HOk P w H h) (e : H a = some o) : a < h.objs.size := (x a o e).lt
theorem HOk.fresh (x : HOk P w H h) (e : h.objs.size ≤ a) : H a = none := by
  cases q : H a with
  | none => rfl
  | some u => exact absurd (Nat.lt_of_lt_of_le (x.lt q) e) (Nat.lt_irrefl _)
/-- every object of the heap is kept -/
theorem HOk.kept (x : HOk P w H h) (k : ∀ b u, h.get? b = some u → h'.get? b = some u) : HOk P w H h' := fun a o e =>
  (x a o e).stay (fun b u _ q => k b u q) (fun _ q => q) fun _ _ q => q
/-- a new object is laid and tracked -/
theorem HOk.laid (x : HOk P w H h) (k : ∀ b u, h.get? b = some u → h'.get? b = some u) (hp : h.objs.size ≤ a) (new : ObjOk P w (upd H a o) h' a o) : HOk P w (upd H a o) h' := fun b u e => by
  have hn := x.fresh hp
  by_cases hb : b = a
  · subst hb; rw [upd_same] at e; cases e; exact new
  · rw [upd_ne hb] at e
    exact (x b u e).stay (fun c v _ q => k c v q) (fun c q => by rw [upd_ne (ne_of_none q hn)]; exact q) fun c xs q => by rw [upd_ne (ne_of_none q hn)]; exact q
end

/-- what may be read as u: it is u, or a known u -/
def Rd (H : Hp) (a : Addr) (u : HO) : Prop := H a = some u ∨ ∃ o, H a = some (.frz o u)
theorem Rd.of {H : Hp} {a : Addr} {u : HO} (h : H a = some u) : Rd H a u := .inl h
theorem Rd.ok {P : Program} {w : World} {H : Hp} {h : Heap} {a : Addr} {u : HO} (r : Rd H a u) (x : HOk P w H h) : ObjOk P w H h a u := by
  rcases r with r | ⟨o, r⟩
  · exact x a u r
  · obtain ⟨_, q⟩ := x a _ r
    exact q
/-- what may be written -/
def Mut : Option HO → Prop
  | some (.lst _) => True
  | some (.dK _) => True
  | some (.dT _) => True
  | some (.set _ _) => True
  | some (.ins _ _ _) => True
  | some (.ext _) => True
  | _ => False
section
variable {P : Program} {w : World} {H : Hp} {h h' : Heap} {x e : Addr} {o' : HO}
/-- the object at e is changed: x itself, or the dict of the instance x -/
theorem HOk.write (ok : HOk P w H h) (mu : Mut (H x)) (he : e = x ∨ H e = some (.own x)) (k : ∀ b u, b ≠ e → h.get? b = some u → h'.get? b = some u) (heo : ∃ u, h'.get? e = some u)
    (new : ObjOk P w (upd H x o') h' x o') : HOk P w (upd H x o') h' := fun b u q => by
  have nown : ∀ c y, H c = some (.own y) → c ≠ x := fun c y r z => by subst z; rw [r] at mu; exact mu
  have ntup : ∀ c xs, H c = some (.tup xs) → c ≠ x := fun c xs r z => by subst z; rw [r] at mu; exact mu
  by_cases hb : b = x
  · subst hb; rw [upd_same] at q; cases q; exact new
  · rw [upd_ne hb] at q
    by_cases hbe : b = e
    · have q' : H b = some (.own x) := by
        rcases he with z | z
        · exact absurd (hbe.trans z) hb
        · rw [hbe]; exact z
      rw [q] at q'; cases q'
      obtain ⟨v, hv⟩ := heo
      exact ⟨v, by rw [hbe]; exact hv⟩
    · refine (ok b u q).stay (fun c v hc r => k c v ?_ r) (fun c r => by rw [upd_ne (nown c b r)]; exact r) fun c xs r => by rw [upd_ne (ntup c xs r)]; exact r
      rcases hc with rfl | hc
      · exact hbe
      · rintro rfl
        rcases he with z | z
        · exact nown c b hc z
        · rw [hc] at z; cases z; exact hb rfl
end

/-! ### kept unless tracked; of the frames at fs (the callers') the slots may change (an exception that passes writes there); of the records at ex (iterators) nothing is said -/
structure Un (fs ex : List Addr) (H H' : Hp) (h h' : Heap) : Prop where
  keep : ∀ b o, h.get? b = some o → H b = none → b ∉ fs → b ∉ ex → h'.get? b = some o
  slot : ∀ b o, h.get? b = some o → H b = none → b ∈ fs → b ∉ ex → ∃ sl, h'.get? b = some { o with slots := sl }
  free : ∀ b o, h.get? b = some o → H b = none → b ∉ ex → H' b = none
  there : ∀ b o, h.get? b = some o → b ∉ ex → ∃ o', h'.get? b = some o'
  tups : ∀ b xs, H b = some (.tup xs) → H' b = some (.tup xs)
  frzs : ∀ b o u, H b = some (.frz o u) → H' b = some (.frz o u)
  tbls : ∀ b ps, H b = some (.tbl ps) → ∃ more, H' b = some (.tbl (ps ++ more))
section
variable {fs fs' ex ex' : List Addr} {H H1 H2 : Hp} {h h1 h2 h' : Heap} {a x e : Addr} {o : HO}
theorem Un.any (u : Un fs ex H H1 h h1) {b : Addr} {ob : Obj} (q : h.get? b = some ob) (n : H b = none) (hx : b ∉ ex) : ∃ sl, h1.get? b = some { ob with slots := sl } := by
  by_cases hb : b ∈ fs
  · exact u.slot b ob q n hb hx
  · exact ⟨ob.slots, u.keep b ob q n hb hx⟩
theorem Un.trans (a : Un fs ex H H1 h h1) (b : Un fs ex H1 H2 h1 h2) : Un fs ex H H2 h h2 where
  keep := fun c ob q n hc hx => b.keep c ob (a.keep c ob q n hc hx) (a.free c ob q n hx) hc hx
  slot := fun c ob q n hc hx => by
    obtain ⟨sl, e1⟩ := a.slot c ob q n hc hx
    obtain ⟨sl', e2⟩ := b.slot c _ e1 (a.free c ob q n hx) hc hx
    exact ⟨sl', e2⟩
  free := fun c ob q n hx => by
    obtain ⟨o', e1⟩ := a.there c ob q hx
    exact b.free c o' e1 (a.free c ob q n hx) hx
  there := fun c ob q hx => by
    obtain ⟨o', e1⟩ := a.there c ob q hx
    exact b.there c o' e1 hx
  tups := fun c xs q => b.tups c xs (a.tups c xs q)
  frzs := fun c ob xs q => b.frzs c ob xs (a.frzs c ob xs q)
  tbls := fun c ps q => by
    obtain ⟨m1, e1⟩ := a.tbls c ps q
    obtain ⟨m2, e2⟩ := b.tbls c _ e1
    exact ⟨m1 ++ m2, by rw [e2, Array.append_assoc]⟩
theorem Un.kept (k : ∀ b u, h.get? b = some u → h'.get? b = some u) : Un fs ex H H h h' :=
  ⟨fun b ob q _ _ _ => k b ob q, fun b ob q _ _ _ => ⟨ob.slots, k b ob q⟩, fun _ _ _ n _ => n, fun b ob q _ => ⟨ob, k b ob q⟩, fun _ _ q => q, fun _ _ _ q => q, fun _ ps q => ⟨#[], by rw [q]; simp⟩⟩
theorem Un.refl : Un fs ex H H h h := Un.kept fun _ _ q => q
theorem Un.laid (k : ∀ b u, h.get? b = some u → h'.get? b = some u) (hp : h.objs.size ≤ a) (hn : H a = none) : Un fs ex H (upd H a o) h h' where
  keep := fun b u q _ _ _ => k b u q
  slot := fun b u q _ _ _ => ⟨u.slots, k b u q⟩
  free := fun b u q n _ => by rw [upd_ne (Nat.ne_of_lt (Nat.lt_of_lt_of_le (Heap.lt_size q) hp))]; exact n
  there := fun b u q _ => ⟨u, k b u q⟩
  tups := fun b xs q => by rw [upd_ne (ne_of_none q hn)]; exact q
  frzs := fun b u xs q => by rw [upd_ne (ne_of_none q hn)]; exact q
  tbls := fun b ps q => ⟨#[], by rw [upd_ne (ne_of_none q hn), q]; simp⟩
theorem Un.write (mu : Mut (H x)) (he : e = x ∨ H e = some (.own x)) (k : ∀ b u, b ≠ e → h.get? b = some u → h'.get? b = some u) (heo : ∃ u, h'.get? e = some u) : Un fs ex H (upd H x o) h h' := by
  have hx : ∀ b, H b = none → b ≠ x := fun b n z => by subst z; rw [n] at mu; exact mu
  have hb : ∀ b, H b = none → b ≠ e := fun b n z => by
    subst z
    rcases he with r | r
    · exact hx b n r
    · rw [n] at r; cases r
  have hm : ∀ b u, H b = some u → ¬ Mut (some u) → b ≠ x := fun b u q nm z => by subst z; rw [q] at mu; exact nm mu
  refine ⟨fun b u q n _ _ => k b u (hb b n) q, fun b u q n _ _ => ⟨u.slots, k b u (hb b n) q⟩, fun b u q n _ => by rw [upd_ne (hx b n)]; exact n, fun b u q _ => ?_,
    fun b xs q => by rw [upd_ne (hm b _ q fun z => z)]; exact q, fun b u xs q => by rw [upd_ne (hm b _ q fun z => z)]; exact q, fun b ps q => ⟨#[], by rw [upd_ne (hm b _ q fun z => z), q]; simp⟩⟩
  by_cases hbe : b = e
  · subst hbe; exact heo
  · exact ⟨u, k b u hbe q⟩
theorem Un.mono (u : Un fs ex H H1 h h1) (hs : ∀ b ∈ fs, b ∈ fs') (hx : ∀ b ∈ ex, b ∈ ex') : Un fs' ex' H H1 h h1 :=
  ⟨fun b ob q n hb he => u.keep b ob q n (fun z => hb (hs b z)) fun z => he (hx b z), fun _ _ q n _ he => u.any q n fun z => he (hx _ z), fun b ob q n he => u.free b ob q n fun z => he (hx b z), fun b ob q he => u.there b ob q fun z => he (hx b z), u.tups, u.frzs, u.tbls⟩
end

/-! ### the heap without what is tracked -/
def trk (h : Heap) (H : Hp) : List Addr := (List.range h.objs.size).filter fun a => (H a).isSome
def hidT (h : Heap) (H : Hp) : Heap := PySem.W.hideAll h (trk h H)
theorem hidT_size (h : Heap) (H : Hp) : (hidT h H).objs.size = h.objs.size := PySem.W.hideAll_size _ _
theorem hidT_get {h : Heap} {H : Hp} {b : Addr} {o : Obj} (e : h.get? b = some o) (n : H b = none) : (hidT h H).get? b = some o :=
  PySem.W.hideAll_get _ e fun hm => by
    have q : (H b).isSome = true := (List.mem_filter.mp hm).2
    rw [n] at q; simp at q
theorem of_hidT {h : Heap} {H : Hp} {b : Addr} {o : Obj} (e : (hidT h H).get? b = some o) : h.get? b = some o ∧ H b = none := by
  have e' : h.get? b = some o := PySem.W.of_hideAll (trk h H) e
  refine ⟨e', ?_⟩
  cases q : H b with
  | none => rfl
  | some x =>
    have hm : b ∈ trk h H := List.mem_filter.mpr ⟨List.mem_range.mpr (Heap.lt_size e'), by simp [q]⟩
    have z : (hidT h H).get? b = none := PySem.W.hideAll_none (trk h H) hm
    rw [z] at e; cases e

/-! ### OpenK's ledger, filled with every new object but one -/
def allNews (g h : Heap) (L : Addr) : List (Addr × Obj) := (List.range h.objs.size).filterMap fun a => if a = L ∨ (g.get? a).isSome = true then none else (h.get? a).map fun o => (a, o)
def rest (g h : Heap) (L d : Addr) : List (Addr × Obj) := (allNews g h L).filter fun p => decide (p.1 ≠ d)
end L2

namespace L2
open PySem PySem.Spec PyProof.Rows

/-- the module's facts, over the base: the heap at the law's entry without what is tracked there -/
structure Mod (K : PySem.W.Frag) (mg : Str → Option Value) (base : Heap) : Prop where
  kin : K.In base
  glob : base.Ns mainGlobals mg
  blt : ∃ mb, base.Ns builtinsNs mb ∧ ∀ x : Str, x ≠ "__name__" → mb x = bootBuiltins x
  nolimit : base.NoLimit

/-- the context: a def's body (or a comprehension's block) running. base: fixed through the whole law; s₀, H₀: the entry; outer: the frames whose slots others may change (a def's callers); stack: all frames that run;
   ex: iterators that were made ahead of the entry and are walked here (a comprehension's); fn: the names whose cells were made at the entry (a def: all; a comprehension's block: its own); calm: not within an except suite; pn: pins that every state bears; xe: what is wanted of an exception that leaves the code -/
structure Cx where
  prog : Program
  w : World
  K : PySem.W.Frag
  mg : Str → Option Value
  base : Heap
  A : Around
  N : List Str
  s₀ : Shared
  H₀ : Hp
  env : Env
  outer : List Env
  stack : List Env
  ex : List Addr
  fn : Str → Bool
  calm : Bool
  pn : List (Addr × Obj)
  xe : Value → Shared → Prop
/-- the callers' frames -/
def frs (l : List Env) : List Addr := l.filterMap (·.frame)
abbrev Cx.fs (X : Cx) : List Addr := frs X.outer

def Vis (sc : Scope) (x : Str) : Prop := sc.names.lookup x = some .local ∨ sc.names.lookup x = some .cell ∨ sc.names.lookup x = some .free
def Loc (sc : Scope) (x : Str) : Prop := sc.names.lookup x = some .local ∨ sc.names.lookup x = some .cell
def Look (env : Env) (h : Heap) (m : Str → Option Value) (x : Str) (u : Value) : Prop :=
  (env.kindOf x = some .local ∧ m x = some u) ∨ ((env.kindOf x = some .cell ∨ env.kindOf x = some .free) ∧ ∃ c, env.cells.lookup x = some c ∧ h.IsCell c (some u))

structure Cx.Ok (X : Cx) : Prop where
  mod : Mod X.K X.mg X.base
  kind : X.env.scope.kind = .function
  glob : X.env.globals = mainGlobals
  blt : X.env.builtins = builtinsNs
  above : X.s₀.heap.objs.size ≤ X.env.locals
  inj : ∀ x y c, X.env.cells.lookup x = some c → X.env.cells.lookup y = some c → x = y
  has : ∀ x, (X.env.kindOf x = some .cell ∨ X.env.kindOf x = some .free) → ∃ c, X.env.cells.lookup x = some c
  cab : ∀ x c, X.fn x = true → X.env.cells.lookup x = some c → X.s₀.heap.objs.size ≤ c
  hd : X.calm = true → X.A.handled = none
  frames : X.A.frames = some X.stack
  stk : X.stack = X.outer ∨ (X.stack = X.env :: X.outer ∧ X.env.frame = some X.env.locals)
  exf : ∀ b ∈ X.ex, b ≠ X.env.locals ∧ ∀ x c, X.env.cells.lookup x = some c → c ≠ b
  bs : ∀ b o, X.base.get? b = some o → X.s₀.heap.get? b = some o ∧ X.H₀ b = none
  bsz : X.base.objs.size ≤ X.s₀.heap.objs.size
  noex : ∀ b o, X.base.get? b = some o → b ∉ X.ex
  exfs : ∀ b ∈ X.ex, b ∉ X.fs
  funs : X.s₀.heap.FunFrames X.base X.outer
  frf : ∀ b ∈ X.fs, X.H₀ b = none

structure Inv (X : Cx) (pins : List (Addr × Obj)) (σ : List (Option V)) (H : Hp) (s : Shared) : Prop where
  ok : X.Ok
  os : s.os = X.s₀.os
  bare : AllBare s.gens
  base : Un X.fs X.ex X.H₀ H X.s₀.heap s.heap
  loc : ∃ m, s.heap.Ns X.env.locals m ∧ ∀ (i : Nat) (x : Str) (v : V), X.N[i]? = some x → σ[i]? = some (some v) → Vis X.env.scope x → ∃ u, RelV v u ∧ Look X.env s.heap m x u
  cell : ∀ x c, X.env.cells.lookup x = some c → ∃ v, s.heap.IsCell c v
  free : H X.env.locals = none
  freeC : ∀ x c, X.env.cells.lookup x = some c → H c = none
  pin : ∀ p ∈ X.pn ++ pins, s.heap.get? p.1 = some p.2 ∧ H p.1 = none ∧ p.1 ≠ X.env.locals ∧ p.1 ∉ X.fs ∧ ∀ v, p.2.data ≠ .cell v
  hok : HOk X.prog X.w H s.heap
  len : σ.length = X.N.length

section
variable {X : Cx} {pins : List (Addr × Obj)} {σ : List (Option V)} {H H' : Hp} {s : Shared} {h' : Heap}

theorem Cx.Ok.nofr (ok : X.Ok) {b : Addr} {o : Obj} (e : X.base.get? b = some o) : b ∉ X.fs := fun hb => by
  have := (ok.funs.mem hb).1
  rw [e] at this; cases this
theorem Inv.bs (I : Inv X pins σ H s) : ∀ b o, X.base.get? b = some o → s.heap.get? b = some o ∧ H b = none := fun b o e =>
  ⟨I.base.keep b o (I.ok.bs b o e).1 (I.ok.bs b o e).2 (I.ok.nofr e) (I.ok.noex b o e), I.base.free b o (I.ok.bs b o e).1 (I.ok.bs b o e).2 (I.ok.noex b o e)⟩
theorem Inv.bk (I : Inv X pins σ H s) : ∀ b o, X.base.get? b = some o → s.heap.get? b = some o := fun b o e => (I.bs b o e).1
theorem Inv.mod (I : Inv X pins σ H s) : Mod X.K X.mg X.base := I.ok.mod
theorem Inv.kIn (I : Inv X pins σ H s) : X.K.In s.heap := I.ok.mod.kin.keeps I.bk
theorem Inv.nolimit (I : Inv X pins σ H s) : s.heap.NoLimit := I.ok.mod.nolimit.keeps I.bk
/-- the frame over the base: for OpenK's rules (K.In X.base is I.mod.kin) -/
theorem Inv.fr (I : Inv X pins σ H s) : ∃ m, Fr X.base X.env.locals s.heap m :=
  let ⟨m, hn, _⟩ := I.loc
  ⟨m, hn, I.bk, Nat.le_trans I.ok.bsz I.ok.above⟩
theorem Inv.lt (I : Inv X pins σ H s) : X.env.locals < s.heap.objs.size := let ⟨_, hn, _⟩ := I.loc; hn.lt
theorem Inv.sz (I : Inv X pins σ H s) : X.s₀.heap.objs.size ≤ s.heap.objs.size := Nat.le_trans I.ok.above (Nat.le_of_lt I.lt)
theorem Inv.nofs (I : Inv X pins σ H s) {a : Addr} (h : s.heap.objs.size ≤ a) : a ∉ X.fs := fun hb => by
  obtain ⟨_, o, ho, _⟩ := I.ok.funs.mem hb
  exact absurd (Nat.lt_of_lt_of_le (Heap.lt_size ho) (Nat.le_trans I.sz h)) (Nat.lt_irrefl _)
theorem Inv.cne (I : Inv X pins σ H s) : ∀ x c, X.env.cells.lookup x = some c → c ≠ X.env.locals := fun x c e z => by
  obtain ⟨v, o, ho, hd⟩ := I.cell x c e
  obtain ⟨m, ⟨o', es, ep, ho', hd', _⟩, _⟩ := I.loc
  rw [z, ho'] at ho; cases ho; rw [hd'] at hd; cases hd
theorem Inv.funs (I : Inv X pins σ H s) : s.heap.FunFrames X.base X.outer := by
  have all : ∀ (l : List Env), (∀ b ∈ frs l, b ∈ X.fs) → X.s₀.heap.FunFrames X.base l → s.heap.FunFrames X.base l := by
    intro l
    induction l with
    | nil => intro _ _; trivial
    | cons env r ih =>
      intro hs hl
      obtain ⟨hk, ⟨L, o, hf, hn, ho, hd⟩, hr⟩ := hl
      have hL : L ∈ X.fs := hs L (by unfold frs; rw [List.filterMap_cons, hf]; exact List.mem_cons_self)
      obtain ⟨sl, e⟩ := I.base.slot L o ho (I.ok.frf L hL) hL fun z => I.ok.exfs L z hL
      exact ⟨hk, ⟨L, _, hf, hn, e, hd⟩, ih (fun b hb => hs b (by unfold frs; rw [List.filterMap_cons, hf]; exact List.mem_cons_of_mem _ hb)) hr⟩
  exact all X.outer (fun _ hb => hb) I.ok.funs

/-- the frames that run, for a call -/
theorem Inv.stack (I : Inv X pins σ H s) : s.heap.FunFrames X.base X.stack := by
  rcases I.ok.stk with e | ⟨e, hf⟩
  · rw [e]; exact I.funs
  · rw [e]
    obtain ⟨m, hn, _⟩ := I.loc
    refine .cons (by rw [I.ok.kind]; decide) hf hn ?_ I.funs
    exact Heap.get?_none_of_le (Nat.le_trans I.ok.bsz I.ok.above)
theorem Inv.stkSub (I : Inv X pins σ H s) : ∀ b ∈ frs X.stack, b ∈ X.env.locals :: X.fs := fun b hb => by
  rcases I.ok.stk with e | ⟨e, hf⟩
  · rw [e] at hb; exact List.mem_cons_of_mem _ hb
  · rw [e] at hb
    unfold frs at hb
    rw [List.filterMap_cons, hf] at hb
    exact hb
theorem Inv.stkFree (I : Inv X pins σ H s) : ∀ b ∈ frs X.stack, H b = none := fun b hb => by
  rcases List.mem_cons.mp (I.stkSub b hb) with e | hb
  · rw [e]; exact I.free
  · obtain ⟨_, o, ho, _⟩ := I.ok.funs.mem hb
    exact I.base.free b o ho (I.ok.frf b hb) fun z => I.ok.exfs b z hb

/-- THE STEP: the untracked objects but the frame and the records at ch are kept (the callers' frames up to slots), the frame's map is kept, the new abstract heap is held -/
theorem Inv.step {g' : Array GenState} {t' : Nat} {d' : Drawn} {ch : List Addr} (I : Inv X pins σ H s)
    (hch : ∀ b ∈ ch, (b ∈ X.ex ∨ X.s₀.heap.objs.size ≤ b) ∧ b ≠ X.env.locals ∧ (∀ x c, X.env.cells.lookup x = some c → c ≠ b) ∧ ∀ p ∈ X.pn ++ pins, p.1 ≠ b)
    (keep : ∀ b o, b ≠ X.env.locals → b ∉ X.fs → b ∉ ch → s.heap.get? b = some o → H b = none → h'.get? b = some o)
    (slot : ∀ b o, b ≠ X.env.locals → b ∈ X.fs → b ∉ ch → s.heap.get? b = some o → H b = none → ∃ sl, h'.get? b = some { o with slots := sl }) (free : ∀ b o, b ∉ ch → s.heap.get? b = some o → H b = none → H' b = none)
    (there : ∀ b o, b ∉ ch → s.heap.get? b = some o → ∃ o', h'.get? b = some o')
    (tups : ∀ b xs, H b = some (.tup xs) → H' b = some (.tup xs)) (frzs : ∀ b o u, H b = some (.frz o u) → H' b = some (.frz o u)) (tbls : ∀ b ps, H b = some (.tbl ps) → ∃ more, H' b = some (.tbl (ps ++ more)))
    (ns : ∀ m, s.heap.Ns X.env.locals m → h'.Ns X.env.locals m) (hok : HOk X.prog X.w H' h') (hg : AllBare g') :
    Inv X pins σ H' { s with heap := h', gens := g', drawn := d', toks := t' } := by
  have neL : ∀ b o, X.s₀.heap.get? b = some o → b ≠ X.env.locals := fun b o e => Nat.ne_of_lt (Nat.lt_of_lt_of_le (Heap.lt_size e) I.ok.above)
  have neC : ∀ b o, X.s₀.heap.get? b = some o → b ∉ X.ex → b ∉ ch := fun b o e hx hb => by
    rcases (hch b hb).1 with z | z
    · exact hx z
    · exact absurd (Nat.lt_of_lt_of_le (Heap.lt_size e) z) (Nat.lt_irrefl _)
  have cellK : ∀ x c, X.env.cells.lookup x = some c → ∀ v, s.heap.IsCell c v → h'.IsCell c v := fun x c e v ⟨o, ho, hd⟩ => by
    have nch : c ∉ ch := fun z => (hch c z).2.2.1 x c e rfl
    by_cases hc : c ∈ X.fs
    · obtain ⟨sl, q⟩ := slot c o (I.cne x c e) hc nch ho (I.freeC x c e)
      exact ⟨_, q, hd⟩
    · exact ⟨o, keep c o (I.cne x c e) hc nch ho (I.freeC x c e), hd⟩
  refine ⟨I.ok, I.os, hg, ⟨fun b o e n hb hx => ?_, fun b o e n hb hx => ?_, fun b o e n hx => ?_, fun b o e hx => ?_, fun b xs e => tups b xs (I.base.tups b xs e), fun b o xs e => frzs b o xs (I.base.frzs b o xs e), fun b ps e => ?_⟩, ?_, fun x c e => ?_, ?_, fun x c e => ?_, fun p hp => ?_, hok, I.len⟩
  · exact keep b o (neL b o e) hb (neC b o e hx) (I.base.keep b o e n hb hx) (I.base.free b o e n hx)
  · obtain ⟨sl, e1⟩ := I.base.slot b o e n hb hx
    obtain ⟨sl', e2⟩ := slot b _ (neL b o e) hb (neC b o e hx) e1 (I.base.free b o e n hx)
    exact ⟨sl', e2⟩
  · obtain ⟨o', e1⟩ := I.base.there b o e hx
    exact free b o' (neC b o e hx) e1 (I.base.free b o e n hx)
  · obtain ⟨o', e1⟩ := I.base.there b o e hx
    exact there b o' (neC b o e hx) e1
  · obtain ⟨m1, e1⟩ := I.base.tbls b ps e
    obtain ⟨m2, e2⟩ := tbls b _ e1
    exact ⟨m1 ++ m2, by rw [e2, Array.append_assoc]⟩
  · obtain ⟨m, hn, hl⟩ := I.loc
    refine ⟨m, ns m hn, fun i x v e1 e2 e3 => ?_⟩
    obtain ⟨u, r, l⟩ := hl i x v e1 e2 e3
    refine ⟨u, r, ?_⟩
    rcases l with l | ⟨k, c, e, z⟩
    · exact .inl l
    · exact .inr ⟨k, c, e, cellK x c e _ z⟩
  · obtain ⟨v, z⟩ := I.cell x c e
    exact ⟨v, cellK x c e v z⟩
  · obtain ⟨m, ⟨o, _, _, ho, _⟩, _⟩ := I.loc
    exact free _ o (fun z => (hch _ z).2.1 rfl) ho I.free
  · obtain ⟨v, o, ho, hd⟩ := I.cell x c e
    exact free c o (fun z => (hch c z).2.2.1 x c e rfl) ho (I.freeC x c e)
  · obtain ⟨e, n, ne, nf, d⟩ := I.pin p hp
    have nch : p.1 ∉ ch := fun z => (hch p.1 z).2.2.2 p hp rfl
    exact ⟨keep p.1 p.2 ne nf nch e n, free p.1 p.2 nch e n, ne, nf, d⟩
/-- .. where the frame's own object is kept too -/
theorem Inv.un {t' : Nat} (I : Inv X pins σ H s) (u : Un X.fs [] H H' s.heap h') (hok : HOk X.prog X.w H' h') : Inv X pins σ H' { s with heap := h', toks := t' } := by
  obtain ⟨m, ⟨o, es, ep, ho, r⟩, _⟩ := id I.loc
  obtain ⟨sl, hL⟩ := u.any ho I.free (by simp)
  exact I.step (g' := s.gens) (d' := s.drawn) (ch := []) (fun _ z => nomatch z) (fun b o _ hb _ e n => u.keep b o e n hb (by simp)) (fun b o _ hb _ e n => u.slot b o e n hb (by simp)) (fun b o _ e n => u.free b o e n (by simp)) (fun b o _ e => u.there b o e (by simp)) u.tups u.frzs u.tbls (fun m' hm => by
    obtain ⟨o', es', ep', ho', r'⟩ := hm
    rw [ho] at ho'; cases ho'
    exact ⟨_, es', ep', hL, r'⟩) hok I.bare
/-- behind a call (or a comprehension's block): the slots of this frame may have changed too, the records at ch may have turned -/
theorem Inv.call {g' : Array GenState} {t' : Nat} {d' : Drawn} {ch : List Addr} (I : Inv X pins σ H s) (u : Un (frs X.stack) ch H H' s.heap h') (hok : HOk X.prog X.w H' h') (hg : AllBare g')
    (hch : ∀ b ∈ ch, (b ∈ X.ex ∨ X.s₀.heap.objs.size ≤ b) ∧ b ≠ X.env.locals ∧ (∀ x c, X.env.cells.lookup x = some c → c ≠ b) ∧ ∀ p ∈ X.pn ++ pins, p.1 ≠ b) :
    Inv X pins σ H' { s with heap := h', gens := g', drawn := d', toks := t' } := by
  obtain ⟨m, ⟨o, es, ep, ho, r⟩, _⟩ := id I.loc
  obtain ⟨sl, hL⟩ := u.any ho I.free fun z => (hch _ z).2.1 rfl
  exact I.step (ch := ch) hch (fun b o hL hb hc e n => u.keep b o e n (fun z => (List.mem_cons.mp (I.stkSub b z)).elim hL hb) hc) (fun b o _ _ hc e n => u.any e n hc) (fun b o hc e n => u.free b o e n hc) (fun b o hc e => u.there b o e hc) u.tups u.frzs u.tbls (fun m' hm => by
    obtain ⟨o', es', ep', ho', r'⟩ := hm
    rw [ho] at ho'; cases ho'
    exact ⟨_, es', ep', hL, r'⟩) hok hg
/-- an untracked record of ours (an iterator) has turned -/
theorem Inv.turned {t' : Nat} {it : Addr} (I : Inv X pins σ H s) (k : ∀ b o, b ≠ it → s.heap.get? b = some o → h'.get? b = some o) (hn : H it = none) (hL : it ≠ X.env.locals)
    (h1 : it ∈ X.ex ∨ X.s₀.heap.objs.size ≤ it) (h2 : ∀ x c, X.env.cells.lookup x = some c → c ≠ it) (h3 : ∀ p ∈ X.pn ++ pins, p.1 ≠ it) : Inv X pins σ H { s with heap := h', toks := t' } := by
  have nit : ∀ b u, H b = some u → b ≠ it := fun b u e z => by rw [z, hn] at e; cases e
  refine I.step (g' := s.gens) (d' := s.drawn) (ch := [it]) (fun b hb => ?_) (fun b o _ _ hc e _ => k b o (fun z => hc (by simp [z])) e) (fun b o _ _ hc e _ => ⟨o.slots, k b o (fun z => hc (by simp [z])) e⟩) (fun _ _ _ _ n => n)
    (fun b o hc e => ⟨o, k b o (fun z => hc (by simp [z])) e⟩) (fun _ _ e => e) (fun _ _ _ e => e) (fun b ps e => ⟨#[], by rw [e]; simp⟩) (fun m hm => ?_) (fun b u e => ?_) I.bare
  · have e : b = it := by simpa using hb
    subst e
    exact ⟨h1, hL, h2, h3⟩
  · obtain ⟨o, es, ep, ho, r⟩ := hm
    exact ⟨o, es, ep, k _ o (Ne.symm hL) ho, r⟩
  · refine (I.hok b u e).stay (fun c v hc q => k c v ?_ q) (fun _ q => q) fun _ _ q => q
    rcases hc with z | z
    · rw [z]; exact nit b u e
    · exact nit c _ z
theorem Inv.tok (I : Inv X pins σ H s) (t : Nat) : Inv X pins σ H { s with toks := t } := I.un (h' := s.heap) (t' := t) Un.refl I.hok
/-- all objects kept -/
theorem Inv.kept {t' : Nat} (I : Inv X pins σ H s) (k : ∀ b u, s.heap.get? b = some u → h'.get? b = some u) : Inv X pins σ H { s with heap := h', toks := t' } := I.un (Un.kept k) (I.hok.kept k)
/-- a new object laid and tracked -/
theorem Inv.laid {a : Addr} {o : HO} {t' : Nat} (I : Inv X pins σ H s) (k : ∀ b u, s.heap.get? b = some u → h'.get? b = some u) (hp : s.heap.objs.size ≤ a) (new : ObjOk X.prog X.w (upd H a o) h' a o) :
    Inv X pins σ (upd H a o) { s with heap := h', toks := t' } := I.un (Un.laid k hp (I.hok.fresh hp)) (I.hok.laid k hp new)
/-- an object written -/
theorem Inv.write {x e : Addr} {o : HO} {t' : Nat} (I : Inv X pins σ H s) (mu : Mut (H x)) (he : e = x ∨ H e = some (.own x)) (k : ∀ b u, b ≠ e → s.heap.get? b = some u → h'.get? b = some u) (heo : ∃ u, h'.get? e = some u)
    (new : ObjOk X.prog X.w (upd H x o) h' x o) : Inv X pins σ (upd H x o) { s with heap := h', toks := t' } := I.un (Un.write mu he k heo) (I.hok.write mu he k heo new)
theorem Inv.pins_of {pins' : List (Addr × Obj)} (I : Inv X pins σ H s) (h : ∀ p ∈ pins', s.heap.get? p.1 = some p.2 ∧ H p.1 = none ∧ p.1 ≠ X.env.locals ∧ p.1 ∉ X.fs ∧ ∀ v, p.2.data ≠ .cell v) : Inv X pins' σ H s :=
  ⟨I.ok, I.os, I.bare, I.base, I.loc, I.cell, I.free, I.freeC, fun p hp => (List.mem_append.mp hp).elim (fun z => I.pin p (List.mem_append_left _ z)) (h p), I.hok, I.len⟩

theorem nodup_ix {N : List Str} (hN : N.Nodup) {i j : Nat} {x : Str} (a : N[i]? = some x) (b : N[j]? = some x) : i = j := by
  obtain ⟨h1, e1⟩ := List.getElem?_eq_some_iff.mp a
  obtain ⟨h2, e2⟩ := List.getElem?_eq_some_iff.mp b
  exact (List.getElem_inj hN).mp (e1.trans e2.symm)

/-- a name is stored; what changed -/
theorem store_ok2 {M : Model} {A : Around} {E : Value → Shared → Prop} {i : Nat} {x : Str} {v : V} {u : Value} {Q : Unit → Shared → Prop} (I : Inv X pins σ H s) (hN : X.N.Nodup) (hi : X.N[i]? = some x) (hx : Loc X.env.scope x) (r : RelV v u)
    (h : ∀ s', Inv X pins (σ.set i (some v)) H s' → (∃ a, Heap.SameBut a s.heap s'.heap ∧ (a = X.env.locals ∨ X.env.cells.lookup x = some a)) → Q () s') (hf : X.fn x = true ∨ X.env.scope.names.lookup x = some .local := by first | exact .inl rfl | exact .inr rfl | assumption) : wpAny M A (storeName X.env x u) Q E s := by
  obtain ⟨m, hn, hl⟩ := id I.loc
  have hcls : (X.env.scope.kind == .class || (X.env.scope.kind == .module && X.env.locals != X.env.globals)) = false := by rw [I.ok.kind]; rfl
  have hiσ : i < σ.length := by rw [I.len]; exact (List.getElem?_eq_some_iff.mp hi).1
  have cne := I.cne
  have tracked : ∀ {a : Addr} {h' : Heap}, (∃ o, s.heap.get? a = some o ∧ H a = none) → Heap.SameBut a s.heap h' → HOk X.prog X.w H h' := fun {a h'} ha hs b ob e => by
    obtain ⟨_, _, hfree⟩ := ha
    refine (I.hok b ob e).stay (fun c w' hc q => (hs.2 c ?_).trans q) (fun _ q => q) fun _ _ q => q
    rintro rfl
    rcases hc with rfl | hc
    · rw [hfree] at e; cases e
    · rw [hfree] at hc; cases hc
  rcases hx with hk | hk
  · refine wpAny_storeName_local hk hn (fun h' hn' hs => ?_) hcls
    obtain ⟨oL, _, _, hoL, _⟩ := id hn
    refine h _ ⟨I.ok, I.os, I.bare, ⟨fun b o e n hb hx => ?_, fun b o e n hb hx => ?_, I.base.free, fun b o e hx => ?_, I.base.tups, I.base.frzs, I.base.tbls⟩, ⟨_, hn', fun j y v' e1 e2 e3 => ?_⟩, fun y c e => ?_, I.free, I.freeC, fun p hp => ?_, tracked ⟨oL, hoL, I.free⟩ hs, by simpa using I.len⟩ ⟨_, hs, .inl rfl⟩
    · exact (hs.2 b (Nat.ne_of_lt (Nat.lt_of_lt_of_le (Heap.lt_size e) I.ok.above))).trans (I.base.keep b o e n hb hx)
    · obtain ⟨sl, e1⟩ := I.base.slot b o e n hb hx
      exact ⟨sl, (hs.2 b (Nat.ne_of_lt (Nat.lt_of_lt_of_le (Heap.lt_size e) I.ok.above))).trans e1⟩
    · obtain ⟨o', e1⟩ := I.base.there b o e hx
      exact ⟨o', (hs.2 b (Nat.ne_of_lt (Nat.lt_of_lt_of_le (Heap.lt_size e) I.ok.above))).trans e1⟩
    · by_cases hj : j = i
      · subst hj
        rw [hi] at e1; cases e1
        rw [List.getElem?_set_self hiσ] at e2
        cases e2
        exact ⟨u, r, .inl ⟨hk, by simp⟩⟩
      · rw [List.getElem?_set_ne (Ne.symm hj)] at e2
        obtain ⟨u', r', q⟩ := hl j y v' e1 e2 e3
        refine ⟨u', r', ?_⟩
        rcases q with ⟨k, e⟩ | ⟨k, c, e, z⟩
        · refine .inl ⟨k, ?_⟩
          have : y ≠ x := fun e => hj (nodup_ix hN e1 (e ▸ hi))
          simp [this, e]
        · exact .inr ⟨k, c, e, z.sameBut hs (cne y c e)⟩
    · obtain ⟨w', z⟩ := I.cell y c e
      exact ⟨w', z.sameBut hs (cne y c e)⟩
    · obtain ⟨e, n, ne, nf, d⟩ := I.pin p hp
      exact ⟨(hs.2 p.1 ne).trans e, n, ne, nf, d⟩
  · have hfn : X.fn x = true := by
      rcases hf with z | z
      · exact z
      · rw [z] at hk; cases hk
    obtain ⟨c, hc⟩ := I.ok.has x (.inl hk)
    obtain ⟨w', z⟩ := I.cell x c hc
    refine wpAny_storeName_cell I.ok.kind hk hc z (fun h' hc' hs => ?_)
    obtain ⟨oc, hoc, hocd⟩ := id z
    refine h { s with heap := h' } ⟨I.ok, I.os, I.bare, ⟨fun b o e n hb hx => ?_, fun b o e n hb hx => ?_, I.base.free, fun b o e hx => ?_, I.base.tups, I.base.frzs, I.base.tbls⟩, ⟨m, hn.sameBut hs (Ne.symm (cne x c hc)), fun j y v' e1 e2 e3 => ?_⟩, fun y c' e => ?_, I.free, I.freeC, fun p hp => ?_, tracked ⟨oc, hoc, I.freeC x c hc⟩ hs, by simpa using I.len⟩ ⟨c, hs, .inr hc⟩
    · exact (hs.2 b (Nat.ne_of_lt (Nat.lt_of_lt_of_le (Heap.lt_size e) (I.ok.cab x c hfn hc)))).trans (I.base.keep b o e n hb hx)
    · obtain ⟨sl, e1⟩ := I.base.slot b o e n hb hx
      exact ⟨sl, (hs.2 b (Nat.ne_of_lt (Nat.lt_of_lt_of_le (Heap.lt_size e) (I.ok.cab x c hfn hc)))).trans e1⟩
    · obtain ⟨o', e1⟩ := I.base.there b o e hx
      exact ⟨o', (hs.2 b (Nat.ne_of_lt (Nat.lt_of_lt_of_le (Heap.lt_size e) (I.ok.cab x c hfn hc)))).trans e1⟩
    · by_cases hj : j = i
      · subst hj
        rw [hi] at e1; cases e1
        rw [List.getElem?_set_self hiσ] at e2
        cases e2
        exact ⟨u, r, .inr ⟨.inl hk, c, hc, hc'⟩⟩
      · rw [List.getElem?_set_ne (Ne.symm hj)] at e2
        obtain ⟨u', r', q⟩ := hl j y v' e1 e2 e3
        refine ⟨u', r', ?_⟩
        rcases q with q | ⟨k, c', e, z'⟩
        · exact .inl q
        · refine .inr ⟨k, c', e, z'.sameBut hs ?_⟩
          rintro rfl
          exact hj (nodup_ix hN e1 (I.ok.inj _ _ _ e hc ▸ hi))
    · by_cases hcc : c' = c
      · subst hcc; exact ⟨_, hc'⟩
      · obtain ⟨w2, z2⟩ := I.cell y c' e
        exact ⟨w2, z2.sameBut hs hcc⟩
    · obtain ⟨e, n, ne, nf, d⟩ := I.pin p hp
      refine ⟨(hs.2 p.1 ?_).trans e, n, ne, nf, d⟩
      intro q
      rw [q, hoc] at e
      have q' : oc = p.2 := Option.some.inj e
      exact d w' (by rw [← q']; exact hocd)
theorem store_ok {M : Model} {A : Around} {E : Value → Shared → Prop} {i : Nat} {x : Str} {v : V} {u : Value} {Q : Unit → Shared → Prop} (I : Inv X pins σ H s) (hN : X.N.Nodup) (hi : X.N[i]? = some x) (hx : Loc X.env.scope x) (r : RelV v u)
    (h : ∀ s', Inv X pins (σ.set i (some v)) H s' → Q () s') (hf : X.fn x = true ∨ X.env.scope.names.lookup x = some .local := by first | exact .inl rfl | exact .inr rfl | assumption) : wpAny M A (storeName X.env x u) Q E s :=
  store_ok2 I hN hi hx r (fun s' I' _ => h s' I') hf
/-- behind a call or a block, the state as it is -/
theorem Inv.call' {s' : Shared} {ch : List Addr} (I : Inv X pins σ H s) (ho : s'.os = s.os) (u : Un (frs X.stack) ch H H' s.heap s'.heap) (hok : HOk X.prog X.w H' s'.heap) (hg : AllBare s'.gens)
    (hch : ∀ b ∈ ch, (b ∈ X.ex ∨ X.s₀.heap.objs.size ≤ b) ∧ b ≠ X.env.locals ∧ (∀ x c, X.env.cells.lookup x = some c → c ≠ b) ∧ ∀ p ∈ X.pn ++ pins, p.1 ≠ b) : Inv X pins σ H' s' := by
  obtain ⟨h', g', d', t', o'⟩ := s'
  have e : o' = s.os := ho
  subst e
  exact I.call (g' := g') (t' := t') (d' := d') u hok hg hch
end

/-! ### the judgements -/
/-- an exception: its class, its own dict's address (where it has one), the abstract heap behind it -/
abbrev XK := Value → Option Addr → Hp → Prop
abbrev St := List (Option V)
abbrev VK := V → Hp → Prop
/-- an expression's reading; a test's; an argument list's -/
abbrev TE := St → Hp → VK → Prop
abbrev TT := St → Hp → (Bool → Hp → Prop) → Prop
abbrev TA := St → Hp → (List V → Hp → Prop) → Prop
/-- what is wanted behind a statement -/
structure Ends where
  nx : St → Hp → Prop
  rt : VK
  bk : St → Hp → Prop := fun _ _ => False
  ct : St → Hp → Prop := fun _ _ => False
abbrev TS := Ends → St → Hp → Prop

def EP (X : Cx) (pins : List (Addr × Obj)) (σ : St) (Q : VK) (u : Value) (s' : Shared) : Prop := ∃ v H', Inv X pins σ H' s' ∧ RelV v u ∧ Q v H'
def TP (X : Cx) (pins : List (Addr × Obj)) (σ : St) (Q : Bool → Hp → Prop) (b : Bool) (s' : Shared) : Prop := ∃ H', Inv X pins σ H' s' ∧ Q b H'
def AP (X : Cx) (pins : List (Addr × Obj)) (σ : St) (Q : List V → Hp → Prop) (us : List Value) (s' : Shared) : Prop := ∃ vs H', Inv X pins σ H' s' ∧ Vals vs us ∧ Q vs H'
def SP (X : Cx) (pins : List (Addr × Obj)) (D : Ends) (f : Flow) (s' : Shared) : Prop :=
  match f with
  | .next => ∃ σ' H', Inv X pins σ' H' s' ∧ D.nx σ' H'
  | .brk => ∃ σ' H', Inv X pins σ' H' s' ∧ D.bk σ' H'
  | .cont => ∃ σ' H', Inv X pins σ' H' s' ∧ D.ct σ' H'
  | .ret u => ∃ v σ' H', Inv X pins σ' H' s' ∧ RelV v u ∧ D.rt v H'

def PE (X : Cx) (e : Expr) (t : TE) : Prop :=
  ∀ (pins : List (Addr × Obj)) (s : Shared) (σ : St) (H : Hp) (Q : VK), Inv X pins σ H s → t σ H Q → wpAny (model X.prog X.w) X.A (eval e X.env) (EP X pins σ Q) X.xe s
def PT (X : Cx) (e : Expr) (t : TT) : Prop :=
  ∀ (pins : List (Addr × Obj)) (s : Shared) (σ : St) (H : Hp) (Q : Bool → Hp → Prop), Inv X pins σ H s → t σ H Q → wpAny (model X.prog X.w) X.A (isTrue e X.env (eval e X.env)) (TP X pins σ Q) X.xe s
/-- a test whatever its 'whole' is (and, or) -/
def PW (X : Cx) (e : Expr) (t : TT) : Prop :=
  ∀ (whole : Sem Value) (pins : List (Addr × Obj)) (s : Shared) (σ : St) (H : Hp) (Q : Bool → Hp → Prop), Inv X pins σ H s → t σ H Q → wpAny (model X.prog X.w) X.A (isTrue e X.env whole) (TP X pins σ Q) X.xe s
theorem PW.pt {X : Cx} {e : Expr} {t : TT} (h : PW X e t) : PT X e t := h _
/-- an argument list (no star), from the left -/
def PA (X : Cx) (es : List Expr) (t : TA) : Prop :=
  ∀ (pos : Pos) (pins : List (Addr × Obj)) (s : Shared) (σ : St) (H : Hp) (Q : List V → Hp → Prop), Inv X pins σ H s → t σ H Q → wpAny (model X.prog X.w) X.A (spliced (backTo pos (starEach es X.env))) (AP X pins σ Q) X.xe s
def PS (X : Cx) (st : Stmt) (t : TS) : Prop :=
  ∀ (pins : List (Addr × Obj)) (s : Shared) (σ : St) (H : Hp) (D : Ends), Inv X pins σ H s → t D σ H → wpAny (model X.prog X.w) X.A (exec st X.env) (SP X pins D) X.xe s
def PSs (X : Cx) (st : List Stmt) (t : TS) : Prop :=
  ∀ (pins : List (Addr × Obj)) (s : Shared) (σ : St) (H : Hp) (D : Ends), Inv X pins σ H s → t D σ H → wpAny (model X.prog X.w) X.A (execs st X.env) (SP X pins D) X.xe s
/-- weaken the end -/
theorem thn {α : Type} {t : Sem α} {Q Q' : α → Shared → Prop} {M : Model} {A : Around} {E : Value → Shared → Prop} {s : Shared} (h : wpAny M A t Q E s) (hQ : ∀ a s, Q a s → Q' a s) : wpAny M A t Q' E s := wpAny_mono h hQ fun _ _ x => x
end L2

namespace L2
open PySem PySem.Spec PyProof.Rows
section
variable {X : Cx}

/-! ### names and constants -/
def tVar (i : Nat) : TE := fun σ H Q => ∃ v, σ[i]? = some (some v) ∧ Q v H
def tC (v : V) : TE := fun _ H Q => Q v H
theorem pe_var {i : Nat} {x : Str} {pos : Pos} (hN : X.N[i]? = some x) (hv : Vis X.env.scope x) (hd : (x == ("__debug__" : Str)) = false := by decide) (hcd : (x == ("__classdict__" : Str)) = false := by decide) : PE X (.Name x pos) (tVar i) := by
  intro pins s σ H Q I h
  obtain ⟨v, e, h⟩ := h
  obtain ⟨m, hn, hl⟩ := I.loc
  obtain ⟨u, r, l⟩ := hl i x v hN e hv
  have fin : EP X pins σ Q u s := ⟨v, H, I, r, h⟩
  rcases l with ⟨hk, hm⟩ | ⟨hk, c, hc, hcell⟩
  · exact wpAny_Name (wpAny_loadName_local I.ok.kind hk hn hm fin) hd
  · rcases hk with hk | hk
    · exact wpAny_Name (wpAny_loadName_cell I.ok.kind hk hc hcell fin) hd
    · exact wpAny_Name (wpAny_loadName_free I.ok.kind hk hc hcell fin hcd) hd
theorem pe_int {i j pos} : PE X (.Constant (.int i) j pos) (tC (.int i)) := fun _ _ _ H _ I h => wpAny_Constant_int ⟨.int i, H, I.tok _, ⟨_, rfl⟩, h⟩
theorem pe_bl {b j pos} : PE X (.Constant (.bool b) j pos) (tC (.bl b)) := fun _ _ _ H _ I h => Constant_bool ⟨.bl b, H, I, rfl, h⟩
theorem pe_non {j pos} : PE X (.Constant .none j pos) (tC .non) := fun _ _ _ H _ I h => Constant_none ⟨.non, H, I, rfl, h⟩
theorem pe_str {x j pos} : PE X (.Constant (.str x) j pos) (tC (.str x)) := fun _ _ _ H _ I h => Calls.Constant_str ⟨.str x, H, I.tok _, ⟨_, rfl⟩, h⟩

/-- a global name of the def -/
def Gl (X : Cx) (x : Str) : Prop := X.env.kindOf x = some .globalImplicit
theorem ld_glob {E : Value → Shared → Prop} {pins : List (Addr × Obj)} {s : Shared} {σ : St} {H : Hp} {x : Str} {u : Value} {pos : Pos} {Q : Value → Shared → Prop} (I : Inv X pins σ H s) (hg : Gl X x) (hm : X.mg x = some u) (h : Q u s)
    (hd : (x == ("__debug__" : Str)) = false := by decide) : wpAny (model X.prog X.w) X.A (eval (.Name x pos) X.env) Q E s :=
  Calls.Name_function_global I.ok.kind hg (Calls.loadGlobal_global (by rw [I.ok.glob]; exact I.mod.glob.keeps I.bk) hm h) hd
theorem ld_blt {E : Value → Shared → Prop} {pins : List (Addr × Obj)} {s : Shared} {σ : St} {H : Hp} {x : Str} {u : Value} {pos : Pos} {Q : Value → Shared → Prop} (I : Inv X pins σ H s) (hg : Gl X x) (hm : X.mg x = none) (hv : bootBuiltins x = some u) (h : Q u s)
    (hn : x ≠ "__name__" := by decide) (hd : (x == ("__debug__" : Str)) = false := by decide) : wpAny (model X.prog X.w) X.A (eval (.Name x pos) X.env) Q E s := by
  obtain ⟨mb, h1, h2⟩ := I.mod.blt
  exact Calls.Name_function_global I.ok.kind hg (Calls.loadGlobal_builtin (by rw [I.ok.glob]; exact I.mod.glob.keeps I.bk) hm (by rw [I.ok.blt]; exact h1.keeps I.bk) ((h2 x hn).trans hv) h) hd
/-- a module's constant, a class, a function, as a value -/
theorem pe_glob {x : Str} {v : V} {u : Value} {pos : Pos} (hg : Gl X x) (hm : X.mg x = some u) (r : RelV v u) (hd : (x == ("__debug__" : Str)) = false := by decide) : PE X (.Name x pos) (tC v) :=
  fun _ _ _ H _ I h => ld_glob I hg hm ⟨v, H, I, r, h⟩ hd
theorem pe_bltn {x : Str} {v : V} {u : Value} {pos : Pos} (hg : Gl X x) (hm : X.mg x = none) (hv : bootBuiltins x = some u) (r : RelV v u) (hn : x ≠ "__name__" := by decide) (hd : (x == ("__debug__" : Str)) = false := by decide) : PE X (.Name x pos) (tC v) :=
  fun _ _ _ H _ I h => ld_blt I hg hm hv ⟨v, H, I, r, h⟩ hn hd

/-! ### arithmetic -/
/-- two ints -/
def t2I (ta tb : TE) (k : Int → Int → Hp → Prop) : St → Hp → Prop := fun σ H => ta σ H fun x H1 => tb σ H1 fun y H2 => ∃ i j, x = .int i ∧ y = .int j ∧ k i j H2
def tAdd (ta tb : TE) : TE := fun σ H Q => t2I ta tb (fun i j H2 => Q (.int (i + j)) H2) σ H
def tSub (ta tb : TE) : TE := fun σ H Q => t2I ta tb (fun i j H2 => Q (.int (i - j)) H2) σ H
/-- the left factor below 2^64 -/
def tMul (ta tb : TE) : TE := fun σ H Q => t2I ta tb (fun i j H2 => (-(2 ^ 64) < i ∧ i < 2 ^ 64) ∧ Q (.int (i * j)) H2) σ H
variable {a b : Expr} {ta tb : TE} {pos : Pos}
/-! ### comparisons -/
def PC (X : Cx) (op : CmpOp) (a b : Expr) (t : TE) : Prop :=
  ∀ (pins : List (Addr × Obj)) (s : Shared) (σ : St) (H : Hp) (Q : VK), Inv X pins σ H s → t σ H Q →
    wpAny (model X.prog X.w) X.A (eval a X.env) (fun v s₁ => wpAny (model X.prog X.w) X.A (eval b X.env) (fun u s₂ => wpAny (model X.prog X.w) X.A (compareOp op v u) (EP X pins σ Q) X.xe s₂) X.xe s₁) X.xe s
def tCmp (p : Int → Int → Bool) (ta tb : TE) : TE := fun σ H Q => t2I ta tb (fun i j H2 => Q (.bl (p i j)) H2) σ H
abbrev tLt : TE → TE → TE := tCmp fun i j => decide (i < j)
abbrev tLe : TE → TE → TE := tCmp fun i j => decide (i ≤ j)
abbrev tGt : TE → TE → TE := tCmp fun i j => decide (j < i)
abbrev tGe : TE → TE → TE := tCmp fun i j => decide (j ≤ i)
abbrev tEqI : TE → TE → TE := tCmp fun i j => decide (i = j)
abbrev tNeI : TE → TE → TE := tCmp fun i j => !decide (i = j)
/-- is None -/
def tIsN (ta : TE) : TE := fun σ H Q => ta σ H fun x H1 => Q (.bl (decide (x = .non))) H1
def tNotN (ta : TE) : TE := fun σ H Q => ta σ H fun x H1 => Q (.bl (!decide (x = .non))) H1
/-- a comparison as a value, as a test -/
def tB (t : TE) : TT := fun σ H Q => t σ H fun x H1 => ∃ c, x = .bl c ∧ Q c H1
/-- an expression whose value is a bool, as a test -/
theorem pt_val {e : Expr} {t : TE} (h : PE X e t) (he : ∀ whole, isTrue e X.env whole = (do let v ← whole; standAt e.pos; holding [v] (truthy v)) := by intro _; rfl) : PT X e (tB t) := by
  intro pins s σ H Q I hw
  refine isTrue_plain (thn (h pins s σ H _ I hw) fun v s1 ⟨x, H1, I1, r1, q1⟩ => ?_) (he _)
  obtain ⟨d, rfl, q⟩ := q1
  cases r1
  exact wpAny_truthy_bool ⟨H1, I1, q⟩

/-! ### and, or, not -/
variable {tA tB' : TT} {rest : List Expr}
def tAnd (t u : TT) : TT := fun σ H Q => t σ H fun c H1 => if c = true then u σ H1 Q else Q false H1
def tOr (t u : TT) : TT := fun σ H Q => t σ H fun c H1 => if c = true then Q true H1 else u σ H1 Q
def tNot (t : TT) : TT := fun σ H Q => t σ H fun c H1 => Q (!c) H1
theorem pw_and1 (ha : PT X a tA) : PW X (.BoolOp .And [a] pos) tA := by
  intro wh pins s σ H Q I h
  refine isTrue_and (thn (ha pins s σ H Q I h) fun c s1 e => ?_)
  cases c with
  | true => exact isTrue_and_nil e
  | false => exact e
theorem pw_or1 (ha : PT X a tA) : PW X (.BoolOp .Or [a] pos) tA := by
  intro wh pins s σ H Q I h
  refine isTrue_or (thn (ha pins s σ H Q I h) fun c s1 e => ?_)
  cases c with
  | false => exact isTrue_or_nil e
  | true => exact e
theorem pw_and (ha : PT X a tA) (hb : PW X (.BoolOp .And (b :: rest) pos) tB') : PW X (.BoolOp .And (a :: b :: rest) pos) (tAnd tA tB') := by
  intro wh pins s σ H Q I h
  refine isTrue_and (thn (ha pins s σ H _ I h) fun c s1 ⟨H1, I1, q1⟩ => ?_)
  cases c with
  | true => exact hb wh pins s1 σ H1 Q I1 q1
  | false => exact ⟨H1, I1, q1⟩
theorem pw_or (ha : PT X a tA) (hb : PW X (.BoolOp .Or (b :: rest) pos) tB') : PW X (.BoolOp .Or (a :: b :: rest) pos) (tOr tA tB') := by
  intro wh pins s σ H Q I h
  refine isTrue_or (thn (ha pins s σ H _ I h) fun c s1 ⟨H1, I1, q1⟩ => ?_)
  cases c with
  | true => exact ⟨H1, I1, q1⟩
  | false => exact hb wh pins s1 σ H1 Q I1 q1
theorem pt_not (ha : PT X a tA) : PT X (.UnaryOp .Not a pos) (tNot tA) := by
  intro pins s σ H Q I h
  exact isTrue_not (ha pins s σ H (fun c H1 => Q (!c) H1) I h)
/-- .. as values (bools) -/
def tAndV (ta tb : TE) : TE := fun σ H Q => ta σ H fun x H1 => ∃ c, x = .bl c ∧ if c = true then tb σ H1 Q else Q (.bl false) H1
def tOrV (ta tb : TE) : TE := fun σ H Q => ta σ H fun x H1 => ∃ c, x = .bl c ∧ if c = true then Q (.bl true) H1 else tb σ H1 Q
def tNotV (ta : TE) : TE := fun σ H Q => ta σ H fun x H1 => ∃ c, x = .bl c ∧ Q (.bl (!c)) H1
theorem pe_one {op} {t : TE} (h : PE X a t) : PE X (.BoolOp op [a] pos) t := fun pins s σ H Q I hw => BoolOp_one (h pins s σ H Q I hw)
theorem pe_and (ha : PE X a ta) (hb : PE X (.BoolOp .And (b :: rest) pos) tb) : PE X (.BoolOp .And (a :: b :: rest) pos) (tAndV ta tb) := by
  intro pins s σ H Q I h
  refine BoolOp_and (thn (ha pins s σ H _ I h) fun v s1 ⟨x, H1, I1, r1, q1⟩ => ?_)
  obtain ⟨c, rfl, q1⟩ := q1
  cases r1
  refine wpAny_truthy_bool ?_
  cases c with
  | true => exact hb pins s1 σ H1 Q I1 q1
  | false => exact ⟨.bl false, H1, I1, rfl, q1⟩
theorem pe_not (ha : PE X a ta) : PE X (.UnaryOp .Not a pos) (tNotV ta) := by
  intro pins s σ H Q I h
  refine UnaryOp_ (thn (ha pins s σ H _ I h) fun v s1 ⟨x, H1, I1, r1, q1⟩ => ?_)
  obtain ⟨c, rfl, q1⟩ := q1
  cases r1
  exact not_of (wpAny_truthy_bool ⟨.bl (!c), H1, I1, rfl, q1⟩)
/-- a if t else b -/
def tIf (t : TT) (ta tb : TE) : TE := fun σ H Q => t σ H fun c H1 => if c = true then ta σ H1 Q else tb σ H1 Q
theorem pe_ifExp {c : Expr} (hc : PT X c tA) (ha : PE X a ta) (hb : PE X b tb) : PE X (.IfExp c a b pos) (tIf tA ta tb) := by
  intro pins s σ H Q I h
  refine wpAny_IfExp (thn (hc pins s σ H _ I h) fun d s1 ⟨H1, I1, q1⟩ => ?_)
  cases d with
  | true => exact ha pins s1 σ H1 Q I1 q1
  | false => exact hb pins s1 σ H1 Q I1 q1
end
end L2

namespace L2
open PySem PySem.Spec PyProof.Rows

/-! ### a list, a tuple that is read: tracked, frozen, or an object of the module -/
def SqL (K : PySem.W.Frag) (H : Hp) (a : Addr) (xs : List V) : Prop :=
  Rd H a (.lst xs) ∨
    ∃ (o : Obj) (its : Array Value) (n : Nat), K.lookup a = some o ∧ o.cls = .type "list" ∧ o.dict = none ∧ o.data = .seq its n ∧ its.size ≤ sizeLine ∧ Vals xs its.toList
def SqT (K : PySem.W.Frag) (H : Hp) (a : Addr) (xs : List V) : Prop :=
  Rd H a (.tup xs) ∨
    ∃ (o : Obj) (its : Array Value) (n : Nat), K.lookup a = some o ∧ o.cls = .type "tuple" ∧ o.data = .seq its n ∧ its.size ≤ sizeLine ∧ Vals xs its.toList
def absV : Value → Option V
  | .none => some .non
  | .bool b => some (.bl b)
  | .int i _ => some (.int i)
  | .str x _ => some (.str x)
  | .bytes b _ => some (.byt b)
  | .float b _ => some (.flt b)
  | .ref a => some (.ref a)
  | .type n => some (.ty n)
  | _ => none
theorem RelV.abs {x : V} {u : Value} (r : RelV x u) : absV u = some x := by
  cases x with
  | non => cases r; rfl
  | bl _ => cases r; rfl
  | int _ => obtain ⟨t, rfl⟩ := r; rfl
  | str _ => obtain ⟨t, rfl⟩ := r; rfl
  | byt _ => obtain ⟨t, rfl⟩ := r; rfl
  | flt _ => obtain ⟨t, rfl⟩ := r; rfl
  | ref _ => cases r; rfl
  | ty _ => cases r; rfl
theorem RelV.inj {x y : V} {u : Value} (r : RelV x u) (q : RelV y u) : x = y := Option.some.inj (r.abs.symm.trans q.abs)
theorem Vals.inj : ∀ {xs ys : List V} {us : List Value}, Vals xs us → Vals ys us → xs = ys
  | _, _, _, .nil, .nil => rfl
  | _, _, _, .cons r t, .cons r' t' => by rw [r.inj r', Vals.inj t t']
section
variable {X : Cx} {pins : List (Addr × Obj)} {σ : St} {H : Hp} {s : Shared} {a : Addr} {xs ys : List V}
theorem SqL.of {K : PySem.W.Frag} (h : H a = some (.lst xs)) : SqL K H a xs := .inl (.inl h)
theorem SqT.of {K : PySem.W.Frag} (h : H a = some (.tup xs)) : SqT K H a xs := .inl (.inl h)
theorem Inv.list (I : Inv X pins σ H s) (h : SqL X.K H a xs) : ∃ its : List Value, Vals xs its ∧ PlainL s.heap a its.toArray ∧ xs.length ≤ sizeLine := by
  rcases h with h | ⟨o, its, n, hk, hc, hd, hs, hz, r⟩
  · obtain ⟨z, its, n, r, e⟩ := h.ok I.hok
    exact ⟨its, r, ⟨_, n, e, rfl, rfl, rfl⟩, z⟩
  · refine ⟨its.toList, r, ⟨o, n, I.kIn a o hk, hc, hd, by simpa using hs⟩, ?_⟩
    have e := r.length
    simp only [Array.length_toList] at e
    omega
theorem Inv.tuple (I : Inv X pins σ H s) (h : SqT X.K H a xs) : ∃ its : List Value, Vals xs its ∧ IsTup s.heap a its.toArray ∧ xs.length ≤ sizeLine := by
  rcases h with h | ⟨o, its, n, hk, hc, hs, hz, r⟩
  · obtain ⟨z, its, r, p⟩ := h.ok I.hok
    exact ⟨its, r, p, z⟩
  · refine ⟨its.toList, r, ⟨o, I.kIn a o hk, hc, n, by simpa using hs⟩, ?_⟩
    have e := r.length
    simp only [Array.length_toList] at e
    omega
theorem Inv.list_inj (I : Inv X pins σ H s) (h : SqL X.K H a xs) (h' : SqL X.K H a ys) : xs = ys := by
  obtain ⟨its, r, ⟨o, n, e, _, _, d⟩, _⟩ := I.list h
  obtain ⟨its', r', ⟨o', n', e', _, _, d'⟩, _⟩ := I.list h'
  rw [e] at e'; cases e'
  rw [d] at d'
  injection d' with d1 _
  have : its = its' := by simpa using congrArg Array.toList d1
  subst this
  exact r.inj r'
theorem Inv.tuple_inj (I : Inv X pins σ H s) (h : SqT X.K H a xs) (h' : SqT X.K H a ys) : xs = ys := by
  obtain ⟨its, r, ⟨o, e, _, n, d⟩, _⟩ := I.tuple h
  obtain ⟨its', r', ⟨o', e', _, n', d'⟩, _⟩ := I.tuple h'
  rw [e] at e'; cases e'
  rw [d] at d'
  injection d' with d1 _
  have : its = its' := by simpa using congrArg Array.toList d1
  subst this
  exact r.inj r'
end

/-! ### another wish about exceptions -/
abbrev Cx.wish (X : Cx) (E : Value → Shared → Prop) : Cx := { X with xe := E }
/-- no exception leaves -/
abbrev Cx.nox (X : Cx) : Cx := X.wish fun _ _ => False
theorem Cx.Ok.wish {X : Cx} (ok : X.Ok) (E : Value → Shared → Prop) : (X.wish E).Ok :=
  ⟨ok.mod, ok.kind, ok.glob, ok.blt, ok.above, ok.inj, ok.has, ok.cab, ok.hd, ok.frames, ok.stk, ok.exf, ok.bs, ok.bsz, ok.noex, ok.exfs, ok.funs, ok.frf⟩
theorem Cx.Ok.unwish {X : Cx} {E : Value → Shared → Prop} (ok : (X.wish E).Ok) : X.Ok :=
  ⟨ok.mod, ok.kind, ok.glob, ok.blt, ok.above, ok.inj, ok.has, ok.cab, ok.hd, ok.frames, ok.stk, ok.exf, ok.bs, ok.bsz, ok.noex, ok.exfs, ok.funs, ok.frf⟩
section
variable {X : Cx} {pins : List (Addr × Obj)} {σ : St} {H : Hp} {s : Shared} {E : Value → Shared → Prop}
theorem Inv.wish (I : Inv X pins σ H s) (E : Value → Shared → Prop) : Inv (X.wish E) pins σ H s := ⟨I.ok.wish E, I.os, I.bare, I.base, I.loc, I.cell, I.free, I.freeC, I.pin, I.hok, I.len⟩
theorem Inv.unwish (I : Inv (X.wish E) pins σ H s) : Inv X pins σ H s := ⟨I.ok.unwish, I.os, I.bare, I.base, I.loc, I.cell, I.free, I.freeC, I.pin, I.hok, I.len⟩
theorem SP.unwish {D : Ends} {f : Flow} {s' : Shared} (h : SP (X.wish E) pins D f s') : SP X pins D f s' := by
  cases f with
  | next => obtain ⟨σ', H', I, q⟩ := h; exact ⟨σ', H', I.unwish, q⟩
  | brk => obtain ⟨σ', H', I, q⟩ := h; exact ⟨σ', H', I.unwish, q⟩
  | cont => obtain ⟨σ', H', I, q⟩ := h; exact ⟨σ', H', I.unwish, q⟩
  | ret u => obtain ⟨v, σ', H', I, r, q⟩ := h; exact ⟨v, σ', H', I.unwish, r, q⟩
theorem PE.nox {e : Expr} {t : TE} (h : PE X.nox e t) : PE X e t := fun pins s σ H Q I hw =>
  wpAny_mono (h pins s σ H Q (I.wish _) hw) (fun _ _ ⟨v, H', I', r, q⟩ => ⟨v, H', I'.unwish, r, q⟩) fun _ _ z => False.elim z
theorem PT.nox {e : Expr} {t : TT} (h : PT X.nox e t) : PT X e t := fun pins s σ H Q I hw =>
  wpAny_mono (h pins s σ H Q (I.wish _) hw) (fun _ _ ⟨H', I', q⟩ => ⟨H', I'.unwish, q⟩) fun _ _ z => False.elim z
theorem PSs.nox {st : List Stmt} {t : TS} (h : PSs X.nox st t) : PSs X st t := fun pins s σ H D I hw =>
  wpAny_mono (h pins s σ H D (I.wish _) hw) (fun _ _ q => q.unwish) fun _ _ z => False.elim z
end

/-! ### blocks and small statements -/
section
variable {X : Cx} {st : Stmt} {rest : List Stmt} {t u : TS} {e : Expr} {te : TE} {pos : Pos}
def tNext : TS := fun D σ H => D.nx σ H
def tSeq (t u : TS) : TS := fun D σ H => t { D with nx := u D } σ H
theorem pss_nil : PSs X [] tNext := fun _ _ σ H _ I h => wpAny_execs_nil ⟨σ, H, I, h⟩
theorem pss_cons (h1 : PS X st t) (h2 : PSs X rest u) : PSs X (st :: rest) (tSeq t u) := by
  intro pins s σ H D I h
  refine wpAny_execs_cons (thn (h1 pins s σ H { D with nx := u D } I h) fun f s1 q => ?_)
  cases f with
  | next =>
    obtain ⟨σ', H', I', q⟩ := q
    exact h2 pins s1 σ' H' D I' q
  | ret v => exact q
  | brk => exact q
  | cont => exact q
theorem pss_one (h1 : PS X st t) : PSs X [st] t := by
  intro pins s σ H D I h
  refine wpAny_execs_cons (thn (h1 pins s σ H D I h) fun f s1 q => ?_)
  cases f with
  | next => exact wpAny_execs_nil q
  | ret v => exact q
  | brk => exact q
  | cont => exact q
def tBreak : TS := fun D σ H => D.bk σ H
def tCont : TS := fun D σ H => D.ct σ H
/-- in a def's body nothing is shown -/
theorem Inv.quiet {pins : List (Addr × Obj)} {σ : St} {H : Hp} {s : Shared} (I : Inv X pins σ H s) : interactive X.env = false := by simp [interactive, I.ok.kind]
/-- an expression whose value is dropped -/
def tDrop (te : TE) : TS := fun D σ H => te σ H fun _ H1 => D.nx σ H1
theorem ps_expr (he : PE X e te) (hs : swapsWith e none pos.line X.env = pure false := by rfl) : PS X (.Expr e pos) (tDrop te) := by
  intro pins s σ H D I h
  exact wpAny_Expr_any (thn (he pins s σ H _ I h) fun v s1 ⟨x, H1, I1, r1, q1⟩ => ⟨σ, H1, I1, q1⟩) I.quiet hs
def tRet (te : TE) : TS := fun D σ H => te σ H D.rt
theorem ps_ret (he : PE X e te) : PS X (.Return (some e) pos) (tRet te) := by
  intro pins s σ H D I h
  exact wpAny_Return_some (thn (he pins s σ H _ I h) fun v s1 ⟨x, H1, I1, r1, q1⟩ => ⟨x, σ, H1, I1, r1, q1⟩)
def tRetN : TS := fun D _ H => D.rt .non H
def tIfS (c : TT) (t u : TS) : TS := fun D σ H => c σ H fun b H1 => if b = true then t D σ H1 else u D σ H1
theorem ps_if {c : Expr} {a b : List Stmt} {tc : TT} (hc : PT X c tc) (ha : PSs X a t) (hb : PSs X b u) : PS X (.If c a b pos) (tIfS tc t u) := by
  intro pins s σ H D I h
  refine wpAny_If (thn (hc pins s σ H _ I h) fun d s1 ⟨H1, I1, q1⟩ => ?_)
  cases d with
  | true => exact ha pins s1 σ H1 D I1 q1
  | false => exact hb pins s1 σ H1 D I1 q1
/-- code that the proof never comes to -/
def tNever : TS := fun _ _ _ => False
theorem ps_never : PS X st tNever := fun _ _ _ _ _ _ h => h.elim
end

/-! ### targets -/
abbrev TG := V → St → Hp → (St → Hp → Prop) → Prop
abbrev TGs := List V → St → Hp → (St → Hp → Prop) → Prop
def PG (X : Cx) (target : Expr) (t : TG) : Prop :=
  ∀ (pins : List (Addr × Obj)) (s : Shared) (σ : St) (H : Hp) (v : V) (u : Value) (Q : St → Hp → Prop), Inv X pins σ H s → RelV v u → t v σ H Q →
    wpAny (model X.prog X.w) X.A (assign target X.env u) (fun _ s' => ∃ σ' H', Inv X pins σ' H' s' ∧ Q σ' H') X.xe s
/-- several targets, one after another -/
def PGs (X : Cx) (ts : List Expr) (t : TGs) : Prop :=
  ∀ (pins : List (Addr × Obj)) (s : Shared) (σ : St) (H : Hp) (vs : List V) (us : List Value) (Q : St → Hp → Prop), Inv X pins σ H s → Vals vs us → t vs σ H Q →
    wpAny (model X.prog X.w) X.A (assignInOrder ((assignEach ts X.env).map (·.2)) us) (fun _ s' => ∃ σ' H', Inv X pins σ' H' s' ∧ Q σ' H') X.xe s
/-- o[i] = v, by values -/
abbrev TSet := V → V → V → Hp → (Hp → Prop) → Prop
def PSet (X : Cx) (t : TSet) : Prop :=
  ∀ (pins : List (Addr × Obj)) (s : Shared) (σ : St) (H : Hp) (o i v : V) (ov iv u : Value) (Q : Hp → Prop), Inv X pins σ H s → RelV o ov → RelV i iv → RelV v u → t o i v H Q →
    wpAny (model X.prog X.w) X.A (setItem ov iv u) (fun _ s' => ∃ H', Inv X pins σ H' s' ∧ Q H') X.xe s
/-- a op= b, by values -/
abbrev TIp := V → V → Hp → VK → Prop
def PIp (X : Cx) (op : Operator) (t : TIp) : Prop :=
  ∀ (pins : List (Addr × Obj)) (s : Shared) (σ : St) (H : Hp) (x y : V) (v u : Value) (Q : VK), Inv X pins σ H s → RelV x v → RelV y u → t x y H Q →
    wpAny (model X.prog X.w) X.A (inplaceOp op v u) (EP X pins σ Q) X.xe s
section
variable {X : Cx} {pos : Pos}
def gName (i : Nat) : TG := fun v σ H Q => Q (σ.set i (some v)) H
theorem pg_name {i : Nat} {x : Str} (hN : X.N.Nodup) (hi : X.N[i]? = some x) (hx : Loc X.env.scope x) (hf : X.fn x = true ∨ X.env.scope.names.lookup x = some .local := by first | exact .inl rfl | exact .inr rfl | assumption) : PG X (.Name x pos) (gName i) := by
  intro pins s σ H v u Q I r h
  exact wpAny_assign_Name (store_ok I hN hi hx r (fun s' I' => ⟨_, H, I', h⟩) hf)
def gNil : TGs := fun vs σ H Q => vs = [] ∧ Q σ H
def gCons (t : TG) (u : TGs) : TGs := fun vs σ H Q => ∃ v r, vs = v :: r ∧ t v σ H fun σ' H' => u r σ' H' Q
/-- (a, b, ..) = a tuple of that length -/
def gTup (K : PySem.W.Frag) (n : Nat) (t : TGs) : TG := fun v σ H Q => ∃ a xs, v = .ref a ∧ SqT K H a xs ∧ xs.length = n ∧ t xs σ H Q
/-- o[i] = .. -/
def gSub (to ti : TE) (t : TSet) : TG := fun v σ H Q => to σ H fun o H1 => ti σ H1 fun i H2 => t o i v H2 fun H3 => Q σ H3
/-- target = value -/
def tAsg (te : TE) (g : TG) : TS := fun D σ H => te σ H fun x H1 => g x σ H1 D.nx
/-- name = value -/
theorem ps_set {i : Nat} {x : Str} {e : Expr} {te : TE} {pos' : Pos} (hN : X.N.Nodup) (hi : X.N[i]? = some x) (hx : Loc X.env.scope x) (he : PE X e te) (hs : swapsWith e (some (.Name x pos')) pos.line X.env = pure false := by rfl) (hf : X.fn x = true ∨ X.env.scope.names.lookup x = some .local := by first | exact .inl rfl | exact .inr rfl | assumption) :
    PS X (.Assign [.Name x pos'] e pos) (tAsg te (gName i)) := by
  intro pins s σ H D I h
  refine wpAny_Assign_Name (thn (he pins s σ H _ I h) fun v s1 ⟨y, H1, I1, r1, q1⟩ => ?_) hs
  exact store_ok I1 hN hi hx r1 (fun s2 I2 => ⟨_, H1, I2, q1⟩) hf
/-- a, b = x, y with plain local names: stored from the right; the pair itself is not tracked (the opening rows as in PyProof/Rows/TupAssign.lean:23) -/
def tPar (i j : Nat) (ta : TA) : TS := fun D σ H => ta σ H fun vs H1 => ∃ v w, vs = [v, w] ∧ D.nx ((σ.set i (some v)).set j (some w)) H1
/-- name op= e -/
def tAug (i : Nat) (te : TE) (ti : TIp) : TS := fun D σ H => ∃ x, σ[i]? = some (some x) ∧ te σ H fun y H1 => ti x y H1 fun z H2 => D.nx (σ.set i (some z)) H2
/-- o[i] op= e -/
def tAugS (to ti te : TE) (tget : V → V → Hp → VK → Prop) (tip : TIp) (tset : TSet) : TS := fun D σ H => to σ H fun o H1 => ti σ H1 fun i H2 => tget o i H2 fun x H3 => te σ H3 fun y H4 => tip x y H4 fun z H5 => tset o i z H5 fun H6 => D.nx σ H6
/-- o[i], by values -/
def PGet (X : Cx) (t : V → V → Hp → VK → Prop) : Prop :=
  ∀ (pins : List (Addr × Obj)) (s : Shared) (σ : St) (H : Hp) (o i : V) (ov iv : Value) (Q : VK), Inv X pins σ H s → RelV o ov → RelV i iv → t o i H Q →
    wpAny (model X.prog X.w) X.A (getItem ov iv) (EP X pins σ Q) X.xe s
/-- ints -/
def ipI (f : Int → Int → Int) : TIp := fun x y H Q => ∃ i j, x = .int i ∧ y = .int j ∧ Q (.int (f i j)) H
end

/-! ### while -/
section
variable {X : Cx} {pos : Pos}
/-- the invariant W with its measure -/
def tWhile (c : TT) (tb : TS) : TS := fun D σ H => ∃ W : Nat → St → Hp → Prop, (∃ m, W m σ H) ∧ ∀ m σ H, W m σ H →
  c σ H fun b H1 => if b = true then ∃ N : St → Hp → Prop, (∀ σ' H', N σ' H' → ∃ m', m' < m ∧ W m' σ' H') ∧ tb { D with nx := N, ct := N, bk := D.nx } σ H1 else D.nx σ H1
theorem ps_while {c : Expr} {body : List Stmt} {tc : TT} {tb : TS} (hp : PassesOwn (model X.prog X.w) X.A X.env X.xe) (hc : PT X c tc) (hb : PSs X body tb) : PS X (.While c body [] pos) (tWhile tc tb) := by
  intro pins s σ H D I h
  obtain ⟨W, ⟨m0, w0⟩, turn⟩ := h
  refine wpAny_While (codeAny_whileLoop (fun n s' => ∃ σ' H', Inv X pins σ' H' s' ∧ W n σ' H') ?_ m0 ⟨σ, H, I, w0⟩)
  rintro n s1 ⟨σ1, H1, I1, w1⟩
  refine wpAny_passesOwn hp (thn (hc pins s1 σ1 H1 _ I1 (turn n σ1 H1 w1)) fun b s2 ⟨H2, I2, q2⟩ => ?_)
  cases b with
  | true =>
    obtain ⟨N, hN, q2⟩ := q2
    rw [if_pos rfl]
    refine wpAny_passesOwn hp (thn (hb pins s2 σ1 H2 _ I2 q2) fun f s3 q3 => ?_)
    cases f with
    | next =>
      obtain ⟨σ3, H3, I3, n3⟩ := q3
      obtain ⟨m', hm, w3⟩ := hN σ3 H3 n3
      exact ⟨m', hm, σ3, H3, I3, w3⟩
    | cont =>
      obtain ⟨σ3, H3, I3, n3⟩ := q3
      obtain ⟨m', hm, w3⟩ := hN σ3 H3 n3
      exact ⟨m', hm, σ3, H3, I3, w3⟩
    | brk => exact q3
    | ret v => exact q3
  | false =>
    rw [if_neg Bool.false_ne_true]
    exact wpAny_execs_nil ⟨σ1, H2, I2, q2⟩
end

/-! ### what a loop or a comprehension walks -/
/-- at turn i: it yields x (the heap may grow), or it stops -/
structure It where
  go : Nat → Hp → Prop
  yld : Nat → Hp → V → Hp → Prop
  stop : Nat → Hp → Prop
/-- the iterator's own objects may turn: they are not the frame's, not pinned, younger than the entry (or a comprehension's own) -/
def FpOk (X : Cx) (pins : List (Addr × Obj)) (H : Hp) (b : Addr) : Prop :=
  H b = none ∧ b ≠ X.env.locals ∧ b ∉ X.fs ∧ (b ∈ X.ex ∨ X.s₀.heap.objs.size ≤ b) ∧ (∀ x c, X.env.cells.lookup x = some c → c ≠ b) ∧ ∀ p ∈ X.pn ++ pins, p.1 ≠ b
theorem Inv.fpOk {X : Cx} {pins : List (Addr × Obj)} {σ : St} {H H' : Hp} {s : Shared} {b : Addr} (I : Inv X pins σ H s) (hb : s.heap.objs.size ≤ b) (hn : H' b = none) : FpOk X pins H' b := by
  refine ⟨hn, Nat.ne_of_gt (Nat.lt_of_lt_of_le I.lt hb), I.nofs hb, .inr (Nat.le_trans I.sz hb), fun x c e z => ?_, fun p hp z => ?_⟩
  · obtain ⟨v, q⟩ := I.cell x c e
    exact absurd (Nat.lt_of_lt_of_le q.lt (by rw [z]; exact hb)) (Nat.lt_irrefl _)
  · exact absurd (Nat.lt_of_lt_of_le (Heap.lt_size (I.pin p hp).1) (by rw [z]; exact hb)) (Nat.lt_irrefl _)
structure Turn (P : Program) (w : World) (K : PySem.W.Frag) (tg : Expr) (J : It) (fp : List Addr) (it : Addr) (tn : Nat → Heap → Prop) : Prop where
  mem : it ∈ fp
  obj : ∀ i h, tn i h → ∀ b ∈ fp, ∃ o, h.get? b = some o ∧ ∀ v, o.data ≠ .cell v
  keep : ∀ i h h', tn i h → (∀ b ∈ fp, ∀ o, h.get? b = some o → h'.get? b = some o) → tn i h'
  item : ∀ (X : Cx), X.prog = P → X.w = w → X.K = K → X.calm = true → ∀ (i : Nat) (pins : List (Addr × Obj)) (s : Shared) (σ : St) (H : Hp) (E : Value → Shared → Prop), Inv X pins σ H s → (∀ b ∈ fp, FpOk X pins H b) → tn i s.heap → J.go i H →
    wpAny (model P w) X.A (pyNext (.ref it)) (fun r s1 => ∃ u, r = some u ∧
      wpAny (model P w) X.A (letOwnedTupleGo tg (.ref it) u) (fun _ s2 => ∃ x H', Inv X pins σ H' s2 ∧ RelV x u ∧ J.yld i H x H' ∧ tn (i + 1) s2.heap ∧ ∀ b ∈ fp, H' b = none) E s1) E s
  done : ∀ (X : Cx), X.prog = P → X.w = w → X.K = K → X.calm = true → ∀ (i : Nat) (pins : List (Addr × Obj)) (s : Shared) (σ : St) (H : Hp) (E : Value → Shared → Prop), Inv X pins σ H s → (∀ b ∈ fp, FpOk X pins H b) → tn i s.heap → J.stop i H →
    wpAny (model P w) X.A (pyNext (.ref it)) (fun r s1 => r = none ∧ Inv X pins σ H s1) E s
  self : ∀ (A : Around) (i : Nat) (s : Shared) (Q : Value → Shared → Prop) (E : Value → Shared → Prop), tn i s.heap → Q (.ref it) s → wpAny (model P w) A (pyIter (.ref it)) Q E s
abbrev TI := St → Hp → (It → Hp → Prop) → Prop
/-- an iterator has come -/
def PIE (X : Cx) (pins : List (Addr × Obj)) (σ : St) (tg : Expr) (R : It → Hp → Prop) (itv : Value) (s2 : Shared) : Prop :=
  ∃ (it : Addr) (fp : List Addr) (tn : Nat → Heap → Prop) (J : It) (H' : Hp), itv = .ref it ∧ Inv X pins σ H' s2 ∧ Turn X.prog X.w X.K tg J fp it tn ∧ tn 0 s2.heap ∧ (∀ b ∈ fp, FpOk X pins H' b) ∧ R J H'
def PI (X : Cx) (tg iter : Expr) (wi : TI) : Prop :=
  ∀ (pins : List (Addr × Obj)) (s : Shared) (σ : St) (H : Hp) (R : It → Hp → Prop), Inv X pins σ H s → wi σ H R →
    wpAny (model X.prog X.w) X.A (eval iter X.env) (fun v s1 => wpAny (model X.prog X.w) X.A (pyIter v) (PIE X pins σ tg R) X.xe s1) X.xe s

/-- the step ahead of the store is nothing for an iterator that keeps no tuple -/
theorem go_of {M : Model} {A : Around} {E : Value → Shared → Prop} {s : Shared} {tg : Expr} {it : Addr} {u : Value} {o : Obj} {n : String} {vs : Array Value} {Q : Unit → Shared → Prop} (ho : s.heap.get? it = some o) (hc : o.cls = .type n) (hd : o.data = .fields vs)
    (hn : ["enumerate", "zip", "dict_itemiterator", "dict_reverseitemiterator", "odict_iterator", "itertools.zip_longest", "itertools.pairwise"].contains n = false) (hQ : Q () s) : wpAny M A (letOwnedTupleGo tg (.ref it) u) Q E s := by
  unfold letOwnedTupleGo
  cases tg <;> first
    | exact wpAny_pure hQ
    | (cases u <;> first
        | exact wpAny_pure hQ
        | (refine wpAny_bind (wpAny_load ho ?_)
           rw [hc, hd]
           show wpAny M A (if (["enumerate", "zip", "dict_itemiterator", "dict_reverseitemiterator", "odict_iterator", "itertools.zip_longest", "itertools.pairwise"].contains n && vs[0]? == some (rawInt _)) = true then _ else _) Q E s
           rw [if_neg (by intro h; rw [hn, Bool.false_and] at h; cases h)]
           exact wpAny_pure hQ))

/-- the list at a, as it stands at each turn (a loop may append to it) -/
def Itl (K : PySem.W.Frag) (a : Addr) : It :=
  ⟨fun i H => ∃ xs x, SqL K H a xs ∧ xs[i]? = some x, fun i H x H' => H' = H ∧ ∀ xs, SqL K H a xs → xs[i]? = some x, fun i H => ∃ xs, SqL K H a xs ∧ xs.length ≤ i⟩
def Itt (K : PySem.W.Frag) (a : Addr) : It :=
  ⟨fun i H => ∃ xs x, SqT K H a xs ∧ xs[i]? = some x, fun i H x H' => H' = H ∧ ∀ xs, SqT K H a xs → xs[i]? = some x, fun i H => ∃ xs, SqT K H a xs ∧ xs.length ≤ i⟩
/-- lo, lo + 1, .. (n of them) -/
def Itr (lo : Int) (n : Nat) : It := ⟨fun i _ => i < n, fun i H x H' => H' = H ∧ x = .int (lo + i), fun i _ => n ≤ i⟩
theorem turn_list {P : Program} {w : World} {K : PySem.W.Frag} {tg : Expr} (a it : Addr) : Turn P w K tg (Itl K a) [it] it (fun i h => h.IsListIter it a i) where
  mem := by simp
  obj := fun i h st b hb => by
    have e : b = it := by simpa using hb
    subst e
    obtain ⟨o, e, c, d⟩ := st
    exact ⟨o, e, fun v z => by rw [d] at z; cases z⟩
  keep := fun i h h' st k => st.at fun o e => k it (by simp) o e
  item := by
    intro X hP hw hK hc i pins s σ H E I hf st hg
    subst hP hw hK
    obtain ⟨xs, x, hq, hx⟩ := hg
    obtain ⟨its, rv, p, hz⟩ := I.list hq
    obtain ⟨u, hu, ru⟩ := rv.get hx
    obtain ⟨f0, f1, f2, f3, f4, f5⟩ := hf it (by simp)
    refine wpAny_pyNext_list_item st p.isList (x := u) (by simpa using hu) fun h' st' sb => ?_
    have I1 : Inv X pins σ H { s with heap := h' } := I.turned (t' := s.toks) (fun b o hb e => (sb.2 b hb).trans e) f0 f1 f3 f4 f5
    obtain ⟨o, e, c, d⟩ := id st'
    exact ⟨u, rfl, go_of (s := { s with heap := h' }) e c d (by decide) ⟨x, H, I1, ru, ⟨rfl, fun ys hy => by rw [I.list_inj hy hq]; exact hx⟩, st', fun b hb => (hf b hb).1⟩⟩
  done := by
    intro X hP hw hK hc i pins s σ H E I hf st hg
    subst hP hw hK
    obtain ⟨xs, hq, hx⟩ := hg
    obtain ⟨its, rv, p, hz⟩ := I.list hq
    obtain ⟨f0, f1, f2, f3, f4, f5⟩ := hf it (by simp)
    have hl := rv.length
    exact wpAny_pyNext_list_end (I.ok.hd hc) st p.isList (by simp; omega) fun h' eb => ⟨rfl, I.turned (t' := s.toks) (fun b o hb e => eb b o hb e) f0 f1 f3 f4 f5⟩
  self := fun _ _ _ _ _ st h => wpAny_pyIter_listiter st h
theorem turn_tuple {P : Program} {w : World} {K : PySem.W.Frag} {tg : Expr} (a it : Addr) : Turn P w K tg (Itt K a) [it] it (fun i h => h.IsTupleIter it a i) where
  mem := by simp
  obj := fun i h st b hb => by
    have e : b = it := by simpa using hb
    subst e
    obtain ⟨o, e, c, d⟩ := st
    exact ⟨o, e, fun v z => by rw [d] at z; cases z⟩
  keep := fun i h h' st k => st.at fun o e => k it (by simp) o e
  item := by
    intro X hP hw hK hc i pins s σ H E I hf st hg
    subst hP hw hK
    obtain ⟨xs, x, hq, hx⟩ := hg
    obtain ⟨its, rv, p, hz⟩ := I.tuple hq
    obtain ⟨u, hu, ru⟩ := rv.get hx
    obtain ⟨f0, f1, f2, f3, f4, f5⟩ := hf it (by simp)
    refine wpAny_pyNext_tuple_item st (show s.heap.IsTuple a its.toArray from p) (x := u) (by simpa using hu) fun h' st' sb => ?_
    have I1 : Inv X pins σ H { s with heap := h' } := I.turned (t' := s.toks) (fun b o hb e => (sb.2 b hb).trans e) f0 f1 f3 f4 f5
    obtain ⟨o, e, c, d⟩ := id st'
    exact ⟨u, rfl, go_of (s := { s with heap := h' }) e c d (by decide) ⟨x, H, I1, ru, ⟨rfl, fun ys hy => by rw [I.tuple_inj hy hq]; exact hx⟩, st', fun b hb => (hf b hb).1⟩⟩
  done := by
    intro X hP hw hK hc i pins s σ H E I hf st hg
    subst hP hw hK
    obtain ⟨xs, hq, hx⟩ := hg
    obtain ⟨its, rv, p, hz⟩ := I.tuple hq
    obtain ⟨f0, f1, f2, f3, f4, f5⟩ := hf it (by simp)
    have hl := rv.length
    exact wpAny_pyNext_tuple_end (I.ok.hd hc) st (show s.heap.IsTuple a its.toArray from p) (by simp; omega) fun h' eb => ⟨rfl, I.turned (t' := s.toks) (fun b o hb e => eb b o hb e) f0 f1 f3 f4 f5⟩
  self := fun _ _ _ _ _ st h => wpAny_pyIter_tupleiter st h
theorem turn_range {P : Program} {w : World} {K : PySem.W.Frag} {tg : Expr} (it : Addr) (lo : Int) (n : Nat) : Turn P w K tg (Itr lo n) [it] it (fun i h => IsRangeIter h it (lo + (i : Nat) * 1) ((n : Int) - (i : Nat)) 1) where
  mem := by simp
  obj := fun i h st b hb => by
    have e : b = it := by simpa using hb
    subst e
    exact ⟨_, st, fun v z => by
      have z' : Data.fields _ = Data.cell v := z
      cases z'⟩
  keep := fun i h h' st k => k it (by simp) _ st
  item := by
    intro X hP hw hK hc i pins s σ H E I hf st hg
    subst hP hw hK
    obtain ⟨f0, f1, f2, f3, f4, f5⟩ := hf it (by simp)
    have W := Walks.range (prog := X.prog) (w := X.w) (I.ok.hd hc) it lo 1 n
    refine W.item i s _ _ hg st fun v h' tk hv st' kk => ?_
    obtain ⟨t, rfl⟩ := hv
    have I1 : Inv X pins σ H { s with heap := h', toks := tk } := I.turned (fun b o hb e => kk b o (by simpa using hb) e) f0 f1 f3 f4 f5
    refine ⟨_, rfl, go_of (s := { s with heap := h', toks := tk }) (n := "range_iterator") st' rfl rfl (by decide) ⟨.int (lo + i), H, I1, ⟨t, ?_⟩, ⟨rfl, rfl⟩, st', fun b hb => (hf b hb).1⟩⟩
    rw [Int.mul_one]
  done := by
    intro X hP hw hK hc i pins s σ H E I hf st hg
    subst hP hw hK
    obtain ⟨f0, f1, f2, f3, f4, f5⟩ := hf it (by simp)
    exact wpAny_pyNext_range_end (I.ok.hd hc) st (by have : n ≤ i := hg; omega) fun h' eb => ⟨rfl, I.turned (t' := s.toks) (fun b o hb e => eb b o hb e) f0 f1 f3 f4 f5⟩
  self := fun _ _ _ _ _ st h => wpAny_pyIter_rangeiter st h
end L2

namespace L2
open PySem PySem.Spec PyProof.Rows
section
variable {X : Cx} {tg : Expr}
def iList (K : PySem.W.Frag) (tl : TE) : TI := fun σ H R => tl σ H fun x H1 => ∃ a, x = .ref a ∧ (∃ xs, SqL K H1 a xs) ∧ R (Itl K a) H1
def iTup (K : PySem.W.Frag) (tl : TE) : TI := fun σ H R => tl σ H fun x H1 => ∃ a, x = .ref a ∧ (∃ xs, SqT K H1 a xs) ∧ R (Itt K a) H1
theorem pi_list {l : Expr} {tl : TE} (hl : PE X l tl) : PI X tg l (iList X.K tl) := by
  intro pins s σ H R I h
  refine thn (hl pins s σ H _ I h) fun v s1 ⟨x, H1, I1, r1, q1⟩ => ?_
  obtain ⟨a, e, ⟨xs, hq⟩, q⟩ := q1
  subst e
  cases r1
  obtain ⟨its, rv, p, hz⟩ := I1.list hq
  refine wpAny_pyIter_list p.isList ?_
  refine ⟨s1.heap.objs.size, [s1.heap.objs.size], _, _, H1, rfl, I1.kept (t' := s1.toks) fun b o e => Heap.get?_push_of_some _ e, turn_list a _, ⟨_, Heap.get?_push_size _ rfl, rfl, rfl⟩, fun b hb => ?_, q⟩
  have e : b = s1.heap.objs.size := by simpa using hb
  subst e
  exact I1.fpOk (Nat.le_refl _) (I1.hok.fresh (Nat.le_refl _))
theorem pi_tup {l : Expr} {tl : TE} (hl : PE X l tl) : PI X tg l (iTup X.K tl) := by
  intro pins s σ H R I h
  refine thn (hl pins s σ H _ I h) fun v s1 ⟨x, H1, I1, r1, q1⟩ => ?_
  obtain ⟨a, e, ⟨xs, hq⟩, q⟩ := q1
  subst e
  cases r1
  obtain ⟨its, rv, p, hz⟩ := I1.tuple hq
  refine wpAny_pyIter_tuple (show s1.heap.IsTuple a its.toArray from p) ?_
  refine ⟨s1.heap.objs.size, [s1.heap.objs.size], _, _, H1, rfl, I1.kept (t' := s1.toks) fun b o e => Heap.get?_push_of_some _ e, turn_tuple a _, ⟨_, Heap.get?_push_size _ rfl, rfl, rfl⟩, fun b hb => ?_, q⟩
  have e : b = s1.heap.objs.size := by simpa using hb
  subst e
  exact I1.fpOk (Nat.le_refl _) (I1.hok.fresh (Nat.le_refl _))
/-- a range object just made, walked -/
theorem range_it {pins : List (Addr × Obj)} {σ : St} {H : Hp} {s : Shared} {R : It → Hp → Prop} {E : Value → Shared → Prop} {lo hi : Int} {t u v : Tok} {tk : Nat} (I : Inv X pins σ H s) (h1 : -(2 ^ 62) ≤ lo) (h2 : lo < 2 ^ 62) (h3 : -(2 ^ 62) ≤ hi) (h4 : hi < 2 ^ 62)
    (q : R (Itr lo (hi - lo).toNat) H) : wpAny (model X.prog X.w) X.A (pyIter (.ref s.heap.objs.size)) (PIE X pins σ tg R) E { s with heap := s.heap.push { cls := .type "range", data := .fields #[.int lo t, .int hi u, .int 1 v] }, toks := tk } := by
  refine wpAny_pyIter_range (IsRange.new ..) (small_one h1 h2 h3 h4) ?_
  have I1 : Inv X pins σ H { s with heap := s.heap.push { cls := .type "range", data := .fields #[.int lo t, .int hi u, .int 1 v] }, toks := tk } := I.kept fun b o e => Heap.get?_push_of_some _ e
  refine ⟨(s.heap.push { cls := .type "range", data := .fields #[.int lo t, .int hi u, .int 1 v] }).objs.size, [(s.heap.push { cls := .type "range", data := .fields #[.int lo t, .int hi u, .int 1 v] }).objs.size], _, _, H, rfl,
    I1.kept (t' := tk) fun b o e => Heap.get?_push_of_some _ e, turn_range _ lo (hi - lo).toNat, ?_, fun b hb => ?_, q⟩
  · have e1 : lo + ((0 : Nat) : Int) * 1 = lo := by simp
    have e2 : (((hi - lo).toNat : Nat) : Int) - ((0 : Nat) : Int) = Builtin.Range.rangeSize lo hi 1 := by rw [rangeSize_one]; split <;> omega
    show IsRangeIter _ _ (lo + ((0 : Nat) : Int) * 1) ((((hi - lo).toNat : Nat) : Int) - ((0 : Nat) : Int)) 1
    rw [e1, e2]
    exact Heap.get?_push_size _ rfl
  · have e : b = (s.heap.push { cls := .type "range", data := .fields #[.int lo t, .int hi u, .int 1 v] }).objs.size := by simpa using hb
    subst e
    exact I1.fpOk (Nat.le_refl _) (I1.hok.fresh (Nat.le_refl _))
def iRng1 (ta : TA) : TI := fun σ H R => ta σ H fun vs H1 => ∃ j : Int, vs = [.int j] ∧ -(2 ^ 62) ≤ j ∧ j < 2 ^ 62 ∧ R (Itr 0 j.toNat) H1
def iRng2 (ta : TA) : TI := fun σ H R => ta σ H fun vs H1 => ∃ i j : Int, vs = [.int i, .int j] ∧ (-(2 ^ 62) ≤ i ∧ i < 2 ^ 62 ∧ -(2 ^ 62) ≤ j ∧ j < 2 ^ 62) ∧ R (Itr i (j - i).toNat) H1
theorem pi_range1 {a : Expr} {ta : TA} {p pos : Pos} (hg : Gl X "range") (hm : X.mg "range" = none) (ha : PA X [a] ta) (hs : starEach [a] X.env = [(false, eval a X.env)] := by rfl) : PI X tg (.Call (.Name "range" p) [a] [] pos) (iRng1 ta) := by
  intro pins s σ H R I h
  refine Call_ (ld_blt I hg hm boot_range (PyProof.Rows.callWith_type1 (thn (ha pos pins s σ H _ I h) fun us s1 ⟨vs, H1, I1, r1, q1⟩ => ?_) hs rfl))
  obtain ⟨j, e, q1, q2, q⟩ := q1
  subst e
  cases r1 with
  | cons r rr =>
    cases rr
    obtain ⟨t, rfl⟩ := r
    exact call_range_1 (range_it I1 (by omega) (by omega) q1 q2 (by simpa using q))
/-! ### for -/
/-- W: the invariant by the turn and a measure; N: what the body is to reach -/
def tFor (wi : TI) (g : TG) (tb : TS) : TS := fun D σ H => wi σ H fun J H1 => ∃ W : Nat → Nat → St → Hp → Prop, (∃ m, W 0 m σ H1) ∧ ∀ i m σ H, W i m σ H →
  (J.stop i H ∧ D.nx σ H) ∨ (J.go i H ∧ ∃ N : St → Hp → Prop, (∀ σ' H', N σ' H' → ∃ m', m' < m ∧ W (i + 1) m' σ' H') ∧ ∀ x H', J.yld i H x H' → g x σ H' fun σ2 H2 => tb { D with nx := N, ct := N, bk := D.nx } σ2 H2)
/-- the records at fp as they stand -/
def pinsAt (fp : List Addr) (h : Heap) : List (Addr × Obj) := fp.filterMap fun b => (h.get? b).map fun o => (b, o)
theorem mem_pinsAt {fp : List Addr} {h : Heap} {b : Addr} {o : Obj} (hb : b ∈ fp) (e : h.get? b = some o) : (b, o) ∈ pinsAt fp h := List.mem_filterMap.mpr ⟨b, hb, by rw [e]; rfl⟩
theorem of_pinsAt {fp : List Addr} {h : Heap} {p : Addr × Obj} (hp : p ∈ pinsAt fp h) : p.1 ∈ fp ∧ h.get? p.1 = some p.2 := by
  obtain ⟨b, hb, e⟩ := List.mem_filterMap.mp hp
  cases q : h.get? b with
  | none => rw [q] at e; cases e
  | some o =>
    rw [q] at e
    have e' : (b, o) = p := Option.some.inj e
    subst e'
    exact ⟨hb, q⟩
theorem Inv.pinned {pins : List (Addr × Obj)} {σ : St} {H : Hp} {s : Shared} {fp : List Addr} (I : Inv X pins σ H s) (hf : ∀ b ∈ fp, FpOk X pins H b) (ho : ∀ b ∈ fp, ∃ o, s.heap.get? b = some o ∧ ∀ v, o.data ≠ .cell v) : Inv X (pins ++ pinsAt fp s.heap) σ H s :=
  I.pins_of fun p hp => (List.mem_append.mp hp).elim (fun z => I.pin p (List.mem_append_right _ z)) fun z => by
    obtain ⟨hb, e⟩ := of_pinsAt z
    obtain ⟨f0, f1, f2, _⟩ := hf p.1 hb
    obtain ⟨o, e', d⟩ := ho p.1 hb
    rw [e] at e'; cases e'
    exact ⟨e, f0, f1, f2, d⟩
theorem Inv.unpinned {pins pl : List (Addr × Obj)} {σ : St} {H : Hp} {s : Shared} (I : Inv X (pins ++ pl) σ H s) : Inv X pins σ H s := I.pins_of fun p hp => I.pin p (List.mem_append_right _ (List.mem_append_left _ hp))
theorem ps_for {iter : Expr} {body : List Stmt} {wi : TI} {g : TG} {tb : TS} {pos : Pos} (hp : PassesOwn (model X.prog X.w) X.A X.env X.xe) (hc : X.calm = true) (hi : PI X tg iter wi) (hg : PG X tg g) (hb : PSs X body tb)
    (hs : ∀ x, foldedSetIterable iter X.env x = pure x := by intro _; rfl) : PS X (.For tg iter body [] pos) (tFor wi g tb) := by
  intro pins s σ H D I h
  refine wpAny_For (thn (hi pins s σ H _ I h) fun v s1 h1 => thn h1 fun itv s2 h2 => ?_) hs
  obtain ⟨it, fp, tn, J, H2, e, I2, T, st2, f2, W, ⟨m0, w0⟩, turn⟩ := h2
  subst e
  -- what stays true of the iterator's objects through the loop
  have stat : ∀ {H' : Hp}, (∀ b ∈ fp, H' b = none) → ∀ b ∈ fp, FpOk X pins H' b := fun hn b hb => ⟨hn b hb, (f2 b hb).2⟩
  refine codeAny_forLoop_any (fun n s' => ∃ i σ' H', Inv X pins σ' H' s' ∧ tn i s'.heap ∧ (∀ b ∈ fp, H' b = none) ∧ W i n σ' H') ?_ m0 ⟨0, σ, H2, I2, st2, fun b hb => (f2 b hb).1, w0⟩
  rintro n s3 ⟨i, σ3, H3, I3, st3, fr3, w3⟩
  rcases turn i n σ3 H3 w3 with ⟨stop, qn⟩ | ⟨go, N, hN, step⟩
  · refine wpAny_passesOwn hp (thn (T.done X rfl rfl rfl hc i pins s3 σ3 H3 X.xe I3 (stat fr3) st3 stop) fun r s4 ⟨hr, I4⟩ => ?_)
    subst hr
    exact wpAny_execs_nil ⟨σ3, H3, I4, qn⟩
  · refine wpAny_passesOwn hp (thn (T.item X rfl rfl rfl hc i pins s3 σ3 H3 X.xe I3 (stat fr3) st3 go) fun r s4 ⟨u, hr, h4⟩ => ?_)
    subst hr
    refine wpAny_passesOwn hp (thn h4 fun _ s5 ⟨x, H5, I5, r5, y5, st5, fr5⟩ => ?_)
    have I5' := I5.pinned (stat fr5) (T.obj _ _ st5)
    refine wpAny_passesOwn hp (thn (hg _ s5 σ3 H5 x u _ I5' r5 (step x H5 y5)) fun _ s6 ⟨σ6, H6, I6, q6⟩ => ?_)
    refine wpAny_passesOwn hp (thn (hb _ s6 σ6 H6 _ I6 q6) fun f s7 q7 => ?_)
    have again : ∀ {σ7 : St} {H7 : Hp}, Inv X (pins ++ pinsAt fp s5.heap) σ7 H7 s7 → N σ7 H7 → ∃ m, m < n ∧ ∃ i σ' H', Inv X pins σ' H' s7 ∧ tn i s7.heap ∧ (∀ b ∈ fp, H' b = none) ∧ W i m σ' H' := fun {σ7 H7} I7 n7 => by
      obtain ⟨m', hm, w7⟩ := hN σ7 H7 n7
      refine ⟨m', hm, i + 1, σ7, H7, I7.unpinned, T.keep _ _ _ st5 fun b hb o e => (I7.pin (b, o) (List.mem_append_right _ (List.mem_append_right _ (mem_pinsAt hb e)))).1, fun b hb => ?_, w7⟩
      obtain ⟨o, e, d⟩ := T.obj _ _ st5 b hb
      exact (I7.pin (b, o) (List.mem_append_right _ (List.mem_append_right _ (mem_pinsAt hb e)))).2.1
    cases f with
    | next => obtain ⟨σ7, H7, I7, n7⟩ := q7; exact again I7 n7
    | cont => obtain ⟨σ7, H7, I7, n7⟩ := q7; exact again I7 n7
    | brk => obtain ⟨σ7, H7, I7, q7⟩ := q7; exact ⟨σ7, H7, I7.unpinned, q7⟩
    | ret v => obtain ⟨x7, σ7, H7, I7, r7, q7⟩ := q7; exact ⟨x7, σ7, H7, I7.unpinned, r7, q7⟩
end

/-! ### the forms one uses -/
/-- over a list that the body leaves as it is -/
theorem for_list {K : PySem.W.Frag} {a : Addr} {xs : List V} {g : TG} {tb : TS} {D : Ends} {σ : St} {H : Hp} (Pv : Nat → St → Hp → Prop) (h0 : Pv 0 σ H) (hl : ∀ i σ H, i ≤ xs.length → Pv i σ H → SqL K H a xs)
    (hs : ∀ i x σ H, xs[i]? = some x → Pv i σ H → g x σ H fun σ2 H2 => tb { D with nx := Pv (i + 1), ct := Pv (i + 1), bk := D.nx } σ2 H2) (hd : ∀ σ H, Pv xs.length σ H → D.nx σ H) :
    ∃ W : Nat → Nat → St → Hp → Prop, (∃ m, W 0 m σ H) ∧ ∀ i m σ H, W i m σ H →
      ((Itl K a).stop i H ∧ D.nx σ H) ∨ ((Itl K a).go i H ∧ ∃ N : St → Hp → Prop, (∀ σ' H', N σ' H' → ∃ m', m' < m ∧ W (i + 1) m' σ' H') ∧ ∀ x H', (Itl K a).yld i H x H' → g x σ H' fun σ2 H2 => tb { D with nx := N, ct := N, bk := D.nx } σ2 H2) := by
  refine ⟨fun i m σ H => m = xs.length - i ∧ i ≤ xs.length ∧ Pv i σ H, ⟨xs.length, by simp, Nat.zero_le _, h0⟩, ?_⟩
  rintro i m σ H ⟨rfl, hi, p⟩
  have q := hl i σ H hi p
  by_cases hlt : i < xs.length
  · refine .inr ⟨⟨xs, xs[i], q, by simp [hlt]⟩, Pv (i + 1), fun σ' H' p' => ⟨xs.length - (i + 1), by omega, rfl, hlt, p'⟩, fun x H' y => ?_⟩
    obtain ⟨e, y⟩ := y
    subst e
    exact hs i x σ _ (y xs q) p
  · have e : i = xs.length := by omega
    subst e
    exact .inl ⟨⟨xs, q, Nat.le_refl _⟩, hd σ H p⟩
theorem for_tup {K : PySem.W.Frag} {a : Addr} {xs : List V} {g : TG} {tb : TS} {D : Ends} {σ : St} {H : Hp} (Pv : Nat → St → Hp → Prop) (h0 : Pv 0 σ H) (hl : ∀ i σ H, i ≤ xs.length → Pv i σ H → SqT K H a xs)
    (hs : ∀ i x σ H, xs[i]? = some x → Pv i σ H → g x σ H fun σ2 H2 => tb { D with nx := Pv (i + 1), ct := Pv (i + 1), bk := D.nx } σ2 H2) (hd : ∀ σ H, Pv xs.length σ H → D.nx σ H) :
    ∃ W : Nat → Nat → St → Hp → Prop, (∃ m, W 0 m σ H) ∧ ∀ i m σ H, W i m σ H →
      ((Itt K a).stop i H ∧ D.nx σ H) ∨ ((Itt K a).go i H ∧ ∃ N : St → Hp → Prop, (∀ σ' H', N σ' H' → ∃ m', m' < m ∧ W (i + 1) m' σ' H') ∧ ∀ x H', (Itt K a).yld i H x H' → g x σ H' fun σ2 H2 => tb { D with nx := N, ct := N, bk := D.nx } σ2 H2) := by
  refine ⟨fun i m σ H => m = xs.length - i ∧ i ≤ xs.length ∧ Pv i σ H, ⟨xs.length, by simp, Nat.zero_le _, h0⟩, ?_⟩
  rintro i m σ H ⟨rfl, hi, p⟩
  have q := hl i σ H hi p
  by_cases hlt : i < xs.length
  · refine .inr ⟨⟨xs, xs[i], q, by simp [hlt]⟩, Pv (i + 1), fun σ' H' p' => ⟨xs.length - (i + 1), by omega, rfl, hlt, p'⟩, fun x H' y => ?_⟩
    obtain ⟨e, y⟩ := y
    subst e
    exact hs i x σ _ (y xs q) p
  · have e : i = xs.length := by omega
    subst e
    exact .inl ⟨⟨xs, q, Nat.le_refl _⟩, hd σ H p⟩
theorem for_range {lo : Int} {n : Nat} {g : TG} {tb : TS} {D : Ends} {σ : St} {H : Hp} (Pv : Nat → St → Hp → Prop) (h0 : Pv 0 σ H)
    (hs : ∀ i σ H, i < n → Pv i σ H → g (.int (lo + i)) σ H fun σ2 H2 => tb { D with nx := Pv (i + 1), ct := Pv (i + 1), bk := D.nx } σ2 H2) (hd : ∀ σ H, Pv n σ H → D.nx σ H) :
    ∃ W : Nat → Nat → St → Hp → Prop, (∃ m, W 0 m σ H) ∧ ∀ i m σ H, W i m σ H →
      ((Itr lo n).stop i H ∧ D.nx σ H) ∨ ((Itr lo n).go i H ∧ ∃ N : St → Hp → Prop, (∀ σ' H', N σ' H' → ∃ m', m' < m ∧ W (i + 1) m' σ' H') ∧ ∀ x H', (Itr lo n).yld i H x H' → g x σ H' fun σ2 H2 => tb { D with nx := N, ct := N, bk := D.nx } σ2 H2) := by
  refine ⟨fun i m σ H => m = n - i ∧ i ≤ n ∧ Pv i σ H, ⟨n, by simp, Nat.zero_le _, h0⟩, ?_⟩
  rintro i m σ H ⟨rfl, hi, p⟩
  by_cases hlt : i < n
  · refine .inr ⟨hlt, Pv (i + 1), fun σ' H' p' => ⟨n - (i + 1), by omega, rfl, hlt, p'⟩, fun x H' y => ?_⟩
    obtain ⟨e, y⟩ := y
    subst e y
    exact hs i σ _ hlt p
  · have e : i = n := by omega
    subst e
    exact .inl ⟨Nat.le_refl _, hd σ H p⟩
end L2

namespace L2
open PySem PySem.Spec PyProof.Rows

abbrev R2 := V → V → Hp → VK → Prop
/-- a two-place operation on values: f is binaryOp op, inplaceOp op or compareOp op -/
def OpR (X : Cx) (f : Value → Value → Sem Value) (r : R2) : Prop :=
  ∀ (pins : List (Addr × Obj)) (s : Shared) (σ : St) (H : Hp) (x y : V) (v u : Value) (Q : VK), Inv X pins σ H s → RelV x v → RelV y u → r x y H Q →
    wpAny (model X.prog X.w) X.A (f v u) (EP X pins σ Q) X.xe s
/-- a one-place operation -/
def UnR (X : Cx) (f : Value → Sem Value) (r : V → Hp → VK → Prop) : Prop :=
  ∀ (pins : List (Addr × Obj)) (s : Shared) (σ : St) (H : Hp) (x : V) (v : Value) (Q : VK), Inv X pins σ H s → RelV x v → r x H Q →
    wpAny (model X.prog X.w) X.A (f v) (EP X pins σ Q) X.xe s
/-- a call of a value that is known (a builtin, a type) with values -/
def CallR (X : Cx) (f : Value) (r : List V → Hp → VK → Prop) : Prop :=
  ∀ (pins : List (Addr × Obj)) (s : Shared) (σ : St) (H : Hp) (xs : List V) (us : List Value) (Q : VK), Inv X pins σ H s → Vals xs us → r xs H Q →
    wpAny (model X.prog X.w) X.A (call f us) (EP X pins σ Q) X.xe s
/-- a value's truth -/
def TruR (X : Cx) (r : V → Hp → (Bool → Hp → Prop) → Prop) : Prop :=
  ∀ (pins : List (Addr × Obj)) (s : Shared) (σ : St) (H : Hp) (x : V) (v : Value) (Q : Bool → Hp → Prop), Inv X pins σ H s → RelV x v → r x H Q →
    wpAny (model X.prog X.w) X.A (truthy v) (TP X pins σ Q) X.xe s

def tOp (r : R2) (ta tb : TE) : TE := fun σ H Q => ta σ H fun x H1 => tb σ H1 fun y H2 => r x y H2 Q
def tUn (r : V → Hp → VK → Prop) (ta : TE) : TE := fun σ H Q => ta σ H fun x H1 => r x H1 Q
/-- ints in, under C, and a value out -/
def rI (C : Int → Int → Prop) (g : Int → Int → V) : R2 := fun x y H Q => ∃ i j, x = .int i ∧ y = .int j ∧ C i j ∧ Q (g i j) H
def rI0 (g : Int → Int → V) : R2 := fun x y H Q => ∃ i j, x = .int i ∧ y = .int j ∧ Q (g i j) H
def rU (g : Int → V) : V → Hp → VK → Prop := fun x H Q => ∃ i, x = .int i ∧ Q (g i) H

section
variable {X : Cx} {a b c : Expr} {ta tb tc : TE} {pos : Pos}

theorem binT (ha : PE X a ta) (hb : PE X b tb) {pins : List (Addr × Obj)} {s : Shared} {σ : St} {H : Hp} {R : V → V → Hp → Prop} (I : Inv X pins σ H s)
    (h : ta σ H fun x H1 => tb σ H1 fun y H2 => R x y H2) {Q : Value → Shared → Prop} {f : Value → Value → Sem Value}
    (hf : ∀ v u s2 x y H2, Inv X pins σ H2 s2 → RelV x v → RelV y u → R x y H2 → wpAny (model X.prog X.w) X.A (f v u) Q X.xe s2) :
    wpAny (model X.prog X.w) X.A (eval a X.env) (fun v s₁ => wpAny (model X.prog X.w) X.A (eval b X.env) (fun u s₂ => wpAny (model X.prog X.w) X.A (f v u) Q X.xe s₂) X.xe s₁) X.xe s := by
  refine thn (ha pins s σ H _ I h) fun v s1 ⟨x, H1, I1, r1, q1⟩ => ?_
  refine thn (hb pins s1 σ H1 _ I1 q1) fun u s2 ⟨y, H2, I2, r2, q2⟩ => ?_
  exact hf v u s2 x y H2 I2 r1 r2 q2

theorem pe_op {op : Operator} {r : R2} (ho : OpR X (binaryOp op) r) (ha : PE X a ta) (hb : PE X b tb) : PE X (.BinOp a op b pos) (tOp r ta tb) := by
  intro pins s σ H Q I h
  exact wpAny_BinOp (binT ha hb I h fun v u s2 x y H2 I2 rx ry q => ho pins s2 σ H2 x y v u Q I2 rx ry q)
theorem pe_un {op : UnaryOp} {r : V → Hp → VK → Prop} (ho : UnR X (unaryOp op) r) (ha : PE X a ta) : PE X (.UnaryOp op a pos) (tUn r ta) := by
  intro pins s σ H Q I h
  exact UnaryOp_ (thn (ha pins s σ H _ I h) fun v s1 ⟨x, H1, I1, r1, q1⟩ => ho pins s1 σ H1 x v Q I1 r1 q1)
/-! ### ints -/
theorem opI {f : Value → Value → Sem Value} {C : Int → Int → Prop} {g : Int → Int → Int}
    (rule : ∀ (i j : Int) (t u : Tok) (s : Shared) (Q : Value → Shared → Prop) (E : Value → Shared → Prop), C i j → Q (.int (g i j) s.toks) { s with toks := s.toks + 1 } → wpAny (model X.prog X.w) X.A (f (.int i t) (.int j u)) Q E s) :
    OpR X f (rI C fun i j => .int (g i j)) := by
  intro pins s σ H x y v u Q I rx ry h
  obtain ⟨i, j, rfl, rfl, hc, q⟩ := h
  obtain ⟨t, rfl⟩ := rx
  obtain ⟨t', rfl⟩ := ry
  exact rule i j t t' s _ _ hc ⟨.int (g i j), H, I.tok _, ⟨_, rfl⟩, q⟩
theorem opI0 {f : Value → Value → Sem Value} {g : Int → Int → Int}
    (rule : ∀ (i j : Int) (t u : Tok) (s : Shared) (Q : Value → Shared → Prop) (E : Value → Shared → Prop), Q (.int (g i j) s.toks) { s with toks := s.toks + 1 } → wpAny (model X.prog X.w) X.A (f (.int i t) (.int j u)) Q E s) :
    OpR X f (rI0 fun i j => .int (g i j)) := by
  intro pins s σ H x y v u Q I rx ry h
  obtain ⟨i, j, rfl, rfl, q⟩ := h
  obtain ⟨t, rfl⟩ := rx
  obtain ⟨t', rfl⟩ := ry
  exact rule i j t t' s _ _ ⟨.int (g i j), H, I.tok _, ⟨_, rfl⟩, q⟩
theorem opB0 {f : Value → Value → Sem Value} {g : Int → Int → Bool}
    (rule : ∀ (i j : Int) (t u : Tok) (s : Shared) (Q : Value → Shared → Prop) (E : Value → Shared → Prop), Q (.bool (g i j)) s → wpAny (model X.prog X.w) X.A (f (.int i t) (.int j u)) Q E s) :
    OpR X f (rI0 fun i j => .bl (g i j)) := by
  intro pins s σ H x y v u Q I rx ry h
  obtain ⟨i, j, rfl, rfl, q⟩ := h
  obtain ⟨t, rfl⟩ := rx
  obtain ⟨t', rfl⟩ := ry
  exact rule i j t t' s _ _ ⟨.bl (g i j), H, I, rfl, q⟩

def CDiv (i j : Int) : Prop := 0 < j ∧ j < 1073741824
def CDivN (i j : Int) : Prop := j ≠ 0 ∧ j.natAbs < 1073741824
def CPow (i j : Int) : Prop := 0 ≤ j ∧ j ≤ 1000000 ∧ i.natAbs < 2 ^ 64
def CMul (i j : Int) : Prop := (-(2 ^ 64) < i ∧ i < 2 ^ 64) ∨ (-(2 ^ 64) < j ∧ j < 2 ^ 64)
theorem CMul.ok {i j : Int} (h : CMul i j) : IntMulOk i j := by
  rcases h with ⟨h1, h2⟩ | ⟨h1, h2⟩
  · exact .of_left (intBits_le_64 h1 h2)
  · exact .of_right (intBits_le_64 h1 h2)
theorem op_add : OpR X (binaryOp .Add) (rI0 fun i j => .int (i + j)) := opI0 fun _ _ _ _ _ _ _ q => add_int q
theorem op_sub : OpR X (binaryOp .Sub) (rI0 fun i j => .int (i - j)) := opI0 fun _ _ _ _ _ _ _ q => sub_int q
theorem op_mul : OpR X (binaryOp .Mult) (rI CMul fun i j => .int (i * j)) := opI fun _ _ _ _ _ _ _ hc q => mul_int q hc.ok
/-- // by a positive divisor -/
theorem op_fdiv : OpR X (binaryOp .FloorDiv) (rI CDiv fun i j => .int (i / j)) := opI fun i j _ _ _ _ _ hc q => by
  have h1 : (0 : Int) < j := hc.1
  have h2 : j < 1073741824 := hc.2
  exact floordiv_int (by omega) (by rw [Int.fdiv_eq_ediv_of_nonneg i (by omega)]; exact q) (.inl (PyProof.noPylong_small (by omega)))
/-- % by a positive divisor of any size -/
theorem op_mod : OpR X (binaryOp .Mod) (rI (fun _ j => 0 < j) fun i j => .int (i % j)) := opI fun i j _ _ _ _ _ hc q => by
  have h1 : (0 : Int) < j := hc
  exact mod_int' (by omega) (by rw [Int.fmod_eq_emod_of_nonneg i (by omega)]; exact q)
theorem op_pow : OpR X (binaryOp .Pow) (rI CPow fun i j => .int (i ^ j.toNat)) := opI fun _ _ _ _ _ _ _ hc q => pow_int_small hc.1 hc.2.1 hc.2.2 q
theorem unI {f : Value → Sem Value} {g : Int → Int}
    (rule : ∀ (i : Int) (t : Tok) (s : Shared) (Q : Value → Shared → Prop) (E : Value → Shared → Prop), Q (.int (g i) s.toks) { s with toks := s.toks + 1 } → wpAny (model X.prog X.w) X.A (f (.int i t)) Q E s) :
    UnR X f (rU fun i => .int (g i)) := by
  intro pins s σ H x v Q I rx h
  obtain ⟨i, rfl, q⟩ := h
  obtain ⟨t, rfl⟩ := rx
  exact rule i t s _ _ ⟨.int (g i), H, I.tok _, ⟨_, rfl⟩, q⟩
theorem un_neg : UnR X (unaryOp .USub) (rU fun i => .int (-i)) := unI fun _ _ _ _ _ q => neg_int q
/-! ### bools among ints: n += (a < b) -/
end

/-! ### comparisons -/
/-- the scalars that == tells apart as data does -/
def scal : V → V → Bool
  | .non, .non => true | .non, .int _ => true | .int _, .non => true | .non, .bl _ => true | .bl _, .non => true | .non, .str _ => true | .str _, .non => true
  | .int _, .int _ => true | .bl _, .bl _ => true | .str _, .str _ => true | .byt _, .byt _ => true
  | .int _, .str _ => true | .str _, .int _ => true | .bl _, .str _ => true | .str _, .bl _ => true
  | _, _ => false
def rEq : R2 := fun x y H Q => scal x y = true ∧ Q (.bl (decide (x = y))) H
def rNe : R2 := fun x y H Q => scal x y = true ∧ Q (.bl (!decide (x = y))) H

theorem dec_int {i j : Int} : decide (V.int i = V.int j) = (i == j) := by
  rw [Bool.eq_iff_iff]
  simp
theorem dec_bl {i j : Bool} : decide (V.bl i = V.bl j) = (i == j) := by
  rw [Bool.eq_iff_iff]
  simp
theorem dec_str {i j : Str} : decide (V.str i = V.str j) = (i == j) := by
  rw [Bool.eq_iff_iff]
  simp
theorem dec_byt {i j : Array UInt8} : decide (V.byt i = V.byt j) = (i.toList == j.toList) := by
  rw [Bool.eq_iff_iff]
  cases i
  cases j
  simp

section
variable {X : Cx} {a b c : Expr} {ta tb tc : TE} {pos : Pos}
theorem fin_bl {pins : List (Addr × Obj)} {σ : St} {H : Hp} {s : Shared} {Q : VK} {k k' : Bool} (I : Inv X pins σ H s) (q : Q (.bl k) H) (e : k = k') : EP X pins σ Q (.bool k') s := by
  subst e
  exact ⟨.bl k, H, I, rfl, q⟩
theorem op_eq : OpR X (compareOp .Eq) rEq := by
  intro pins s σ H x y v u Q I rx ry h
  obtain ⟨hs, q⟩ := h
  cases x with
  | non =>
    cases rx
    cases y with
    | non => cases ry; exact PySem.EqNone.eq_none_none (fin_bl I q (by simp))
    | bl j => cases ry; exact PySem.EqNone.eq_none_bool (fin_bl I q (by simp))
    | int j => obtain ⟨t', rfl⟩ := ry; exact PySem.EqNone.eq_none_int (fin_bl I q (by simp))
    | str j => obtain ⟨t', rfl⟩ := ry; exact PySem.EqNone.eq_none_str (fin_bl I q (by simp))
    | _ => exact absurd (show false = true from hs) Bool.false_ne_true
  | bl i =>
    cases rx
    cases y with
    | non => cases ry; exact PySem.EqNone.eq_bool_none (fin_bl I q (by simp))
    | bl j => cases ry; exact eq_bool (fin_bl I q dec_bl)
    | str j => obtain ⟨t', rfl⟩ := ry; exact PySem.EqMixed.eq_bool_str (fin_bl I q (by simp))
    | _ => exact absurd (show false = true from hs) Bool.false_ne_true
  | int i =>
    obtain ⟨t, rfl⟩ := rx
    cases y with
    | non => cases ry; exact PySem.EqNone.eq_int_none (fin_bl I q (by simp))
    | int j => obtain ⟨t', rfl⟩ := ry; exact eq_int (fin_bl I q dec_int)
    | str j => obtain ⟨t', rfl⟩ := ry; exact PySem.EqMixed.eq_int_str (fin_bl I q (by simp))
    | _ => exact absurd (show false = true from hs) Bool.false_ne_true
  | str i =>
    obtain ⟨t, rfl⟩ := rx
    cases y with
    | non => cases ry; exact PySem.EqNone.eq_str_none (fin_bl I q (by simp))
    | bl j => cases ry; exact PySem.EqMixed.eq_str_bool (fin_bl I q (by simp))
    | int j => obtain ⟨t', rfl⟩ := ry; exact PySem.EqMixed.eq_str_int (fin_bl I q (by simp))
    | str j => obtain ⟨t', rfl⟩ := ry; exact eq_str (fin_bl I q dec_str)
    | _ => exact absurd (show false = true from hs) Bool.false_ne_true
  | byt i =>
    obtain ⟨t, rfl⟩ := rx
    cases y with
    | byt j => obtain ⟨t', rfl⟩ := ry; exact PySem.W.eq_bytes (fin_bl I q dec_byt)
    | _ => exact absurd (show false = true from hs) Bool.false_ne_true
  | _ => cases y <;> exact absurd (show false = true from hs) Bool.false_ne_true
theorem op_ne : OpR X (compareOp .NotEq) rNe := by
  intro pins s σ H x y v u Q I rx ry h
  obtain ⟨hs, q⟩ := h
  cases x with
  | non =>
    cases rx
    cases y with
    | non => cases ry; exact PySem.EqNone.ne_none_none (fin_bl I q (by simp))
    | bl j => cases ry; exact PySem.EqNone.ne_none_bool (fin_bl I q (by simp))
    | int j => obtain ⟨t', rfl⟩ := ry; exact PySem.EqNone.ne_none_int (fin_bl I q (by simp))
    | str j => obtain ⟨t', rfl⟩ := ry; exact PySem.EqNone.ne_none_str (fin_bl I q (by simp))
    | _ => exact absurd (show false = true from hs) Bool.false_ne_true
  | bl i =>
    cases rx
    cases y with
    | non => cases ry; exact PySem.EqNone.ne_bool_none (fin_bl I q (by simp))
    | bl j => cases ry; exact ne_bool (fin_bl I q (congrArg not dec_bl))
    | str j => obtain ⟨t', rfl⟩ := ry; exact PySem.EqMixed.ne_bool_str (fin_bl I q (by simp))
    | _ => exact absurd (show false = true from hs) Bool.false_ne_true
  | int i =>
    obtain ⟨t, rfl⟩ := rx
    cases y with
    | non => cases ry; exact PySem.EqNone.ne_int_none (fin_bl I q (by simp))
    | int j => obtain ⟨t', rfl⟩ := ry; exact ne_int (fin_bl I q (congrArg not dec_int))
    | str j => obtain ⟨t', rfl⟩ := ry; exact PySem.EqMixed.ne_int_str (fin_bl I q (by simp))
    | _ => exact absurd (show false = true from hs) Bool.false_ne_true
  | str i =>
    obtain ⟨t, rfl⟩ := rx
    cases y with
    | non => cases ry; exact PySem.EqNone.ne_str_none (fin_bl I q (by simp))
    | bl j => cases ry; exact PySem.EqMixed.ne_str_bool (fin_bl I q (by simp))
    | int j => obtain ⟨t', rfl⟩ := ry; exact PySem.EqMixed.ne_str_int (fin_bl I q (by simp))
    | str j => obtain ⟨t', rfl⟩ := ry; exact ne_str (fin_bl I q (congrArg not dec_str))
    | _ => exact absurd (show false = true from hs) Bool.false_ne_true
  | byt i =>
    obtain ⟨t, rfl⟩ := rx
    cases y with
    | byt j => obtain ⟨t', rfl⟩ := ry; exact PySem.W.ne_bytes (fin_bl I q (congrArg not dec_byt))
    | _ => exact absurd (show false = true from hs) Bool.false_ne_true
  | _ => cases y <;> exact absurd (show false = true from hs) Bool.false_ne_true

theorem op_lt : OpR X (compareOp .Lt) (rI0 fun i j => .bl (decide (i < j))) := opB0 fun _ _ _ _ _ _ _ q => lt_int q
theorem op_le : OpR X (compareOp .LtE) (rI0 fun i j => .bl (decide (i ≤ j))) := opB0 fun _ _ _ _ _ _ _ q => le_int q
theorem op_gt : OpR X (compareOp .Gt) (rI0 fun i j => .bl (decide (j < i))) := opB0 fun _ _ _ _ _ _ _ q => gt_int q
theorem op_ge : OpR X (compareOp .GtE) (rI0 fun i j => .bl (decide (j ≤ i))) := opB0 fun _ _ _ _ _ _ _ q => ge_int q
/-- is, is not of two objects that are tracked lists or instances -/
def isObj : HO → Bool
  | .lst _ => true
  | .ins _ _ _ => true
  | _ => false
/-- two rules for one operation: by cases -/
theorem OpR.or {f : Value → Value → Sem Value} {r r' : R2} (h : OpR X f r) (h' : OpR X f r') : OpR X f (fun x y H Q => r x y H Q ∨ r' x y H Q) := by
  intro pins s σ H x y v u Q I rx ry q
  rcases q with q | q
  · exact h pins s σ H x y v u Q I rx ry q
  · exact h' pins s σ H x y v u Q I rx ry q

theorem nomark (b : Expr) {op : CmpOp} (h : op ≠ .In := by decide) (h2 : op ≠ .NotIn := by decide) : behindInMarks op b = false := by
  have e1 : (op == CmpOp.In) = false := by cases op <;> first | rfl | exact absurd rfl h
  have e2 : (op == CmpOp.NotIn) = false := by cases op <;> first | rfl | exact absurd rfl h2
  cases b <;> simp [behindInMarks, e1, e2]
/-- a comparison as a value; hm: nomark b, or (for in, not in) by with_unfolding_all rfl -/
theorem pe_cmpR {op : CmpOp} {r : R2} (ho : OpR X (compareOp op) r) (ha : PE X a ta) (hb : PE X b tb) (hm : behindInMarks op b = false) : PE X (.Compare a [op] [b] pos) (tOp r ta tb) := by
  intro pins s σ H Q I h
  exact wpAny_Compare1 (binT ha hb I h fun v u s2 x y H2 I2 rx ry q => ho pins s2 σ H2 x y v u Q I2 rx ry q) hm
/-- a reading of a value as a test -/
def tTest (t : TE) : TT := fun σ H Q => t σ H fun x H' => ∃ k, x = .bl k ∧ Q k H'
theorem pt_cmpR {op : CmpOp} {r : R2} (ho : OpR X (compareOp op) r) (ha : PE X a ta) (hb : PE X b tb) (hm : behindInMarks op b = false) : PT X (.Compare a [op] [b] pos) (tTest (tOp r ta tb)) := by
  intro pins s σ H Q I h
  refine wpAny_isTrue_Compare1 (thn (ha pins s σ H _ I h) fun v s1 ⟨x, H1, I1, r1, q1⟩ => thn (hb pins s1 σ H1 _ I1 q1) fun u s2 ⟨y, H2, I2, r2, q2⟩ =>
    thn (ho pins s2 σ H2 x y v u _ I2 r1 r2 q2) fun c s3 ⟨z, H3, I3, r3, k, e, q3⟩ => ?_) hm
  subst e
  cases r3
  exact wpAny_truthy_bool ⟨H3, I3, q3⟩
/-- a op1 b op2 c -/
def tChain (r r' : R2) (ta tb tc : TE) : TE := fun σ H Q => ta σ H fun x H1 => tb σ H1 fun y H2 => r x y H2 fun z H3 => ∃ k, z = .bl k ∧
  (if k = true then tc σ H3 fun w' H4 => r' y w' H4 Q else Q (.bl false) H3)
theorem pe_chain {op op' : CmpOp} {r r' : R2} (ho : OpR X (compareOp op) r) (ho' : OpR X (compareOp op') r') (ha : PE X a ta) (hb : PE X b tb) (hc : PE X c tc)
    (hm : lastMarks [op, op'] [b, c] = false := by with_unfolding_all rfl) : PE X (.Compare a [op, op'] [b, c] pos) (tChain r r' ta tb tc) := by
  intro pins s σ H Q I h
  refine Compare_chain (thn (ha pins s σ H _ I h) fun v s1 ⟨x, H1, I1, r1, q1⟩ => chain_link (thn (hb pins s1 σ H1 _ I1 q1) fun u s2 ⟨y, H2, I2, r2, q2⟩ =>
    thn (ho pins s2 σ H2 x y v u _ I2 r1 r2 q2) fun d s3 ⟨z, H3, I3, r3, k, e, q3⟩ => ?_)) hm
  subst e
  cases r3
  refine wpAny_truthy_bool ?_
  cases k with
  | false => exact ite_ff ⟨.bl false, H3, I3, rfl, q3⟩
  | true => exact ite_tt (chain_last (thn (hc pins s3 σ H3 _ I3 q3) fun w' s4 ⟨z', H4, I4, r4, q4⟩ => ho' pins s4 σ H4 y z' u w' Q I4 r2 r4 q4))
/-! ### truth -/
/-- a value's truth by the abstract heap -/
def TruV (K : PySem.W.Frag) (x : V) (H : Hp) (k : Bool) : Prop :=
  match x with
  | .non => k = false
  | .bl b => k = b
  | .int i => k = (i != 0)
  | .str y => y.length ≤ sizeLine ∧ k = ((y.length : Int) != 0)
  | .byt y => y.size ≤ sizeLine ∧ k = ((y.size : Int) != 0)
  | .ref p => (∃ xs, SqL K H p xs ∧ k = !xs.isEmpty) ∨ (∃ xs, SqT K H p xs ∧ k = !xs.isEmpty) ∨ ∃ kvs, H p = some (.dK kvs) ∧ k = !kvs.isEmpty
  | _ => False
theorem isEmpty_kv {κ : Type} {kvs : List (κ × V)} {vs : List (κ × Value)} (r : KV kvs vs) : (!vs.isEmpty) = !kvs.isEmpty := by
  cases r <;> rfl
theorem isEmpty_of {xs : List V} {its : List Value} (r : Vals xs its) : (!its.toArray.isEmpty) = !xs.isEmpty := by
  cases r <;> simp
theorem line63 : (sizeLine : Nat) < 2 ^ 63 := by rw [sizeLine_eq]; decide
theorem tru_ok : TruR X (fun x H Q => ∃ k, TruV X.K x H k ∧ Q k H) := by
  intro pins s σ H x v Q I rx h
  obtain ⟨k, e, q⟩ := h
  have hl := line63
  have hs : sizeLine = 16777216 := sizeLine_eq
  cases x with
  | non =>
    cases rx
    have e' : k = false := e
    subst e'
    exact truthy_none ⟨H, I, q⟩
  | bl b =>
    cases rx
    have e' : k = b := e
    subst e'
    exact wpAny_truthy_bool ⟨H, I, q⟩
  | int i =>
    obtain ⟨t, rfl⟩ := rx
    have e' : k = (i != 0) := e
    subst e'
    exact PySem.P.truthy_int ⟨H, I, q⟩
  | str y =>
    obtain ⟨t, rfl⟩ := rx
    obtain ⟨hy, e'⟩ : y.length ≤ sizeLine ∧ k = ((y.length : Int) != 0) := e
    subst e'
    exact PySem.P.truthy_str (by omega) ⟨H, I.tok _, q⟩
  | byt y =>
    obtain ⟨t, rfl⟩ := rx
    obtain ⟨hy, e'⟩ : y.size ≤ sizeLine ∧ k = ((y.size : Int) != 0) := e
    subst e'
    exact PySem.W.truthy_bytes (by omega) ⟨H, I.tok _, q⟩
  | ref p =>
    cases rx
    have e' : (∃ xs, SqL X.K H p xs ∧ k = !xs.isEmpty) ∨ (∃ xs, SqT X.K H p xs ∧ k = !xs.isEmpty) ∨ ∃ kvs, H p = some (.dK kvs) ∧ k = !kvs.isEmpty := e
    rcases e' with ⟨xs, hx, e'⟩ | ⟨xs, hx, e'⟩ | ⟨kvs, hx, e'⟩
    · subst e'
      obtain ⟨its, r, pl, hz⟩ := I.list hx
      have hlen := r.length
      exact wpAny_truthy_list pl.isList (by simp only [List.size_toArray]; omega) ⟨H, I.tok _, by rw [isEmpty_of r]; exact q⟩
    · subst e'
      obtain ⟨its, r, pl, hz⟩ := I.tuple hx
      have hlen := r.length
      exact truthy_tuple pl (by simp only [List.size_toArray]; omega) ⟨H, I.tok _, by rw [isEmpty_of r]; exact q⟩
    · subst e'
      obtain ⟨hz, hS, vs, r, m⟩ : kvs.length ≤ sizeLine ∧ (p == sysModules) = false ∧ ∃ vs, KV kvs vs ∧ s.heap.DictOf (mixKind X.prog X.w) p vs := I.hok p _ hx
      have hlen : kvs.length = vs.length := Paired.length r
      exact wpAny_truthy_dict hS m (by omega) ⟨H, I.tok _, by rw [isEmpty_kv r]; exact q⟩
  | _ => exact (show False from e).elim
/-- any expression whose test is its value's truth (a name, a call, a subscript, a field ..: he by fun _ => rfl) -/
theorem pt_truth (ha : PE X a ta) (he : ∀ whole, isTrue a X.env whole = (do let v ← whole; standAt a.pos; holding [v] (truthy v))) :
    PT X a (fun σ H Q => ta σ H fun x H' => ∃ k, TruV X.K x H' k ∧ Q k H') := by
  intro pins s σ H Q I h
  exact isTrue_plain (thn (ha pins s σ H _ I h) fun v s1 ⟨x, H1, I1, r1, q1⟩ => tru_ok pins s1 σ H1 x v Q I1 r1 q1) (he _)

/-! ### strs and bytes -/
def PlainIxT (b : Expr) : Prop := ∀ o i, subscripted b false o i = operate [o, i] (getItem o i)
/-! ### scalar builtins, by CallR -/
theorem vals1 {x : V} {us : List Value} (r : Vals [x] us) : ∃ u, us = [u] ∧ RelV x u := by
  cases r with
  | cons r1 r2 => cases r2; exact ⟨_, rfl, r1⟩
theorem vals2 {x y : V} {us : List Value} (r : Vals [x, y] us) : ∃ u w', us = [u, w'] ∧ RelV x u ∧ RelV y w' := by
  cases r with
  | cons r1 r2 =>
    cases r2 with
    | cons r3 r4 => cases r4; exact ⟨_, _, rfl, r1, r3⟩
/-- len of a str, a bytes, a list, a tuple -/
def LenV (K : PySem.W.Frag) (x : V) (H : Hp) (n : Nat) : Prop :=
  match x with
  | .str y => y.length ≤ sizeLine ∧ n = y.length
  | .byt y => y.size ≤ sizeLine ∧ n = y.size
  | .ref p => (∃ xs, SqL K H p xs ∧ n = xs.length) ∨ ∃ xs, SqT K H p xs ∧ n = xs.length
  | _ => False
end
end L2

namespace L2
open PySem PySem.Spec PyProof.Rows

/-! ### an instance, its attributes a map -/
structure ObjM (h : Heap) (x dx C : Addr) (mA : Str → Option Value) : Prop where
  obj : h.get? x = some (PySem.W.instObj C dx)
  ns : h.Ns1 dx mA
  ne : dx ≠ x

theorem lookIn_ns {h : Heap} {dx : Addr} {mA : Str → Option Value} (n : h.Ns1 dx mA) : ∃ od, h.get? dx = some od ∧ ∀ name, PySem.W.lookIn name od = some (mA name) := by
  obtain ⟨o, es, ep, ho, hd, hk, _, hm⟩ := n
  refine ⟨o, ho, fun name => ?_⟩
  have e := hm name
  unfold nsFind findBy at e
  rw [← Array.find?_toList] at e
  unfold PySem.W.lookIn
  rw [hd]
  dsimp only
  split
  · rename_i y q
    rw [q] at e
    exact congrArg some e
  · rename_i q
    rw [q] at e
    have a : es.toList.any (·.refKey) = false := by
      rw [List.any_eq_false]
      intro y hy
      obtain ⟨z, t, hkey⟩ := hk y (Array.mem_toList_iff.mp hy)
      simp [DictEntry.refKey, hkey]
    have a' : ¬ es.toList.any (·.refKey) = true := by rw [a]; exact Bool.false_ne_true
    rw [if_neg a']
    exact congrArg some e

theorem ObjM.look {h : Heap} {x dx C : Addr} {mA : Str → Option Value} (I : ObjM h x dx C mA) : ∃ od, PySem.W.InstAt h x (PySem.W.instObj C dx) C (some od) ∧ ∀ name, PySem.W.lookIn name od = some (mA name) :=
  let ⟨od, ho, hl⟩ := lookIn_ns I.ns
  ⟨od, ⟨I.obj, rfl, rfl, ho⟩, hl⟩

section
variable {prog : Program} {w : World} {A : Around} {E : Value → Shared → Prop} {s : Shared} {K : PySem.W.Frag} {x dx C f : Addr} {mA : Str → Option Value} {name : Str} {v : Value}

end

/-! ### the attributes as a list of pairs -/
def putF (f : Str) (v : V) : List (Str × V) → List (Str × V)
  | [] => [(f, v)]
  | (g, x) :: r => if g = f then (g, v) :: r else (g, x) :: putF f v r
theorem RelO.some_of {v : V} {o : Option Value} (r : RelO (some v) o) : ∃ u, o = some u ∧ RelV v u := by
  cases o with
  | none => exact (show False from r).elim
  | some u => exact ⟨u, rfl, r⟩
theorem RelO.none_of {o : Option Value} (r : RelO none o) : o = none := by
  cases o with
  | none => rfl
  | some u => exact (show False from r).elim
theorem handed_of {v : V} {u : Value} (r : RelV v u) : PySem.W.handedIn u = true := by
  cases v with
  | non => cases (show u = Value.none from r); rfl
  | bl b => cases (show u = Value.bool b from r); rfl
  | int i => obtain ⟨t, e⟩ := (show ∃ t, u = Value.int i t from r); cases e; rfl
  | str x => obtain ⟨t, e⟩ := (show ∃ t, u = Value.str x t from r); cases e; rfl
  | byt b => obtain ⟨t, e⟩ := (show ∃ t, u = Value.bytes b t from r); cases e; rfl
  | flt b => obtain ⟨t, e⟩ := (show ∃ t, u = Value.float b t from r); cases e; rfl
  | ref a => cases (show u = Value.ref a from r); rfl
  | ty n => cases (show u = Value.type n from r); rfl

section
variable {P : Program} {w : World} {H H' : Hp} {h h' : Heap} {a C dx : Addr} {fs fs' : List (Str × V)}
theorem ins_get (hok : HOk P w H h) (e : H a = some (.ins C dx fs)) : ∃ mA, ObjM h a dx C mA ∧ (∀ f, RelO (fs.lookup f) (mA f)) ∧ PySem.Within mA (fs.map (·.1)) ∧ fs.length ≤ 1000 ∧ H dx = some (.own a) := by
  obtain ⟨d, z, ne, ob, mA, n, r, q⟩ := (show ObjOk P w H h a (.ins C dx fs) from hok a _ e)
  exact ⟨mA, ⟨ob, n, ne⟩, r, q, z, d⟩
end

/-! ### what of the text a class must have -/
structure Cls (K : PySem.W.Frag) (C : Addr) : Prop where
  pg : PySem.W.plainGet K C Str.empty = true
  hd : PySem.W.hasDictIn K C = true
  po : PySem.W.plainOver K C = true
  sa : PySem.W.findIn K (.ref C) "__setattr__" = some (some (.builtin "object.__setattr__"))
theorem Cls.get {K : PySem.W.Frag} {C : Addr} (c : Cls K C) (f : Str) : PySem.W.plainGet K C f = true := c.pg
/-- no class of it has the name -/
def NoAttr (K : PySem.W.Frag) (C : Addr) (f : Str) : Prop := PySem.W.findIn K (.ref C) f = some none
/-- a constant of the class -/
structure Con (K : PySem.W.Frag) (C : Addr) (f : Str) (v : V) (u : Value) : Prop where
  at_ : PySem.W.findIn K (.ref C) f = some (some u)
  rel : RelV v u
  get : PySem.W.specialIn K u "__get__" = some none
  cp : PySem.W.copiedNames.contains f = false
/-- a method: a plain def of the class or of one above it -/
structure Meth (K : PySem.W.Frag) (C : Addr) (m : Str) (f : Addr) : Prop where
  at_ : PySem.W.findIn K (.ref C) m = some (some (.ref f))
  fn : PySem.W.isFn K (.ref f) = true
  kp : PySem.W.keepIn K (.ref f) = true

section
variable {X : Cx} {pins : List (Addr × Obj)} {σ : St} {H : Hp} {s : Shared} {a C dx : Addr} {fs : List (Str × V)} {f : Str} {v : V} {A : Around} {E : Value → Shared → Prop}

/-- a new instance, tracked, without attributes -/
theorem Inv.made (I : Inv X pins σ H s) : Inv X pins σ (upd (upd H s.heap.objs.size (.own (s.heap.objs.size + 1))) (s.heap.objs.size + 1) (.ins C s.heap.objs.size []))
    { s with heap := (s.heap.push PySem.W.emptyDict).push (PySem.W.instObj C s.heap.objs.size) } := by
  have e1 : (s.heap.push PySem.W.emptyDict).get? s.heap.objs.size = some PySem.W.emptyDict := Heap.get?_push_size s.heap rfl
  have e2 : ((s.heap.push PySem.W.emptyDict).push (PySem.W.instObj C s.heap.objs.size)).get? (s.heap.objs.size + 1) = some (PySem.W.instObj C s.heap.objs.size) := by
    have := Heap.get?_push_size (s.heap.push PySem.W.emptyDict) (o := PySem.W.instObj C s.heap.objs.size) rfl
    rwa [Heap.size_push] at this
  have e3 : (s.heap.push PySem.W.emptyDict).Ns s.heap.objs.size (fun _ => none) := ⟨PySem.W.emptyDict, #[], _, e1, rfl, (fun e he => absurd he (by simp)), fun _ => rfl⟩
  have I1 := I.laid (a := s.heap.objs.size) (o := .own (s.heap.objs.size + 1)) (h' := s.heap.push PySem.W.emptyDict) (t' := s.toks) (fun b u q => Heap.get?_push_of_some _ q) (Nat.le_refl _) ⟨_, e1⟩
  refine I1.laid (a := s.heap.objs.size + 1) (o := .ins C s.heap.objs.size []) (t' := s.toks) (fun b u q => Heap.get?_push_of_some _ q) (Nat.le_of_eq (Heap.size_push _ _)) ?_
  have ne : s.heap.objs.size ≠ s.heap.objs.size + 1 := Nat.ne_of_lt (Nat.lt_succ_self _)
  refine ⟨by rw [upd_ne ne, upd_same], Nat.zero_le _, ne, e2, fun _ => none, (Heap.Ns1.of_empty e3).at fun o q => Heap.get?_push_of_some _ q, fun _ => True.intro, fun y hy => absurd rfl hy⟩

/-- e.f where nothing but the object is asked: through attributeBase (super) and the last hold -/
theorem attr_of {prog : Program} {w : World} {env : Env} {e : Expr} {f : Str} {pos : Pos} {s : Shared} {Q : Value → Shared → Prop} (hb : attributeBase e f env (eval e env) = eval e env)
    (h : wpAny (model prog w) A (eval e env) (fun o s₁ => wpAny (model prog w) A (getAttr o f true) Q E s₁) E s) : wpAny (model prog w) A (eval (.Attribute e f pos) env) Q E s :=
  Attribute_any_ h (by rw [arm_eval_Attribute, hb])
end

/-! ### readings and rules -/
/-- e.f, an attribute of the instance -/
def tFld (K : PySem.W.Frag) (ta : TE) (f : Str) : TE := fun σ H Q => ta σ H fun x H1 => ∃ a C dx fs v, x = .ref a ∧ H1 a = some (.ins C dx fs) ∧ Cls K C ∧ NoAttr K C f ∧ fs.lookup f = some v ∧ Q v H1
/-- e.f, a constant of the class -/
def tCon (K : PySem.W.Frag) (ta : TE) (f : Str) : TE := fun σ H Q => ta σ H fun x H1 => ∃ a C dx fs v u, x = .ref a ∧ H1 a = some (.ins C dx fs) ∧ Cls K C ∧ Con K C f v u ∧ fs.lookup f = none ∧ Q v H1
/-- e.f = value -/
def sFld (K : PySem.W.Frag) (ta tv : TE) (f : Str) : TS := fun D σ H => tv σ H fun y H1 => ta σ H1 fun x H2 => ∃ a C dx fs, x = .ref a ∧ H2 a = some (.ins C dx fs) ∧ Cls K C ∧ NoAttr K C f ∧ fs.length < 1000 ∧
  D.nx σ (upd H2 a (.ins C dx (putF f y fs)))
/-- an augmented operator on two values -/
def InOp (X : Cx) (op : Operator) (rd : V → V → Hp → VK → Prop) : Prop :=
  ∀ (pins : List (Addr × Obj)) (s : Shared) (σ : St) (H : Hp) (x y : V) (u v : Value) (Q : VK), Inv X pins σ H s → RelV x u → RelV y v → rd x y H Q → wpAny (model X.prog X.w) X.A (inplaceOp op u v) (EP X pins σ Q) X.xe s
/-- e.f op= value -/
def sFldAug (K : PySem.W.Frag) (ta tv : TE) (rd : V → V → Hp → VK → Prop) (f : Str) : TS := fun D σ H => ta σ H fun x H1 => ∃ a C dx fs v, x = .ref a ∧ H1 a = some (.ins C dx fs) ∧ Cls K C ∧ NoAttr K C f ∧ fs.lookup f = some v ∧
  tv σ H1 fun y H2 => rd v y H2 fun z H3 => ∃ dx' fs', H3 a = some (.ins C dx' fs') ∧ fs'.length < 1000 ∧ D.nx σ (upd H3 a (.ins C dx' (putF f z fs')))

section
variable {X : Cx} {o e value : Expr} {f : Str} {pos pos' tpos : Pos} {ta tv : TE}
def rAdd : V → V → Hp → VK → Prop := fun x y H Q => ∃ i j, x = .int i ∧ y = .int j ∧ Q (.int (i + j)) H
def rSub : V → V → Hp → VK → Prop := fun x y H Q => ∃ i j, x = .int i ∧ y = .int j ∧ Q (.int (i - j)) H
end

/-! ### isinstance -/
section
variable {X : Cx} {pins : List (Addr × Obj)} {σ : St} {H : Hp} {s : Shared} {A : Around} {E : Value → Shared → Prop} {Q : Value → Shared → Prop} {c : Value} {b : Bool}
/-- the type of a value, as the fragment's deciders take it; for an instance its class -/
inductive TyOf (K : PySem.W.Frag) (H : Hp) : V → Value → Prop where
  | non : TyOf K H .non (.type "NoneType")
  | bl (x : Bool) : TyOf K H (.bl x) (.type "bool")
  | int (i : Int) : TyOf K H (.int i) (.type "int")
  | str (x : Str) : TyOf K H (.str x) (.type "str")
  | flt (x : UInt64) : TyOf K H (.flt x) (.type "float")
  | lst {a : Addr} {xs : List V} (e : H a = some (.lst xs)) : TyOf K H (.ref a) (.type "list")
  | frz {a : Addr} {o : Obj} {xs : List V} (e : H a = some (.frz o (.lst xs))) : TyOf K H (.ref a) (.type "list")
  | tup {a : Addr} {xs : List V} (e : H a = some (.tup xs)) : TyOf K H (.ref a) (.type "tuple")
  | dK {a : Addr} {kvs : List (Key × V)} (e : H a = some (.dK kvs)) : TyOf K H (.ref a) (.type "dict")
  | dT {a : Addr} {kvs : List (List Key × V)} (e : H a = some (.dT kvs)) : TyOf K H (.ref a) (.type "dict")
  | ins {a C dx : Addr} {fs : List (Str × V)} (e : H a = some (.ins C dx fs)) (cl : Cls K C) (ha : PySem.W.findIn K (.ref C) "__class__" = some (some (.builtin "object.__class__")))
      (hn : PySem.W.specialIn K (.builtin "object.__class__") "__get__" = some (some (.builtin "getset_descriptor.__get__"))) (htk : PySem.W.takesIn K (.builtin "object.__class__") = some true)
      (hm : PySem.W.mroIn K C (.type "object") = some true) : TyOf K H (.ref a) (.ref C)
/-- isinstance(x, c) for one class c, a built-in or an own one: kitOne's answer -/
theorem isinst_ok {x : V} {u t : Value} (I : Inv X pins σ H s) (rx : RelV x u) (ty : TyOf X.K H x t) (e : PySem.W.kitOne X.K t c = some b) (h : ∀ tk, Q (.bool b) { s with toks := tk }) :
    wpAny (model X.prog X.w) A (call (.builtin "isinstance") [u, c]) Q E s := by
  cases ty with
  | non => cases (show u = Value.none from rx); exact PySem.W.kia_one PySem.W.kitx_none I.kIn True.intro e (fun z => nomatch z) h
  | bl y => cases (show u = Value.bool y from rx); exact PySem.W.kia_one PySem.W.kitx_bool I.kIn True.intro e (fun z => nomatch z) h
  | int i => obtain ⟨t, q⟩ := (show ∃ t, u = Value.int i t from rx); cases q; exact PySem.W.kia_one PySem.W.kitx_int I.kIn True.intro e (fun z => nomatch z) h
  | str y => obtain ⟨t, q⟩ := (show ∃ t, u = Value.str y t from rx); cases q; exact PySem.W.kia_one PySem.W.kitx_str I.kIn True.intro e (fun z => nomatch z) h
  | flt y => obtain ⟨t, q⟩ := (show ∃ t, u = Value.float y t from rx); cases q; exact PySem.W.kia_one PySem.W.kitx_float I.kIn True.intro e (fun z => nomatch z) h
  | @lst a xs ea =>
    cases (show u = Value.ref a from rx)
    obtain ⟨_, _, n, _, h1⟩ := (show ObjOk X.prog X.w H s.heap a (.lst xs) from I.hok a _ ea)
    exact PySem.W.kia_one PySem.W.kitx_list I.kIn ⟨_, h1, rfl⟩ e (fun z => nomatch z) h
  | @frz a ob xs ea =>
    cases (show u = Value.ref a from rx)
    obtain ⟨_, _, _, n, _, h1⟩ := (show ObjOk X.prog X.w H s.heap a (.frz ob (.lst xs)) from I.hok a _ ea)
    exact PySem.W.kia_one PySem.W.kitx_list I.kIn ⟨_, h1, rfl⟩ e (fun z => nomatch z) h
  | @tup a xs ea =>
    cases (show u = Value.ref a from rx)
    obtain ⟨_, _, _, p⟩ := (show ObjOk X.prog X.w H s.heap a (.tup xs) from I.hok a _ ea)
    obtain ⟨o, h1, h2, _⟩ := p
    exact PySem.W.kia_one PySem.W.kitx_tuple I.kIn ⟨o, h1, h2⟩ e (fun z => nomatch z) h
  | @dK a kvs ea =>
    cases (show u = Value.ref a from rx)
    obtain ⟨_, _, vs, _, p⟩ := (show ObjOk X.prog X.w H s.heap a (.dK kvs) from I.hok a _ ea)
    obtain ⟨o, es, ep, h1, h2, _⟩ := p
    exact PySem.W.kia_one PySem.W.kitx_dict I.kIn ⟨o, h1, h2.1⟩ e (fun z => nomatch z) h
  | @dT a kvs ea =>
    cases (show u = Value.ref a from rx)
    obtain ⟨_, _, xs, _, o, es, ep, h1, h2, _⟩ := (show ObjOk X.prog X.w H s.heap a (.dT kvs) from I.hok a _ ea)
    exact PySem.W.kia_one PySem.W.kitx_dict I.kIn ⟨o, h1, h2.1⟩ e (fun z => nomatch z) h
  | @ins a C dx fs ea cl ha hn htk hm =>
    cases (show u = Value.ref a from rx)
    obtain ⟨mA, O, _⟩ := ins_get I.hok ea
    obtain ⟨od, J, _⟩ := O.look
    exact PySem.W.kia_one (PySem.W.kitx_own (cl.get _) cl.hd ha hn htk hm) I.kIn J e (fun z => nomatch z) h
end
end L2

namespace L2
open PySem PySem.Spec PyProof.Rows

/-! ### room -/
structure Room (k : Nat) (A : Around) : Prop where
  hd : A.handled = none
  dp : A.depth + 3 * k + 5 < recursionLimit
  un : A.units + 16 * k + 200 < cLine
theorem Room.mono {j k : Nat} {A : Around} (r : Room k A) (h : j ≤ k) : Room j A := ⟨r.hd, by have := r.dp; omega, by have := r.un; omega⟩
theorem Room.deeper {k : Nat} {A : Around} (r : Room (k + 1) A) (env : Env) : Room k (A.deeper env) :=
  ⟨r.hd, by have := r.dp; show A.depth + 1 + 3 * k + 5 < _; omega, by have := r.un; show A.units + 3 + 16 * k + 200 < _; omega⟩
theorem Room.in1 {k : Nat} {A : Around} (r : Room (k + 1) A) : Room k A.in1 :=
  ⟨r.hd, by have := r.dp; show A.depth + 3 * k + 5 < _; omega, by have := r.un; show A.units + 1 + 16 * k + 200 < _; omega⟩
theorem make_depth {A : Around} {C : Addr} {us : List Value} {kw : List (Str × Value)} : (A.under (.builtin "type.__call__" ⟨.ref C :: us, kw⟩)).depth = A.depth + 1 := by
  first | rfl | simp [Around.under, Code.weight, Code.isCreation, Code.isGuard, Code.isCaller, Code.frames, Code.isFrame, guardIds]
theorem make_units {A : Around} {C : Addr} {us : List Value} {kw : List (Str × Value)} : (A.under (.builtin "type.__call__" ⟨.ref C :: us, kw⟩)).units = A.units + 1 := by
  first | rfl | simp [Around.under, Code.cUnits, Code.frames, Code.isFrame]
theorem Room.make {k : Nat} {A : Around} (r : Room (k + 1) A) (C : Addr) (us : List Value) (kw : List (Str × Value)) : Room k (A.under (.builtin "type.__call__" ⟨.ref C :: us, kw⟩)) :=
  ⟨r.hd, by have := r.dp; rw [make_depth]; omega, by have := r.un; rw [make_units]; omega⟩
theorem Room.depth {k : Nat} {A : Around} (r : Room k A) : A.depth < recursionLimit := by have := r.dp; omega
theorem Room.units {k : Nat} {A : Around} (r : Room k A) : A.units + 64 < cLine := by have := r.un; omega
theorem Room.units0 {k : Nat} {A : Around} (r : Room k A) : A.units < cLine := by have := r.un; omega

/-! ### argument lists and displays -/
def tNil : TA := fun _ H Q => Q [] H
def tCons (ta : TE) (tr : TA) : TA := fun σ H Q => ta σ H fun x H1 => tr σ H1 fun xs H2 => Q (x :: xs) H2
section
variable {X : Cx} {e : Expr} {es : List Expr} {te : TE} {t : TA} {pos : Pos}
theorem pa_nil : PA X [] tNil := fun _ _ _ _ H Q I h => Calls.spliced_nil ⟨[], H, I, .nil, h⟩
theorem pa_cons (ha : PE X e te) (hr : PA X es t) (hs : starEach (e :: es) X.env = (false, eval e X.env) :: starEach es X.env := by rfl) : PA X (e :: es) (tCons te t) := by
  intro pos pins s σ H Q I h
  rw [hs]
  show wpAny _ _ (spliced ((false, eval e X.env) :: backTo pos (starEach es X.env))) _ _ s
  refine Calls.spliced_cons (thn (ha pins s σ H _ I h) fun u s1 ⟨x, H1, I1, r1, q1⟩ => ?_)
  exact thn (hr pos pins s1 σ H1 _ I1 q1) fun us s2 ⟨xs, H2, I2, r2, q2⟩ => ⟨x :: xs, H2, I2, .cons r1 r2, q2⟩

/-- a tuple, a list of written items -/
def tTup (t : TA) : TE := fun σ H Q => t σ H fun xs H1 => xs.length ≤ sizeLine ∧ ∀ p, H1 p = none → Q (.ref p) (upd H1 p (.tup xs))
def tLst (t : TA) : TE := fun σ H Q => t σ H fun xs H1 => xs.length ≤ sizeLine ∧ ∀ p, H1 p = none → Q (.ref p) (upd H1 p (.lst xs))
theorem pe_tup {x1} (h : PA X es t) : PE X (.Tuple es x1 pos) (tTup t) := by
  intro pins s σ H Q I hq
  refine wpAny_Tuple_spliced (thn (h pos pins s σ H _ I hq) fun us s1 ⟨xs, H1, I1, r, z, q⟩ => ⟨by rw [← r.length]; exact z, ?_⟩)
  have hf : H1 s1.heap.objs.size = none := I1.hok.fresh (Nat.le_refl _)
  refine ⟨.ref s1.heap.objs.size, upd H1 s1.heap.objs.size (.tup xs), I1.laid (t' := s1.toks) (fun b u e => Heap.get?_push_of_some _ e) (Nat.le_refl _) ?_, rfl, q _ hf⟩
  exact ⟨z, us, r, ⟨_, Heap.get?_push_size _ rfl, rfl, _, rfl⟩⟩
theorem pe_lst (h : PA X es t) : PE X (.List es pos) (tLst t) := by
  intro pins s σ H Q I hq
  refine wpAny_List_spliced (thn (h pos pins s σ H _ I hq) fun us s1 ⟨xs, H1, I1, r, z, q⟩ => ⟨by rw [← r.length]; exact z, ?_⟩)
  have hf : H1 s1.heap.objs.size = none := I1.hok.fresh (Nat.le_refl _)
  refine ⟨.ref s1.heap.objs.size, upd H1 s1.heap.objs.size (.lst xs), I1.laid (t' := s1.toks) (fun b u e => Heap.get?_push_of_some _ e) (Nat.le_refl _) ?_, rfl, q _ hf⟩
  exact ⟨z, us, 0, r, Heap.get?_push_size _ rfl⟩
end

/-! ### what a def promises -/
/-- a def's promise: the bound arguments in the parameters' order, the heap, the wanted end, the wanted exception -/
abbrev Sp := List V → Hp → VK → XK → Prop
/-- how an exception lies behind a call (file 08 gives it): the callers' frames, abstract heap and state ahead of the call, the wish, the exception, the state -/
abbrev CXT := List Env → Hp → Shared → XK → Value → Shared → Prop

/-- the state at a call -/
structure Env0 (P : Program) (w : World) (K : PySem.W.Frag) (mg : Str → Option Value) (base : Heap) (A : Around) (outer : List Env) (s : Shared) (H : Hp) : Prop where
  frames : A.frames = some outer
  mod : Mod K mg base
  bs : ∀ b o, base.get? b = some o → s.heap.get? b = some o ∧ H b = none
  bsz : base.objs.size ≤ s.heap.objs.size
  funs : s.heap.FunFrames base outer
  frf : ∀ b ∈ frs outer, H b = none
  hok : HOk P w H s.heap
  bare : AllBare s.gens
/-- a call's end -/
def CE (outer : List Env) (P : Program) (w : World) (H : Hp) (s : Shared) (Q : VK) (u : Value) (s' : Shared) : Prop :=
  ∃ v H', s'.os = s.os ∧ AllBare s'.gens ∧ Un (frs outer) [] H H' s.heap s'.heap ∧ HOk P w H' s'.heap ∧ RelV v u ∧ Q v H'
def CR (CX : CXT) (outer : List Env) (P : Program) (w : World) (H : Hp) (s : Shared) (Q : VK) (E : XK) (r : Result) (s' : Shared) : Prop :=
  match r with
  | .ok (.ret u) => CE outer P w H s Q u s'
  | .ok _ => False
  | .error e => CX outer H s E e s'
structure FnOk (P : Program) (w : World) (K : PySem.W.Frag) (mg : Str → Option Value) (base : Heap) (CX : CXT) (k : Nat) (f : Addr) (fd : FuncData) (ps : List Str) (sp : Sp) : Prop where
  len : ∀ vs H Q E, sp vs H Q E → vs.length = ps.length
  run : ∀ (A : Around) (outer : List Env) (s : Shared) (H : Hp) (args : Args) (us : List Value) (vs : List V) (Q : VK) (E : XK), Room k A → Env0 P w K mg base A outer s H → BindsTo s fd args (ps.zip us) → Vals vs us → sp vs H Q E →
    codeAny (model P w) A (.call (.ref f) args) (CR CX outer P w H s Q E) s
theorem FnOk.mono {P : Program} {w : World} {K : PySem.W.Frag} {mg : Str → Option Value} {base : Heap} {CX : CXT} {j k : Nat} {f : Addr} {fd : FuncData} {ps : List Str} {sp : Sp} (F : FnOk P w K mg base CX j f fd ps sp) (h : j ≤ k) :
    FnOk P w K mg base CX k f fd ps sp := ⟨F.len, fun A outer s H args us vs Q E hr => F.run A outer s H args us vs Q E (hr.mono h)⟩
/-- a weaker promise -/
theorem FnOk.imp {P : Program} {w : World} {K : PySem.W.Frag} {mg : Str → Option Value} {base : Heap} {CX : CXT} {k : Nat} {f : Addr} {fd : FuncData} {ps : List Str} {sp sp' : Sp} (F : FnOk P w K mg base CX k f fd ps sp)
    (h : ∀ vs H Q E, sp' vs H Q E → sp vs H Q E) : FnOk P w K mg base CX k f fd ps sp' :=
  ⟨fun vs H Q E q => F.len vs H Q E (h _ _ _ _ q), fun A outer s H args us vs Q E hr he hb hv hs => F.run A outer s H args us vs Q E hr he hb hv (h _ _ _ _ hs)⟩

theorem Env0.make {P : Program} {w : World} {K : PySem.W.Frag} {mg : Str → Option Value} {base : Heap} {A : Around} {outer : List Env} {s : Shared} {H : Hp} (e : Env0 P w K mg base A outer s H) (C : Addr) (us : List Value) (kw : List (Str × Value)) :
    Env0 P w K mg base (A.under (.builtin "type.__call__" ⟨.ref C :: us, kw⟩)) outer s H := ⟨by first | exact e.frames | (simpa [Around.under, Code.envs, Code.isFrame, pushEnvs] using e.frames), e.mod, e.bs, e.bsz, e.funs, e.frf, e.hok, e.bare⟩
theorem Env0.in1 {P : Program} {w : World} {K : PySem.W.Frag} {mg : Str → Option Value} {base : Heap} {A : Around} {outer : List Env} {s : Shared} {H : Hp} (e : Env0 P w K mg base A outer s H) :
    Env0 P w K mg base A.in1 outer s H := ⟨e.frames, e.mod, e.bs, e.bsz, e.funs, e.frf, e.hok, e.bare⟩

section
variable {X : Cx} {pins : List (Addr × Obj)} {σ : St} {H : Hp} {s s' : Shared}
/-- from a body: what a callee wants -/
theorem Inv.env0 (I : Inv X pins σ H s) : Env0 X.prog X.w X.K X.mg X.base X.A X.stack s H :=
  ⟨I.ok.frames, I.ok.mod, I.bs, Nat.le_trans I.ok.bsz I.sz, I.stack, I.stkFree, I.hok, I.bare⟩
/-- behind a call -/
theorem Inv.after {Q : VK} {u : Value} (I : Inv X pins σ H s) (h : CE X.stack X.prog X.w H s Q u s') : EP X pins σ Q u s' := by
  obtain ⟨v, H', os, bare, un, hok, r, q⟩ := h
  obtain ⟨hh, g, d, t, os'⟩ := s'
  obtain rfl : os' = s.os := os
  exact ⟨v, H', I.call (h' := hh) (g' := g) (d' := d) (t' := t) (ch := []) un hok bare (fun b z => absurd z (by simp)), r, q⟩
end

/-! ### calls -/
/-- f(..): the written arguments, then the defaults dvs; E: what is wanted of an exception -/
def tCall (sp : Sp) (dvs : List V) (E : XK) (t : TA) : TE := fun σ H Q => t σ H fun vs H1 => sp (vs ++ dvs) H1 Q E
/-- o.m(..) of an instance of the class at C -/
def tMeth (C : Addr) (m : Str) (sp : Sp) (dvs : List V) (E : XK) (ta : TE) (t : TA) : TE := fun σ H Q => ta σ H fun x H1 => ∃ a dx fs, x = .ref a ∧ H1 a = some (.ins C dx fs) ∧ fs.lookup m = none ∧
  t σ H1 fun vs H2 => sp (x :: (vs ++ dvs)) H2 Q E
/-- C(..): a new instance and its dict, then __init__ -/
def tMake (C : Addr) (sp : Sp) (dvs : List V) (E : XK) (t : TA) : TE := fun σ H Q => t σ H fun vs H1 => ∀ x dx, H1 x = none → H1 dx = none → dx ≠ x →
  sp (.ref x :: (vs ++ dvs)) (upd (upd H1 dx (.own x)) x (.ins C dx [])) (fun v H2 => v = .non ∧ Q (.ref x) H2) E

/-- how the parameters are bound: us the positional arguments, kw the keywords' values by name, ds the defaults that fill up -/
def Binds (K : PySem.W.Frag) (fd : FuncData) (ps : List Str) (ds : List Value) : Prop :=
  ∀ (s : Shared) (us : List Value), K.In s.heap → (us ++ ds).length = ps.length → BindsTo s fd ⟨us, []⟩ (ps.zip (us ++ ds))
/-- every parameter is given -/
theorem Binds.all {K : PySem.W.Frag} {fd : FuncData} {ps : List Str} (h : ∀ us : List Value, us.length = ps.length → bindArgs fd ⟨us, []⟩ = pure (ps.zip us)) : Binds K fd ps [] := fun s us _ hl => by
  rw [List.append_nil] at hl ⊢
  exact .of_eq (h us hl)

/-- an exception of a callee reaches what this body wants of exceptions -/
def Passes (CX : CXT) (X : Cx) (E : XK) : Prop := ∀ (pins : List (Addr × Obj)) (σ : St) (H : Hp) (s : Shared) (e : Value) (s' : Shared), Inv X pins σ H s → CX X.stack H s E e s' → X.xe e s'

section
variable {X : Cx} {CX : CXT} {k : Nat} {f C : Addr} {fd : FuncData} {ps : List Str} {sp : Sp} {dvs : List V} {ds : List Value} {E : XK} {x m : Str} {p pos apos : Pos} {e o : Expr} {es : List Expr} {ta : TE} {t : TA}

/-- the callee runs -/
theorem run_fn {pins : List (Addr × Obj)} {σ : St} {H : Hp} {s : Shared} {Q : VK} {us : List Value} {vs : List V} (F : FnOk X.prog X.w X.K X.mg X.base CX k f fd ps sp) (hr : Room k X.A) (hb : Binds X.K fd ps ds) (hd : Vals dvs ds) (hx : Passes CX X E)
    (I : Inv X pins σ H s) (r : Vals vs us) (h : sp (vs ++ dvs) H Q E) : wpAny (model X.prog X.w) X.A (call (.ref f) us) (EP X pins σ Q) X.xe s := by
  have r2 : Vals (vs ++ dvs) (us ++ ds) := r.append hd
  have hl : (us ++ ds).length = ps.length := by rw [← r2.length]; exact F.len _ _ _ _ h
  refine wpAny_call (codeAny_mono (F.run X.A X.stack s H ⟨us, []⟩ (us ++ ds) (vs ++ dvs) Q E hr I.env0 (hb s us I.kIn hl) r2 h) fun r s' hq => ?_)
  cases r with
  | error e => exact hx pins σ H s e s' I hq
  | ok fl =>
    cases fl with
    | ret u => exact I.after hq
    | next => exact False.elim hq
    | brk => exact False.elim hq
    | cont => exact False.elim hq

theorem pe_call (F : FnOk X.prog X.w X.K X.mg X.base CX k f fd ps sp) (hr : Room k X.A) (hg : Gl X x) (hm : X.mg x = some (.ref f)) (hk : PySem.W.keepIn X.K (.ref f) = true) (hb : Binds X.K fd ps ds) (hd : Vals dvs ds) (hx : Passes CX X E)
    (ha : PA X (e :: es) t) (hdb : (x == ("__debug__" : Str)) = false := by decide) (he : starEach (e :: es) X.env = (false, eval e X.env) :: starEach es X.env := by rfl) (hpl : (backTo pos (starEach es X.env)).any (·.1) = false := by rfl) :
    PE X (.Call (.Name x p) (e :: es) [] pos) (tCall sp dvs E t) := by
  intro pins s σ H Q I h
  refine wpAny_Call_Name_kw (ld_glob I hg hm ?_ hdb)
  refine PySem.W.callWith_K (h₀ := X.base) I.ok.mod.kin hk (thn (ha pos pins s σ H _ I h) fun us s1 ⟨vs, H1, I1, r, q⟩ => ⟨I1.kIn, ?_⟩) he hpl
  exact run_fn F hr hb hd hx I1 r q
/-- what a class must have to be made -/
structure Mk (K : PySem.W.Frag) (C f : Addr) : Prop where
  makes : PySem.W.makesIn K C = true
  init : PySem.W.findIn K (.ref C) "__init__" = some (some (.ref f))
  fn : PySem.W.isFn K (.ref f) = true
  kp : PySem.W.keepIn K (.ref C) = true

end

/-! ### keywords -/
/-- the values of the keywords, from the left -/
def PK (X : Cx) (kws : List Keyword) (t : TA) : Prop :=
  ∀ (pos : Pos) (pins : List (Addr × Obj)) (s : Shared) (σ : St) (H : Hp) (Q : List V → Hp → Prop), Inv X pins σ H s → t σ H Q → wpAny (model X.prog X.w) X.A (evalAll ((backToKw pos (keywordEach kws X.env)).map (·.2))) (AP X pins σ Q) X.xe s
section
variable {X : Cx} {CX : CXT} {k : Nat} {f C : Addr} {fd : FuncData} {ps ks : List Str} {sp : Sp} {E : XK} {x m : Str} {p pos apos kpos : Pos} {e o : Expr} {es : List Expr} {kws : List Keyword} {te ta : TE} {t tk : TA} {nm : Option Str}
/-- how a call with keywords binds: g puts the positional values us and the keywords' values ws (names ks) in the parameters' order, defaults among them -/
structure KBinds (K : PySem.W.Frag) (fd : FuncData) (ps ks : List Str) (g : List Value → List Value → List Value) (gV : List V → List V → List V) : Prop where
  to : ∀ (s : Shared) (us ws : List Value), K.In s.heap → (g us ws).length = ps.length → BindsTo s fd ⟨us, ks.zip ws⟩ (ps.zip (g us ws))
  rel : ∀ {vs : List V} {us : List Value} {zs : List V} {ws : List Value}, Vals vs us → Vals zs ws → Vals (gV vs zs) (g us ws)
def tCallK (sp : Sp) (gV : List V → List V → List V) (E : XK) (t tk : TA) : TE := fun σ H Q => t σ H fun vs H1 => tk σ H1 fun zs H2 => sp (gV vs zs) H2 Q E
variable {g : List Value → List Value → List Value} {gV : List V → List V → List V}
end

/-! ### a def's body keeps its promise -/
/-- names: the parameters first -/
structure FnScope (N P : List Str) (sc : Scope) : Prop where
  kind : sc.kind = .function
  co : sc.isCoroutine = false
  gen : sc.isGenerator = false
  nd : N.Nodup
  pre : N.take P.length = P
  par : ∀ x ∈ P, sc.names.lookup x = some .local ∨ sc.names.lookup x = some .cell
  nofree : ∀ y ∈ sc.names, y.2 ≠ .free

theorem bindL_out {kindOf : Str → Option NameKind} {x : Str} : ∀ {binds : List (Str × Value)} {m : Str → Option Value}, (∀ v, (x, v) ∉ binds) → bindL kindOf binds m x = m x
  | [], _, _ => rfl
  | (n, v) :: r, m, h => by
    unfold bindL
    rw [bindL_out fun w hw => h w (List.mem_cons_of_mem _ hw)]
    split
    · have : x ≠ n := by rintro rfl; exact h v List.mem_cons_self
      simp [this]
    · rfl
theorem bindC_out {kindOf : Str → Option NameKind} {x : Str} : ∀ {binds : List (Str × Value)} {m : Str → Option Value}, (∀ v, (x, v) ∉ binds) → bindC kindOf binds m x = m x
  | [], _, _ => rfl
  | (n, v) :: r, m, h => by
    unfold bindC
    rw [bindC_out fun w hw => h w (List.mem_cons_of_mem _ hw)]
    split
    · rfl
    · have : x ≠ n := by rintro rfl; exact h v List.mem_cons_self
      simp [this]
theorem bindL_get {kindOf : Str → Option NameKind} {x : Str} {v : Value} : ∀ {P : List Str} {vs : List Value} {i : Nat} {m : Str → Option Value}, P.Nodup → P[i]? = some x → vs[i]? = some v → kindOf x = some .local →
    bindL kindOf (P.zip vs) m x = some v
  | [], _, _, _, _, h, _, _ => by simp at h
  | _ :: _, [], _, _, _, _, h, _ => by simp at h
  | p :: P, w :: vs, 0, m, nd, h1, h2, hk => by
    simp at h1 h2; subst h1; subst h2
    show bindL kindOf ((p, w) :: P.zip vs) m p = _
    unfold bindL
    rw [bindL_out fun v hv => (List.nodup_cons.mp nd).1 (List.of_mem_zip hv).1, if_pos hk]
    simp
  | p :: P, w :: vs, i + 1, m, nd, h1, h2, hk => by
    show bindL kindOf ((p, w) :: P.zip vs) m x = _
    unfold bindL
    exact bindL_get (i := i) (List.nodup_cons.mp nd).2 (by simpa using h1) (by simpa using h2) hk
theorem bindC_get {kindOf : Str → Option NameKind} {x : Str} {v : Value} : ∀ {P : List Str} {vs : List Value} {i : Nat} {m : Str → Option Value}, P.Nodup → P[i]? = some x → vs[i]? = some v → kindOf x ≠ some .local →
    bindC kindOf (P.zip vs) m x = some v
  | [], _, _, _, _, h, _, _ => by simp at h
  | _ :: _, [], _, _, _, _, h, _ => by simp at h
  | p :: P, w :: vs, 0, m, nd, h1, h2, hk => by
    simp at h1 h2; subst h1; subst h2
    show bindC kindOf ((p, w) :: P.zip vs) m p = _
    unfold bindC
    rw [bindC_out fun v hv => (List.nodup_cons.mp nd).1 (List.of_mem_zip hv).1, if_neg hk]
    simp
  | p :: P, w :: vs, i + 1, m, nd, h1, h2, hk => by
    show bindC kindOf ((p, w) :: P.zip vs) m x = _
    unfold bindC
    exact bindC_get (i := i) (List.nodup_cons.mp nd).2 (by simpa using h1) (by simpa using h2) hk

/-- the names' values at the entry -/
def start (N : List Str) (vs : List V) : St := vs.map some ++ List.replicate (N.length - vs.length) none

/-- the context of a def's body, at its entry; an exception leaves the frame, then lies as CX says -/
def cxOf (CX : CXT) (P : Program) (w : World) (K : PySem.W.Frag) (mg : Str → Option Value) (base : Heap) (N : List Str) (qual : Str) (scope : Scope) (f : Addr) (cd : Value) (A : Around) (outer : List Env) (s : Shared) (H : Hp) (E : XK) : Cx where
  prog := P
  w := w
  K := K
  mg := mg
  base := base
  A := A.deeper (envOfC qual scope s.heap.objs.size f cd)
  N := N
  s₀ := s
  H₀ := H
  env := envOfC qual scope s.heap.objs.size f cd
  outer := outer
  stack := envOfC qual scope s.heap.objs.size f cd :: outer
  ex := []
  calm := true
  fn := fun _ => true
  pn := []
  xe := fun e s' => wpAny (model P w) (A.deeper (envOfC qual scope s.heap.objs.size f cd)) (leaving (envOfC qual scope s.heap.objs.size f cd) e) (fun _ s'' => CX outer H s E e s'') (fun e' s'' => CX outer H s E e' s'') s'

theorem cell_has {sc : Scope} {n : Nat} {x : Str} (h : sc.names.lookup x = some .cell) : ∃ c, (cellsFrom n sc.names []).lookup x = some c := by
  have q := PySem.W.cellsFrom_some sc.names n [] (.inl h)
  exact Option.isSome_iff_exists.mp q

theorem inv_start {CX : CXT} {P : Program} {w : World} {K : PySem.W.Frag} {mg : Str → Option Value} {base : Heap} {N ps : List Str} {qual : Str} {scope : Scope} {f : Addr} {cd : Value} {A : Around} {outer : List Env} {s s1 : Shared} {H : Hp} {E : XK} {us : List Value} {vs : List V}
    (S : FnScope N ps scope) (hd : A.handled = none) (e0 : Env0 P w K mg base A outer s H) (hl : vs.length = ps.length) (r : Vals vs us)
    (x : InCallC s s.heap.objs.size (bindL (envOfC qual scope s.heap.objs.size f cd).kindOf (ps.zip us) fun _ => none) (cellsFrom (s.heap.objs.size + 1) scope.names []) (bindC (envOfC qual scope s.heap.objs.size f cd).kindOf (ps.zip us) fun _ => none) s1) :
    Inv (cxOf CX P w K mg base N qual scope f cd A outer s H E) [] (start N vs) H s1 := by
  have hpl : ps.length ≤ N.length := by have := congrArg List.length S.pre; rw [List.length_take] at this; omega
  obtain ⟨h1, tk, rfl, hk⟩ := x.done
  have noA : ∀ b : Addr, b ∉ (cxOf CX P w K mg base N qual scope f cd A outer s H E).ex := fun b z => absurd (show b ∈ ([] : List Addr) from z) (by simp)
  refine ⟨⟨e0.mod, S.kind, rfl, rfl, Nat.le_refl _, fun y z c h1 h2 => ?_, fun y hy => ?_, fun y c _ h => ?_, fun _ => hd, Around.frames_deeper e0.frames, .inr ⟨rfl, rfl⟩, fun b z => absurd z (noA b), e0.bs, e0.bsz, fun b _ _ => noA b, fun b z => absurd z (noA b), e0.funs, e0.frf⟩,
    rfl, e0.bare, Un.kept hk, ⟨_, x.toInCall.ns, fun i y v h1 h2 h3 => ?_⟩, fun y c h => ⟨_, x.cell y c h⟩, e0.hok.fresh (Nat.le_refl _), fun y c h => ?_, fun p hp => absurd (show p ∈ ([] : List (Addr × Obj)) from hp) (by simp), e0.hok.kept hk, ?_⟩
  · exact name_of_addr x.apart (PySem.mem_of_lookup h1) (PySem.mem_of_lookup h2)
  · have hy : scope.names.lookup y = some .cell ∨ scope.names.lookup y = some .free := hy
    rcases hy with hy | hy
    · exact cell_has hy
    · exact absurd rfl (S.nofree _ (PySem.mem_of_lookup hy))
  · exact Nat.le_of_lt (x.above y c (PySem.mem_of_lookup h))
  · have hi : i < vs.length := by
      unfold start at h2
      by_cases hi : i < vs.length
      · exact hi
      · rw [List.getElem?_append_right (by simpa using hi)] at h2
        rw [List.getElem?_replicate] at h2
        split at h2 <;> cases h2
    have ha : vs[i]? = some v := by
      unfold start at h2
      rw [List.getElem?_append_left (by simpa using hi), List.getElem?_map] at h2
      cases e : vs[i]? with
      | none => rw [e] at h2; cases h2
      | some a => rw [e] at h2; cases h2; rfl
    obtain ⟨u, hu, rv⟩ := r.get ha
    have hp : ps[i]? = some y := by
      rw [← S.pre, List.getElem?_take_of_lt (by omega)]; exact h1
    have ndP : ps.Nodup := by rw [← S.pre]; exact S.nd.sublist (List.take_sublist _ _)
    refine ⟨u, rv, ?_⟩
    rcases S.par y (List.mem_of_getElem? hp) with k | k
    · exact .inl ⟨k, bindL_get ndP hp hu k⟩
    · obtain ⟨c, e⟩ := cell_has (n := s.heap.objs.size + 1) k
      refine .inr ⟨.inl k, c, e, ?_⟩
      have q := x.cell y c e
      rw [bindC_get ndP hp hu (by show scope.names.lookup y ≠ _; rw [k]; decide)] at q
      exact q
  · exact e0.hok.fresh (Nat.le_of_lt (x.above y c (PySem.mem_of_lookup h)))
  · unfold start
    show _ = N.length
    rw [List.length_append, List.length_map, List.length_replicate]
    omega

/-- THE RULE: a def (or a method) of the text, by its body. The body's reading t is chosen for each entry; it is run at the parameters' values -/
theorem fn_of {CX : CXT} {P : Program} {w : World} {K : PySem.W.Frag} {mg : Str → Option Value} {base : Heap} {k : Nat} {f : Addr} {name qual : Str} {params : Arguments} {body : List Stmt} {scope : Scope} {dV kV doc pm cdv ct oc : Value} {an od : Option Addr}
    {osl : Array (Option Value)} {N ps : List Str} {sp : Sp} (lk : K.lookup f = some ⟨oc, od, .func (PySem.W.fnOf name qual params body scope dV kV doc pm an cdv ct), osl⟩) (hcd : PySem.W.codeIn K cdv qual = true) (S : FnScope N ps scope)
    (len : ∀ vs H Q E, sp vs H Q E → vs.length = ps.length)
    (hbody : ∀ (A : Around) (outer : List Env) (s : Shared) (H : Hp) (vs : List V) (Q : VK) (E : XK), Room k (A.deeper (envOfC qual scope s.heap.objs.size f cdv)) → sp vs H Q E →
      ∃ t, PSs (cxOf CX P w K mg base N qual scope f cdv A outer s H E) body t ∧ t { nx := fun _ H' => Q .non H', rt := Q } (start N vs) H) :
    FnOk P w K mg base CX (k + 1) f (PySem.W.fnOf name qual params body scope dV kV doc pm an cdv ct) ps sp := by
  refine ⟨len, fun A outer s H args us vs Q E hr e0 hb r hsp => ?_⟩
  have hl := len _ _ _ _ hsp
  have KX : K.In s.heap := e0.mod.kin.keeps fun b o e => (e0.bs b o e).1
  have lim : s.heap.NoLimit := e0.mod.nolimit.keeps fun b o e => (e0.bs b o e).1
  have hkind : ∀ y ∈ ps.zip us, scope.names.lookup y.1 = some .local ∨ (scope.names.lookup y.1 = some .cell ∧ ((cellsFrom (s.heap.objs.size + 1) scope.names []).lookup y.1).isSome = true) := fun ⟨n, v⟩ hy => by
    rcases S.par n (List.of_mem_zip hy).1 with q | q
    · exact .inl q
    · exact .inr ⟨q, PySem.W.cellsFrom_some _ _ _ (.inl q)⟩
  refine codeAny_call_function hr.depth (KX _ _ lk) rfl S.co S.gen rfl (PySem.W.codeRec_of KX hcd) (hb _ _ _ _ ?_)
  refine wpAny_newFunctionEnv_cells S.kind hkind fun env he s1 x => ?_
  subst he
  refine ⟨lim.keeps x.toInCall.keep, codeAny_func ?_⟩
  obtain ⟨t, ht, hq⟩ := hbody A outer s H vs Q E (hr.deeper _) hsp
  have I : Inv (cxOf CX P w K mg base N qual scope f cdv A outer s H E) [] (start N vs) H s1 := inv_start S hr.hd e0 hl r x
  refine wpAny_mono (ht [] s1 (start N vs) H _ I hq) (fun fl s' hs => ?_) fun e s' hs => hs
  have fin : ∀ {σ' : St} {H' : Hp} {v : V} {u : Value}, Inv (cxOf CX P w K mg base N qual scope f cdv A outer s H E) [] σ' H' s' → RelV v u → Q v H' → CE outer P w H s Q u s' :=
    fun {σ' H' v u} J rv q => ⟨v, H', J.os, J.bare, J.base, J.hok, rv, q⟩
  cases fl with
  | ret u =>
    obtain ⟨v, σ', H', J, rv, q⟩ := hs
    exact fin J rv q
  | next =>
    obtain ⟨σ', H', J, q⟩ := hs
    exact fin (v := V.non) (u := Value.none) J rfl q
  | brk =>
    obtain ⟨_, _, _, q⟩ := hs
    exact False.elim q
  | cont =>
    obtain ⟨_, _, _, q⟩ := hs
    exact False.elim q
end L2

namespace L2
open PySem PySem.Spec PyProof.Rows
section
variable {X : Cx} {x : Str} {p pos : Pos} {e : Expr} {es : List Expr} {t : TA} {id T : String} {r : List V → Hp → VK → Prop}

def tCB (r : List V → Hp → VK → Prop) (t : TA) : TE := fun σ H Q => t σ H fun vs H1 => r vs H1 Q
/-- f(e, ..), f a built-in function -/
theorem pe_callB (hc : CallR X (.builtin id) r) (hg : Gl X x) (hm : X.mg x = none) (hv : bootBuiltins x = some (.builtin id)) (ha : PA X (e :: es) t) (hn : x ≠ "__name__" := by decide) (hdb : (x == ("__debug__" : Str)) = false := by decide)
    (he : starEach (e :: es) X.env = (false, eval e X.env) :: starEach es X.env := by rfl) (hpl : (backTo pos (starEach es X.env)).any (·.1) = false := by rfl) : PE X (.Call (.Name x p) (e :: es) [] pos) (tCB r t) := by
  intro pins s σ H Q I h
  refine wpAny_Call_Name_kw (ld_blt I hg hm hv ?_ hn hdb)
  exact PyProof.Rows.callWith_builtin1 (thn (ha pos pins s σ H _ I h) fun us s1 ⟨vs, H1, I1, r1, q1⟩ => hc pins s1 σ H1 vs us Q I1 r1 q1) he hpl
/-- T(e, ..), T a built-in type -/
theorem pe_callTy (hc : CallR X (.type T) r) (hg : Gl X x) (hm : X.mg x = none) (hv : bootBuiltins x = some (.type T)) (ha : PA X (e :: es) t) (hn : x ≠ "__name__" := by decide) (hdb : (x == ("__debug__" : Str)) = false := by decide)
    (he : starEach (e :: es) X.env = (false, eval e X.env) :: starEach es X.env := by rfl) (hpl : (backTo pos (starEach es X.env)).any (·.1) = false := by rfl) : PE X (.Call (.Name x p) (e :: es) [] pos) (tCB r t) := by
  intro pins s σ H Q I h
  refine wpAny_Call_Name_kw (ld_blt I hg hm hv ?_ hn hdb)
  exact PyProof.Rows.callWith_type1 (thn (ha pos pins s σ H _ I h) fun us s1 ⟨vs, H1, I1, r1, q1⟩ => hc pins s1 σ H1 vs us Q I1 r1 q1) he hpl
end
end L2

namespace HT
open PySem PyProof.Rows

/-- t < u of tuples of ints -/
def lexLt : List Int → List Int → Bool
  | [], [] => false
  | [], _ :: _ => true
  | _ :: _, [] => false
  | x :: xs, y :: ys => if x = y then lexLt xs ys else decide (x < y)
section
open PySem.SeqAt
open PySem.AutoSeq1 (wpAny_loadPart')
open PySem.MeetsSeq PySem.MeetsSeq2 PySem.MeetsSeq3

end

section
variable {prog : Program} {w : World} {A : Around} {E : Value → Shared → Prop} {s : Shared}

/-! ### t[a:b], not the whole -/
/-- a slice's bound as a place among n (d where it is left out) -/
def sIx (n d : Nat) : Option Int → Nat
  | none => d
  | some v => if v < 0 then (v + (n : Int)).toNat else min v.toNat n
theorem sIx_nat (n d k : Nat) : sIx n d (some (k : Int)) = min k n := by
  show (if (k : Int) < 0 then ((k : Int) + (n : Int)).toNat else min (k : Int).toNat n) = min k n
  rw [if_neg (by omega), Int.toNat_natCast]
theorem sIx_le (n d : Nat) (hd : d ≤ n) (o : Option Int) : sIx n d o ≤ n := by
  cases o with
  | none => exact hd
  | some v =>
    show (if v < 0 then (v + (n : Int)).toNat else min v.toNat n) ≤ n
    by_cases hv : v < 0
    · rw [if_pos hv]; omega
    · rw [if_neg hv]; exact Nat.min_le_right _ _
theorem clip_eq (v : Int) (n d : Nat) : (if v < 0 then max (v + (n : Int)) 0 else min v (n : Int)) = ((sIx n d (some v) : Nat) : Int) := by
  show (if v < 0 then max (v + (n : Int)) 0 else min v (n : Int)) = (((if v < 0 then (v + (n : Int)).toNat else min v.toNat n) : Nat) : Int)
  by_cases hv : v < 0
  · simp only [if_pos hv]; omega
  · simp only [if_neg hv]; omega
theorem adjust_gen (lo hi : Option Int) (n : Nat) : Builtin.Slice.sliceAdjust lo hi 1 (n : Int) = (((sIx n 0 lo : Nat) : Int), ((sIx n n hi : Nat) : Int)) := by
  have h1 : ¬ ((1 : Int) < 0) := by omega
  unfold Builtin.Slice.sliceAdjust
  simp only [h1, if_false]
  refine Prod.ext ?_ ?_
  · cases lo with
    | none => rfl
    | some v => exact clip_eq v n 0
  · cases hi with
    | none => rfl
    | some v => exact clip_eq v n n
theorem places_gen (i j : Nat) : Builtin.Slice.slicePlaces (i : Int) (j : Int) 1 = j - i := by
  unfold Builtin.Slice.slicePlaces
  have h1 : (1 : Int) > 0 := by omega
  simp only [h1, if_true, Int.ediv_one]
  split <;> omega
theorem slicePart_ {v : Value} {o : Option Int} {Q : Option Int → Shared → Prop} (p : IsPart v o) (h : Q o s) : wpAny (model prog w) A (Builtin.Slice.slicePartIndex v) Q E s := by
  cases p with
  | none => exact slicePart_none h
  | int i t => exact slicePart_int h
theorem sliceApplied_gen {sl : Addr} {vl vu : Value} {lo hi : Option Int} {n : Nat} {Q : Int × Int × Nat → Shared → Prop} (hs : s.heap.IsSliceOf sl vl vu .none) (pl : IsPart vl lo) (pu : IsPart vu hi)
    (h : Q (((sIx n 0 lo : Nat) : Int), 1, sIx n n hi - sIx n 0 lo) s) : wpAny (model prog w) A (Builtin.Slice.sliceApplied (.ref sl) (pure (n : Int))) Q E s := by
  obtain ⟨os, hos, hcs, hds⟩ := id hs
  unfold Builtin.Slice.sliceApplied Builtin.Slice.sliceFields
  refine wpAny_bind (wpAny_bind (wpAny_field hos hds (x := vl) rfl (wpAny_bind (wpAny_field hos hds (x := vu) rfl (wpAny_bind (wpAny_field hos hds (x := .none) rfl (wpAny_pure ?_)))))))
  refine wpAny_bind (slicePart_none ?_)
  show wpAny _ _ (if ((1 : Int) == 0) = true then _ else _) _ _ s
  rw [if_neg (by decide)]
  refine wpAny_bind (slicePart_ pl (wpAny_bind (slicePart_ pu (wpAny_bind (wpAny_pure ?_)))))
  show wpAny _ _ (match Builtin.Slice.sliceAdjust lo hi 1 (n : Int) with | (lo, hi) => pure (lo, (1 : Int), Builtin.Slice.slicePlaces lo hi 1)) _ _ s
  rw [adjust_gen lo hi n]
  show wpAny _ _ (pure (((sIx n 0 lo : Nat) : Int), (1 : Int), Builtin.Slice.slicePlaces ((sIx n 0 lo : Nat) : Int) ((sIx n n hi : Nat) : Int) 1)) _ _ s
  rw [places_gen]
  exact wpAny_pure h
theorem pick_gen (xs : Array Value) (i k : Nat) : ((List.range k).filterMap fun (m : Nat) => xs[((i : Int) + (m : Int) * 1).toNat]?).toArray = ((xs.toList.drop i).take k).toArray := by
  have e : (fun (m : Nat) => xs[((i : Int) + (m : Int) * 1).toNat]?) = fun m => xs[i + m]? := by
    funext m
    have : ((i : Int) + (m : Int) * 1).toNat = i + m := by omega
    rw [this]
  rw [e]
  have := pick_run xs i k
  rw [List.filterMap_map] at this
  have e2 : ((fun x => xs[x]?) ∘ fun x => i + x) = fun m => xs[i + m]? := rfl
  rw [e2] at this
  rw [this]

theorem getItem_tuple_cut {t sl : Addr} {items : Array Value} {vl vu : Value} {lo hi : Option Int} {Q : Value → Shared → Prop} (ht : IsTup s.heap t items) (hs : s.heap.IsSliceOf sl vl vu .none) (pl : IsPart vl lo) (pu : IsPart vu hi)
    (hw : ¬ (sIx items.size 0 lo = 0 ∧ sIx items.size items.size hi = items.size))
    (h : Q (.ref s.heap.objs.size) { s with heap := s.heap.push { cls := .type "tuple", data := .seq ((items.toList.drop (sIx items.size 0 lo)).take (sIx items.size items.size hi - sIx items.size 0 lo)).toArray } })
    (hsz : items.size ≤ sizeLine) : wpAny (model prog w) A (getItem (.ref t) (.ref sl)) Q E s := by
  have htake : sizeOk (.seq ((items.toList.drop (sIx items.size 0 lo)).take (sIx items.size items.size hi - sIx items.size 0 lo)).toArray) := by
    show ((items.toList.drop (sIx items.size 0 lo)).take (sIx items.size items.size hi - sIx items.size 0 lo)).toArray.size ≤ sizeLine
    rw [List.size_toArray, List.length_take, List.length_drop, Array.length_toList]
    omega
  have hj : sIx items.size items.size hi ≤ items.size := sIx_le _ _ (Nat.le_refl _) hi
  obtain ⟨os, hos, hcs, hds⟩ := id hs
  have hTs : s.TypeIs (.ref sl) "slice" := ⟨os, hos, hcs⟩
  unfold getItem
  try with_reducible refine wpAny_holding ?_
  first | refine wpAny_bind (wpAny_pure ?_) | skip
  refine wpAny_bind (wpAny_sequenceKey ht.typeIs (by decide) ?_)
  refine wpAny_bind (wpAny_callSpecial?_slot (name := Str.ofString "__getitem__") ht.typeIs PyProof.Rows.slot_tuple_getitem
    (wpAny_call_entry PyProof.Rows.slot_tuple_getitem ht.typeIs entry_tuple_getitem ?_ (args_tuple_getitem _ _)))
  show wpAny _ _ (Builtin.Tuple.tupleItemsOf (.ref t) >>= _) _ _ s
  refine wpAny_bind (tupleItemsOf_ ht ?_)
  refine wpAny_bind (wpAny_typeOf hTs ?_)
  rw [if_pos (by decide)]
  refine wpAny_bind (sliceApplied_gen hs pl pu ?_)
  have hno : ¬ ((((sIx items.size 0 lo : Nat) : Int) == 0 && (1 : Int) == 1 && (sIx items.size items.size hi - sIx items.size 0 lo) == items.size) = true) := by
    intro q
    rw [Bool.and_eq_true, Bool.and_eq_true] at q
    have q1 : ((sIx items.size 0 lo : Nat) : Int) = 0 := eq_of_beq q.1.1
    have q2 : sIx items.size items.size hi - sIx items.size 0 lo = items.size := eq_of_beq q.2
    exact hw ⟨by omega, by omega⟩
  show wpAny _ _ (if (((sIx items.size 0 lo : Nat) : Int) == 0 && (1 : Int) == 1 && (sIx items.size items.size hi - sIx items.size 0 lo) == items.size) = true then _ else _) _ _ s
  rw [if_neg hno, pick_gen]
  first
    | exact wpAny_bind (m := Builtin.Tuple.tupleExact _) (wpAny_newObj_type (wpAny_pure ⟨_, rfl, wpAny_pure h⟩) htake)
    | exact wpAny_bind (m := Builtin.Tuple.tupleExact _) (wpAny_newObj_type (wpAny_bind (wpAny_pure (wpAny_pure ⟨_, rfl, wpAny_pure h⟩))) htake)
    | exact wpAny_bind (wpAny_bind (m := Builtin.Tuple.tupleExact _) (wpAny_newObj_type (wpAny_pure (wpAny_pure ⟨_, rfl, wpAny_pure h⟩)) htake))
    | exact wpAny_bind (wpAny_bind (m := Builtin.Tuple.tupleExact _) (wpAny_newObj_type (wpAny_pure ⟨_, rfl, wpAny_pure h⟩) htake))
end
end HT

namespace L2
open PySem PySem.Spec PyProof.Rows

/-! ### the parts of a slice -/
abbrev TO := St → Hp → (Option Int → Hp → Prop) → Prop
/-- a slice's part (left out, or an int) -/
def PO (X : Cx) (e : Option Expr) (t : TO) : Prop :=
  ∀ (pins : List (Addr × Obj)) (s : Shared) (σ : St) (H : Hp) (Q : Option Int → Hp → Prop), Inv X pins σ H s → t σ H Q →
    wpAny (model X.prog X.w) X.A (evalPart e X.env) (fun u s' => ∃ o H', Inv X pins σ H' s' ∧ IsPart u o ∧ Q o H') X.xe s
def tNoPart : TO := fun _ H Q => Q none H
def tPart (t : TE) : TO := fun σ H Q => t σ H fun x H1 => ∃ i, x = .int i ∧ Q (some i) H1

section
variable {X : Cx} {e : Expr} {te : TE} {lo hi : Option Expr} {tl th : TO} {pos p2 : Pos}

theorem po_none : PO X none tNoPart := by
  intro pins s σ H Q I h
  rw [evalPart_none]
  exact wpAny_pure ⟨none, H, I, .none, h⟩
theorem po_some (h : PE X e te) : PO X (some e) (tPart te) := by
  intro pins s σ H Q I hw
  rw [evalPart_some]
  refine thn (h pins s σ H _ I hw) fun u s1 ⟨x, H1, I1, r1, q1⟩ => ?_
  obtain ⟨i, rfl, q⟩ := q1
  obtain ⟨t, rfl⟩ := r1
  exact ⟨some i, H1, I1, .int i t, q⟩

/-- what a slice of a value is, by values: the slice object stands at sl -/
def SlR (X : Cx) (r : V → Option Int → Option Int → Hp → VK → Prop) : Prop :=
  ∀ (pins : List (Addr × Obj)) (s : Shared) (σ : St) (H : Hp) (x : V) (v vl vu : Value) (lo hi : Option Int) (sl : Addr) (Q : VK), Inv X pins σ H s → RelV x v → s.heap.IsSliceOf sl vl vu .none → IsPart vl lo → IsPart vu hi → r x lo hi H Q →
    ∃ T id, typeLookup (.type T) "__getitem__" = pure (some (.builtin id)) ∧ s.TypeIs v T ∧ wpAny (model X.prog X.w) X.A (getItem v (.ref sl)) (EP X pins σ Q) X.xe s
theorem SlR.or {r r' : V → Option Int → Option Int → Hp → VK → Prop} (h : SlR X r) (h' : SlR X r') : SlR X (fun x lo hi H Q => r x lo hi H Q ∨ r' x lo hi H Q) := by
  intro pins s σ H x v vl vu lo hi sl Q I rx hs pl pu q
  rcases q with q | q
  · exact h pins s σ H x v vl vu lo hi sl Q I rx hs pl pu q
  · exact h' pins s σ H x v vl vu lo hi sl Q I rx hs pl pu q
def tSl (r : V → Option Int → Option Int → Hp → VK → Prop) (te : TE) (tl th : TO) : TE := fun σ H Q => te σ H fun x H1 => tl σ H1 fun l H2 => th σ H2 fun u H3 => r x l u H3 Q
/-- a[lo:hi], any a -/
theorem pe_slice {r : V → Option Int → Option Int → Hp → VK → Prop} (hr : SlR X r) (he : PE X e te) (hl : PO X lo tl) (hu : PO X hi th) : PE X (.Subscript e (.Slice lo hi none p2) pos) (tSl r te tl th) := by
  intro pins s σ H Q I h
  refine Subscript_ (thn (he pins s σ H _ I h) fun v s1 ⟨x, H1, I1, r1, q1⟩ => ?_)
  refine wpAny_Slice (thn (hl pins s1 σ H1 _ I1 q1) fun vl s2 ⟨l, H2, I2, pl, q2⟩ => thn (hu pins s2 σ H2 _ I2 q2) fun vu s3 ⟨u, H3, I3, pu, q3⟩ => ?_)
  rw [evalPart_none]
  refine wpAny_pure ?_
  have I4 : Inv X pins σ H3 { s3 with heap := s3.heap.push { cls := .type "slice", data := .fields #[vl, vu, .none] } } := I3.kept (t' := s3.toks) fun b ob q => Heap.get?_push_of_some _ q
  obtain ⟨T, id, hT, ht, hg⟩ := hr pins { s3 with heap := s3.heap.push { cls := .type "slice", data := .fields #[vl, vu, .none] } } σ H3 x v vl vu l u s3.heap.objs.size Q I4 r1 (Heap.IsSliceOf.new ..) pl pu q3
  show wpAny (model X.prog X.w) X.A (subscriptTail e (.Slice lo hi none p2) v (.ref s3.heap.objs.size)) (EP X pins σ Q) X.xe { s3 with heap := s3.heap.push { cls := .type "slice", data := .fields #[vl, vu, .none] } }
  exact tail_any (ops := [.ref s3.heap.objs.size, v]) ht hT hg (by with_unfolding_all rfl)

/-- the items of xs[lo:hi] -/
def cutV (xs : List V) (lo hi : Option Int) : List V := (xs.drop (HT.sIx xs.length 0 lo)).take (HT.sIx xs.length xs.length hi - HT.sIx xs.length 0 lo)
theorem cutV_length (xs : List V) (lo hi : Option Int) : (cutV xs lo hi).length ≤ xs.length := by
  unfold cutV
  rw [List.length_take, List.length_drop]
  omega
/-- t[lo:hi], not the whole of it (the whole would be t itself) -/
def rSlT (K : PySem.W.Frag) : V → Option Int → Option Int → Hp → VK → Prop := fun x lo hi H Q => ∃ a xs, x = .ref a ∧ SqT K H a xs ∧
  ¬ (HT.sIx xs.length 0 lo = 0 ∧ HT.sIx xs.length xs.length hi = xs.length) ∧ ∀ p, H p = none → Q (.ref p) (upd H p (.tup (cutV xs lo hi)))
theorem sl_tup : SlR X (rSlT X.K) := by
  intro pins s σ H x v vl vu lo hi sl Q I rx hs pl pu h
  obtain ⟨a, xs, rfl, hx, hw, q⟩ := h
  cases rx
  obtain ⟨its, r, ht, hz⟩ := I.tuple hx
  have hlen : its.toArray.size = xs.length := by rw [List.size_toArray]; exact r.length.symm
  refine ⟨"tuple", _, PyProof.Rows.slot_tuple_getitem.lookup, ht.typeIs, ?_⟩
  refine HT.getItem_tuple_cut ht hs pl pu (by rw [hlen]; exact hw) ?_ (by rw [hlen]; exact hz)
  rw [hlen]
  refine ⟨.ref s.heap.objs.size, _, I.laid (t' := s.toks) (o := .tup (cutV xs lo hi)) (fun b ob q => Heap.get?_push_of_some _ q) (Nat.le_refl _) ?_, rfl, q _ (I.hok.fresh (Nat.le_refl _))⟩
  exact ⟨Nat.le_trans (cutV_length xs lo hi) hz, _, (r.drop (HT.sIx xs.length 0 lo)).take (HT.sIx xs.length xs.length hi - HT.sIx xs.length 0 lo), IsTup.new _ _⟩

/-! ### t < u, t + u -/
def rLtT (K : PySem.W.Frag) : R2 := fun x y H Q => ∃ a b ns ms, x = .ref a ∧ y = .ref b ∧ SqT K H a (ns.map V.int) ∧ SqT K H b (ms.map V.int) ∧ Q (.bl (HT.lexLt ns ms)) H
/-- t + u, t not empty: u empty gives t itself -/
def rCatT (K : PySem.W.Frag) : R2 := fun x y H Q => ∃ a b xs ys, x = .ref a ∧ y = .ref b ∧ SqT K H a xs ∧ SqT K H b ys ∧ xs ≠ [] ∧ xs.length + ys.length ≤ sizeLine ∧
  (ys = [] → Q (.ref a) H) ∧ (ys ≠ [] → ∀ p, H p = none → Q (.ref p) (upd H p (.tup (xs ++ ys))))
end
end L2

namespace L2
open PySem PySem.Spec PyProof.Rows

/-! ### places -/
/-- the place that an index of any sign means -/
def ixN (n : Nat) (i : Int) : Option Nat := if 0 ≤ i then (if i < n then some i.toNat else none) else if -(n : Int) ≤ i then some (i + n).toNat else none
def atI {α : Type} (xs : List α) (i : Int) : Option α := (ixN xs.length i).bind fun j => xs[j]?
theorem ixN_seq {n : Nat} {i : Int} {j : Nat} (h : ixN n i = some j) : seqIndex? i n = some j ∧ j < n ∧ -(n : Int) ≤ i ∧ i < n := by
  unfold ixN at h
  by_cases h0 : 0 ≤ i
  · rw [if_pos h0] at h
    by_cases h1 : i < n
    · rw [if_pos h1] at h
      have e : i.toNat = j := Option.some.inj h
      exact ⟨by rw [seqIndex_of h0 h1, e], by omega, by omega, h1⟩
    · rw [if_neg h1] at h; cases h
  · rw [if_neg h0] at h
    by_cases h1 : -(n : Int) ≤ i
    · rw [if_pos h1] at h
      have e : (i + n).toNat = j := Option.some.inj h
      exact ⟨by rw [seqIndex_neg (by omega) h1, e], by omega, h1, by omega⟩
    · rw [if_neg h1] at h; cases h
theorem atI_get {α : Type} {xs : List α} {i : Int} {v : α} (h : atI xs i = some v) : ∃ j, seqIndex? i xs.length = some j ∧ xs[j]? = some v ∧ j < xs.length ∧ -(xs.length : Int) ≤ i ∧ i < xs.length := by
  unfold atI at h
  cases e : ixN xs.length i with
  | none => rw [e] at h; cases h
  | some j =>
    rw [e] at h
    obtain ⟨h1, h2, h3, h4⟩ := ixN_seq e
    exact ⟨j, h1, h, h2, h3, h4⟩
theorem atI_nat {α : Type} {xs : List α} {j : Nat} {v : α} (h : xs[j]? = some v) : atI xs (j : Int) = some v := by
  have hj : j < xs.length := (List.getElem?_eq_some_iff.mp h).1
  have e : ixN xs.length (j : Int) = some j := by
    unfold ixN
    rw [if_pos (by omega), if_pos (by omega)]; simp
  unfold atI; rw [e]; exact h
theorem atI_last {α : Type} (xs : List α) (v : α) : atI (xs ++ [v]) (-1) = some v := by
  have hl : (xs ++ [v]).length = xs.length + 1 := by simp
  have e : ixN (xs ++ [v]).length (-1) = some xs.length := by
    unfold ixN
    rw [hl, if_neg (by decide), if_pos (by omega)]
    congr 1
    omega
  unfold atI
  rw [e]
  show (xs ++ [v])[xs.length]? = some v
  simp

/-! ### what may be subscripted -/
/-- what stands as an index of a plain subscript -/
def PlainIx (b : Expr) : Prop := ∀ o i, subscripted b false o i = operate [o, i] (getItem o i)
/-- a subscript by values -/
def IxR (X : Cx) (r : R2) : Prop :=
  ∀ (value slice : Expr) (pins : List (Addr × Obj)) (s : Shared) (σ : St) (H : Hp) (x y : V) (v u : Value) (Q : VK), Inv X pins σ H s → RelV x v → RelV y u → r x y H Q →
    subscripted slice false v u = operate [v, u] (getItem v u) → wpAny (model X.prog X.w) X.A (subscriptTail value slice v u) (EP X pins σ Q) X.xe s
/-- a call of a builtin's method by values: the receiver, the arguments -/
def MtR (X : Cx) (id : String) (r : V → List V → Hp → VK → Prop) : Prop :=
  ∀ (pins : List (Addr × Obj)) (s : Shared) (σ : St) (H : Hp) (x : V) (xs : List V) (v : Value) (us : List Value) (Q : VK), Inv X pins σ H s → RelV x v → Vals xs us → r x xs H Q →
    wpAny (model X.prog X.w) X.A (call (.builtin id) (v :: us)) (EP X pins σ Q) X.xe s
section
variable {X : Cx} {a b : Expr} {ta tb : TE} {pos : Pos}
theorem IxR.or {r r' : R2} (h : IxR X r) (h' : IxR X r') : IxR X (fun x y H Q => r x y H Q ∨ r' x y H Q) := by
  intro value slice pins s σ H x y v u Q I rx ry q hs
  rcases q with q | q
  · exact h value slice pins s σ H x y v u Q I rx ry q hs
  · exact h' value slice pins s σ H x y v u Q I rx ry q hs
theorem MtR.or {id : String} {r r' : V → List V → Hp → VK → Prop} (h : MtR X id r) (h' : MtR X id r') : MtR X id (fun x xs H Q => r x xs H Q ∨ r' x xs H Q) := by
  intro pins s σ H x xs v us Q I rx rs q
  rcases q with q | q
  · exact h pins s σ H x xs v us Q I rx rs q
  · exact h' pins s σ H x xs v us Q I rx rs q
/-- a[b] -/
theorem pe_ix {r : R2} (hr : IxR X r) (ha : PE X a ta) (hb : PE X b tb) (hs : PlainIx b) : PE X (.Subscript a b pos) (tOp r ta tb) := by
  intro pins s σ H Q I h
  exact Subscript_ (binT ha hb I h fun v u s2 x y H2 I2 rx ry q => hr a b pins s2 σ H2 x y v u Q I2 rx ry q (hs _ _))

def rIxL (K : PySem.W.Frag) : R2 := fun x y H Q => ∃ p xs i v, x = .ref p ∧ y = .int i ∧ SqL K H p xs ∧ atI xs i = some v ∧ Q v H
def rIxT (K : PySem.W.Frag) : R2 := fun x y H Q => ∃ p xs i v, x = .ref p ∧ y = .int i ∧ SqT K H p xs ∧ atI xs i = some v ∧ Q v H
def rIxS : R2 := fun x y H Q => ∃ z i c, x = .str z ∧ y = .int i ∧ z.length ≤ sizeLine ∧ atI z.cps.toList i = some c ∧ Q (.str ⟨#[c]⟩) H
theorem ix_list : IxR X (rIxL X.K) := by
  intro value slice pins s σ H x y v u Q I rx ry h hs
  obtain ⟨p, xs, i, z, rfl, rfl, hq, he, q⟩ := h
  cases rx
  obtain ⟨t, rfl⟩ := ry
  obtain ⟨its, r, pl, hz⟩ := I.list hq
  obtain ⟨j, h1, h2, h3, h4, h5⟩ := atI_get he
  obtain ⟨w, ew, rw'⟩ := r.get h2
  have hl := r.length
  have hn := line63
  have fin : EP X pins σ Q w s := ⟨z, H, I, rw', q⟩
  by_cases h0 : 0 ≤ i
  · have hj : i.toNat = j := by
      rw [seqIndex_of h0 h5] at h1
      exact Option.some.inj h1
    exact item_listR pl.isList h0 (by omega) (by rw [hj]; simpa using ew) fin hs
  · have hj : (i + (its.toArray.size : Int)).toNat = j := by
      rw [seqIndex_neg (by omega) h4] at h1
      rw [List.size_toArray, ← hl]
      exact Option.some.inj h1
    exact subscriptTail_builtinR (x := w) pl.isList.typeIs slot_list_getitem.lookup
      (wpAny_getItem_list_neg (Q := fun r s' => r = w ∧ EP X pins σ Q r s') pl.isList (by omega) (by rw [List.size_toArray] <;> omega) (by omega) (by rw [hj]; simpa using ew) ⟨rfl, fin⟩) hs
theorem ix_tup : IxR X (rIxT X.K) := by
  intro value slice pins s σ H x y v u Q I rx ry h hs
  obtain ⟨p, xs, i, z, rfl, rfl, hq, he, q⟩ := h
  cases rx
  obtain ⟨t, rfl⟩ := ry
  obtain ⟨its, r, pl, hz⟩ := I.tuple hq
  obtain ⟨j, h1, h2, h3, h4, h5⟩ := atI_get he
  obtain ⟨w, ew, rw'⟩ := r.get h2
  have hl := r.length
  have hn := line63
  have fin : EP X pins σ Q w s := ⟨z, H, I, rw', q⟩
  exact subscriptTail_builtinR (x := w) pl.typeIs slot_tuple_getitem.lookup
    (getItem_tuple (j := j) (Q := fun r s' => r = w ∧ EP X pins σ Q r s') pl (by omega) (by omega) (by rw [List.size_toArray, ← hl]; exact h1) (by simpa using ew) ⟨rfl, fin⟩) hs
/-- list, tuple or str -/
def rIx (K : PySem.W.Frag) : R2 := fun x y H Q => rIxL K x y H Q ∨ rIxT K x y H Q ∨ rIxS x y H Q
/-! ### xs[i] = v, any sign -/
theorem Inv.lst {pins : List (Addr × Obj)} {σ : St} {H : Hp} {s : Shared} {p : Addr} {xs : List V} (I : Inv X pins σ H s) (h : H p = some (.lst xs)) :
    ∃ (its : List Value) (n : Nat), Vals xs its ∧ s.heap.get? p = some { cls := .type "list", data := .seq its.toArray n } ∧ xs.length ≤ sizeLine := by
  obtain ⟨z, its, n, r, e⟩ := I.hok p _ h
  exact ⟨its, n, r, e, z⟩
def rSetL : V → V → V → Hp → (Hp → Prop) → Prop := fun o i v H Q => ∃ p xs k j, o = .ref p ∧ i = .int k ∧ H p = some (.lst xs) ∧ ixN xs.length k = some j ∧ Q (upd H p (.lst (xs.set j v)))
/-! ### slices -/
theorem slice_bounds (lo hi : Option Int) (n : Nat) : (sliceBounds lo hi none n).1 = ((HT.sIx n 0 lo : Nat) : Int) ∧ (sliceBounds lo hi none n).2.1 = ((HT.sIx n n hi : Nat) : Int) ∧ (sliceBounds lo hi none n).2.2 = 1 := by
  refine ⟨?_, ?_, rfl⟩
  · cases lo with
    | none => simp [sliceBounds, HT.sIx]
    | some i =>
      simp only [sliceBounds, HT.sIx, Option.getD_none, show (1 : Int) > 0 by decide, if_true]
      by_cases h : i < 0
      · simp only [h, if_true] <;> omega
      · simp only [h, if_false] <;> omega
  · cases hi with
    | none => simp [sliceBounds, HT.sIx]
    | some i =>
      simp only [sliceBounds, HT.sIx, Option.getD_none, show (1 : Int) > 0 by decide, if_true]
      by_cases h : i < 0
      · simp only [h, if_true] <;> omega
      · simp only [h, if_false] <;> omega
theorem slicePick_cut (its : List Value) (lo hi : Option Int) : slicePick its.toArray lo hi none = ((its.drop (HT.sIx its.length 0 lo)).take (HT.sIx its.length its.length hi - HT.sIx its.length 0 lo)).toArray := by
  obtain ⟨h1, h2, h3⟩ := slice_bounds lo hi its.toArray.size
  unfold slicePick
  rw [h1, h2, h3]
  simp only [sliceRange_one, pick_run, List.size_toArray] <;> rfl
/-- xs[lo:hi] of a list: a new list -/
def rSlL (K : PySem.W.Frag) : V → Option Int → Option Int → Hp → VK → Prop := fun x lo hi H Q => ∃ a xs, x = .ref a ∧ SqL K H a xs ∧ ∀ p, H p = none → Q (.ref p) (upd H p (.lst (cutV xs lo hi)))
theorem sl_list : SlR X (rSlL X.K) := by
  intro pins s σ H x v vl vu lo hi sl Q I rx hs pl pu h
  obtain ⟨a, xs, rfl, hx, q⟩ := h
  cases rx
  obtain ⟨its, r, ht, hz⟩ := I.list hx
  have hlen := r.length
  refine ⟨"list", _, slot_list_getitem.lookup, ht.isList.typeIs, ?_⟩
  refine wpAny_getItem_list_slice ht.isList hs pl pu .none (by simp) ?_ (by rw [List.size_toArray] <;> omega)
  rw [slicePick_cut, ← hlen]
  refine ⟨.ref s.heap.objs.size, _, I.laid (t' := s.toks) (o := .lst (cutV xs lo hi)) (fun b ob q => Heap.get?_push_of_some _ q) (Nat.le_refl _) ?_, rfl, q _ (I.hok.fresh (Nat.le_refl _))⟩
  exact ⟨Nat.le_trans (cutV_length xs lo hi) hz, _, 0, (r.drop (HT.sIx xs.length 0 lo)).take (HT.sIx xs.length xs.length hi - HT.sIx xs.length 0 lo), Heap.get?_push_size _ rfl⟩

/-! ### in, not in: flat items -/
def flatV : V → Bool
  | .non => true
  | .bl _ => true
  | .int _ => true
  | .str _ => true
  | _ => false
/-- == of flat values -/
def eqV : V → V → Bool
  | .non, .non => true
  | .bl a, .bl b => a == b
  | .bl a, .int b => (if a then 1 else 0) == b
  | .int a, .bl b => a == (if b then 1 else 0)
  | .int a, .int b => a == b
  | .str a, .str b => a == b
  | _, _ => false
theorem eqAt_V {A : Around} {s : Shared} {y x : V} {u v : Value} (ry : RelV y u) (rx : RelV x v) (fy : flatV y = true) (fx : flatV x = true) : SeqAt.EqAt A s u v (eqV y x) := by
  cases y with
  | non =>
    cases ry
    cases x with
    | non => cases rx; exact SeqAt.EqAt.same _
    | bl b => cases rx; exact SeqAt.EqAt.none_bool b
    | int b => obtain ⟨t, rfl⟩ := rx; exact SeqAt.EqAt.none_int b t
    | str b => obtain ⟨t, rfl⟩ := rx; exact SeqAt.EqAt.none_str b t
    | _ => exact absurd (show false = true from fx) Bool.false_ne_true
  | bl a =>
    cases ry
    cases x with
    | non => cases rx; exact SeqAt.EqAt.bool_none a
    | bl b => cases rx; exact SeqAt.EqAt.bool_bool a b
    | int b => obtain ⟨t, rfl⟩ := rx; exact SeqAt.EqAt.bool_int a b t
    | str b => obtain ⟨t, rfl⟩ := rx; exact SeqAt.EqAt.bool_str a b t
    | _ => exact absurd (show false = true from fx) Bool.false_ne_true
  | int a =>
    obtain ⟨t', rfl⟩ := ry
    cases x with
    | non => cases rx; exact SeqAt.EqAt.int_none a t'
    | bl b => cases rx; exact SeqAt.EqAt.int_bool a t' b
    | int b => obtain ⟨t, rfl⟩ := rx; exact SeqAt.EqAt.int_int a t' b t
    | str b => obtain ⟨t, rfl⟩ := rx; exact SeqAt.EqAt.int_str a t' b t
    | _ => exact absurd (show false = true from fx) Bool.false_ne_true
  | str a =>
    obtain ⟨t', rfl⟩ := ry
    cases x with
    | non => cases rx; exact SeqAt.EqAt.str_none a t'
    | bl b => cases rx; exact SeqAt.EqAt.str_bool a t' b
    | int b => obtain ⟨t, rfl⟩ := rx; exact SeqAt.EqAt.str_int a t' b t
    | str b => obtain ⟨t, rfl⟩ := rx; exact SeqAt.EqAt.str_str a t' b t
    | _ => exact absurd (show false = true from fx) Bool.false_ne_true
  | _ => exact absurd (show false = true from fy) Bool.false_ne_true
/-- the items' answers, read off the values (a value's own answer does not lean on its token) -/
def eqU (x : V) (u : Value) : Bool := match u with
  | .none => eqV .non x
  | .bool b => eqV (.bl b) x
  | .int i _ => eqV (.int i) x
  | .str z _ => eqV (.str z) x
  | _ => false
theorem eqU_of {x y : V} {u : Value} (r : RelV y u) (f : flatV y = true) : eqU x u = eqV y x := by
  cases y with
  | non => cases r; rfl
  | bl b => cases r; rfl
  | int i => obtain ⟨t, rfl⟩ := r; rfl
  | str z => obtain ⟨t, rfl⟩ := r; rfl
  | _ => exact absurd (show false = true from f) Bool.false_ne_true
theorem any_eqU {x : V} : ∀ {xs : List V} {us : List Value}, Vals xs us → xs.all flatV = true → us.any (eqU x) = xs.any fun y => eqV y x
  | _, _, .nil, _ => rfl
  | y :: xs, u :: us, .cons r t, f => by
    rw [List.all_cons, Bool.and_eq_true] at f
    rw [List.any_cons, List.any_cons, eqU_of r f.1, any_eqU t f.2]
theorem mem_eqAt {A : Around} {s : Shared} {x : V} {v : Value} (rx : RelV x v) (fx : flatV x = true) : ∀ {xs : List V} {us : List Value}, Vals xs us → xs.all flatV = true → ∀ u ∈ us, SeqAt.EqAt A s u v (eqU x u)
  | _, _, .nil, _ => fun u hu => by cases hu
  | y :: xs, u :: us, .cons r t, f => fun u' hu => by
    rw [List.all_cons, Bool.and_eq_true] at f
    rcases List.mem_cons.mp hu with rfl | hu
    · rw [eqU_of r f.1]; exact eqAt_V r rx f.1 fx
    · exact mem_eqAt rx fx t f.2 u' hu
def inV (x : V) (xs : List V) : Bool := xs.any fun y => eqV y x
/-- x in a list or tuple of flat items -/
def rIn (K : PySem.W.Frag) (neg : Bool) : R2 := fun x y H Q => ∃ p xs, y = .ref p ∧ (SqL K H p xs ∨ SqT K H p xs) ∧ flatV x = true ∧ xs.all flatV = true ∧ Q (.bl (if neg then !inV x xs else inV x xs)) H
theorem op_in_seq : OpR X (compareOp .In) (rIn X.K false) := by
  intro pins s σ H x y v u Q I rx ry h
  obtain ⟨p, xs, rfl, hq, fx, fs, q⟩ := h
  cases ry
  rcases hq with hq | hq
  · obtain ⟨its, r, pl, hz⟩ := I.list hq
    refine SeqAt.in_listAt (eqU x) pl.isList (fun w hw => mem_eqAt rx fx r fs w (by simpa using hw)) ⟨.bl _, H, I, rfl, ?_⟩
    rw [show its.toArray.any (eqU x) = its.any (eqU x) by simp, any_eqU r fs]
    exact q
  · obtain ⟨its, r, pl, hz⟩ := I.tuple hq
    refine SeqAt.in_tupleAt (eqU x) pl (fun w hw => mem_eqAt rx fx r fs w (by simpa using hw)) ⟨.bl _, H, I, rfl, ?_⟩
    rw [show its.toArray.any (eqU x) = its.any (eqU x) by simp, any_eqU r fs]
    exact q
/-! ### len, list(x), tuple(x) of any list or tuple that is read -/
theorem call_len_seq : CallR X (.builtin "len") (fun xs H Q => ∃ p ys, xs = [.ref p] ∧ (SqL X.K H p ys ∨ SqT X.K H p ys) ∧ Q (.int ys.length) H) := by
  intro pins s σ H xs us Q I r h
  obtain ⟨p, ys, rfl, hq, q⟩ := h
  obtain ⟨u, rfl, rx⟩ := vals1 r
  cases rx
  have hn := line63
  rcases hq with hq | hq
  · obtain ⟨its, r', pl, hz⟩ := I.list hq
    have hlen := r'.length
    exact Calls.call_len_list pl.isList (by simp only [List.size_toArray] <;> omega) ⟨.int ys.length, H, I.tok _, ⟨s.toks + 1, by rw [List.size_toArray, hlen]⟩, q⟩
  · obtain ⟨its, r', pl, hz⟩ := I.tuple hq
    have hlen := r'.length
    exact len_tuple pl (by simp only [List.size_toArray] <;> omega) ⟨.int ys.length, H, I.tok _, ⟨s.toks + 1, by rw [List.size_toArray, hlen]⟩, q⟩
theorem CallR.or {f : Value} {r r' : List V → Hp → VK → Prop} (h : CallR X f r) (h' : CallR X f r') : CallR X f (fun xs H Q => r xs H Q ∨ r' xs H Q) := by
  intro pins s σ H xs us Q I rs q
  rcases q with q | q
  · exact h pins s σ H xs us Q I rs q
  · exact h' pins s σ H xs us Q I rs q
theorem call_list_of : CallR X (.type "list") (fun xs H Q => ∃ p ys, xs = [.ref p] ∧ (SqL X.K H p ys ∨ SqT X.K H p ys) ∧ ∀ l, H l = none → Q (.ref l) (upd H l (.lst ys))) := by
  intro pins s σ H xs us Q I r h
  obtain ⟨p, ys, rfl, hq, q⟩ := h
  obtain ⟨u, rfl, rx⟩ := vals1 r
  cases rx
  have fin : ∀ (its : List Value), Vals ys its → ys.length ≤ sizeLine → ∀ (h' : Heap) (c' : Nat), (∀ b o', s.heap.get? b = some o' → h'.get? b = some o') →
      h'.get? s.heap.objs.size = some { cls := .type "list", dict := none, data := .seq its.toArray c', slots := #[] } → EP X pins σ Q (.ref s.heap.objs.size) { s with heap := h' } := fun its r' hz h' c' kp e =>
    ⟨.ref s.heap.objs.size, _, I.laid (t' := s.toks) kp (Nat.le_refl _) (show ObjOk X.prog X.w _ h' _ (.lst ys) from ⟨hz, its, c', r', e⟩), rfl, q _ (I.hok.fresh (Nat.le_refl _))⟩
  rcases hq with hq | hq
  · obtain ⟨its, r', pl, hz⟩ := I.list hq
    have hlen := r'.length
    obtain ⟨o, ho, hc, n, hd⟩ := pl.isList
    exact call_list_seq p (.inl rfl) ho hc hd (fun h' c' kp e => fin its r' hz h' c' kp e) (by simp only [List.size_toArray] <;> omega)
  · obtain ⟨its, r', pl, hz⟩ := I.tuple hq
    have hlen := r'.length
    obtain ⟨o, ho, hc, n, hd⟩ := pl
    exact call_list_seq p (.inr rfl) ho hc hd (fun h' c' kp e => fin its r' hz h' c' kp e) (by simp only [List.size_toArray] <;> omega)
theorem call_tuple_of : CallR X (.type "tuple") (fun xs H Q => ∃ p ys, xs = [.ref p] ∧ ((SqL X.K H p ys ∧ ∀ l, H l = none → Q (.ref l) (upd H l (.tup ys))) ∨ (SqT X.K H p ys ∧ Q (.ref p) H))) := by
  intro pins s σ H xs us Q I r h
  obtain ⟨p, ys, rfl, h⟩ := h
  obtain ⟨u, rfl, rx⟩ := vals1 r
  cases rx
  rcases h with ⟨hq, q⟩ | ⟨hq, q⟩
  · obtain ⟨its, r', pl, hz⟩ := I.list hq
    have hlen := r'.length
    refine call_tuple_list pl.isList (fun h' kp => ?_) (by simp only [List.size_toArray] <;> omega)
    have I1 : Inv X pins σ H { s with heap := h' } := I.kept (t' := s.toks) kp
    have I2 : Inv X pins σ (upd H h'.objs.size (.tup ys)) { s with heap := h'.push { cls := .type "tuple", data := .seq its.toArray } } :=
      I1.laid (t' := s.toks) (fun b o e => Heap.get?_push_of_some _ e) (Nat.le_refl _) (show ObjOk X.prog X.w _ _ _ (.tup ys) from ⟨hz, its, r', IsTup.new _ _⟩)
    exact ⟨.ref h'.objs.size, _, I2, rfl, q _ (I1.hok.fresh (Nat.le_refl _))⟩
  · obtain ⟨its, r', pl, hz⟩ := I.tuple hq
    exact call_tuple_same pl ⟨.ref p, H, I, rfl, q⟩

/-! ### the call of a builtin's method: o.m(..) -/
/-- the value is of that builtin type -/
def tyV (K : PySem.W.Frag) (T : String) (x : V) (H : Hp) : Prop := match x with
  | .str _ => T = "str"
  | .int _ => T = "int"
  | .ref p => (T = "list" ∧ ∃ xs, SqL K H p xs) ∨ (T = "tuple" ∧ ∃ o, K.lookup p = some o ∧ o.cls = .type "tuple" ∧ o.dict = none) ∨
      (T = "dict" ∧ ((∃ kvs, H p = some (.dK kvs)) ∨ ∃ kvs, H p = some (.dT kvs))) ∨ (T = "set" ∧ ∃ S n, H p = some (.set S n))
  | _ => False
theorem tyV_is {pins : List (Addr × Obj)} {σ : St} {H : Hp} {s : Shared} {T : String} {x : V} {v : Value} (I : Inv X pins σ H s) (r : RelV x v) (ty : tyV X.K T x H) :
    s.TypeIs v T ∧ ∀ a, v = .ref a → ∃ ob, s.heap.get? a = some ob ∧ ob.dict = none := by
  cases x with
  | str z =>
    obtain ⟨t, rfl⟩ := r
    cases (show T = "str" from ty)
    exact ⟨typeIs_str s z t, fun _ e => nomatch e⟩
  | int i =>
    obtain ⟨t, rfl⟩ := r
    cases (show T = "int" from ty)
    exact ⟨typeIs_int s i t, fun _ e => nomatch e⟩
  | ref p =>
    cases r
    rcases ty with ⟨rfl, xs, hq⟩ | ⟨rfl, o, hk, hc, hd⟩ | ⟨rfl, hk⟩ | ⟨rfl, S, n, hk⟩
    · obtain ⟨its, _, pl, _⟩ := I.list hq
      refine ⟨pl.isList.typeIs, fun a e => ?_⟩
      cases e
      obtain ⟨o, n, e, c, hd, _⟩ := pl
      exact ⟨o, e, hd⟩
    · refine ⟨⟨o, I.kIn p o hk, hc⟩, fun a e => ?_⟩
      cases e
      exact ⟨o, I.kIn _ o hk, hd⟩
    · have z : ∃ o, s.heap.get? p = some o ∧ o.ExactDict := by
        rcases hk with ⟨kvs, hk⟩ | ⟨kvs, hk⟩
        · obtain ⟨_, _, _, _, o, _, _, e, ex, _⟩ := I.hok p _ hk
          exact ⟨o, e, ex⟩
        · obtain ⟨_, _, _, _, o, _, _, e, ex, _⟩ := I.hok p _ hk
          exact ⟨o, e, ex⟩
      obtain ⟨o, e, ex⟩ := z
      refine ⟨⟨o, e, ex.1⟩, fun a e2 => ?_⟩
      cases e2
      exact ⟨o, e, ex.2.1⟩
    · obtain ⟨o, _, _, _, e, ex, _⟩ := I.hok p _ hk
      refine ⟨⟨o, e, ex.1⟩, fun a e2 => ?_⟩
      cases e2
      exact ⟨o, e, ex.2.1⟩
  | _ => exact False.elim ty
def tBM0 (K : PySem.W.Frag) (T : String) (r : V → List V → Hp → VK → Prop) (to : TE) : TE := fun σ H Q => to σ H fun x H1 => tyV K T x H1 ∧ r x [] H1 Q
def tBM (K : PySem.W.Frag) (T : String) (r : V → List V → Hp → VK → Prop) (to : TE) (t : TA) : TE := fun σ H Q => to σ H fun x H1 => tyV K T x H1 ∧ t σ H1 fun xs H2 => r x xs H2 Q
variable {o e : Expr} {es : List Expr} {to : TE} {t : TA} {name : Str} {apos cpos : Pos} {T id : String} {r : V → List V → Hp → VK → Prop}
theorem pe_bm0 (pa : PlainAttrs T) (slot : Slot T name id) (hty : typeOf (.builtin id) = pure (.type "method_descriptor")) (hm : MtR X id r) (ho : PE X o to)
    (hbase : attributeBase o name X.env (eval o X.env) = eval o X.env := by rfl) (hline : (apos.endLine == cpos.line) = true := by rfl) : PE X (.Call (.Attribute o name apos) [] [] cpos) (tBM0 X.K T r to) := by
  intro pins s σ H Q I h
  refine wpAny_Call_method0_late hbase hline (thn (ho pins s σ H _ I h) fun v s1 ⟨x, H1, I1, r1, ty, q1⟩ => ?_)
  obtain ⟨h1, h2⟩ := tyV_is I1 r1 ty
  exact ⟨T, id, pa, slot, hty, h1, h2, Calls.callWith_builtin rfl (PySem.evalArgs_none (hm pins s1 σ H1 x [] v [] Q I1 r1 .nil q1))⟩
theorem pe_bm (pa : PlainAttrs T) (slot : Slot T name id) (hty : typeOf (.builtin id) = pure (.type "method_descriptor")) (hm : MtR X id r) (ho : PE X o to) (ha : PA X (e :: es) t)
    (hbase : attributeBase o name X.env (eval o X.env) = eval o X.env := by rfl)
    (hfew : ((backTo cpos (starEach (e :: es) X.env)).all (fun x => !x.1) && (backToKw cpos (keywordEach [] X.env)).all (fun x => x.1.isSome)
      && decide ((e :: es).length + ([] : List Keyword).length + (if ([] : List Keyword).isEmpty then 0 else 1) < 30)) = true := by rfl)
    (hline : (apos.endLine == cpos.line) = true := by rfl) (hs : starEach (e :: es) X.env = (false, eval e X.env) :: starEach es X.env := by rfl) (hplain : (backTo cpos (starEach es X.env)).any (·.1) = false := by rfl) :
    PE X (.Call (.Attribute o name apos) (e :: es) [] cpos) (tBM X.K T r to t) := by
  intro pins s σ H Q I h
  refine wpAny_Call_method_late hbase hfew hline rfl (thn (ho pins s σ H _ I h) fun v s1 ⟨x, H1, I1, r1, ty, q1⟩ => ?_)
  obtain ⟨h1, h2⟩ := tyV_is I1 r1 ty
  refine ⟨T, id, pa, slot, hty, h1, h2, ?_⟩
  have hA := ha cpos pins s1 σ H1 _ I1 q1
  rw [hs] at hA ⊢
  refine Calls.callWith_builtin (by show (false || (backTo cpos (starEach es X.env)).any (·.1)) = false; rw [hplain] <;> rfl) (Calls.evalArgs_plain ?_)
  exact thn hA fun us s2 ⟨vs, H2, I2, r2, q2⟩ => hm pins s2 σ H2 x vs v us Q I2 r1 r2 q2
/- xs.append(e), list.index on a module's tuple .. are MtR facts of 06m -/
end
end L2

namespace L2
open PySem PySem.Spec PyProof.Rows

def MtM (X : Cx) (id : String) (r : V → List V → Hp → VK → Prop) : Prop :=
  ∀ (pins : List (Addr × Obj)) (s : Shared) (σ : St) (H : Hp) (x : V) (xs : List V) (v : Value) (us : List Value) (Q : VK), Inv X pins σ H s → RelV x v → Vals xs us → r x xs H Q →
    wpAny (model X.prog X.w) X.A (call (.builtin id) (v :: us)) (EP X pins σ Q) X.xe s

/-! ### lists of values -/
theorem Vals.one : ∀ {x : V} {us : List Value}, Vals [x] us → ∃ u, us = [u] ∧ RelV x u
  | _, _, .cons r .nil => ⟨_, rfl, r⟩
theorem Vals.two : ∀ {x y : V} {us : List Value}, Vals [x, y] us → ∃ u v, us = [u, v] ∧ RelV x u ∧ RelV y v
  | _, _, _, .cons r (.cons q .nil) => ⟨_, _, rfl, r, q⟩
theorem Vals.zero : ∀ {us : List Value}, Vals [] us → us = []
  | _, .nil => rfl
theorem Vals.dropLast {xs : List V} {us : List Value} (h : Vals xs us) : Vals xs.dropLast us.dropLast := by
  induction h with
  | nil => exact .nil
  | cons r t ih =>
    cases t with
    | nil => exact .nil
    | cons q t' => exact .cons r ih
theorem Vals.eraseIdx : ∀ {xs : List V} {us : List Value} (i : Nat), Vals xs us → Vals (xs.eraseIdx i) (us.eraseIdx i)
  | _, _, _, .nil => .nil
  | _, _, 0, .cons _ t => t
  | _, _, i + 1, .cons r t => .cons r (Vals.eraseIdx i t)
theorem Vals.reverse {xs : List V} {us : List Value} (h : Vals xs us) : Vals xs.reverse us.reverse := by
  induction h with
  | nil => exact .nil
  | cons r t ih => rw [List.reverse_cons, List.reverse_cons]; exact Vals.append ih (.cons r .nil)
theorem erase_last {α : Type} (l : List α) : l.eraseIdx (l.length - 1) = l.dropLast := by
  induction l with
  | nil => rfl
  | cons a r ih =>
    cases r with
    | nil => rfl
    | cons b r =>
      have e : (a :: b :: r).length - 1 = ((b :: r).length - 1) + 1 := by
        have h1 : (a :: b :: r).length = r.length + 2 := rfl
        have h2 : (b :: r).length = r.length + 1 := rfl
        omega
      rw [e, List.eraseIdx_cons_succ, ih]
      all_goals rfl
section
variable {X : Cx} {pins : List (Addr × Obj)} {σ : St} {H : Hp} {s : Shared} {l b : Addr} {xs ys zs : List V}

/-! ### the two steps: a tracked list is rewritten, a new list is laid -/
theorem Inv.lset {its its' : List Value} {n : Nat} {f : Array Value → Array Value} {t' : Nat} (I : Inv X pins σ H s) (hH : H l = some (.lst xs))
    (e : s.heap.get? l = some { cls := .type "list", data := .seq its.toArray n }) (hf : f its.toArray = its'.toArray) (hv : Vals ys its') (hz : ys.length ≤ sizeLine) :
    Inv X pins σ (upd H l (.lst ys)) { s with heap := s.heap.update l (Obj.mapSeq f), toks := t' } := by
  have q := PySem.IsL.update e f
  rw [hf] at q
  refine I.write (x := l) (e := l) (by rw [hH]; exact trivial) (.inl rfl) (fun b' u hb hu => (Heap.get?_update_other s.heap (Obj.mapSeq f) (Ne.symm hb)).trans hu) ⟨_, q⟩ ?_
  exact ⟨hz, its', _, hv, q⟩
theorem Inv.lnew {its : List Value} {t' : Nat} (I : Inv X pins σ H s) (hv : Vals ys its) (hz : ys.length ≤ sizeLine) :
    Inv X pins σ (upd H s.heap.objs.size (.lst ys)) { s with heap := s.heap.push { cls := .type "list", data := .seq its.toArray }, toks := t' } :=
  I.laid (fun _ _ q => Heap.get?_push_of_some _ q) (Nat.le_refl _) ⟨hz, its, 0, hv, Heap.get?_push_size _ rfl⟩
theorem Inv.fresh (I : Inv X pins σ H s) : H s.heap.objs.size = none := I.hok.fresh (Nat.le_refl _)
theorem Inv.lstM (I : Inv X pins σ H s) (hH : H l = some (.lst xs)) : xs.length ≤ sizeLine ∧ ∃ (its : List Value) (n : Nat), Vals xs its ∧ xs.length = its.length ∧ s.heap.get? l = some { cls := .type "list", data := .seq its.toArray n } := by
  obtain ⟨z, its, n, r, e⟩ := I.hok l _ hH
  exact ⟨z, its, n, r, r.length, e⟩

end

section
variable {X : Cx}

/-! ### methods -/
def rAppend : V → List V → Hp → VK → Prop := fun x vs H Q => ∃ l xs y, x = .ref l ∧ vs = [y] ∧ H l = some (.lst xs) ∧ xs.length < sizeLine ∧ Q .non (upd H l (.lst (xs ++ [y])))
theorem mt_append : MtM X "list.append" rAppend := by
  intro pins s σ H x vs v us Q I rx rv h
  obtain ⟨l, xs, y, rfl, rfl, hH, hz, q⟩ := h
  cases rx
  obtain ⟨u, rfl, ru⟩ := rv.one
  obtain ⟨z, its, n, r, hl, e⟩ := I.lstM hH
  refine call_meets F.slot_list_append ⟨_, e, rfl⟩ F.entry_list_append (F.args_list_append_2 _ _) (PySem.list_append l its.toArray n u (by rw [List.size_toArray]; omega)) ⟨e, ?_⟩
  refine ⟨.non, _, I.lset (its' := its ++ [u]) hH e (by simp) (r.append (.cons ru .nil)) ?_, rfl, q⟩
  rw [List.length_append, List.length_singleton]
  omega

def rExtend : V → List V → Hp → VK → Prop := fun x vs H Q => ∃ l b xs zs, x = .ref l ∧ vs = [.ref b] ∧ H l = some (.lst xs) ∧ H b = some (.lst zs) ∧ xs.length + zs.length ≤ sizeLine ∧ Q .non (upd H l (.lst (xs ++ zs)))
def rPop : V → List V → Hp → VK → Prop := fun x vs H Q => ∃ l xs y, x = .ref l ∧ vs = [] ∧ H l = some (.lst xs) ∧ xs[xs.length - 1]? = some y ∧ Q y (upd H l (.lst xs.dropLast))
theorem mt_pop : MtM X "list.pop" rPop := by
  intro pins s σ H x vs v us Q I rx rv h
  obtain ⟨l, xs, y, rfl, rfl, hH, hy, q⟩ := h
  cases rx
  have hus := rv.zero
  subst hus
  obtain ⟨z, its, n, r, hl, e⟩ := I.lstM hH
  obtain ⟨u, hu, ru⟩ := r.get hy
  have hy' : its.toArray[its.toArray.size - 1]? = some u := by
    show its.toArray[its.length - 1]? = some u
    rw [← Array.getElem?_toList, ← hl]
    exact hu
  refine call_meets F.slot_list_pop ⟨_, e, rfl⟩ F.entry_list_pop (F.args_list_pop_1 _) (MeetsSeq.list_pop_last l its.toArray n u hy' (by rw [List.size_toArray]; omega)) ⟨e, ?_⟩
  refine ⟨y, _, I.lset (its' := its.dropLast) hH e ?_ r.dropLast ?_, ru, q⟩
  · show its.toArray.eraseIdxIfInBounds (its.toArray.size - 1) = its.dropLast.toArray
    rw [List.size_toArray, List.eraseIdxIfInBounds_toArray, erase_last]
  · rw [List.length_dropLast]
    omega

def rPopAt : V → List V → Hp → VK → Prop := fun x vs H Q => ∃ l xs i k y, x = .ref l ∧ vs = [.int i] ∧ H l = some (.lst xs) ∧ -(2 ^ 63) ≤ i ∧ i < 2 ^ 63 ∧ seqIndex? i xs.length = some k ∧ xs[k]? = some y ∧ Q y (upd H l (.lst (xs.eraseIdx k)))
def rReverse : V → List V → Hp → VK → Prop := fun x vs H Q => ∃ l xs, x = .ref l ∧ vs = [] ∧ H l = some (.lst xs) ∧ Q .non (upd H l (.lst xs.reverse))
def rClear : V → List V → Hp → VK → Prop := fun x vs H Q => ∃ l xs, x = .ref l ∧ vs = [] ∧ H l = some (.lst xs) ∧ Q .non (upd H l (.lst []))
/-! ### list + list, list += list, list * int -/
def rCat : R2 := fun x y H Q => ∃ l b xs zs, x = .ref l ∧ y = .ref b ∧ H l = some (.lst xs) ∧ H b = some (.lst zs) ∧ xs.length + zs.length ≤ sizeLine ∧ ∀ p, H p = none → Q (.ref p) (upd H p (.lst (xs ++ zs)))
theorem op_cat : OpR X (binaryOp .Add) rCat := by
  intro pins s σ H x y v u Q I rx ry h
  obtain ⟨l, b, xs, zs, rfl, rfl, hH, hB, hz, q⟩ := h
  cases rx
  cases ry
  obtain ⟨z, its, n, r, hl, e⟩ := I.lstM hH
  obtain ⟨z2, its2, n2, r2, hl2, e2⟩ := I.lstM hB
  refine PySem.P.add_list e e2 ?_ (by rw [List.size_toArray, List.size_toArray]; omega)
  have ea : its.toArray ++ its2.toArray = (its ++ its2).toArray := by simp
  rw [ea]
  exact ⟨.ref _, _, I.lnew (t' := s.toks) (r.append r2) (by rw [List.length_append]; omega), rfl, q _ I.fresh⟩
/-- a list times an int (a negative one is nothing) -/
def rRep : R2 := fun x y H Q => ∃ l k xs, x = .ref l ∧ y = .int k ∧ H l = some (.lst xs) ∧ -(2 ^ 63) ≤ k ∧ k < 2 ^ 63 ∧ xs.length * k.toNat ≤ sizeLine ∧
  ∀ p, H p = none → Q (.ref p) (upd H p (.lst (List.replicate k.toNat xs).flatten))
/-! ### del xs[i] -/
end

/-! ### xs[a:b] = ys -/
section
variable {prog : Program} {w : World} {A : Around} {E : Value → Shared → Prop} {s : Shared}
end

section
variable {X : Cx}
end
end L2

namespace Att
open PySem PySem.W PySem.Calls PyProof.Rows

/-! ### the script -/
theorem ints_of_wellAll {P : Params} {h : Heap} : ∀ (ns : List Int) (vs : List Value), WellAll P h vs (ns.map WData.int) → IntsAre vs ns := by
  intro ns
  induction ns with
  | nil =>
    intro vs w
    rw [List.map_nil] at w
    cases w
    exact .nil
  | cons n ns ih =>
    intro vs w
    rw [List.map_cons] at w
    cases w with
    | cons a b =>
      cases a
      exact .cons _ _ (ih _ b)

theorem script_of {l : OpenLaw} {n : Nat} (hn : l.most = some n) {P : Params} {h : Heap} {args : List WData} {vals : List Value}
    (hpre : l.row.toRowW.claim.pre args = true) (hwl : WellAll P h vals args) :
    ∃ a vs ns, vals = [Value.ref a] ∧ args = [WData.list (ns.map WData.int)] ∧ h.get? a = some { cls := .type "list", data := .seq vs.toArray } ∧ IntsAre vs ns ∧ ns.length ≤ n := by
  have hsh : WShape.hasAll [] args [.list .int] = true := (pre_splitW hpre).1
  have hc : l.pre.holds [] { args := args } = true := (pre_splitW hpre).2
  obtain ⟨d, r, rfl, h1, h2⟩ := hasAllW_cons hsh
  obtain rfl := hasAllW_nil h2
  obtain ⟨xs, rfl, h3⟩ := hasW_list h1
  obtain ⟨ns, rfl⟩ := items_int h3
  have hlen : ns.length ≤ n := by
    unfold OpenLaw.pre at hc
    have h4 : (WTm.not (.lt (.lit (.int (n : Int))) (.len (.arg 0)))).holds [] { args := [.list (ns.map .int)] } = true := by
      have h4 := (holds_andW hc).1
      rw [hn] at h4
      exact h4
    have h5 := condW_of h4 (w_not (w_lt w_lit (w_len_list (w_arg rfl))))
    rw [List.length_map] at h5
    refine Nat.le_of_not_lt fun q => ?_
    have q' : (n : Int) < ((ns.length : Nat) : Int) := by omega
    first
      | (rw [decide_eq_true q'] at h5; exact absurd h5 (by decide))
      | (simp at h5; omega)
  cases hwl with
  | cons w1 w2 =>
    cases w2
    cases w1 with
    | list ho hall => exact ⟨_, _, ns, rfl, rfl, ho, ints_of_wellAll ns _ hall, hlen⟩

theorem post_true (l : OpenLaw) (args : List WData) : l.row.toRowW.claim.post args (.bool true) args = true :=
  postW_of (r := l.row.toRowW) (X := (true == true))
    (show WShape.has [] (.bool true) .bool = true by first | rfl | decide | simp [WShape.has, WShape.arms, WShape.armsAll])
    (show (WTm.eq .res (.lit (.bool true))).value [] { args := args, res := some (.bool true), after := args } = some (.bool (true == true)) from w_eq_bool (w_res rfl) w_lit) rfl

/-! ### the attachment: holds_open's last premise (the goal 'hc' behind k_head) from a wpAny of the law's body -/
/-- the same from a codeAny of the CALL (for a layer whose function contracts speak of calls) -/
theorem attach_call {l : OpenLaw} {n : Nat} {q : Program} {loose : List Str} {XP : (Str → Option Value) → Heap → Prop} {YP : World → Heap → Prop} {d : DefRec}
    (hn : l.most = some n) (hdf : d.params.defaults = [])
    (call : ∀ (w : World) (s₀ s₁ : Shared) (mg mb : Str → Option Value) (fa : Addr) (o : Obj) (pm cd doc : Value) (a : Addr) (vs : List Value) (ns : List Int),
      Ground q loose [] XP w s₀ mg mb s₁.heap → YP w s₁.heap →
      s₁.heap.get? fa = some o → o.data = .func (docDef d.name d.params d.body d.scope pm cd doc) → s₁.heap.CodeRec cd d.name → mg d.name = some (.ref fa) →
      s₁.heap.get? a = some { cls := .type "list", data := .seq vs.toArray } → IntsAre vs ns → ns.length ≤ n → s₁.gens = #[] →
      codeAny (model l.prog w) callerA (.call (.ref fa) ⟨[.ref a], []⟩) (fun r s' => r = .ok (.ret (.bool true)) ∧ OldK s₁.heap s'.heap ∧ s'.os = s₁.os ∧ AllBare s'.gens) s₁) :
    WalkO q loose XP YP l.row.toRowW d [] (fun f vs => PySem.call f vs) := by
  intro w s₀ s₁ mg mb G Y fa o pm cd doc dV kV ho hd hcd hD hmg hg args vals as hpre hlay hrd hwl hlo
  obtain rfl : dV = .none := Dflts.none hD hdf
  obtain rfl : kV = .none := Dflts.noKw hD
  obtain ⟨a, vs, ns, rfl, rfl, hobj, hints, hlen⟩ := script_of hn hpre hwl
  refine enter_call (codeAny_mono (call w s₀ s₁ mg mb fa o pm cd doc a vs ns G Y ho (fd_plain hd) hcd hmg hobj hints hlen hg) fun r s' hq => ?_)
  obtain ⟨rfl, h2, h3, h4⟩ := hq
  exact ⟨.inl ⟨.bool true, .bool true, [], rfl, fun _ => rfl, .bool true, post_true l _, fun _ => ⟨List.Pairwise.nil, fun _ hm => (nomatch hm)⟩⟩, h2, h3, h4⟩

/-! ### rules over ANY heap (no ledger) from facts about the written part K: the library's own take a ledger (News) for what they write -/
section
variable {prog : Program} {w : World} {A : Around} {E : Value → Shared → Prop} {s : Shared} {K : Frag}

/-! the whole heap as the ledger: makes every rule that writes through a ledger a rule over any heap -/
def noObjs (h : Heap) : Heap := { h with objs := #[] }
def ledger (h : Heap) (L d : Addr) : List (Addr × Obj) := (List.range h.objs.size).filterMap fun a => if a = L ∨ a = d then none else (h.get? a).map fun o => (a, o)
end
end Att

namespace L2
open PySem PySem.Spec PyProof.Rows

theorem vals_ints : ∀ {vs : List Value} {ns : List Int}, IntsAre vs ns → Vals (ns.map V.int) vs
  | _, _, .nil => .nil
  | _, _, .cons n t h => .cons ⟨t, rfl⟩ (vals_ints h)

/-- nothing is tracked but the script, known to the object (or it is an object of the module) -/
def Only (H : Hp) : Prop := ∀ b, H b = none ∨ ∃ o xs, H b = some (.frz o (.lst xs))

/-- THE HEAD: the law's promise, at the heap behind the top. F, the promise of the law's def, may use that base is part of the heap (so K.In base, base.Ns mainGlobals mg stand in Mod) -/
theorem law_call {P : Program} {w : World} {K : PySem.W.Frag} {mg mb : Str → Option Value} {CX : CXT} {k : Nat} {fa a : Addr} {fd : FuncData} {x : Str} {sp : Sp} {s₁ : Shared} {vs : List Value} {ns : List Int}
    (KX : K.In s₁.heap) (hns : s₁.heap.Ns mainGlobals mg) (hb : s₁.heap.Ns builtinsNs mb) (hbb : ∀ x : Str, x ≠ "__name__" → mb x = bootBuiltins x) (hlim : s₁.heap.NoLimit) (hg : s₁.gens = #[])
    (ha : s₁.heap.get? a = some { cls := .type "list", data := .seq vs.toArray }) (hi : IntsAre vs ns) (hl : ns.length ≤ sizeLine) (hr : Room k callerA)
    (F : ∀ base : Heap, K.In base → base.Ns mainGlobals mg → FnOk P w K mg base CX k fa fd [x] sp) (hbind : ∀ (s : Shared) (u : Value), BindsTo s fd ⟨[u], []⟩ [(x, u)])
    (hsp : ∀ H : Hp, Only H → SqL K H a (ns.map V.int) → sp [.ref a] H (fun v _ => v = .bl true) fun _ _ _ => False)
    (hCX : ∀ H e s', CX [] H s₁ (fun _ _ _ => False) e s' → False) :
    codeAny (model P w) callerA (.call (.ref fa) ⟨[.ref a], []⟩) (fun r s' => r = .ok (.ret (.bool true)) ∧ OldK s₁.heap s'.heap ∧ s'.os = s₁.os ∧ AllBare s'.gens) s₁ := by
  have rv := vals_ints hi
  have lenV := hi.length
  -- from an abstract heap in which nothing but the script may be tracked
  have core : ∀ H : Hp, Only H → SqL K H a (ns.map V.int) → HOk P w H s₁.heap → (∀ b, H b ≠ none → b = a) → (H a ≠ none → K.lookup a = none) →
      codeAny (model P w) callerA (.call (.ref fa) ⟨[.ref a], []⟩) (fun r s' => r = .ok (.ret (.bool true)) ∧ OldK s₁.heap s'.heap ∧ s'.os = s₁.os ∧ AllBare s'.gens) s₁ := by
    intro H hO hS hok hA hK
    have base_of : ∀ {b : Addr} {o : Obj}, s₁.heap.get? b = some o → H b = none → (hidT s₁.heap H).get? b = some o := fun e n => hidT_get e n
    have noA : ∀ {b : Addr} {o : Obj} {es : Array DictEntry} {ep : Nat}, s₁.heap.get? b = some o → o.data = .dict es ep → H b = none := fun {b o es ep} e d => by
      cases q : H b with
      | none => rfl
      | some u =>
        have e' : b = a := hA b (by rw [q]; simp)
        subst e'
        rw [ha] at e; cases e
        have d' : Data.seq vs.toArray _ = Data.dict es ep := d
        cases d'
    have nsK : ∀ {b : Addr} {m : Str → Option Value}, s₁.heap.Ns b m → (hidT s₁.heap H).Ns b m := fun {b m} ⟨o, es, ep, e, d, r⟩ => ⟨o, es, ep, base_of e (noA e d), d, r⟩
    have hKb : K.In (hidT s₁.heap H) := fun b o e => base_of (KX b o e) (by
      cases q : H b with
      | none => rfl
      | some u =>
        have e' : b = a := hA b (by rw [q]; simp)
        subst e'
        rw [hK (by rw [q]; simp)] at e; cases e)
    have hM : Mod K mg (hidT s₁.heap H) := ⟨hKb, nsK hns, ⟨mb, nsK hb, hbb⟩, let ⟨mc, h1, h2⟩ := hlim; ⟨mc, nsK h1, h2⟩⟩
    have e0 : Env0 P w K mg (hidT s₁.heap H) callerA [] s₁ H := ⟨rfl, hM, fun b o e => of_hidT e, Nat.le_of_eq (hidT_size _ _), trivial, fun b hb => absurd (show b ∈ ([] : List Addr) from hb) (by simp), hok, .of_eq hg⟩
    refine codeAny_mono ((F _ hKb (nsK hns)).run callerA [] s₁ H ⟨[.ref a], []⟩ [.ref a] [.ref a] _ _ hr e0 (hbind s₁ (.ref a)) (.cons rfl .nil) (hsp H hO hS)) fun r s' h => ?_
    cases r with
    | error e => exact (hCX H e s' h).elim
    | ok fl =>
      cases fl with
      | next => exact False.elim h
      | brk => exact False.elim h
      | cont => exact False.elim h
      | ret u =>
        obtain ⟨v, H', os, bare, un, hok', r', q⟩ := h
        have q' : v = .bl true := q
        subst q'
        obtain rfl : u = Value.bool true := r'
        refine ⟨rfl, OldK.of_keep fun b o e => ?_, os, bare⟩
        cases q : H b with
        | none => exact un.keep b o e q (by intro z; exact absurd (show b ∈ ([] : List Addr) from z) (by simp)) (by simp)
        | some u =>
          rcases hO b with z | ⟨ob, xs, z⟩
          · rw [q] at z; cases z
          · have z2 := un.frzs b ob _ z
            obtain ⟨e1, _⟩ := hok b _ z
            obtain ⟨e2, _⟩ := hok' b _ z2
            rw [e] at e1; cases e1
            exact e2
  cases hk : K.lookup a with
  | some o =>
    -- the script is one of the module's own objects
    have e := KX a o hk
    rw [ha] at e
    cases e
    refine core (fun _ => none) (fun _ => .inl rfl) (.inr ⟨_, vs.toArray, _, hk, rfl, rfl, rfl, by rw [List.size_toArray, lenV]; exact hl, by simpa using rv⟩) (fun b u z => by have z' : (none : Option HO) = some u := z; cases z') (fun b z => absurd rfl z) fun z => absurd rfl z
  | none =>
    refine core (fun b => if b = a then some (.frz { cls := .type "list", data := .seq vs.toArray } (.lst (ns.map V.int))) else none) (fun b => ?_) (.inl (.inr ⟨{ cls := .type "list", data := .seq vs.toArray }, if_pos rfl⟩)) (fun b u z => ?_) (fun b z => ?_) fun _ => hk
    · by_cases hb : b = a
      · exact .inr ⟨_, _, if_pos hb⟩
      · exact .inl (if_neg hb)
    · by_cases hb : b = a
      · have z' := (if_pos hb).symm.trans z
        cases z'
        subst hb
        exact ⟨ha, by rw [List.length_map]; exact hl, vs, _, rv, ha⟩
      · have z' := (if_neg hb).symm.trans z
        cases z'
    · by_cases hb : b = a
      · exact hb
      · exact absurd (if_neg hb) z
end L2

namespace L2
open PySem PySem.Spec PyProof.Rows

abbrev KOf {K : PySem.W.Frag} {h : Heap} (_ : K.In h) : PySem.W.Frag := K

/-- the goal that k_head leaves (case hc), from the law's promise. F gives the function object fd (K's own) once, then the promise over every base -/
theorem walk_of {l : PySem.W.OpenLaw} {n k : Nat} {q : Program} {loose : List Str} {XP : (Str → Option Value) → Heap → Prop} {YP : World → Heap → Prop} {d : DefRec} {K : Params → PySem.W.Frag} {CX : World → CXT} {sp : World → Sp} {x : Str}
    (hn : l.most = some n) (hn2 : n ≤ sizeLine) (hdf : d.params.defaults = []) (hr : Room k callerA)
    (hY : ∀ (w : World) (h : Heap), YP w h → (K w.params).In h)
    (F : ∀ (w : World) (mg : Str → Option Value) (fa : Addr) (h : Heap), (K w.params).In h → h.Ns mainGlobals mg → mg d.name = some (.ref fa) →
      ∃ fd : FuncData, (∀ (s : Shared) (u : Value), BindsTo s fd ⟨[u], []⟩ [(x, u)]) ∧
        ∀ base : Heap, (K w.params).In base → base.Ns mainGlobals mg → FnOk l.prog w (K w.params) mg base (CX w) k fa fd [x] (sp w))
    (hsp : ∀ (w : World) (H : Hp) (a : Addr) (ns : List Int), ns.length ≤ n → Only H → SqL (K w.params) H a (ns.map V.int) → sp w [.ref a] H (fun v _ => v = .bl true) fun _ _ _ => False)
    (hCX : ∀ (w : World) (H : Hp) (s : Shared) (e : Value) (s' : Shared), CX w [] H s (fun _ _ _ => False) e s' → False) :
    PySem.W.WalkO q loose XP YP l.row.toRowW d [] (fun f vs => PySem.call f vs) := by
  refine Att.attach_call hn hdf fun w s₀ s₁ mg mb fa o pm cd doc a vs ns G Y ho hd hcd hmg hobj hints hlen hg => ?_
  have KX := hY w _ Y
  obtain ⟨fd, hb, hF⟩ := F w mg fa _ KX G.T.g hmg
  exact law_call KX G.T.g G.T.b G.T.builtins G.T.nolimit hg hobj hints (Nat.le_trans hlen hn2) hr hF hb (fun H hO hS => hsp w H a ns hlen hO hS) fun H e s' => hCX w H s₁ e s'
end L2


/-! SHORT WORDS over the layer: a def of the text, its body, what a loop and a test want. -/
namespace L2
open PySem PySem.Spec PyProof.Rows

/-! ### the text by places -/
/-- the j-th statement of a class's body -/
def inClass (s : Stmt) (j : Nat) : Stmt := match s with
  | .ClassDef _ _ _ body _ _ _ _ _ _ _ => body.getD j (.Pass ⟨0, 0, 0, 0⟩)
  | _ => .Pass ⟨0, 0, 0, 0⟩
def defArgs (s : Stmt) : Arguments := match s with
  | .FunctionDef _ a _ _ _ _ _ _ _ _ => a
  | _ => { posonlyargs := [], args := [], vararg := none, kwonlyargs := [], kw_defaults := [], kwarg := none, defaults := [] }
def defBody (s : Stmt) : List Stmt := match s with
  | .FunctionDef _ _ b _ _ _ _ _ _ _ => b
  | _ => []
def defScope (s : Stmt) : Scope := match s with
  | .FunctionDef _ _ _ _ _ _ sc _ _ _ => sc
  | _ => { kind := .function, names := [], isGenerator := false, isCoroutine := false }

/-! ### no exception leaves a def -/
abbrev CX0 : CXT := fun _ _ _ _ _ _ => False
abbrev E0 : XK := fun _ _ _ => False
/-! ### a def (or method) of the text as it stands behind the top -/
structure Fun (K : PySem.W.Frag) (x qual : Str) (st : Stmt) (f : Addr) (fd : FuncData) : Prop where
  ex : ∃ (oc : Value) (od : Option Addr) (kV doc pm : Value) (an : Option Addr) (cdv ct : Value) (osl : Array (Option Value)),
    fd = PySem.W.fnOf x qual (defArgs st) (defBody st) (defScope st) .none kV doc pm an cdv ct ∧ K.lookup f = some ⟨oc, od, .func fd, osl⟩ ∧ PySem.W.codeIn K cdv qual = true
  kp : PySem.W.keepIn K (.ref f) = true
section
variable {P : Program} {w : World} {K : PySem.W.Frag} {mg : Str → Option Value} {base : Heap}
/-- THE RULE for a def: its body as a term of rules, and the reading of that term -/
theorem Fun.ok {x qual : Str} {st : Stmt} {f : Addr} {fd : FuncData} {N ps : List Str} {k : Nat} {sp : Sp} (F : Fun K x qual st f fd) (S : FnScope N ps (defScope st)) (len : ∀ vs H Q E, sp vs H Q E → vs.length = ps.length)
    (hbody : ∀ (cdv : Value) (A : Around) (outer : List Env) (s : Shared) (H : Hp) (vs : List V) (Q : VK) (E : XK), Room k (A.deeper (envOfC qual (defScope st) s.heap.objs.size f cdv)) → sp vs H Q E →
      ∃ t, PSs (cxOf CX0 P w K mg base N qual (defScope st) f cdv A outer s H E).nox (defBody st) t ∧ t { nx := fun _ H' => Q .non H', rt := Q } (start N vs) H) : FnOk P w K mg base CX0 (k + 1) f fd ps sp := by
  obtain ⟨oc, od, kV, doc, pm, an, cdv, ct, osl, rfl, lk, hcd⟩ := F.ex
  refine fn_of lk hcd S len fun A outer s H vs Q E hr hsp => ?_
  obtain ⟨t, h, q⟩ := hbody cdv A outer s H vs Q E hr hsp
  exact ⟨t, h.nox, q⟩
/-- how its arguments bind (no defaults): h is «fun _ _ _ _ _ _ us hl => match us, hl with | [_, _], _ => rfl», one _ a parameter -/
theorem Fun.binds {x qual : Str} {st : Stmt} {f : Addr} {fd : FuncData} {ps : List Str} (F : Fun K x qual st f fd)
    (h : ∀ (kV doc pm : Value) (an : Option Addr) (cdv ct : Value) (us : List Value), us.length = ps.length → bindArgs (PySem.W.fnOf x qual (defArgs st) (defBody st) (defScope st) .none kV doc pm an cdv ct) ⟨us, []⟩ = pure (ps.zip us)) : Binds K fd ps [] := by
  obtain ⟨oc, od, kV, doc, pm, an, cdv, ct, osl, rfl, lk, hcd⟩ := F.ex
  exact .all (h kV doc pm an cdv ct)
end
theorem hu_of {A : Around} {k : Nat} (hr : Room k A) : A.units + 1 < cLine := Nat.lt_of_le_of_lt (Nat.add_le_add_left (by decide : 1 ≤ 64) _) hr.units
theorem small1000 {n : Nat} (h : n ≤ 1000) : n < sizeLine := Nat.lt_of_le_of_lt h (by decide)

/-! ### expressions in short: the name that stands in the i-th slot -/
section
variable {X : Cx}
theorem pv (i : Nat) {x : Str} {pos : Pos} (hN : X.N[i]? = some x := by rfl) (hv : Vis X.env.scope x := by first | exact Or.inl rfl | exact Or.inr (Or.inl rfl) | exact Or.inr (Or.inr rfl)) (hd : (x == ("__debug__" : Str)) = false := by decide)
    (hcd : (x == ("__classdict__" : Str)) = false := by decide) : PE X (.Name x pos) (tVar i) := pe_var hN hv hd hcd
end

/-! ### tests -/
theorem iteF {A B : Prop} (h : B) : if false = true then A else B := by
  rw [if_neg Bool.false_ne_true]
  exact h
theorem iteT {A B : Prop} (h : A) : if true = true then A else B := by
  rw [if_pos rfl]
  exact h
theorem ite2 {c A B : Prop} [Decidable c] (h1 : c → A) (h2 : ¬ c → B) : if c then A else B := by
  by_cases h : c
  · rw [if_pos h]
    exact h1 h
  · rw [if_neg h]
    exact h2 h
theorem iteNS {c A B : Prop} [Decidable c] (hc : c) (h : B) : if (!decide c) = true then A else B := by
  rw [decide_eq_true hc]
  exact iteF h

/-! ### heaps -/
/-- all that was tracked is as it was -/
def Same (H H' : Hp) : Prop := ∀ b o, H b = some o → H' b = some o
theorem Same.refl (H : Hp) : Same H H := fun _ _ h => h
theorem Same.trans {H H1 H2 : Hp} (a : Same H H1) (b : Same H1 H2) : Same H H2 := fun c o h => b c o (a c o h)
theorem Same.free {H H' : Hp} (e : Same H H') {l : Addr} (h : H' l = Option.none) : H l = Option.none := by
  cases q : H l with
  | none => rfl
  | some o =>
    rw [e l o q] at h
    cases h
theorem Same.seq {K : PySem.W.Frag} {H H' : Hp} {a : Addr} {xs : List V} (e : Same H H') (h : SqL K H a xs) : SqL K H' a xs := by
  rcases h with (h | ⟨o, h⟩) | h
  · exact .inl (.inl (e _ _ h))
  · exact .inl (.inr ⟨o, e _ _ h⟩)
  · exact .inr h

end L2

set_option Elab.async false
set_option linter.all false
set_option maxRecDepth 100000
/-! My own words over the hand layer: comprehensions, isinstance, a list unpacked, lists compared -/
namespace L2
open PySem PySem.Spec PyProof.Rows

/-! ### the closure of a comprehension's block -/
def closList (cells : List (Str × Addr)) : List (Str × NameKind) → List (Str × Addr) → List (Str × Addr)
  | [], cs => cs
  | (n, k) :: r, cs => closList cells r (if k == .free then (n, (cells.lookup n).getD 0) :: cs else cs)

theorem closureFor_eq {scope : Scope} {env : Env} (h : ∀ y ∈ scope.names, y.2 = .free → ∃ c, env.cells.lookup y.1 = some c) :
    closureFor scope env = pure (closList env.cells scope.names []) := by
  have all : ∀ (ns : List (Str × NameKind)) (cs : List (Str × Addr)), (∀ y ∈ ns, y.2 = .free → ∃ c, env.cells.lookup y.1 = some c) →
      (forIn ns cs (fun (x : Str × NameKind) (r : List (Str × Addr)) => (match x with
        | (name, kind) => if (kind == NameKind.free) = true then (do let c ← cellOf env name; pure (ForInStep.yield ((name, c) :: r))) else pure (ForInStep.yield r) : Sem (ForInStep (List (Str × Addr))))) : Sem (List (Str × Addr)))
      = pure (closList env.cells ns cs) := by
    intro ns
    induction ns with
    | nil => intro cs _; rfl
    | cons y r ih =>
      intro cs hy
      obtain ⟨n, k⟩ := y
      rw [List.forIn_cons]
      by_cases hk : k = .free
      · subst hk
        obtain ⟨c, e⟩ := hy (n, .free) List.mem_cons_self rfl
        have e' : env.cells.lookup n = some c := e
        have e1 : cellOf env n = pure c := by unfold cellOf; rw [e']
        simp only [beq_self_eq_true, if_true, e1, pure_bind]
        rw [ih _ fun z hz => hy z (List.mem_cons_of_mem _ hz)]
        simp only [closList, beq_self_eq_true, if_true, e', Option.getD_some]
      · have hb : (k == NameKind.free) = false := by simpa using hk
        simp only [hb, Bool.false_eq_true, if_false, pure_bind]
        rw [ih _ fun z hz => hy z (List.mem_cons_of_mem _ hz)]
        simp only [closList, hb, Bool.false_eq_true, if_false]
  unfold closureFor
  have q := all scope.names [] h
  simp only [bind_pure]
  exact q

theorem closList_some (cells : List (Str × Addr)) {x : Str} {c : Addr} : ∀ (ns : List (Str × NameKind)) (cs : List (Str × Addr)), (closList cells ns cs).lookup x = some c →
    ((x, NameKind.free) ∈ ns ∧ (cells.lookup x).getD 0 = c) ∨ cs.lookup x = some c
  | [], _, h => .inr h
  | (n, k) :: r, cs, h => by
    rcases closList_some cells r _ h with ⟨h1, h2⟩ | h1
    · exact .inl ⟨List.mem_cons_of_mem _ h1, h2⟩
    · by_cases hk : k = .free
      · subst hk
        simp only [beq_self_eq_true, if_true] at h1
        by_cases hx : x = n
        · subst hx
          simp only [List.lookup_cons, beq_self_eq_true] at h1
          exact .inl ⟨List.mem_cons_self, Option.some.inj h1⟩
        · have hb : (x == n) = false := by simpa using hx
          simp only [List.lookup_cons, hb] at h1
          exact .inr h1
      · have hb : (k == NameKind.free) = false := by simpa using hk
        simp only [hb, Bool.false_eq_true, if_false] at h1
        exact .inr h1
theorem closList_has (cells : List (Str × Addr)) {x : Str} {c : Addr} (e : cells.lookup x = some c) : ∀ (ns : List (Str × NameKind)) (cs : List (Str × Addr)), ((x, NameKind.free) ∈ ns ∨ cs.lookup x = some c) →
    (closList cells ns cs).lookup x = some c
  | [], _, h => by
    rcases h with h | h
    · cases h
    · exact h
  | (n, k) :: r, cs, h => by
    refine closList_has cells e r _ ?_
    rcases h with h | h
    · rcases List.mem_cons.mp h with z | z
      · cases z
        right
        simp only [beq_self_eq_true, if_true, List.lookup_cons, e, Option.getD_some]
      · exact .inl z
    · right
      by_cases hk : (k == NameKind.free) = true
      · rw [if_pos hk]
        by_cases hx : x = n
        · subst hx
          simp only [List.lookup_cons, beq_self_eq_true, e, Option.getD_some]
        · have hb : (x == n) = false := by simpa using hx
          simp only [List.lookup_cons, hb]
          exact h
      · rw [if_neg hk]
        exact h
theorem relabel_free {env : Env} : ∀ {names : List (Str × NameKind)} {x : Str}, names.lookup x = some .free →
    (names.map fun (n, k) => if (k == NameKind.free && env.scope.kind == .function && env.kindOf n == some .cell) then (n, NameKind.cell) else (n, k)).lookup x = some .cell ∨
    (names.map fun (n, k) => if (k == NameKind.free && env.scope.kind == .function && env.kindOf n == some .cell) then (n, NameKind.cell) else (n, k)).lookup x = some .free
  | [], _, h => by simp at h
  | (n, k) :: r, x, h => by
    have ih := @relabel_free env r x
    show List.lookup x ((if (k == NameKind.free && env.scope.kind == .function && env.kindOf n == some .cell) = true then (n, NameKind.cell) else (n, k)) :: _) = _ ∨
      List.lookup x ((if (k == NameKind.free && env.scope.kind == .function && env.kindOf n == some .cell) = true then (n, NameKind.cell) else (n, k)) :: _) = _
    cases hx : x == n with
    | true =>
      simp only [List.lookup_cons, hx] at h
      cases h
      by_cases hc : (NameKind.free == NameKind.free && env.scope.kind == .function && env.kindOf n == some .cell) = true
      · rw [if_pos hc]; simp only [List.lookup_cons, hx]; first | exact .inl trivial | exact .inl rfl
      · rw [if_neg hc]; simp only [List.lookup_cons, hx]; first | exact .inr trivial | exact .inr rfl
    | false =>
      simp only [List.lookup_cons, hx] at h
      by_cases hc : (k == NameKind.free && env.scope.kind == .function && env.kindOf n == some .cell) = true
      · rw [if_pos hc]; simp only [List.lookup_cons, hx]; exact ih h
      · rw [if_neg hc]; simp only [List.lookup_cons, hx]; exact ih h
/-- what is a cell or free behind the change of names was free -/
theorem relabel_back {env : Env} : ∀ {names : List (Str × NameKind)} {x : Str} {k' : NameKind}, k' = .cell ∨ k' = .free → (∀ y ∈ names, y.2 ≠ .cell) →
    (names.map fun (n, k) => if (k == NameKind.free && env.scope.kind == .function && env.kindOf n == some .cell) then (n, NameKind.cell) else (n, k)).lookup x = some k' → (x, NameKind.free) ∈ names
  | [], _, _, _, _, h => by simp at h
  | (n, k) :: r, x, k', hk', hn, h => by
    have ih := @relabel_back env r x k' hk' (fun y hy => hn y (List.mem_cons_of_mem _ hy))
    have h' : List.lookup x ((if (k == NameKind.free && env.scope.kind == .function && env.kindOf n == some .cell) = true then (n, NameKind.cell) else (n, k)) :: (r.map fun (n, k) => if (k == NameKind.free && env.scope.kind == .function && env.kindOf n == some .cell) then (n, NameKind.cell) else (n, k))) = some k' := h
    have hkc : k ≠ .cell := hn (n, k) List.mem_cons_self
    cases hx : x == n with
    | true =>
      have hxn : x = n := by simpa using hx
      subst hxn
      by_cases hc : (k == NameKind.free && env.scope.kind == .function && env.kindOf x == some .cell) = true
      · have hk : k = .free := by
          simp only [Bool.and_eq_true, beq_iff_eq] at hc
          exact hc.1.1
        subst hk
        exact List.mem_cons_self
      · rw [if_neg hc] at h'
        simp only [List.lookup_cons, beq_self_eq_true] at h'
        have hk : k = k' := Option.some.inj h'
        rcases hk' with z | z
        · exact absurd (hk.trans z) hkc
        · rw [hk, z]; exact List.mem_cons_self
    | false =>
      refine List.mem_cons_of_mem _ (ih ?_)
      by_cases hc : (k == NameKind.free && env.scope.kind == .function && env.kindOf n == some .cell) = true
      · rw [if_pos hc] at h'
        simpa only [List.lookup_cons, hx] using h'
      · rw [if_neg hc] at h'
        simpa only [List.lookup_cons, hx] using h'

/-! ### the block -/
def blockSt (ix : List (Option Nat)) (σ : St) : St := ix.map fun o => match o with
  | none => none
  | some i => (σ[i]?).join
/-- the block's names N: its own at none, the frame's i-th at some i -/
structure BlkScope (NX : List Str) (scX : Scope) (N : List Str) (ix : List (Option Nat)) (sc : Scope) : Prop where
  kind : sc.kind = .function
  nd : N.Nodup
  nocell : ∀ y ∈ sc.names, y.2 ≠ .cell
  locs : ∀ y ∈ sc.names, y.2 = .local → sc.names.lookup y.1 = some .local
  free : ∀ y ∈ sc.names, y.2 = .free → scX.names.lookup y.1 = some .cell ∨ scX.names.lookup y.1 = some .free
  len : ix.length = N.length
  at_ : ∀ p ∈ N.zip ix, ∀ i, p.2 = some i → NX[i]? = some p.1 ∧ sc.names.lookup p.1 = some .free

def cxComp (X : Cx) (N : List Str) (scope : Scope) (fp : List Addr) (s : Shared) (H : Hp) (C : Addr) : Cx :=
  { prog := X.prog, w := X.w, K := X.K, mg := X.mg, base := X.base, A := X.A, N := N, s₀ := s, H₀ := H, env := compEnvC scope (closList X.env.cells scope.names []) C X.env, outer := X.stack, stack := X.stack, ex := fp, fn := fun _ => false, calm := X.calm, pn := X.pn, xe := fun _ _ => False }

theorem mem_lookup_free {names : List (Str × NameKind)} {x : Str} (h : names.lookup x = some .free) : (x, NameKind.free) ∈ names := PySem.mem_of_lookup h

section
variable {X : Cx} {pins : List (Addr × Obj)} {σ : St} {H : Hp} {s : Shared} {N : List Str} {ix : List (Option Nat)} {scope : Scope} {fp : List Addr}

theorem BlkScope.clos (S : BlkScope X.N X.env.scope N ix scope) (ok : X.Ok) : ∀ y ∈ scope.names, y.2 = .free → ∃ c, X.env.cells.lookup y.1 = some c := fun y hy hf => ok.has y.1 (S.free y hy hf)

/-- the state at the block's entry: the list at D, the block's names at C -/
theorem inv_block {D C : Addr} {h' : Heap} {tk : Nat} {m : Str → Option Value} (I : Inv X pins σ H s) (S : BlkScope X.N X.env.scope N ix scope) (hf : ∀ b ∈ fp, FpOk X pins H b)
    (hfo : ∀ b ∈ fp, ∃ o, s.heap.get? b = some o ∧ ∀ v, o.data ≠ .cell v)
    (hD : s.heap.objs.size ≤ D) (hC : s.heap.objs.size ≤ C) (hDC : D ≠ C) (hk : ∀ b o, s.heap.get? b = some o → h'.get? b = some o) (hns : h'.Ns C m)
    (hl : ∃ n, h'.get? D = some { cls := .type "list", data := .seq ([] : List Value).toArray n }) :
    Inv (cxComp X N scope fp s H C) pins (blockSt ix σ) (upd H D (.lst [])) { s with heap := h', toks := tk } := by
  have fresh : ∀ {a : Addr}, s.heap.objs.size ≤ a → H a = none := fun h => I.hok.fresh h
  have cl_of : ∀ x c, (closList X.env.cells scope.names []).lookup x = some c → X.env.cells.lookup x = some c := fun x c e => by
    rcases closList_some _ _ _ e with ⟨h1, h2⟩ | h1
    · obtain ⟨c', e'⟩ := S.clos I.ok _ h1 rfl
      have e'' : X.env.cells.lookup x = some c' := e'
      rw [e''] at h2
      rw [e'']
      exact congrArg some h2
    · simp at h1
  have ltO : ∀ {b : Addr} {o : Obj}, s.heap.get? b = some o → b < s.heap.objs.size := fun e => Heap.lt_size e
  have neC : ∀ {b : Addr} {o : Obj}, s.heap.get? b = some o → b ≠ C := fun e => Nat.ne_of_lt (Nat.lt_of_lt_of_le (ltO e) hC)
  have neD : ∀ {b : Addr} {o : Obj}, s.heap.get? b = some o → b ≠ D := fun e => Nat.ne_of_lt (Nat.lt_of_lt_of_le (ltO e) hD)
  have cellG : ∀ x c, X.env.cells.lookup x = some c → ∃ o, s.heap.get? c = some o := fun x c e => by
    obtain ⟨v, o, ho, _⟩ := I.cell x c e
    exact ⟨o, ho⟩
  refine ⟨⟨I.ok.mod, ?_, I.ok.glob, I.ok.blt, hC, fun x y c e1 e2 => I.ok.inj x y c (cl_of x c e1) (cl_of y c e2), fun x hx => ?_, fun x c h _ => ?_, I.ok.hd, I.ok.frames, .inl rfl, fun b hb => ?_, I.bs, Nat.le_trans I.ok.bsz I.sz, fun b o e hb => ?_, fun b hb hb2 => ?_, I.stack, I.stkFree⟩,
    rfl, I.bare, Un.laid hk hD (fresh hD), ⟨m, hns, fun j x v e1 e2 e3 => ?_⟩, fun x c e => ?_, ?_, fun x c e => ?_, fun p hp => ?_, I.hok.laid hk hD ?_, ?_⟩
  · exact S.kind
  · have hx' : (x, NameKind.free) ∈ scope.names := by
      rcases hx with hx | hx
      · exact relabel_back (.inl rfl) S.nocell hx
      · exact relabel_back (.inr rfl) S.nocell hx
    obtain ⟨c, e⟩ := S.clos I.ok _ hx' rfl
    exact ⟨c, closList_has _ e _ _ (.inl hx')⟩
  · exact absurd (show false = true from h) Bool.false_ne_true
  · obtain ⟨f0, f1, f2, f3, f4, f5⟩ := hf b hb
    obtain ⟨o, e, _⟩ := hfo b hb
    exact ⟨neC e, fun x c ec => f4 x c (cl_of x c ec)⟩
  · obtain ⟨f0, f1, f2, f3, f4, f5⟩ := hf b hb
    rcases f3 with z | z
    · exact I.ok.noex b o e z
    · exact absurd (Nat.lt_of_lt_of_le (Heap.lt_size (I.ok.bs b o e).1) z) (Nat.lt_irrefl _)
  · obtain ⟨f0, f1, f2, f3, f4, f5⟩ := hf b hb
    rcases List.mem_cons.mp (I.stkSub b hb2) with z | z
    · exact f1 z
    · exact f2 z
  · -- a name's value
    obtain ⟨mX, hnX, hlX⟩ := id I.loc
    have hj : (blockSt ix σ)[j]? = some (some v) := e2
    unfold blockSt at hj
    rw [List.getElem?_map] at hj
    cases ej : ix[j]? with
    | none => rw [ej] at hj; cases hj
    | some o =>
      rw [ej] at hj
      cases o with
      | none => cases hj
      | some i =>
        have hj' : (σ[i]?).join = some v := Option.some.inj hj
        have hz : (x, some i) ∈ N.zip ix := List.mem_iff_getElem?.mpr ⟨j, by rw [List.getElem?_zip_eq_some]; exact ⟨e1, ej⟩⟩
        obtain ⟨hNi, hfr⟩ := S.at_ _ hz i rfl
        have hmem := mem_lookup_free hfr
        have hσ : σ[i]? = some (some v) := by
          cases q : σ[i]? with
          | none => rw [q] at hj'; cases hj'
          | some w' =>
            rw [q] at hj'
            have q' : w' = some v := hj'
            rw [q']
        have hvx : X.env.scope.names.lookup x = some .cell ∨ X.env.scope.names.lookup x = some .free := S.free _ hmem rfl
        obtain ⟨u, r, lk⟩ := hlX i x v hNi hσ (.inr hvx)
        refine ⟨u, r, .inr ⟨?_, ?_⟩⟩
        · exact relabel_free hfr
        · rcases lk with ⟨k, _⟩ | ⟨k, c, ec, ci⟩
          · have k' : X.env.scope.names.lookup x = some .local := k
            rcases hvx with z | z
            · rw [z] at k'; cases k'
            · rw [z] at k'; cases k'
          · obtain ⟨oc, hoc, hocd⟩ := ci
            exact ⟨c, closList_has _ ec _ _ (.inl hmem), oc, hk c oc hoc, hocd⟩
  · obtain ⟨v, o, ho, hd⟩ := I.cell x c (cl_of x c e)
    exact ⟨v, o, hk c o ho, hd⟩
  · show upd H D (.lst []) C = none
    rw [upd_ne (Ne.symm hDC)]
    exact fresh hC
  · obtain ⟨o, ho⟩ := cellG x c (cl_of x c e)
    rw [upd_ne (neD ho)]
    exact I.freeC x c (cl_of x c e)
  · obtain ⟨e, n, ne, nf, d⟩ := I.pin p hp
    refine ⟨hk _ _ e, by rw [upd_ne (neD e)]; exact n, neC e, fun z => ?_, d⟩
    rcases List.mem_cons.mp (I.stkSub p.1 z) with q | q
    · exact ne q
    · exact nf q
  · obtain ⟨n, hl⟩ := hl
    exact ⟨Nat.zero_le _, [], n, .nil, hl⟩
  · show (blockSt ix σ).length = N.length
    unfold blockSt
    rw [List.length_map]
    exact S.len
end
end L2

set_option Elab.async false
set_option linter.all false
set_option maxRecDepth 100000
namespace L2
open PySem PySem.Spec PyProof.Rows

/-! ### the comprehension's loop -/
theorem compLoop_by {prog : Program} {w : World} {A : Around} {R : Result → Shared → Prop} {s : Shared} {elt target iter : Expr} {scope : Scope} {pos : Pos} {it acc : Value} {env : Env} (I : Nat → Shared → Prop)
    (turn : ∀ n s, I n s → wpAny (model prog w) A (pyNext it) (fun r s₁ => match r with
      | none => R (.ok .next) s₁
      | some v => wpAny (model prog w) A (letOwnedTupleGo target it v) (fun _ s₁' => wpAny (model prog w) A (assign target env v) (fun _ s₂ => wpAny (model prog w) A (eval elt env) (fun x s₃ =>
          wpAny (model prog w) A (call (.builtin "list.append") [acc, x]) (fun _ s₄ => ∃ m, m < n ∧ I m s₄) (fun _ _ => False) s₃)
          (fun _ _ => False) s₂) (fun _ _ => False) s₁') (fun _ _ => False) s₁) (fun _ _ => False) s)
    (n : Nat) (h : I n s) :
    codeAny (model prog w) A (.compLoop (.ListComp elt [⟨target, iter, [], 0⟩] scope pos) 0 it acc env) R s := by
  refine codeAny_loop rfl I (fun n s hI => ?_) n h
  show wpAny _ _ ((compTurn (.ListComp elt [⟨target, iter, [], 0⟩] scope pos) 0 it acc env).onRaise (fun x => do noteFrame x env; theTreesLotGoes x)) _ _ s
  refine wpAny_noted ?_
  rw [compTurn_list1]
  refine wpAny_bind (wpAny_standAt (wpAny_bind (wpAny_mono (turn n s hI) (fun r s₁ h₁ => ?_) fun _ _ h' => h'.elim)))
  cases r with
  | none => exact wpAny_pure h₁
  | some v =>
    refine wpAny_bind (wpAny_mono h₁ (fun _ s₁' h₁' => ?_) fun _ _ h' => h'.elim)
    exact wpAny_bind (wpAny_mono h₁' (fun _ s₂ h₂ => wpAny_bind (wpAny_bind (wpAny_mono h₂ (fun x s₃ h₃ => wpAny_bind (wpAny_mono h₃
      (fun _ s₄ h₄ => wpAny_pure (wpAny_pure ⟨rfl, h₄⟩)) fun _ _ h' => h'.elim)) fun _ _ h' => h'.elim))) fun _ _ h' => h'.elim)

/-- what a comprehension's reading asks behind the source: W the invariant by turn and measure -/
def CompW (J : It) (ix : List (Option Nat)) (g : TG) (te : TE) (σ : St) (H : Hp) (Qd : Addr → Hp → Prop) : Prop :=
  ∀ D, H D = none → ∃ W : Nat → Nat → St → Hp → Prop, (∃ m, W 0 m (blockSt ix σ) (upd H D (.lst []))) ∧ ∀ i m σ' H', W i m σ' H' →
    (J.stop i H' ∧ Qd D H') ∨ (J.go i H' ∧ ∀ x H2, J.yld i H' x H2 → g x σ' H2 fun σ3 H3 => te σ3 H3 fun y H4 => ∃ ys, H4 D = some (.lst ys) ∧ ys.length < sizeLine ∧ ∃ m', m' < m ∧ W (i + 1) m' σ3 (upd H4 D (.lst (ys ++ [y]))))

section
variable {X : Cx} {pins : List (Addr × Obj)} {σ : St} {H : Hp} {s : Shared} {N : List Str} {ix : List (Option Nat)} {scope : Scope} {fp : List Addr} {tg elt iter : Expr} {pos spos : Pos} {J : It} {it : Addr} {tn : Nat → Heap → Prop} {g : TG} {te : TE} {wi : TI}

theorem comp_run {Qd : Addr → Hp → Prop} {RR : Value → Addr → Result → Shared → Prop} {E : Value → Shared → Prop} (I : Inv X pins σ H s) (hc : X.calm = true) (S : BlkScope X.N X.env.scope N ix scope) (T : Turn X.prog X.w X.K tg J fp it tn) (st : tn 0 s.heap) (f2 : ∀ b ∈ fp, FpOk X pins H b)
    (hg : ∀ C, PG (cxComp X N scope fp s H C) tg g) (he : ∀ C, PE (cxComp X N scope fp s H C) elt te) (hW : CompW J ix g te σ H Qd)
    (hR : ∀ D C s' H' m, Inv X pins σ H' s' → s'.heap.Ns C m → FpOk X pins H' C → Qd D H' → RR (.ref D) C (.ok .next) s') :
    wpAny (model X.prog X.w) X.A (newList []) (fun acc s₃ => wpAny (model X.prog X.w) X.A (newFunctionEnv scope X.env.globals (closList X.env.cells scope.names []) [] X.env.qual none .none (some X.env)) (fun cenv s₄ =>
      codeAny (model X.prog X.w) X.A (.compStart (.ListComp elt [⟨tg, iter, [], 0⟩] scope pos) 0 (.ref it) acc { cenv with scope := relabel scope X.env }) (RR acc cenv.locals) s₄) E s₃) E s := by
  refine wpAny_newObj_type (wpAny_newFunctionEnv S.nocell (by intro y hy; simp at hy) (fun h₁ hns₁ hsb₁ => ?_) S.kind)
  dsimp only at hns₁ hsb₁ ⊢
  generalize hH2 : s.heap.push { cls := .type "list", dict := none, data := .seq ([] : List Value).toArray } = H2 at hns₁ hsb₁ ⊢
  have hC : H2.objs.size = s.heap.objs.size + 1 := by rw [← hH2, Heap.size_push]
  have hDC : s.heap.objs.size ≠ H2.objs.size := by rw [hC]; exact Nat.ne_of_lt (Nat.lt_succ_self _)
  have hCle : s.heap.objs.size ≤ H2.objs.size := by rw [hC]; exact Nat.le_succ _
  have below : ∀ b, b < s.heap.objs.size → b ≠ H2.objs.size := fun b hb => by rw [hC]; exact Nat.ne_of_lt (Nat.lt_succ_of_lt hb)
  have old : ∀ b o, s.heap.get? b = some o → h₁.get? b = some o := fun b o e => hsb₁.extBut b o (below b (Heap.lt_size e)) (Heap.get?_push_of_some _ (hH2 ▸ Heap.get?_push_of_some _ e))
  have hacc : ∃ n, h₁.get? s.heap.objs.size = some { cls := .type "list", data := .seq ([] : List Value).toArray n } := ⟨_, hsb₁.extBut _ _ hDC (Heap.get?_push_of_some _ (hH2 ▸ Heap.get?_push_size _ rfl))⟩
  have st1 : tn 0 h₁ := T.keep _ _ _ st fun b _ o e => old b o e
  have fo : ∀ b ∈ fp, ∃ o, s.heap.get? b = some o ∧ ∀ v, o.data ≠ .cell v := T.obj _ _ st
  have I0 : Inv (cxComp X N scope fp s H H2.objs.size) pins (blockSt ix σ) (upd H s.heap.objs.size (.lst [])) { s with heap := h₁, toks := s.toks + ([] : List (Str × Value)).length } :=
    inv_block I S f2 fo (Nat.le_refl _) hCle hDC old hns₁ hacc
  have freshD : H s.heap.objs.size = none := I.hok.fresh (Nat.le_refl _)
  obtain ⟨W, ⟨m0, w0⟩, turn⟩ := hW s.heap.objs.size freshD
  have cl_ne : ∀ b ∈ fp, b ≠ H2.objs.size := fun b hb => by
    obtain ⟨o, e, _⟩ := fo b hb
    exact below b (Heap.lt_size e)
  have stat : ∀ {H' : Hp}, (∀ b ∈ fp, H' b = none) → ∀ b ∈ fp, FpOk (cxComp X N scope fp s H H2.objs.size) pins H' b := fun hn b hb => by
    obtain ⟨f0, f1, f3, f4, f5, f6⟩ := f2 b hb
    exact ⟨hn b hb, cl_ne b hb, I0.ok.exfs b hb, .inl hb, (I0.ok.exf b hb).2, f6⟩
  have fr0 : ∀ b ∈ fp, (upd H s.heap.objs.size (.lst [])) b = none := fun b hb => by
    obtain ⟨o, e, _⟩ := fo b hb
    rw [upd_ne (Nat.ne_of_lt (Heap.lt_size e))]
    exact (f2 b hb).1
  have loop : codeAny (model X.prog X.w) X.A (.compLoop (.ListComp elt [⟨tg, iter, [], 0⟩] scope pos) 0 (.ref it) (.ref s.heap.objs.size) (compEnvC scope (closList X.env.cells scope.names []) H2.objs.size X.env))
      (RR (.ref s.heap.objs.size) H2.objs.size) { s with heap := h₁, toks := s.toks + ([] : List (Str × Value)).length } := by
    refine compLoop_by (fun n s' => ∃ i σ' H', Inv (cxComp X N scope fp s H H2.objs.size) pins σ' H' s' ∧ tn i s'.heap ∧ (∀ b ∈ fp, H' b = none) ∧ W i n σ' H') ?_ m0 ⟨0, _, _, I0, st1, fr0, w0⟩
    rintro n s3 ⟨i, σ3, H3, I3, st3, fr3, w3⟩
    rcases turn i n σ3 H3 w3 with ⟨stop, qn⟩ | ⟨go, step⟩
    · refine thn (T.done (cxComp X N scope fp s H H2.objs.size) rfl rfl rfl hc i pins s3 σ3 H3 _ I3 (stat fr3) st3 stop) fun r s4 ⟨hr, I4⟩ => ?_
      subst hr
      obtain ⟨m4, hn4, _⟩ := id I4.loc
      refine hR _ _ s4 H3 m4 ?_ hn4 (I.fpOk hCle I4.free) qn
      exact I.call' (ch := fp) I4.os I4.base I4.hok I4.bare fun b hb => by
        obtain ⟨f0, f1, f3, f4, f5, f6⟩ := f2 b hb
        exact ⟨f4, f1, f5, f6⟩
    · refine thn (T.item (cxComp X N scope fp s H H2.objs.size) rfl rfl rfl hc i pins s3 σ3 H3 _ I3 (stat fr3) st3 go) fun r s4 ⟨u, hr, h4⟩ => ?_
      subst hr
      refine thn h4 fun _ s5 ⟨x, H5, I5, r5, y5, st5, fr5⟩ => ?_
      have I5' := I5.pinned (stat fr5) (T.obj _ _ st5)
      refine thn (hg _ _ s5 σ3 H5 x u _ I5' r5 (step x H5 y5)) fun _ s6 ⟨σ6, H6, I6, q6⟩ => ?_
      refine thn (he _ _ s6 σ6 H6 _ I6 q6) fun yv s7 ⟨y, H7, I7, r7, ys, hD7, hz7, m', hm, w7⟩ => ?_
      refine thn (mt_append (X := cxComp X N scope fp s H H2.objs.size) _ s7 σ6 H7 (.ref s.heap.objs.size) [y] (.ref s.heap.objs.size) [yv] (fun _ H8 => W (i + 1) m' σ6 H8) I7 rfl (.cons r7 .nil) ⟨_, ys, y, rfl, rfl, hD7, hz7, w7⟩) fun _ s8 ⟨_, H8, I8, _, w8⟩ => ?_
      refine ⟨m', hm, i + 1, σ6, H8, I8.unpinned, T.keep _ _ _ st5 fun b hb o e => (I8.pin (b, o) (List.mem_append_right _ (List.mem_append_right _ (mem_pinsAt hb e)))).1, fun b hb => ?_, w8⟩
      obtain ⟨o, e, d⟩ := T.obj _ _ st5 b hb
      exact (I8.pin (b, o) (List.mem_append_right _ (List.mem_append_right _ (mem_pinsAt hb e)))).2.1
  exact codeAny_compStart_list loop (T.self _ _ _ _ _ st1 loop)

/-- [elt for x in iter] -/
def tComp (ix : List (Option Nat)) (wi : TI) (g : TG) (te : TE) : TE := fun σ H Q => wi σ H fun J H1 => CompW J ix g te σ H1 fun D H' => Q (.ref D) H'
theorem pe_comp (hc : X.calm = true) (S : BlkScope X.N X.env.scope N ix scope) (hi : PI X tg iter wi) (hg : ∀ fp s H C, PG (cxComp X N scope fp s H C) tg g) (he : ∀ fp s H C, PE (cxComp X N scope fp s H C) elt te)
    (hs : ∀ x, foldedSetIterable iter X.env x = pure x := by intro _; rfl) : PE X (.ListComp elt [⟨tg, iter, [], 0⟩] scope pos) (tComp ix wi g te) := by
  intro pins s σ H Q I h
  rw [eval_ListComp]
  refine wpAny_comprehension_free (use := none) rfl hs (closureFor_eq (S.clos I.ok)) S.kind S.locs (thn (hi pins s σ H _ I h) fun v s1 h1 => thn h1 fun itv s2 h2 => ?_)
  obtain ⟨it, fp, tn, J, H2, e, I2, T, st2, f2, hW⟩ := h2
  subst e
  refine comp_run (RR := fun acc C => compPost (model X.prog X.w) X.A X.xe none (EP X pins σ Q) acc C) I2 hc S T st2 f2 (hg _ _ _) (he _ _ _) hW ?_
  intro D C s' H' m I' hn fC q
  exact ⟨m, hn, fun h' sb => ⟨.ref D, H', I'.turned (t' := s'.toks) (fun b o hb e => (sb.2 b hb).trans e) fC.1 fC.2.1 fC.2.2.2.1 fC.2.2.2.2.1 fC.2.2.2.2.2, rfl, q⟩⟩
/-- y = [elt for x in iter], y a plain local name -/
theorem ps_setComp {i : Nat} {y : Str} {py : Pos} (hc : X.calm = true) (hN : X.N.Nodup) (hyi : X.N[i]? = some y) (hy : Loc X.env.scope y) (S : BlkScope X.N X.env.scope N ix scope) (hi : PI X tg iter wi) (hg : ∀ fp s H C, PG (cxComp X N scope fp s H C) tg g) (he : ∀ fp s H C, PE (cxComp X N scope fp s H C) elt te)
    (hsw : swapsWith (.ListComp elt [⟨tg, iter, [], 0⟩] scope pos) (some (.Name y py)) spos.line X.env = pure true := by rfl)
    (hf : X.fn y = true ∨ X.env.scope.names.lookup y = some .local := by first | exact .inl rfl | exact .inr rfl | assumption)
    (hs : ∀ x, foldedSetIterable iter X.env x = pure x := by intro _; rfl) : PS X (.Assign [.Name y py] (.ListComp elt [⟨tg, iter, [], 0⟩] scope pos) spos) (tAsg (tComp ix wi g te) (gName i)) := by
  intro pins s σ H D I h
  rw [exec_Assign_Name_used _ _ _ _ hsw]
  refine wpAny_bind (wpAny_standAt (wpAny_bind ?_))
  show wpAny _ X.A (do let _ ← comprehension (.ListComp elt [⟨tg, iter, [], 0⟩] scope pos) scope X.env _ (newList []) false (eval iter X.env) (some (assign (.Name y py) X.env))) _ _ s
  refine wpAny_bind (wpAny_mono (wpAny_comprehension_free (use := some (assign (.Name y py) X.env)) (Q := fun _ s' => SP X pins D .next s') rfl hs (closureFor_eq (S.clos I.ok)) S.kind S.locs
    (thn (hi pins s σ H _ I h) fun v s1 h1 => thn h1 fun itv s2 h2 => ?_)) (fun _ s' hq => wpAny_pure (wpAny_pure hq)) fun _ _ e => e)
  obtain ⟨it, fp, tn, J, H2, e, I2, T, st2, f2, hW⟩ := h2
  subst e
  refine comp_run (RR := fun acc C => compPost (model X.prog X.w) X.A X.xe (some (assign (.Name y py) X.env)) (fun _ s' => SP X pins D .next s') acc C) I2 hc S T st2 f2 (hg _ _ _) (he _ _ _) hW ?_
  intro Dl C s' H' m I' hn fC q
  show wpAny _ X.A (assign (.Name y py) X.env (.ref Dl)) _ _ s'
  refine wpAny_assign_Name (store_ok2 I' hN hyi hy (v := .ref Dl) rfl (fun s2 I2' hsb => ?_) hf)
  obtain ⟨a, sb, ha⟩ := hsb
  refine ⟨m, hn.sameBut sb ?_, fun h3 sb3 => ⟨_, H', I2'.turned (t' := s2.toks) (fun b o hb e => (sb3.2 b hb).trans e) fC.1 fC.2.1 fC.2.2.2.1 fC.2.2.2.2.1 fC.2.2.2.2.2, q⟩⟩
  rcases ha with z | z
  · rw [z]; exact fC.2.1
  · exact Ne.symm (fC.2.2.2.2.1 _ _ z)
end

/-! ### the forms one uses -/
theorem comp_range {lo : Int} {n : Nat} {ix : List (Option Nat)} {te : TE} {σ : St} {H : Hp} {Qd : Addr → Hp → Prop} (Pv : Addr → Nat → List V → Hp → Prop)
    (h0 : ∀ D, H D = none → Pv D 0 [] (upd H D (.lst [])))
    (hs : ∀ D i ys H' (Q' : VK), H D = none → i < n → H' D = some (.lst ys) → Pv D i ys H' → (∀ y H4, H4 D = some (.lst ys) → ys.length < sizeLine → Pv D (i + 1) (ys ++ [y]) (upd H4 D (.lst (ys ++ [y]))) → Q' y H4) →
      te ((blockSt ix σ).set 0 (some (.int (lo + i)))) H' Q')
    (hd : ∀ D ys H', H D = none → H' D = some (.lst ys) → Pv D n ys H' → Qd D H') : CompW (Itr lo n) ix (gName 0) te σ H Qd := by
  intro D hD
  refine ⟨fun i m σ' H' => m = n - i ∧ i ≤ n ∧ (σ' = blockSt ix σ ∨ ∃ t, σ' = (blockSt ix σ).set 0 t) ∧ ∃ ys, H' D = some (.lst ys) ∧ Pv D i ys H', ⟨n, by simp, Nat.zero_le _, .inl rfl, [], upd_same, h0 D hD⟩, ?_⟩
  rintro i m σ' H' ⟨rfl, hi, hσ, ys, hy, p⟩
  by_cases hlt : i < n
  · refine .inr ⟨hlt, fun x H2 y => ?_⟩
    obtain ⟨e1, e2⟩ := y
    subst e1
    subst e2
    have es : σ'.set 0 (some (V.int (lo + i))) = (blockSt ix σ).set 0 (some (V.int (lo + i))) := by
      rcases hσ with z | ⟨t, z⟩
      · rw [z]
      · rw [z, List.set_set]
    show te (σ'.set 0 (some (V.int (lo + i)))) _ _
    rw [es]
    refine hs D i ys _ _ hD hlt hy p fun y H4 h4 hz p4 => ⟨ys, h4, hz, n - (i + 1), by omega, rfl, hlt, .inr ⟨_, rfl⟩, ys ++ [y], upd_same, p4⟩
  · have e : i = n := by omega
    subst e
    exact .inl ⟨Nat.le_refl _, hd D ys H' hD hy p⟩
theorem comp_list {K : PySem.W.Frag} {a : Addr} {xs : List V} {ix : List (Option Nat)} {te : TE} {σ : St} {H : Hp} {Qd : Addr → Hp → Prop} (Pv : Addr → Nat → List V → Hp → Prop)
    (h0 : ∀ D, H D = none → Pv D 0 [] (upd H D (.lst [])))
    (hl : ∀ D i ys H', i ≤ xs.length → Pv D i ys H' → SqL K H' a xs)
    (hs : ∀ D i x ys H' (Q' : VK), H D = none → xs[i]? = some x → H' D = some (.lst ys) → Pv D i ys H' → (∀ y H4, H4 D = some (.lst ys) → ys.length < sizeLine → Pv D (i + 1) (ys ++ [y]) (upd H4 D (.lst (ys ++ [y]))) → Q' y H4) →
      te ((blockSt ix σ).set 0 (some x)) H' Q')
    (hd : ∀ D ys H', H D = none → H' D = some (.lst ys) → Pv D xs.length ys H' → Qd D H') : CompW (Itl K a) ix (gName 0) te σ H Qd := by
  intro D hD
  refine ⟨fun i m σ' H' => m = xs.length - i ∧ i ≤ xs.length ∧ (σ' = blockSt ix σ ∨ ∃ t, σ' = (blockSt ix σ).set 0 t) ∧ ∃ ys, H' D = some (.lst ys) ∧ Pv D i ys H', ⟨xs.length, by simp, Nat.zero_le _, .inl rfl, [], upd_same, h0 D hD⟩, ?_⟩
  rintro i m σ' H' ⟨rfl, hi, hσ, ys, hy, p⟩
  have q := hl D i ys H' hi p
  by_cases hlt : i < xs.length
  · refine .inr ⟨⟨xs, xs[i], q, by simp [hlt]⟩, fun x H2 y => ?_⟩
    obtain ⟨e1, e2⟩ := y
    subst e1
    have ex := e2 xs q
    have es : σ'.set 0 (some x) = (blockSt ix σ).set 0 (some x) := by
      rcases hσ with z | ⟨t, z⟩
      · rw [z]
      · rw [z, List.set_set]
    show te (σ'.set 0 (some x)) _ _
    rw [es]
    refine hs D i x ys _ _ hD ex hy p fun y H4 h4 hz p4 => ⟨ys, h4, hz, xs.length - (i + 1), by omega, rfl, hlt, .inr ⟨_, rfl⟩, ys ++ [y], upd_same, p4⟩
  · have e : i = xs.length := by omega
    subst e
    exact .inl ⟨⟨xs, q, Nat.le_refl _⟩, hd D ys H' hD hy p⟩

/-! ### isinstance -/
section
variable {X : Cx}
def rIsi (K : PySem.W.Frag) : List V → Hp → VK → Prop := fun xs H Q => ∃ x n t b, xs = [x, .ty n] ∧ TyOf K H x t ∧ PySem.W.kitOne K t (.type n) = some b ∧ Q (.bl b) H
theorem call_isi : CallR X (.builtin "isinstance") (rIsi X.K) := by
  intro pins s σ H xs us Q I r h
  obtain ⟨x, n, t, b, rfl, ty, e, q⟩ := h
  obtain ⟨u, v, rfl, ru, rv⟩ := r.two
  cases (show v = Value.type n from rv)
  exact isinst_ok I ru ty e fun tk => ⟨.bl b, H, I.tok tk, rfl, q⟩
end

/-! ### a list unpacked -/
section
variable {prog : Program} {w : World} {A : Around} {E : Value → Shared → Prop} {s : Shared}
end
section
variable {X : Cx} {pos : Pos}
def gLst (K : PySem.W.Frag) (n : Nat) (t : TGs) : TG := fun v σ H Q => ∃ a xs, v = .ref a ∧ SqL K H a xs ∧ xs.length = n ∧ t xs σ H Q
/-! ### two lists of flat things compared -/
def eqVs : List V → List V → Bool
  | [], [] => true
  | x :: xs, y :: ys => eqV x y && eqVs xs ys
  | _, _ => false
theorem eqVs_refl_int (ns : List Int) : eqVs (ns.map V.int) (ns.map V.int) = true := by
  induction ns with
  | nil => rfl
  | cons n r ih => simp [eqVs, eqV, ih]
theorem eqVs_len : ∀ {xs ys : List V}, xs.length ≠ ys.length → eqVs xs ys = false
  | [], [], h => absurd rfl h
  | [], _ :: _, _ => rfl
  | _ :: _, [], _ => rfl
  | x :: xs, y :: ys, h => by
    have := @eqVs_len xs ys (by simpa using h)
    simp [eqVs, this]
theorem eqVs_all : ∀ {xs ys : List V}, xs.length = ys.length → eqVs xs ys = (List.range xs.length).all fun j => eqV (xs.getD j .non) (ys.getD j .non)
  | [], [], _ => rfl
  | [], _ :: _, h => by simp at h
  | _ :: _, [], h => by simp at h
  | x :: xs, y :: ys, h => by
    have ih := @eqVs_all xs ys (by simpa using h)
    rw [List.length_cons, List.range_succ_eq_map, List.all_cons, List.all_map]
    show (eqV x y && eqVs xs ys) = (eqV x y && _)
    rw [ih]
    rfl
def rEqL (K : PySem.W.Frag) : R2 := fun x y H Q => ∃ a b xs ys, x = .ref a ∧ y = .ref b ∧ SqL K H a xs ∧ SqL K H b ys ∧ xs.all flatV = true ∧ ys.all flatV = true ∧ Q (.bl (eqVs xs ys)) H
end
end L2

set_option Elab.async false
set_option linter.all false
set_option maxRecDepth 100000
namespace HT
open PySem PySem.Spec PyProof.Rows
section
variable {prog : Program} {w : World} {A : Around} {E : Value → Shared → Prop} {s : Shared}
/-- a tuple's slice that takes the whole of it is the tuple itself -/
theorem getItem_tuple_whole {t sl : Addr} {items : Array Value} {vl vu : Value} {lo hi : Option Int} {Q : Value → Shared → Prop} (ht : IsTup s.heap t items) (hs : s.heap.IsSliceOf sl vl vu .none) (pl : IsPart vl lo) (pu : IsPart vu hi)
    (hw : sIx items.size 0 lo = 0 ∧ sIx items.size items.size hi = items.size) (h : Q (.ref t) s) : wpAny (model prog w) A (getItem (.ref t) (.ref sl)) Q E s := by
  obtain ⟨os, hos, hcs, hds⟩ := id hs
  have hTs : s.TypeIs (.ref sl) "slice" := ⟨os, hos, hcs⟩
  unfold getItem
  try with_reducible refine wpAny_holding ?_
  first | refine wpAny_bind (wpAny_pure ?_) | skip
  refine wpAny_bind (wpAny_sequenceKey ht.typeIs (by decide) ?_)
  refine wpAny_bind (wpAny_callSpecial?_slot (name := Str.ofString "__getitem__") ht.typeIs PyProof.Rows.slot_tuple_getitem
    (wpAny_call_entry PyProof.Rows.slot_tuple_getitem ht.typeIs entry_tuple_getitem ?_ (args_tuple_getitem _ _)))
  show wpAny _ _ (Builtin.Tuple.tupleItemsOf (.ref t) >>= _) _ _ s
  refine wpAny_bind (tupleItemsOf_ ht ?_)
  refine wpAny_bind (wpAny_typeOf hTs ?_)
  rw [if_pos (by decide)]
  refine wpAny_bind (sliceApplied_gen hs pl pu ?_)
  have hyes : ((((sIx items.size 0 lo : Nat) : Int) == 0 && (1 : Int) == 1 && (sIx items.size items.size hi - sIx items.size 0 lo) == items.size) = true) := by
    rw [hw.1, hw.2]; simp
  show wpAny _ _ (if (((sIx items.size 0 lo : Nat) : Int) == 0 && (1 : Int) == 1 && (sIx items.size items.size hi - sIx items.size 0 lo) == items.size) = true then _ else _) _ _ s
  rw [if_pos hyes]
  unfold Builtin.Tuple.tupleIsExact
  refine wpAny_bind (wpAny_bind (wpAny_typeOf ht.typeIs (wpAny_pure ?_)))
  rw [if_pos (by decide)]
  first
    | exact wpAny_bind (wpAny_rule (wpAny_pure ⟨_, rfl, wpAny_pure h⟩))
    | exact wpAny_bind (wpAny_rule (wpAny_bind (wpAny_pure (wpAny_pure ⟨_, rfl, wpAny_pure h⟩))))
    | exact wpAny_bind (wpAny_bind (wpAny_rule (wpAny_pure ⟨_, rfl, wpAny_pure h⟩)))
end
end HT
namespace L2
open PySem PySem.Spec PyProof.Rows
section
variable {X : Cx}
def rSlTW (K : PySem.W.Frag) : V → Option Int → Option Int → Hp → VK → Prop := fun x lo hi H Q => ∃ a xs, x = .ref a ∧ SqT K H a xs ∧
  (HT.sIx xs.length 0 lo = 0 ∧ HT.sIx xs.length xs.length hi = xs.length) ∧ Q (.ref a) H
theorem sl_tupW : SlR X (rSlTW X.K) := by
  intro pins s σ H x v vl vu lo hi sl Q I rx hs pl pu h
  obtain ⟨a, xs, rfl, hx, hw, q⟩ := h
  cases rx
  obtain ⟨its, r, ht, hz⟩ := I.tuple hx
  have hlen : its.toArray.size = xs.length := by rw [List.size_toArray]; exact r.length.symm
  refine ⟨"tuple", _, PyProof.Rows.slot_tuple_getitem.lookup, ht.typeIs, ?_⟩
  exact HT.getItem_tuple_whole ht hs pl pu (by rw [hlen]; exact hw) ⟨.ref a, H, I, rfl, q⟩
/-- a[lo:hi] of a list or a tuple: somewhere stands what was cut out, all else is as it was -/
def rSl (K : PySem.W.Frag) : V → Option Int → Option Int → Hp → VK → Prop := fun x lo hi H Q => ∃ a xs, x = .ref a ∧
  ((SqL K H a xs ∧ ∀ p, H p = none → Q (.ref p) (upd H p (.lst (cutV xs lo hi)))) ∨
   (SqT K H a xs ∧ (cutV xs lo hi = xs → Q (.ref a) H) ∧ ∀ p, H p = none → Q (.ref p) (upd H p (.tup (cutV xs lo hi)))))
theorem cutV_whole {xs : List V} {lo hi : Option Int} (h : HT.sIx xs.length 0 lo = 0 ∧ HT.sIx xs.length xs.length hi = xs.length) : cutV xs lo hi = xs := by
  unfold cutV
  rw [h.1, h.2]
  simp
theorem sl_seq : SlR X (rSl X.K) := by
  intro pins s σ H x v vl vu lo hi sl Q I rx hs pl pu h
  obtain ⟨a, xs, rfl, h⟩ := h
  rcases h with ⟨hx, q⟩ | ⟨hx, q1, q2⟩
  · exact sl_list pins s σ H _ v vl vu lo hi sl Q I rx hs pl pu ⟨a, xs, rfl, hx, q⟩
  · by_cases hw : HT.sIx xs.length 0 lo = 0 ∧ HT.sIx xs.length xs.length hi = xs.length
    · exact sl_tupW pins s σ H _ v vl vu lo hi sl Q I rx hs pl pu ⟨a, xs, rfl, hx, hw, q1 (cutV_whole hw)⟩
    · exact sl_tup pins s σ H _ v vl vu lo hi sl Q I rx hs pl pu ⟨a, xs, rfl, hx, hw, q2⟩
end

/-! ### a def of the text, with or without defaults -/
structure FunD (K : PySem.W.Frag) (x qual : Str) (st : Stmt) (dV : Value) (f : Addr) (fd : FuncData) : Prop where
  ex : ∃ (oc : Value) (od : Option Addr) (kV doc pm : Value) (an : Option Addr) (cdv ct : Value) (osl : Array (Option Value)),
    fd = PySem.W.fnOf x qual (defArgs st) (defBody st) (defScope st) dV kV doc pm an cdv ct ∧ K.lookup f = some ⟨oc, od, .func fd, osl⟩ ∧ PySem.W.codeIn K cdv qual = true
  kp : PySem.W.keepIn K (.ref f) = true
section
variable {P : Program} {w : World} {K : PySem.W.Frag} {mg : Str → Option Value} {base : Heap}
theorem FunD.ok {x qual : Str} {st : Stmt} {dV : Value} {f : Addr} {fd : FuncData} {N ps : List Str} {k : Nat} {sp : Sp} (F : FunD K x qual st dV f fd) (S : FnScope N ps (defScope st)) (len : ∀ vs H Q E, sp vs H Q E → vs.length = ps.length)
    (hbody : ∀ (cdv : Value) (A : Around) (outer : List Env) (s : Shared) (H : Hp) (vs : List V) (Q : VK) (E : XK), Room k (A.deeper (envOfC qual (defScope st) s.heap.objs.size f cdv)) → sp vs H Q E →
      ∃ t, PSs (cxOf CX0 P w K mg base N qual (defScope st) f cdv A outer s H E).nox (defBody st) t ∧ t { nx := fun _ H' => Q .non H', rt := Q } (start N vs) H) : FnOk P w K mg base CX0 (k + 1) f fd ps sp := by
  obtain ⟨oc, od, kV, doc, pm, an, cdv, ct, osl, rfl, lk, hcd⟩ := F.ex
  refine fn_of lk hcd S len fun A outer s H vs Q E hr hsp => ?_
  obtain ⟨t, h, q⟩ := hbody cdv A outer s H vs Q E hr hsp
  exact ⟨t, h.nox, q⟩
theorem FunD.binds {x qual : Str} {st : Stmt} {f : Addr} {fd : FuncData} {ps : List Str} (F : FunD K x qual st .none f fd)
    (h : ∀ (kV doc pm : Value) (an : Option Addr) (cdv ct : Value) (us : List Value), us.length = ps.length → bindArgs (PySem.W.fnOf x qual (defArgs st) (defBody st) (defScope st) .none kV doc pm an cdv ct) ⟨us, []⟩ = pure (ps.zip us)) : Binds K fd ps [] := by
  obtain ⟨oc, od, kV, doc, pm, an, cdv, ct, osl, rfl, lk, hcd⟩ := F.ex
  exact .all (h kV doc pm an cdv ct)
/-- .. where it has defaults, the last of them ds -/
theorem FunD.bindsD {x qual : Str} {st : Stmt} {f T : Addr} {fd : FuncData} {ps : List Str} {ds : List Value} {o : Obj} {items : Array Value} {n : Nat} (F : FunD K x qual st (.ref T) f fd) (ho : K.lookup T = some o) (hs : o.data = .seq items n) (m : Nat) (hm : m + ds.length = ps.length)
    (h : ∀ (kV doc pm : Value) (an : Option Addr) (cdv ct : Value) (us : List Value), us.length = m → ∃ k : Option (Array Value) → Sem (List (Str × Value)),
      bindArgs (PySem.W.fnOf x qual (defArgs st) (defBody st) (defScope st) (.ref T) kV doc pm an cdv ct) ⟨us, []⟩ = seqItems? (.ref T) >>= k ∧ k (some items) = pure (ps.zip (us ++ ds))) : Binds K fd ps ds := by
  obtain ⟨oc, od, kV, doc, pm, an, cdv, ct, osl, rfl, lk, hcd⟩ := F.ex
  intro s us X hl
  obtain ⟨k, h1, h2⟩ := h kV doc pm an cdv ct us (by rw [List.length_append] at hl; omega)
  exact BindsTo.of_defaults (fd := PySem.W.fnOf x qual (defArgs st) (defBody st) (defScope st) (.ref T) kV doc pm an cdv ct) rfl (X _ _ ho) hs h1 h2
theorem fund_mk {x qual : Str} {st : Stmt} {f : Addr} {oc : Value} {od an : Option Addr} {osl : Array (Option Value)} {dV kV doc pm cdv ct : Value} (l : K.lookup f = some ⟨oc, od, .func (PySem.W.fnOf x qual (defArgs st) (defBody st) (defScope st) dV kV doc pm an cdv ct), osl⟩)
    (c : PySem.W.codeIn K cdv qual = true) (k : PySem.W.keepIn K (.ref f) = true) : FunD K x qual st dV f (PySem.W.fnOf x qual (defArgs st) (defBody st) (defScope st) dV kV doc pm an cdv ct) := ⟨⟨oc, od, kV, doc, pm, an, cdv, ct, osl, rfl, l, c⟩, k⟩

/-- a def as its callers see it: dvs are the defaults that fill up -/
structure DefOk (P : Program) (w : World) (K : PySem.W.Frag) (mg : Str → Option Value) (base : Heap) (x : Str) (k : Nat) (ps : List Str) (dvs : List V) (sp : Sp) : Prop where
  ex : ∃ (f : Addr) (fd : FuncData) (ds : List Value), mg x = some (.ref f) ∧ PySem.W.keepIn K (.ref f) = true ∧ Vals dvs ds ∧ Binds K fd ps ds ∧ FnOk P w K mg base CX0 k f fd ps sp
end
section
variable {X : Cx} {x : Str} {j k : Nat} {ps : List Str} {dvs : List V} {sp : Sp} {p pos : Pos} {e : Expr} {es : List Expr} {t : TA}
theorem pe_cd (G : DefOk X.prog X.w X.K X.mg X.base x k ps dvs sp) (hr : Room j X.A) (ha : PA X (e :: es) t) (hx : ∀ e s, X.xe e s = False := by intro _ _; rfl) (hkj : k ≤ j := by decide) (hg : Gl X x := by rfl) (hdb : (x == ("__debug__" : Str)) = false := by decide)
    (he : starEach (e :: es) X.env = (false, eval e X.env) :: starEach es X.env := by rfl) (hpl : (backTo pos (starEach es X.env)).any (·.1) = false := by rfl) :
    PE X (.Call (.Name x p) (e :: es) [] pos) (tCall sp dvs E0 t) := by
  obtain ⟨f, fd, ds, hm, hk, hd, hb, F⟩ := G.ex
  exact pe_call F (hr.mono hkj) hg hm hk hb hd (fun _ _ _ _ _ _ _ h => h.elim) ha hdb he hpl
end

/-! ### kinds of built-in classes -/
theorem kit_int_int (K : PySem.W.Frag) : PySem.W.kitOne K (.type "int") (.type "int") = some true := by with_unfolding_all rfl
theorem kit_int_bool (K : PySem.W.Frag) : PySem.W.kitOne K (.type "int") (.type "bool") = some false := by with_unfolding_all rfl
/-! ### small facts -/
theorem same_new {H : Hp} {p : Addr} (h : H p = none) (o : HO) : Same H (upd H p o) := fun b u q => by rw [upd_ne (ne_of_none q h)]; exact q
theorem small {n : Nat} (h : n ≤ 1000) : n ≤ sizeLine := Nat.le_of_lt (small1000 h)
theorem Same.tup {K : PySem.W.Frag} {H H' : Hp} {a : Addr} {xs : List V} (e : Same H H') (h : SqT K H a xs) : SqT K H' a xs := by
  rcases h with (h | ⟨o, h⟩) | h
  · exact .inl (.inl (e _ _ h))
  · exact .inl (.inr ⟨o, e _ _ h⟩)
  · exact .inr h

/-! ### the built-in names -/
theorem bt_len : bootBuiltins "len" = some (.builtin "len") := by decide +kernel
theorem bt_max : bootBuiltins "max" = some (.builtin "max") := by decide +kernel
theorem bt_isinstance : bootBuiltins "isinstance" = some (.builtin "isinstance") := by decide +kernel
theorem bt_int : bootBuiltins "int" = some (.type "int") := by decide +kernel
theorem bt_bool : bootBuiltins "bool" = some (.type "bool") := by decide +kernel
theorem bt_tuple : bootBuiltins "tuple" = some (.type "tuple") := by decide +kernel
theorem bt_list : bootBuiltins "list" = some (.type "list") := by decide +kernel
theorem bt_reversed : bootBuiltins "reversed" = some (.type "reversed") := by decide +kernel
end L2

set_option Elab.async false
set_option linter.all false
set_option maxRecDepth 100000
namespace L2
open PySem PySem.Spec PyProof.Rows

/-! ### great ints -/
def BIG : Int := 2 ^ 4000
theorem big_bits {k : Int} (h0 : 0 ≤ k) (h : k < BIG) : k.natAbs.log2 < 4000 := by
  rcases Nat.eq_zero_or_pos k.natAbs with z | hp
  · rw [z]; decide +kernel
  · refine (Nat.log2_lt (by omega)).mpr ?_
    have e : BIG = ((2 ^ 4000 : Nat) : Int) := by unfold BIG; norm_cast
    rw [e] at h
    omega
def CMulB (i j : Int) : Prop := (0 ≤ i ∧ i < BIG) ∧ (0 ≤ j ∧ j < BIG)
theorem CMulB.ok {i j : Int} (h : CMulB i j) : IntMulOk i j := by
  have one : ∀ {k : Int}, 0 ≤ k → k < BIG → Builtin.Int.intBits k ≤ 2 ^ 20 := fun {k} h0 h1 => by
    unfold Builtin.Int.intBits
    have := big_bits h0 h1
    split <;> omega
  exact .of_bits (one h.1.1 h.1.2) (one h.2.1 h.2.2)
def CDivB (i j : Int) : Prop := 0 < j ∧ j < BIG
section
variable {X : Cx}
theorem op_mulB : OpR X (binaryOp .Mult) (rI CMulB fun i j => .int (i * j)) := opI fun _ _ _ _ _ _ _ hc q => PyProof.Rows.mul_int q hc.ok
theorem op_fdivB : OpR X (binaryOp .FloorDiv) (rI CDivB fun i j => .int (i / j)) := opI fun i j _ _ _ _ _ hc q => by
  have h1 : (0 : Int) < j := hc.1
  have h2 : j < BIG := hc.2
  have h3 := big_bits (Int.le_of_lt h1) h2
  exact floordiv_int (by omega) (by rw [Int.fdiv_eq_ediv_of_nonneg i (by omega)]; exact q) (.inl (PyProof.noPylong_of_log2 (by omega)))
end

/-! ### for x in reversed(a list) -/
def Itv (K : PySem.W.Frag) (a : Addr) (n : Nat) : It :=
  ⟨fun i H => i < n ∧ ∃ xs, SqL K H a xs ∧ xs.length = n, fun i H x H' => H' = H ∧ ∀ xs, SqL K H a xs → xs[n - 1 - i]? = some x, fun i H => i = n⟩
theorem turn_rev {P : Program} {w : World} {K : PySem.W.Frag} {tg : Expr} (a it : Addr) (n : Nat) : Turn P w K tg (Itv K a n) [it] it (fun i h => i ≤ n ∧ PySem.Heap.IsRevIter h it a ((n : Int) - 1 - (i : Int))) where
  mem := by simp
  obj := fun i h st b hb => by
    have e : b = it := by simpa using hb
    subst e
    obtain ⟨_, o, e, c, d⟩ := st
    exact ⟨o, e, fun v z => by rw [d] at z; cases z⟩
  keep := fun i h h' st k => ⟨st.1, st.2.at fun o e => k it (by simp) o e⟩
  item := by
    intro X hP hw hK hc i pins s σ H E I hf st hg
    subst hP hw hK
    obtain ⟨hi, xs, hq, hn⟩ := hg
    obtain ⟨its, rv, p, hz⟩ := I.list hq
    have hj : n - 1 - i < xs.length := by omega
    obtain ⟨u, hu, ru⟩ := rv.get (i := n - 1 - i) (x := xs[n - 1 - i]) (by simp [hj])
    obtain ⟨f0, f1, f2, f3, f4, f5⟩ := hf it (by simp)
    have e : (n : Int) - 1 - (i : Int) = ((n - 1 - i : Nat) : Int) := by omega
    have st2 := st.2
    rw [e] at st2
    refine wpAny_pyNext_rev_item st2 p.isList (x := u) (by simpa using hu) fun h' st' sb => ?_
    have I1 : Inv X pins σ H { s with heap := h' } := I.turned (t' := s.toks) (fun b o hb e => (sb.2 b hb).trans e) f0 f1 f3 f4 f5
    obtain ⟨o, eo, c, d⟩ := id st'
    refine ⟨u, rfl, go_of (s := { s with heap := h' }) eo c d (by decide) ⟨xs[n - 1 - i], H, I1, ru, ⟨rfl, fun ys hy => by rw [I.list_inj hy hq]; simp [hj]⟩, ⟨by omega, ?_⟩, fun b hb => (hf b hb).1⟩⟩
    have e2 : (n : Int) - 1 - ((i + 1 : Nat) : Int) = ((n - 1 - i : Nat) : Int) - 1 := by omega
    rw [e2]
    exact st'
  done := by
    intro X hP hw hK hc i pins s σ H E I hf st hg
    subst hP hw hK
    have hg' : i = n := hg
    obtain ⟨f0, f1, f2, f3, f4, f5⟩ := hf it (by simp)
    have e : (n : Int) - 1 - (i : Int) = -1 := by omega
    have st2 := st.2
    rw [e] at st2
    exact wpAny_pyNext_rev_end (I.ok.hd hc) st2 fun h' eb => ⟨rfl, I.turned (t' := s.toks) (fun b o hb e => eb b o hb e) f0 f1 f3 f4 f5⟩
  self := fun _ _ _ _ _ st h => wpAny_pyIter_revIter st.2 h
section
variable {X : Cx} {tg : Expr}
def iRev (K : PySem.W.Frag) (ta : TA) : TI := fun σ H R => ta σ H fun vs H1 => ∃ a xs, vs = [.ref a] ∧ SqL K H1 a xs ∧ R (Itv K a xs.length) H1
theorem pi_rev {a : Expr} {ta : TA} {p pos : Pos} (hg : Gl X "reversed") (hm : X.mg "reversed" = none) (ha : PA X [a] ta) (hs : starEach [a] X.env = [(false, eval a X.env)] := by rfl) : PI X tg (.Call (.Name "reversed" p) [a] [] pos) (iRev X.K ta) := by
  intro pins s σ H R I h
  refine Call_ (ld_blt I hg hm bt_reversed (PyProof.Rows.callWith_type1 (thn (ha pos pins s σ H _ I h) fun us s1 ⟨vs, H1, I1, r1, q1⟩ => ?_) hs rfl))
  obtain ⟨l, xs, e, hq, q⟩ := q1
  subst e
  cases r1 with
  | cons r rr =>
    cases rr
    cases r
    obtain ⟨its, rv, pl, hz⟩ := I1.list hq
    have hlen := rv.length
    refine call_reversed_list pl.isList ?_
    have I2 : Inv X pins σ H1 { s1 with heap := s1.heap.push (revObj l ((its.toArray.size : Int) - 1)) } := I1.kept (t' := s1.toks) fun b o e => Heap.get?_push_of_some _ e
    have hit : PySem.Heap.IsRevIter (s1.heap.push (revObj l ((its.toArray.size : Int) - 1))) s1.heap.objs.size l ((xs.length : Int) - 1 - ((0 : Nat) : Int)) := by
      refine ⟨_, Heap.get?_push_size _ rfl, rfl, ?_⟩
      have e : ((its.toArray.size : Int) - 1) = (xs.length : Int) - 1 - ((0 : Nat) : Int) := by rw [List.size_toArray]; omega
      rw [← e]
      rfl
    refine wpAny_pyIter_revIter hit ?_
    refine ⟨s1.heap.objs.size, [s1.heap.objs.size], _, _, H1, rfl, I2, turn_rev l _ xs.length, ⟨Nat.zero_le _, hit⟩, fun b hb => ?_, q⟩
    have e : b = s1.heap.objs.size := by simpa using hb
    subst e
    exact I1.fpOk (Nat.le_refl _) (I1.hok.fresh (Nat.le_refl _))
end
theorem for_rev {K : PySem.W.Frag} {a : Addr} {xs : List V} {g : TG} {tb : TS} {D : Ends} {σ : St} {H : Hp} (Pv : Nat → St → Hp → Prop) (h0 : Pv 0 σ H) (hl : ∀ i σ H, i ≤ xs.length → Pv i σ H → SqL K H a xs)
    (hs : ∀ i x σ H, i < xs.length → xs[xs.length - 1 - i]? = some x → Pv i σ H → g x σ H fun σ2 H2 => tb { D with nx := Pv (i + 1), ct := Pv (i + 1), bk := D.nx } σ2 H2) (hd : ∀ σ H, Pv xs.length σ H → D.nx σ H) :
    ∃ W : Nat → Nat → St → Hp → Prop, (∃ m, W 0 m σ H) ∧ ∀ i m σ H, W i m σ H →
      ((Itv K a xs.length).stop i H ∧ D.nx σ H) ∨ ((Itv K a xs.length).go i H ∧ ∃ N : St → Hp → Prop, (∀ σ' H', N σ' H' → ∃ m', m' < m ∧ W (i + 1) m' σ' H') ∧ ∀ x H', (Itv K a xs.length).yld i H x H' → g x σ H' fun σ2 H2 => tb { D with nx := N, ct := N, bk := D.nx } σ2 H2) := by
  refine ⟨fun i m σ H => m = xs.length - i ∧ i ≤ xs.length ∧ Pv i σ H, ⟨xs.length, by simp, Nat.zero_le _, h0⟩, ?_⟩
  rintro i m σ H ⟨rfl, hi, p⟩
  have q := hl i σ H hi p
  by_cases hlt : i < xs.length
  · refine .inr ⟨⟨hlt, xs, q, rfl⟩, Pv (i + 1), fun σ' H' p' => ⟨xs.length - (i + 1), by omega, rfl, hlt, p'⟩, fun x H' y => ?_⟩
    obtain ⟨e, y⟩ := y
    subst e
    exact hs i x σ _ hlt (y xs q) p
  · have e : i = xs.length := by omega
    subst e
    exact .inl ⟨rfl, hd σ H p⟩
/-- while, where the test's reading is followed by hand -/
theorem while_W {c : TT} {tb : TS} {D : Ends} {σ : St} {H : Hp} (Pv : Nat → St → Hp → Prop) (h0 : ∃ m, Pv m σ H)
    (hs : ∀ m σ H, Pv m σ H → c σ H fun b H1 => if b = true then ∃ N : St → Hp → Prop, (∀ σ' H', N σ' H' → ∃ m', m' < m ∧ Pv m' σ' H') ∧ tb { D with nx := N, ct := N, bk := D.nx } σ H1 else D.nx σ H1) : tWhile c tb D σ H := ⟨Pv, h0, hs⟩
end L2

set_option Elab.async false
set_option linter.all false
set_option maxRecDepth 100000
namespace L2
open PySem PySem.Spec PyProof.Rows

/-! ### isinstance by several classes -/
section
variable {X : Cx} {pins : List (Addr × Obj)} {σ : St} {H : Hp} {s : Shared}
theorem TyOf.kit {x : V} {u t : Value} (I : Inv X pins σ H s) (rx : RelV x u) (ty : TyOf X.K H x t) : ∃ φ : Heap → Prop, PySem.W.KitX X.K u t φ ∧ φ s.heap ∧ u ≠ .builtin "__main__.__loader__#opaque" := by
  cases ty with
  | non => cases (show u = Value.none from rx); exact ⟨_, PySem.W.kitx_none, True.intro, fun z => nomatch z⟩
  | bl y => cases (show u = Value.bool y from rx); exact ⟨_, PySem.W.kitx_bool, True.intro, fun z => nomatch z⟩
  | int i => obtain ⟨t, q⟩ := (show ∃ t, u = Value.int i t from rx); cases q; exact ⟨_, PySem.W.kitx_int, True.intro, fun z => nomatch z⟩
  | str y => obtain ⟨t, q⟩ := (show ∃ t, u = Value.str y t from rx); cases q; exact ⟨_, PySem.W.kitx_str, True.intro, fun z => nomatch z⟩
  | flt y => obtain ⟨t, q⟩ := (show ∃ t, u = Value.float y t from rx); cases q; exact ⟨_, PySem.W.kitx_float, True.intro, fun z => nomatch z⟩
  | @lst a xs ea =>
    cases (show u = Value.ref a from rx)
    obtain ⟨_, _, n, _, h1⟩ := (show ObjOk X.prog X.w H s.heap a (.lst xs) from I.hok a _ ea)
    exact ⟨_, PySem.W.kitx_list, ⟨_, h1, rfl⟩, fun z => nomatch z⟩
  | @frz a ob xs ea =>
    cases (show u = Value.ref a from rx)
    obtain ⟨_, _, _, n, _, h1⟩ := (show ObjOk X.prog X.w H s.heap a (.frz ob (.lst xs)) from I.hok a _ ea)
    exact ⟨_, PySem.W.kitx_list, ⟨_, h1, rfl⟩, fun z => nomatch z⟩
  | @tup a xs ea =>
    cases (show u = Value.ref a from rx)
    obtain ⟨_, _, _, p⟩ := (show ObjOk X.prog X.w H s.heap a (.tup xs) from I.hok a _ ea)
    obtain ⟨o, h1, h2, _⟩ := p
    exact ⟨_, PySem.W.kitx_tuple, ⟨o, h1, h2⟩, fun z => nomatch z⟩
  | @dK a kvs ea =>
    cases (show u = Value.ref a from rx)
    obtain ⟨_, _, vs, _, p⟩ := (show ObjOk X.prog X.w H s.heap a (.dK kvs) from I.hok a _ ea)
    obtain ⟨o, es, ep, h1, h2, _⟩ := p
    exact ⟨_, PySem.W.kitx_dict, ⟨o, h1, h2.1⟩, fun z => nomatch z⟩
  | @dT a kvs ea =>
    cases (show u = Value.ref a from rx)
    obtain ⟨_, _, xs, _, o, es, ep, h1, h2, _⟩ := (show ObjOk X.prog X.w H s.heap a (.dT kvs) from I.hok a _ ea)
    exact ⟨_, PySem.W.kitx_dict, ⟨o, h1, h2.1⟩, fun z => nomatch z⟩
  | @ins a C dx fs ea cl ha hn htk hm =>
    cases (show u = Value.ref a from rx)
    obtain ⟨mA, O, _⟩ := ins_get I.hok ea
    obtain ⟨od, J, _⟩ := O.look
    exact ⟨_, PySem.W.kitx_own (cl.get _) cl.hd ha hn htk hm, J, fun z => nomatch z⟩
theorem vals_tys : ∀ {ts : List String} {us : List Value}, Vals (ts.map V.ty) us → us = ts.map Value.type
  | [], _, h => by cases h; rfl
  | t :: ts, _, h => by
    cases h with
    | cons r rr =>
      have e := vals_tys rr
      cases (show _ = Value.type t from r)
      rw [e]; rfl
def rIsiT (K : PySem.W.Frag) : List V → Hp → VK → Prop := fun xs H Q => ∃ (x : V) (p : Addr) (ts : List String) (t : Value) (b : Bool), xs = [x, .ref p] ∧ H p = some (.tup (ts.map V.ty)) ∧ TyOf K H x t ∧ PySem.W.kitAny K t (ts.map Value.type) = some b ∧ Q (.bl b) H
theorem call_isiT : CallR X (.builtin "isinstance") (rIsiT X.K) := by
  intro pins s σ H xs us Q I r h
  obtain ⟨x, p, ts, t, b, rfl, hp, ty, e, q⟩ := h
  obtain ⟨u, v, rfl, ru, rv⟩ := r.two
  cases (show v = Value.ref p from rv)
  obtain ⟨φ, Z, z, hx⟩ := ty.kit I ru
  obtain ⟨_, its, r2, o, h1, h2, n, h3⟩ := (show ObjOk X.prog X.w H s.heap p (.tup (ts.map V.ty)) from I.hok p _ hp)
  have ei := vals_tys r2
  subst ei
  obtain ⟨oc, od, dt, sl⟩ := o
  simp only at h2 h3
  subst h2 h3
  exact PySem.W.kia_tup Z I.kIn z h1 e hx fun tk => ⟨.bl b, H, I.tok tk, rfl, q⟩
end

/-! ### range(0, n, 2) -/
def Its (lo c : Int) (n : Nat) : It := ⟨fun i _ => i < n, fun i H x H' => H' = H ∧ x = .int (lo + i * c), fun i _ => n ≤ i⟩
theorem turn_rangeS {P : Program} {w : World} {K : PySem.W.Frag} {tg : Expr} (it : Addr) (lo c : Int) (n : Nat) : Turn P w K tg (Its lo c n) [it] it (fun i h => IsRangeIter h it (lo + (i : Nat) * c) ((n : Int) - (i : Nat)) c) where
  mem := by simp
  obj := fun i h st b hb => by
    have e : b = it := by simpa using hb
    subst e
    exact ⟨_, st, fun v z => by
      have z' : Data.fields _ = Data.cell v := z
      cases z'⟩
  keep := fun i h h' st k => k it (by simp) _ st
  item := by
    intro X hP hw hK hc i pins s σ H E I hf st hg
    subst hP hw hK
    obtain ⟨f0, f1, f2, f3, f4, f5⟩ := hf it (by simp)
    have W := Walks.range (prog := X.prog) (w := X.w) (I.ok.hd hc) it lo c n
    refine W.item i s _ _ hg st fun v h' tk hv st' kk => ?_
    obtain ⟨t, rfl⟩ := hv
    have I1 : Inv X pins σ H { s with heap := h', toks := tk } := I.turned (fun b o hb e => kk b o (by simpa using hb) e) f0 f1 f3 f4 f5
    exact ⟨_, rfl, go_of (s := { s with heap := h', toks := tk }) (n := "range_iterator") st' rfl rfl (by decide) ⟨.int (lo + i * c), H, I1, ⟨t, rfl⟩, ⟨rfl, rfl⟩, st', fun b hb => (hf b hb).1⟩⟩
  done := by
    intro X hP hw hK hc i pins s σ H E I hf st hg
    subst hP hw hK
    obtain ⟨f0, f1, f2, f3, f4, f5⟩ := hf it (by simp)
    exact wpAny_pyNext_range_end (I.ok.hd hc) st (by have : n ≤ i := hg; omega) fun h' eb => ⟨rfl, I.turned (t' := s.toks) (fun b o hb e => eb b o hb e) f0 f1 f3 f4 f5⟩
  self := fun _ _ _ _ _ st h => wpAny_pyIter_rangeiter st h
section
variable {X : Cx} {tg : Expr}
theorem small_two {b : Int} (hb : 0 ≤ b) (hb' : b < 2 ^ 60) : Builtin.Range.small 0 b 2 = true := by
  unfold Builtin.Range.small Builtin.Range.rangeSize
  simp only [Builtin.Range.rangeFitsLong, Bool.and_eq_true, Bool.or_eq_true, decide_eq_true_eq, beq_iff_eq, show (2 : Int) > 0 by decide, if_true]
  split <;> omega
theorem size_two (b : Int) (hb : 0 ≤ b) : Builtin.Range.rangeSize 0 b 2 = ((((b + 1) / 2).toNat : Nat) : Int) := by
  unfold Builtin.Range.rangeSize
  simp only [show (2 : Int) > 0 by decide, if_true]
  split <;> omega
def iRng2s (ta : TA) : TI := fun σ H R => ta σ H fun vs H1 => ∃ j : Int, vs = [.int 0, .int j, .int 2] ∧ (0 ≤ j ∧ j < 2 ^ 60) ∧ R (Its 0 2 ((j + 1) / 2).toNat) H1
theorem pi_range3 {a b c : Expr} {ta : TA} {p pos : Pos} (hg : Gl X "range") (hm : X.mg "range" = none) (ha : PA X [a, b, c] ta) (hs : starEach [a, b, c] X.env = [(false, eval a X.env), (false, eval b X.env), (false, eval c X.env)] := by rfl) (hs2 : starEach [b, c] X.env = [(false, eval b X.env), (false, eval c X.env)] := by rfl) :
    PI X tg (.Call (.Name "range" p) [a, b, c] [] pos) (iRng2s ta) := by
  intro pins s σ H R I h
  refine Call_ (ld_blt I hg hm boot_range (PyProof.Rows.callWith_type1 (thn (ha pos pins s σ H _ I h) fun us s1 ⟨vs, H1, I1, r1, q1⟩ => ?_) (by rw [hs, hs2]) (by rw [hs2]; rfl)))
  obtain ⟨j, e, ⟨q1, q2⟩, q⟩ := q1
  subst e
  cases r1 with
  | cons r rr =>
    cases rr with
    | cons r' rr =>
      cases rr with
      | cons r3 rr =>
        cases rr
        obtain ⟨t, rfl⟩ := r
        obtain ⟨t', rfl⟩ := r'
        obtain ⟨t3, rfl⟩ := r3
        refine call_range_3 (by decide) ?_ (.inl (PyProof.noPylong_small (by decide)))
        refine wpAny_pyIter_range (IsRange.new ..) (small_two q1 q2) ?_
        have I2 : Inv X pins σ H1 { s1 with heap := s1.heap.push { cls := .type "range", data := .fields #[.int 0 t, .int j t', .int 2 t3] } } := I1.kept (t' := s1.toks) fun b o e => Heap.get?_push_of_some _ e
        refine ⟨(s1.heap.push { cls := .type "range", data := .fields #[.int 0 t, .int j t', .int 2 t3] }).objs.size, [(s1.heap.push { cls := .type "range", data := .fields #[.int 0 t, .int j t', .int 2 t3] }).objs.size], _, _, H1, rfl,
          I2.kept (t' := s1.toks) fun b o e => Heap.get?_push_of_some _ e, turn_rangeS _ 0 2 ((j + 1) / 2).toNat, ?_, fun b hb => ?_, q⟩
        · have e1 : (0 : Int) + ((0 : Nat) : Int) * 2 = 0 := by simp
          have e2 : (((j + 1) / 2).toNat : Int) - ((0 : Nat) : Int) = Builtin.Range.rangeSize 0 j 2 := by rw [size_two j q1]; simp
          show IsRangeIter _ _ ((0 : Int) + ((0 : Nat) : Int) * 2) ((((j + 1) / 2).toNat : Int) - ((0 : Nat) : Int)) 2
          rw [e1, e2]
          exact Heap.get?_push_size _ rfl
        · have e : b = (s1.heap.push { cls := .type "range", data := .fields #[.int 0 t, .int j t', .int 2 t3] }).objs.size := by simpa using hb
          subst e
          exact I2.fpOk (Nat.le_refl _) (I2.hok.fresh (Nat.le_refl _))
end
theorem for_rangeS {lo c : Int} {n : Nat} {g : TG} {tb : TS} {D : Ends} {σ : St} {H : Hp} (Pv : Nat → St → Hp → Prop) (h0 : Pv 0 σ H)
    (hs : ∀ i σ H, i < n → Pv i σ H → g (.int (lo + i * c)) σ H fun σ2 H2 => tb { D with nx := Pv (i + 1), ct := Pv (i + 1), bk := D.nx } σ2 H2) (hd : ∀ σ H, Pv n σ H → D.nx σ H) :
    ∃ W : Nat → Nat → St → Hp → Prop, (∃ m, W 0 m σ H) ∧ ∀ i m σ H, W i m σ H →
      ((Its lo c n).stop i H ∧ D.nx σ H) ∨ ((Its lo c n).go i H ∧ ∃ N : St → Hp → Prop, (∀ σ' H', N σ' H' → ∃ m', m' < m ∧ W (i + 1) m' σ' H') ∧ ∀ x H', (Its lo c n).yld i H x H' → g x σ H' fun σ2 H2 => tb { D with nx := N, ct := N, bk := D.nx } σ2 H2) := by
  refine ⟨fun i m σ H => m = n - i ∧ i ≤ n ∧ Pv i σ H, ⟨n, by simp, Nat.zero_le _, h0⟩, ?_⟩
  rintro i m σ H ⟨rfl, hi, p⟩
  by_cases hlt : i < n
  · refine .inr ⟨hlt, Pv (i + 1), fun σ' H' p' => ⟨n - (i + 1), by omega, rfl, hlt, p'⟩, fun x H' y => ?_⟩
    obtain ⟨e, y⟩ := y
    subst e y
    exact hs i σ _ hlt p
  · have e : i = n := by omega
    subst e
    exact .inl ⟨Nat.le_refl _, hd σ H p⟩

/-! ### two lists, two tuples of flat things: ==, != -/
section
variable {X : Cx}
theorem flat_pair {A : Around} {s : Shared} {xs ys : List V} {us ws : List Value} (rv : Vals xs us) (rw' : Vals ys ws) (fa : xs.all flatV = true) (fb : ys.all flatV = true) (j : Nat) (h1 : j < us.toArray.size) (h2 : j < ws.toArray.size) :
    SeqAt.EqAt A s us.toArray[j] ws.toArray[j] (eqV (xs.getD j .non) (ys.getD j .non)) := by
  have l1 := rv.length
  have l2 := rw'.length
  have j1 : j < xs.length := by simp at h1; omega
  have j2 : j < ys.length := by simp at h2; omega
  obtain ⟨u1, e1, q1⟩ := rv.get (i := j) (x := xs[j]) (by simp [j1])
  obtain ⟨u2, e2, q2⟩ := rw'.get (i := j) (x := ys[j]) (by simp [j2])
  have f1 : flatV xs[j] = true := List.all_eq_true.mp fa _ (List.getElem_mem j1)
  have f2 : flatV ys[j] = true := List.all_eq_true.mp fb _ (List.getElem_mem j2)
  have g1 : us.toArray[j] = u1 := by
    have := (List.getElem?_eq_some_iff.mp e1).2
    simpa using this
  have g2 : ws.toArray[j] = u2 := by
    have := (List.getElem?_eq_some_iff.mp e2).2
    simpa using this
  rw [g1, g2]
  have d1 : xs.getD j V.non = xs[j] := by simp [j1]
  have d2 : ys.getD j V.non = ys[j] := by simp [j2]
  rw [d1, d2]
  exact eqAt_V q1 q2 f1 f2
def rNeL (K : PySem.W.Frag) : R2 := fun x y H Q => ∃ a b xs ys, x = .ref a ∧ y = .ref b ∧ SqL K H a xs ∧ SqL K H b ys ∧ xs.all flatV = true ∧ ys.all flatV = true ∧ Q (.bl (!eqVs xs ys)) H
theorem eqVs_min {xs ys : List V} : eqVs xs ys = ((List.range (min xs.length ys.length)).all (fun j => eqV (xs.getD j .non) (ys.getD j .non)) && xs.length == ys.length) := by
  by_cases hl : xs.length = ys.length
  · rw [eqVs_all hl, ← hl, Nat.min_self]
    simp
  · rw [eqVs_len hl]
    have : (xs.length == ys.length) = false := by simpa using hl
    rw [this, Bool.and_false]
def rEqT (K : PySem.W.Frag) (neg : Bool) : R2 := fun x y H Q => ∃ a b xs ys, x = .ref a ∧ y = .ref b ∧ SqT K H a xs ∧ SqT K H b ys ∧ xs.all flatV = true ∧ ys.all flatV = true ∧ Q (.bl (if neg then !eqVs xs ys else eqVs xs ys)) H
theorem op_neT (hu : X.A.units < cLine) : OpR X (compareOp .NotEq) (rEqT X.K true) := by
  intro pins s σ H x y v u Q I r1 r2 h
  obtain ⟨a, b, xs, ys, rfl, rfl, ha, hb, fa, fb, q⟩ := h
  cases r1
  cases r2
  obtain ⟨its, rv, ht, hz⟩ := I.tuple ha
  obtain ⟨its2, rv2, ht2, hz2⟩ := I.tuple hb
  have l1 := rv.length
  have l2 := rv2.length
  refine SeqAt.RcNeAt.tuples (e := fun j => eqV (xs.getD j .non) (ys.getD j .non)) ht ht2 hu (fun j h1 h2 => flat_pair rv rv2 fa fb j h1 h2) X.prog X.w X.xe _ ⟨.bl (!eqVs xs ys), H, I, ?_, q⟩
  show Value.bool _ = Value.bool _
  rw [eqVs_min]
  simp [l1, l2]
theorem op_eqT (hu : X.A.units < cLine) : OpR X (compareOp .Eq) (rEqT X.K false) := by
  intro pins s σ H x y v u Q I r1 r2 h
  obtain ⟨a, b, xs, ys, rfl, rfl, ha, hb, fa, fb, q⟩ := h
  cases r1
  cases r2
  obtain ⟨its, rv, ht, hz⟩ := I.tuple ha
  obtain ⟨its2, rv2, ht2, hz2⟩ := I.tuple hb
  have l1 := rv.length
  have l2 := rv2.length
  refine SeqAt.eq_tupleAt (e := fun j => eqV (xs.getD j .non) (ys.getD j .non)) ht ht2 hu (fun j h1 h2 => flat_pair rv rv2 fa fb j h1 h2) ⟨.bl (eqVs xs ys), H, I, ?_, q⟩
  show Value.bool _ = Value.bool _
  rw [eqVs_min]
  simp [l1, l2]

/-! ### xs.insert(i, y), 0 ≤ i -/
def rInsert : V → List V → Hp → VK → Prop := fun x vs H Q => ∃ l xs i y, x = .ref l ∧ vs = [.int i, y] ∧ H l = some (.lst xs) ∧ (0 ≤ i ∧ i < 2 ^ 60) ∧ xs.length < sizeLine ∧ Q .non (upd H l (.lst (xs.take i.toNat ++ y :: xs.drop i.toNat)))
theorem mt_insert : MtM X "list.insert" rInsert := by
  intro pins s σ H x vs v us Q I rx rv h
  obtain ⟨l, xs, i, y, rfl, rfl, hH, ⟨h0, h1⟩, hz, q⟩ := h
  cases rx
  obtain ⟨u1, u2, rfl, ru1, ru2⟩ := rv.two
  obtain ⟨t, rfl⟩ := ru1
  obtain ⟨z, its, n, r, hl, e⟩ := I.lstM hH
  have fits : ¬(!Builtin.List.listFitsIndex i) = true := by
    unfold Builtin.List.listFitsIndex
    simp
    omega
  refine call_meets F.slot_list_insert ⟨_, e, rfl⟩ F.entry_list_insert (F.args_list_insert_3 _ _ _) (AutoSeq1.list_insert_list_int_val_1 l its.toArray n i t u2 fits (by rw [List.size_toArray]; omega)) ⟨e, ?_⟩
  refine ⟨.non, _, I.lset (its' := its.take i.toNat ++ u2 :: its.drop i.toNat) hH e ?_ (Vals.append (r.take i.toNat) (.cons ru2 (r.drop i.toNat))) ?_, rfl, q⟩
  · have hi : ¬ (i < 0) := by omega
    simp only [hi, if_false, List.size_toArray]
    apply Array.ext'
    simp
    rcases Nat.le_total i.toNat its.length with q | q
    · rw [Nat.min_eq_left q, List.take_of_length_le (l := List.drop i.toNat its) (by rw [List.length_drop]; exact Nat.le_refl _)]
    · rw [Nat.min_eq_right q, List.take_length, List.drop_length, List.take_of_length_le q, List.drop_eq_nil_of_le q, List.take_nil]
  · rw [List.length_append, List.length_cons, List.length_take, List.length_drop]
    omega
end
end L2

set_option Elab.async false
set_option linter.all false
set_option maxRecDepth 100000
/-! max(a list, default=d); a[lo:hi:step] of a tuple -/
namespace PySem
section
variable {prog : Program} {w : World} {A : Around} {R : Result → Shared → Prop} {I : Addr} {fp wr : List Addr} {n : Nat} {P : Nat → Value → Prop} {St : Nat → Heap → Prop}
theorem args_maxd (a v : Value) : argsOk "max" ⟨[a], [(Str.ofString "default", v)]⟩ := by unfold argsOk; kernel_rfl
theorem max_loopD (W : Walks prog w A.in1 I fp wr n P St) (bt : Nat → Nat → Bool) (hcmp : CmpOf prog w A.in1 .Gt P bt) (S : Addr) (hSf : S ∉ fp) (kw : List (Str × Value)) :
    ∀ (k j : Nat) (s : Shared) (vb : Value) (c : Nat), n - (j + 1) = k → j + 1 ≤ n → St (j + 1) s.heap → P (argBest bt j) vb →
    s.heap.get? S = some { cls := .type "list", dict := none, data := .seq #[vb, vb] c, slots := #[] } →
    (∀ v h' tk, P (argBest bt (n - 1)) v → (∀ b o, b ∉ wr → b ≠ S → s.heap.get? b = some o → h'.get? b = some o) → R (.ok (.ret v)) { s with heap := h', toks := tk }) →
    codeAny (model prog w) A (.builtin "max.loop" ⟨[.ref I, .none, .ref S], kw⟩) R s := by
  have hSw : S ∉ wr := fun h => hSf (W.sub _ h)
  have hname : (toString "max" ++ toString ".loop" : String) = "max.loop" := by decide
  intro k
  induction k with
  | zero =>
    intro j s vb c hk hj hst hPb hS hR
    have hin : j + 1 = n := by omega
    refine codeAny_builtin F.entry_max_loop ?_
    rw [Around.under_plainId F.plain_max_loop _]
    refine wpAny_bind (m := seqItems? (.ref S)) (wpAny_seqItems hS rfl ?_)
    refine wpAny_bind (m := tryCatch (pyNext (.ref I)) _) (wpAny_tryCatch (W.done s _ _ (hin ▸ hst) fun h' tk hk' => ?_))
    have hS' := hk' S _ hSw hS
    refine wpAny_bind (m := updateSeq S (fun _ => #[])) ?_
    refine wpAny_updateSeq hS' rfl (wpAny_bind (wpAny_letGo (wpAny_pure ?_)))
    refine hR vb _ tk (by rw [← hin]; exact hPb) fun b o hbw hbS e => (Heap.get?_update_other _ _ (Ne.symm hbS)).trans (hk' b o hbw e)
  | succ k ih =>
    intro j s vb c hk hj hst hPb hS hR
    have hlt : j + 1 < n := by omega
    refine codeAny_builtin F.entry_max_loop ?_
    rw [Around.under_plainId F.plain_max_loop _]
    refine wpAny_bind (m := seqItems? (.ref S)) (wpAny_seqItems hS rfl ?_)
    refine wpAny_bind (m := tryCatch (pyNext (.ref I)) _) (wpAny_tryCatch (W.item (j + 1) s _ _ hlt hst fun v h' tk hP hst' hk' => ?_))
    have hS' := hk' S _ hSw hS
    refine wpAny_bind (m := tryCatch (holding [v, v] (richCompare .Gt v vb >>= _)) _) (wpAny_tryCatch (wpAny_holding (wpAny_bind (hcmp (j + 1) (argBest bt j) v vb _ _ _ hP hPb ?_))))
    refine wpAny_bind (wpAny_holding (wpAny_truthy_bool ?_))
    refine wpAny_bind (wpAny_letGo (wpAny_pure ?_))
    cases hb : bt (j + 1) (argBest bt j) with
    | true =>
      simp only [if_true]
      refine wpAny_bind ?_
      refine wpAny_updateSeq hS' rfl (wpAny_bind (wpAny_letGo ?_))
      rw [hname]
      refine wpAny_pure ⟨plainId_quiet F.plain_max_loop _, ih (j + 1) _ v _ (by omega) hlt (W.frame _ _ _ hst' fun b hbf o e => ?_) (by simp only [argBest, hb, if_true]; exact hP) (Heap.get?_update_self _ hS' rfl)
        fun v' h'' tk'' hP' hk'' => ?_⟩
      · exact (Heap.get?_update_other _ _ (fun h : S = b => hSf (by rw [h]; exact hbf))).trans e
      · exact hR v' h'' tk'' hP' fun b o hbw hbS e => hk'' b o hbw hbS ((Heap.get?_update_other _ _ (Ne.symm hbS)).trans (hk' b o hbw e))
    | false =>
      simp only [Bool.false_eq_true, if_false]
      refine wpAny_bind (wpAny_letGo ?_)
      rw [hname]
      refine wpAny_pure ⟨plainId_quiet F.plain_max_loop _, ih (j + 1) _ vb c (by omega) hlt hst' (by simp only [argBest, hb, Bool.false_eq_true, if_false]; exact hPb) hS' fun v' h'' tk'' hP' hk'' => ?_⟩
      exact hR v' h'' tk'' hP' fun b o hbw hbS e => hk'' b o hbw hbS (hk' b o hbw e)
theorem max_loopD_first (W : Walks prog w A.in1 I fp wr n P St) (bt : Nat → Nat → Bool) (hcmp : CmpOf prog w A.in1 .Gt P bt) (S : Addr) (hSf : S ∉ fp) (d : Value) {s : Shared} {c : Nat} (hst : St 0 s.heap)
    (hS : s.heap.get? S = some { cls := .type "list", dict := none, data := .seq #[] c, slots := #[] })
    (h0 : n = 0 → ∀ h' tk, (∀ b o, b ∉ wr → b ≠ S → s.heap.get? b = some o → h'.get? b = some o) → R (.ok (.ret d)) { s with heap := h', toks := tk })
    (hR : 0 < n → ∀ v h' tk, P (argBest bt (n - 1)) v → (∀ b o, b ∉ wr → b ≠ S → s.heap.get? b = some o → h'.get? b = some o) → R (.ok (.ret v)) { s with heap := h', toks := tk }) :
    codeAny (model prog w) A (.builtin "max.loop" ⟨[.ref I, .none, .ref S], [(Str.ofString "default", d)]⟩) R s := by
  have hSw : S ∉ wr := fun h => hSf (W.sub _ h)
  have hname : (toString "max" ++ toString ".loop" : String) = "max.loop" := by decide
  refine codeAny_builtin F.entry_max_loop ?_
  rw [Around.under_plainId F.plain_max_loop _]
  refine wpAny_bind (m := seqItems? (.ref S)) (wpAny_seqItems hS rfl ?_)
  rcases Nat.eq_zero_or_pos n with hn | hn
  · refine wpAny_bind (m := tryCatch (pyNext (.ref I)) _) (wpAny_tryCatch (W.done s _ _ (hn ▸ hst) fun h' tk hk' => ?_))
    refine wpAny_bind (m := rule _) (wpAny_rule (wpAny_pure ?_))
    exact h0 hn h' tk fun b o hbw _ e => hk' b o hbw e
  refine wpAny_bind (m := tryCatch (pyNext (.ref I)) _) (wpAny_tryCatch (W.item 0 s _ _ hn hst fun v h' tk hP hst' hk' => ?_))
  have hS' := hk' S _ hSw hS
  refine wpAny_bind (m := updateSeq S (fun _ => #[v, v])) ?_
  refine wpAny_updateSeq hS' rfl ?_
  rw [hname]
  refine wpAny_pure ⟨plainId_quiet F.plain_max_loop _, max_loopD W bt hcmp S hSf _ _ 0 _ v _ rfl hn (W.frame _ _ _ hst' fun b hbf o e => ?_) hP (Heap.get?_update_self _ hS' rfl) fun v' h'' tk'' hP' hk'' => ?_⟩
  · exact (Heap.get?_update_other _ _ (fun h : S = b => hSf (by rw [h]; exact hbf))).trans e
  · exact hR hn v' h'' tk'' hP' fun b o hbw hbS e => hk'' b o hbw hbS ((Heap.get?_update_other _ _ (Ne.symm hbS)).trans (hk' b o hbw e))
end
section
variable {prog : Program} {w : World} {A : Around} {E : Value → Shared → Prop} {s : Shared}
theorem call_maxd_walk {x d : Value} {Q : Value → Shared → Prop}
    (h : wpAny (model prog w) A.in1 (pyIter x) (fun it s₂ => ∃ I fp wr n P St bt, it = .ref I ∧ Walks prog w A.in1 I fp wr n P St ∧ St 0 s₂.heap ∧ (∀ b ∈ fp, b < s₂.heap.objs.size) ∧ CmpOf prog w A.in1 .Gt P bt ∧
      (n = 0 → ∀ h' tk, (∀ b o, b ∉ wr → s₂.heap.get? b = some o → h'.get? b = some o) → Q d { s₂ with heap := h', toks := tk }) ∧
      (0 < n → ∀ v h' tk, P (argBest bt (n - 1)) v → (∀ b o, b ∉ wr → s₂.heap.get? b = some o → h'.get? b = some o) → Q v { s₂ with heap := h', toks := tk })) E s) :
    wpAny (model prog w) A (call (.builtin "max") [x] [(Str.ofString "default", d)]) Q E s := by
  have hname : (toString "max" ++ toString ".loop" : String) = "max.loop" := by decide
  refine PyProof.Rows.kmb_tree F.kind_max F.plain_max F.entry_max (args_maxd _ _) ?_
  refine wpAny_bind (m := Builtin.Builtins.bindParams "max" ["key", "default"] 0 ⟨[], [(Str.ofString "default", d)]⟩) (wpAny_of_eq (show Builtin.Builtins.bindParams "max" ["key", "default"] 0 ⟨[], [(Str.ofString "default", d)]⟩ = pure [none, some d] from rfl) ?_)
  refine wpAny_bind (wpAny_pure ?_)
  refine wpAny_bind (wpAny_mono h (fun it s₂ h₂ => ?_) fun _ _ e => e)
  obtain ⟨I, fp, wr, n, P, St, bt, rfl, W, hst, hfp, hcmp, hQ0, hQ⟩ := h₂
  refine wpAny_bind (wpAny_newObj_type ?_)
  have hSf : s₂.heap.objs.size ∉ fp := fun hm => Nat.lt_irrefl _ (hfp _ hm)
  rw [hname]
  refine wpAny_pure ⟨plainId_quiet F.plain_max_loop _, max_loopD_first W bt hcmp s₂.heap.objs.size hSf d (W.frame _ _ _ hst fun b _ o e => Heap.get?_push_of_some _ e) (Heap.get?_push_size _ rfl) (fun hn h' tk hk => ?_) fun hn v h' tk hP hk => ?_⟩
  · exact hQ0 hn h' tk fun b o hbw e => hk b o hbw (Nat.ne_of_lt (Heap.lt_size e)) (Heap.get?_push_of_some _ e)
  · exact hQ hn v h' tk hP fun b o hbw e => hk b o hbw (Nat.ne_of_lt (Heap.lt_size e)) (Heap.get?_push_of_some _ e)
end
end PySem
namespace L2
open PySem PySem.Spec PyProof.Rows
section
variable {X : Cx}
/-- max(a list of ints, default=d): d where there is none, else one of them above none of the others -/
def rMaxD (K : PySem.W.Frag) : List V → List V → Hp → VK → Prop := fun xs zs H Q => ∃ (a : Addr) (ns : List Int) (d : V), xs = [.ref a] ∧ zs = [d] ∧ SqL K H a (ns.map V.int) ∧ (ns = [] → Q d H) ∧ ∀ M, M ∈ ns → (∀ z ∈ ns, z ≤ M) → Q (.int M) H
theorem maxd_ok {pins : List (Addr × Obj)} {σ : St} {H : Hp} {s : Shared} {xs zs : List V} {us ws : List Value} {Q : VK} (hc : X.calm = true) (I : Inv X pins σ H s) (r : Vals xs us) (rz : Vals zs ws) (h : rMaxD X.K xs zs H Q) :
    wpAny (model X.prog X.w) X.A (call (.builtin "max") us (([Str.ofString "default"] : List Str).zip ws)) (EP X pins σ Q) X.xe s := by
  obtain ⟨a, ns, d, rfl, rfl, hS, h0, h1⟩ := h
  obtain ⟨u, rfl, ru⟩ := r.one
  obtain ⟨dv, rfl, rd⟩ := rz.one
  cases (show u = Value.ref a from ru)
  obtain ⟨its, rv, ht, hz⟩ := I.list hS
  have hlen := rv.length
  rw [List.length_map] at hlen
  show wpAny _ _ (call (.builtin "max") [.ref a] [(Str.ofString "default", dv)]) _ _ s
  have hlt : a < s.heap.objs.size := by obtain ⟨_, e, _⟩ := ht.isList; exact Heap.lt_size e
  refine call_maxd_walk (wpAny_pyIter_list ht.isList ?_)
  have W := Walks.list (prog := X.prog) (w := X.w) (A := X.A.in1) (I.ok.hd hc) s.heap.objs.size a (Nat.ne_of_lt hlt) its.toArray
  have hval : ∀ (i : Nat) (v : Value), its.toArray[i]? = some v → ∃ t, v = .int (ns.getD i 0) t := fun i v e => by
    have e' : its[i]? = some v := by simpa using e
    have hi : i < ns.length := by rw [hlen]; exact (List.getElem?_eq_some_iff.mp e').1
    obtain ⟨u, hu, ru⟩ := rv.get (i := i) (x := .int ns[i]) (by simp [hi])
    rw [e'] at hu
    cases hu
    obtain ⟨t, rfl⟩ := ru
    exact ⟨t, by simp [hi]⟩
  refine ⟨_, _, _, _, _, _, _, rfl, W, ⟨⟨_, Heap.get?_push_size _ rfl, rfl, rfl⟩, ht.isList.push _⟩, fun b hb => ?_, CmpOf.ints_gt (fun i => ns.getD i 0) hval, fun hn h' tk hk => ?_, fun hn v h' tk hP hk => ?_⟩
  · show b < (s.heap.push _).objs.size
    rw [Heap.size_push]
    rcases List.mem_cons.mp hb with rfl | hb
    · exact Nat.lt_succ_self _
    · rw [List.mem_singleton.mp hb]; exact Nat.lt_succ_of_lt hlt
  · have hn' : ns = [] := List.length_eq_zero_iff.mp (by simp at hn; rw [hlen, hn]; rfl)
    have I1 : Inv X pins σ H { s with heap := h', toks := tk } := I.kept (t' := tk) fun b o e => hk b o (fun hm => by
      rw [List.mem_singleton.mp hm] at e
      exact Nat.lt_irrefl _ (Heap.lt_size e)) (Heap.get?_push_of_some _ e)
    exact ⟨d, H, I1, rd, h0 hn'⟩
  · have hn' : 0 < ns.length := by rw [hlen]; simpa using hn
    have I1 : Inv X pins σ H { s with heap := h', toks := tk } := I.kept (t' := tk) fun b o e => hk b o (fun hm => by
      rw [List.mem_singleton.mp hm] at e
      exact Nat.lt_irrefl _ (Heap.lt_size e)) (Heap.get?_push_of_some _ e)
    obtain ⟨t, rfl⟩ := hval _ v hP
    have hb := argBest_gt (fun i => ns.getD i 0) (its.toArray.size - 1)
    have hj : argBest (fun i j => decide (ns.getD i 0 > ns.getD j 0)) (its.toArray.size - 1) < ns.length := by
      have := hb.1
      rw [List.size_toArray] at this ⊢
      omega
    refine ⟨.int _, H, I1, ⟨t, rfl⟩, h1 _ ?_ fun z hzm => ?_⟩
    · rw [List.getD_eq_getElem?_getD, List.getElem?_eq_getElem hj, Option.getD_some]; exact List.getElem_mem hj
    · obtain ⟨i, hi, rfl⟩ := List.getElem_of_mem hzm
      have := hb.2 i (by rw [List.size_toArray]; omega)
      simpa [List.getD_eq_getElem?_getD, List.getElem?_eq_getElem hi] using this
variable {p pos kpos : Pos} {e d : Expr} {ta : TA} {td : TE}
def tMaxD (K : PySem.W.Frag) (ta : TA) (td : TE) : TE := fun σ H Q => ta σ H fun xs H1 => td σ H1 fun z H2 => rMaxD K xs [z] H2 Q
theorem pe_maxD (hc : X.calm = true) (hg : Gl X "max") (hm : X.mg "max" = none) (ha : PA X [e] ta) (hd : PE X d td) (he : backTo pos (starEach [e] X.env) = (false, eval e X.env) :: backTo pos (starEach [] X.env) := by rfl) (hp : (backTo pos (starEach [e] X.env)).any (·.1) = false := by rfl) :
    PE X (.Call (.Name "max" p) [e] [⟨some (Str.ofString "default"), d, kpos⟩] pos) (tMaxD X.K ta td) := by
  intro pins s σ H Q I h
  refine wpAny_Call_Name_kw (ld_blt I hg hm bt_max ?_)
  refine callWith_kw (thn (ha pos pins s σ H _ I h) fun us s1 ⟨vs, H1, I1, r1, q1⟩ => ?_) he hp
  refine kws_cons (thn (hd pins s1 σ H1 _ I1 q1) fun dv s2 ⟨z, H2, I2, r2, q2⟩ => kws_nil ?_)
  exact maxd_ok hc I2 r1 (.cons r2 .nil) q2
end

/-! ### a[lo:hi:step] of a tuple -/
def strideV (xs : List V) (lo hi : Option Int) (st : Int) : List V :=
  (List.range (Builtin.Slice.slicePlaces (Builtin.Slice.sliceAdjust lo hi st xs.length).1 (Builtin.Slice.sliceAdjust lo hi st xs.length).2 st)).filterMap fun (m : Nat) => xs[((Builtin.Slice.sliceAdjust lo hi st xs.length).1 + (m : Int) * st).toNat]?
theorem Vals.pick {xs : List V} {us : List Value} (r : Vals xs us) (f : Nat → Nat) : ∀ ks : List Nat, Vals (ks.filterMap fun m => xs[f m]?) (ks.filterMap fun m => us[f m]?)
  | [] => .nil
  | k :: ks => by
    have ih := Vals.pick r f ks
    cases e : xs[f k]? with
    | none =>
      have e2 := r.none_of e
      rw [List.filterMap_cons_none (f := fun m => xs[f m]?) e, List.filterMap_cons_none (f := fun m => us[f m]?) e2]
      exact ih
    | some x =>
      obtain ⟨u, e2, ru⟩ := r.get e
      rw [List.filterMap_cons_some (f := fun m => xs[f m]?) e, List.filterMap_cons_some (f := fun m => us[f m]?) e2]
      exact .cons ru ih
section
variable {prog : Program} {w : World} {A : Around} {E : Value → Shared → Prop} {s : Shared}
theorem sliceApplied_st {sl : Addr} {vl vu vs : Value} {lo hi : Option Int} {st : Int} {n : Nat} {Q : Int × Int × Nat → Shared → Prop} (hs : s.heap.IsSliceOf sl vl vu vs) (pl : IsPart vl lo) (pu : IsPart vu hi) (ps : IsPart vs (some st)) (h0 : st ≠ 0)
    (h : Q ((Builtin.Slice.sliceAdjust lo hi st n).1, st, Builtin.Slice.slicePlaces (Builtin.Slice.sliceAdjust lo hi st n).1 (Builtin.Slice.sliceAdjust lo hi st n).2 st) s) : wpAny (model prog w) A (Builtin.Slice.sliceApplied (.ref sl) (pure (n : Int))) Q E s := by
  obtain ⟨os, hos, hcs, hds⟩ := id hs
  unfold Builtin.Slice.sliceApplied Builtin.Slice.sliceFields
  refine wpAny_bind (wpAny_bind (wpAny_field hos hds (x := vl) rfl (wpAny_bind (wpAny_field hos hds (x := vu) rfl (wpAny_bind (wpAny_field hos hds (x := vs) rfl (wpAny_pure ?_)))))))
  refine wpAny_bind (HT.slicePart_ ps ?_)
  show wpAny _ _ (if (st == 0) = true then _ else _) _ _ s
  rw [if_neg (by simpa using h0)]
  refine wpAny_bind (HT.slicePart_ pl (wpAny_bind (HT.slicePart_ pu (wpAny_bind (wpAny_pure ?_)))))
  exact wpAny_pure h
theorem getItem_tuple_st {t sl : Addr} {items : Array Value} {vl vu vs : Value} {lo hi : Option Int} {st : Int} {Q : Value → Shared → Prop} (ht : IsTup s.heap t items) (hs : s.heap.IsSliceOf sl vl vu vs) (pl : IsPart vl lo) (pu : IsPart vu hi) (ps : IsPart vs (some st)) (h0 : st ≠ 0)
    (hw : ((Builtin.Slice.sliceAdjust lo hi st items.size).1 == 0 && st == 1 && Builtin.Slice.slicePlaces (Builtin.Slice.sliceAdjust lo hi st items.size).1 (Builtin.Slice.sliceAdjust lo hi st items.size).2 st == items.size) = true → Q (.ref t) s)
    (h : Q (.ref s.heap.objs.size) { s with heap := s.heap.push { cls := .type "tuple", data := .seq ((List.range (Builtin.Slice.slicePlaces (Builtin.Slice.sliceAdjust lo hi st items.size).1 (Builtin.Slice.sliceAdjust lo hi st items.size).2 st)).filterMap fun (m : Nat) => items[((Builtin.Slice.sliceAdjust lo hi st items.size).1 + (m : Int) * st).toNat]?).toArray } })
    (hsz : ((List.range (Builtin.Slice.slicePlaces (Builtin.Slice.sliceAdjust lo hi st items.size).1 (Builtin.Slice.sliceAdjust lo hi st items.size).2 st)).filterMap fun (m : Nat) => items[((Builtin.Slice.sliceAdjust lo hi st items.size).1 + (m : Int) * st).toNat]?).length ≤ sizeLine) : wpAny (model prog w) A (getItem (.ref t) (.ref sl)) Q E s := by
  have htake : sizeOk (.seq ((List.range (Builtin.Slice.slicePlaces (Builtin.Slice.sliceAdjust lo hi st items.size).1 (Builtin.Slice.sliceAdjust lo hi st items.size).2 st)).filterMap fun (m : Nat) => items[((Builtin.Slice.sliceAdjust lo hi st items.size).1 + (m : Int) * st).toNat]?).toArray) := by
    show (List.toArray _).size ≤ sizeLine
    rw [List.size_toArray]
    exact hsz
  obtain ⟨os, hos, hcs, hds⟩ := id hs
  have hTs : s.TypeIs (.ref sl) "slice" := ⟨os, hos, hcs⟩
  unfold getItem
  try with_reducible refine wpAny_holding ?_
  first | refine wpAny_bind (wpAny_pure ?_) | skip
  refine wpAny_bind (wpAny_sequenceKey ht.typeIs (by decide) ?_)
  refine wpAny_bind (wpAny_callSpecial?_slot (name := Str.ofString "__getitem__") ht.typeIs PyProof.Rows.slot_tuple_getitem
    (wpAny_call_entry PyProof.Rows.slot_tuple_getitem ht.typeIs entry_tuple_getitem ?_ (args_tuple_getitem _ _)))
  show wpAny _ _ (Builtin.Tuple.tupleItemsOf (.ref t) >>= _) _ _ s
  refine wpAny_bind (tupleItemsOf_ ht ?_)
  refine wpAny_bind (wpAny_typeOf hTs ?_)
  rw [if_pos (by decide)]
  refine wpAny_bind (sliceApplied_st hs pl pu ps h0 ?_)
  show wpAny _ _ (if ((Builtin.Slice.sliceAdjust lo hi st items.size).1 == 0 && st == 1 && Builtin.Slice.slicePlaces (Builtin.Slice.sliceAdjust lo hi st items.size).1 (Builtin.Slice.sliceAdjust lo hi st items.size).2 st == items.size) = true then _ else _) _ _ s
  by_cases hc : ((Builtin.Slice.sliceAdjust lo hi st items.size).1 == 0 && st == 1 && Builtin.Slice.slicePlaces (Builtin.Slice.sliceAdjust lo hi st items.size).1 (Builtin.Slice.sliceAdjust lo hi st items.size).2 st == items.size) = true
  · rw [if_pos hc]
    unfold Builtin.Tuple.tupleIsExact
    refine wpAny_bind (wpAny_bind (wpAny_typeOf ht.typeIs (wpAny_pure ?_)))
    rw [if_pos (by decide)]
    first
      | exact wpAny_bind (wpAny_rule (wpAny_pure ⟨_, rfl, wpAny_pure (hw hc)⟩))
      | exact wpAny_bind (wpAny_rule (wpAny_bind (wpAny_pure (wpAny_pure ⟨_, rfl, wpAny_pure (hw hc)⟩))))
      | exact wpAny_bind (wpAny_bind (wpAny_rule (wpAny_pure ⟨_, rfl, wpAny_pure (hw hc)⟩)))
  rw [if_neg hc]
  first
    | exact wpAny_bind (m := Builtin.Tuple.tupleExact _) (wpAny_newObj_type (wpAny_pure ⟨_, rfl, wpAny_pure h⟩) htake)
    | exact wpAny_bind (m := Builtin.Tuple.tupleExact _) (wpAny_newObj_type (wpAny_bind (wpAny_pure (wpAny_pure ⟨_, rfl, wpAny_pure h⟩))) htake)
    | exact wpAny_bind (wpAny_bind (m := Builtin.Tuple.tupleExact _) (wpAny_newObj_type (wpAny_pure (wpAny_pure ⟨_, rfl, wpAny_pure h⟩)) htake))
    | exact wpAny_bind (wpAny_bind (m := Builtin.Tuple.tupleExact _) (wpAny_newObj_type (wpAny_pure ⟨_, rfl, wpAny_pure h⟩) htake))
end
section
variable {X : Cx} {e : Expr} {te : TE} {lo hi : Option Expr} {st : Expr} {tl th ts : TO} {pos p2 : Pos}
def SlR3 (X : Cx) (r : V → Option Int → Option Int → Option Int → Hp → VK → Prop) : Prop :=
  ∀ (pins : List (Addr × Obj)) (s : Shared) (σ : St) (H : Hp) (x : V) (v vl vu vs : Value) (lo hi st : Option Int) (sl : Addr) (Q : VK), Inv X pins σ H s → RelV x v → s.heap.IsSliceOf sl vl vu vs → IsPart vl lo → IsPart vu hi → IsPart vs st → r x lo hi st H Q →
    ∃ T id, typeLookup (.type T) "__getitem__" = pure (some (.builtin id)) ∧ s.TypeIs v T ∧ wpAny (model X.prog X.w) X.A (getItem v (.ref sl)) (EP X pins σ Q) X.xe s
def tSl3 (r : V → Option Int → Option Int → Option Int → Hp → VK → Prop) (te : TE) (tl th ts : TO) : TE := fun σ H Q => te σ H fun x H1 => tl σ H1 fun l H2 => th σ H2 fun u H3 => ts σ H3 fun c H4 => r x l u c H4 Q
theorem pe_slice3 {r : V → Option Int → Option Int → Option Int → Hp → VK → Prop} (hr : SlR3 X r) (he : PE X e te) (hl : PO X lo tl) (hu : PO X hi th) (hs : PO X (some st) ts) : PE X (.Subscript e (.Slice lo hi (some st) p2) pos) (tSl3 r te tl th ts) := by
  intro pins s σ H Q I h
  refine Subscript_ (thn (he pins s σ H _ I h) fun v s1 ⟨x, H1, I1, r1, q1⟩ => ?_)
  refine wpAny_Slice (thn (hl pins s1 σ H1 _ I1 q1) fun vl s2 ⟨l, H2, I2, pl, q2⟩ => thn (hu pins s2 σ H2 _ I2 q2) fun vu s3 ⟨u, H3, I3, pu, q3⟩ => thn (hs pins s3 σ H3 _ I3 q3) fun vc s4 ⟨c, H4, I4, pc, q4⟩ => ?_)
  have I5 : Inv X pins σ H4 { s4 with heap := s4.heap.push { cls := .type "slice", data := .fields #[vl, vu, vc] } } := I4.kept (t' := s4.toks) fun b ob q => Heap.get?_push_of_some _ q
  obtain ⟨T, id, hT, ht, hg⟩ := hr pins { s4 with heap := s4.heap.push { cls := .type "slice", data := .fields #[vl, vu, vc] } } σ H4 x v vl vu vc l u c s4.heap.objs.size Q I5 r1 (Heap.IsSliceOf.new ..) pl pu pc q4
  show wpAny (model X.prog X.w) X.A (subscriptTail e (.Slice lo hi (some st) p2) v (.ref s4.heap.objs.size)) (EP X pins σ Q) X.xe { s4 with heap := s4.heap.push { cls := .type "slice", data := .fields #[vl, vu, vc] } }
  exact tail_any (ops := [v, .ref s4.heap.objs.size]) ht hT hg (by with_unfolding_all rfl)
/-- the places are none that the whole hasn't, or it is the whole itself -/
def rSl3T (K : PySem.W.Frag) : V → Option Int → Option Int → Option Int → Hp → VK → Prop := fun x lo hi st H Q => ∃ a xs c, x = .ref a ∧ st = some c ∧ SqT K H a xs ∧ c ≠ 0 ∧ (strideV xs lo hi c).length ≤ sizeLine ∧
  (c = 1 → (Builtin.Slice.sliceAdjust lo hi c xs.length).1 = 0 → Builtin.Slice.slicePlaces (Builtin.Slice.sliceAdjust lo hi c xs.length).1 (Builtin.Slice.sliceAdjust lo hi c xs.length).2 c = xs.length → Q (.ref a) H) ∧ ∀ p, H p = none → Q (.ref p) (upd H p (.tup (strideV xs lo hi c)))
theorem sl3_tup : SlR3 X (rSl3T X.K) := by
  intro pins s σ H x v vl vu vc lo hi st sl Q I rx hs pl pu pc h
  obtain ⟨a, xs, c, rfl, rfl, hx, h0, hz, q1, q2⟩ := h
  cases rx
  obtain ⟨its, r, ht, hz'⟩ := I.tuple hx
  have hlen : its.toArray.size = xs.length := by rw [List.size_toArray]; exact r.length.symm
  refine ⟨"tuple", _, PyProof.Rows.slot_tuple_getitem.lookup, ht.typeIs, ?_⟩
  have rp := r.pick (fun (m : Nat) => ((Builtin.Slice.sliceAdjust lo hi c xs.length).1 + (m : Int) * c).toNat) (List.range (Builtin.Slice.slicePlaces (Builtin.Slice.sliceAdjust lo hi c xs.length).1 (Builtin.Slice.sliceAdjust lo hi c xs.length).2 c))
  have eg : (fun (m : Nat) => its.toArray[((Builtin.Slice.sliceAdjust lo hi c xs.length).1 + (m : Int) * c).toNat]?) = fun (m : Nat) => its[((Builtin.Slice.sliceAdjust lo hi c xs.length).1 + (m : Int) * c).toNat]? := by
    funext m
    simp
  refine getItem_tuple_st ht hs pl pu pc h0 (fun hc => ?_) ?_ ?_
  · rw [hlen] at hc
    simp only [Bool.and_eq_true, beq_iff_eq] at hc
    exact ⟨.ref a, H, I, rfl, q1 hc.1.2 hc.1.1 hc.2⟩
  · rw [hlen, eg]
    refine ⟨.ref s.heap.objs.size, _, I.laid (t' := s.toks) (o := .tup (strideV xs lo hi c)) (fun b ob q => Heap.get?_push_of_some _ q) (Nat.le_refl _) ?_, rfl, q2 _ (I.hok.fresh (Nat.le_refl _))⟩
    exact ⟨hz, _, rp, IsTup.new _ _⟩
  · rw [hlen, eg, ← rp.length]
    exact hz
end

/-! ### what is walked is a list or a tuple -/
section
variable {X : Cx} {tg : Expr}
def iSeq (K : PySem.W.Frag) (tl : TE) : TI := fun σ H R => tl σ H fun x H1 => ∃ a, x = .ref a ∧ (((∃ xs, SqL K H1 a xs) ∧ R (Itl K a) H1) ∨ ((∃ xs, SqT K H1 a xs) ∧ R (Itt K a) H1))
theorem pi_seq {l : Expr} {tl : TE} (hl : PE X l tl) : PI X tg l (iSeq X.K tl) := by
  intro pins s σ H R I h
  refine thn (hl pins s σ H _ I h) fun v s1 ⟨x, H1, I1, r1, q1⟩ => ?_
  obtain ⟨a, rfl, q | q⟩ := q1
  · cases r1
    obtain ⟨⟨xs, hx⟩, q⟩ := q
    obtain ⟨its, rv, p, hz⟩ := I1.list hx
    refine wpAny_pyIter_list p.isList ?_
    have I2 : Inv X pins σ H1 { s1 with heap := s1.heap.push { cls := .type "list_iterator", data := .fields #[.ref a, .int 0 0] } } := I1.kept (t' := s1.toks) fun b o e => Heap.get?_push_of_some _ e
    refine ⟨s1.heap.objs.size, [s1.heap.objs.size], _, _, H1, rfl, I2, turn_list a _, ⟨_, Heap.get?_push_size _ rfl, rfl, rfl⟩, fun b hb => ?_, q⟩
    rw [List.mem_singleton.mp hb]
    exact I1.fpOk (Nat.le_refl _) (I1.hok.fresh (Nat.le_refl _))
  · cases r1
    obtain ⟨⟨xs, hx⟩, q⟩ := q
    obtain ⟨its, rv, p, hz⟩ := I1.tuple hx
    refine wpAny_pyIter_tuple (show s1.heap.IsTuple a its.toArray from p) ?_
    have I2 : Inv X pins σ H1 { s1 with heap := s1.heap.push { cls := .type "tuple_iterator", data := .fields #[.ref a, .int 0 0] } } := I1.kept (t' := s1.toks) fun b o e => Heap.get?_push_of_some _ e
    refine ⟨s1.heap.objs.size, [s1.heap.objs.size], _, _, H1, rfl, I2, turn_tuple a _, ⟨_, Heap.get?_push_size _ rfl, rfl, rfl⟩, fun b hb => ?_, q⟩
    rw [List.mem_singleton.mp hb]
    exact I1.fpOk (Nat.le_refl _) (I1.hok.fresh (Nat.le_refl _))
end
theorem comp_tup {K : PySem.W.Frag} {a : Addr} {xs : List V} {ix : List (Option Nat)} {te : TE} {σ : St} {H : Hp} {Qd : Addr → Hp → Prop} (Pv : Addr → Nat → List V → Hp → Prop)
    (h0 : ∀ D, H D = none → Pv D 0 [] (upd H D (.lst [])))
    (hl : ∀ D i ys H', i ≤ xs.length → Pv D i ys H' → SqT K H' a xs)
    (hs : ∀ D i x ys H' (Q' : VK), H D = none → xs[i]? = some x → H' D = some (.lst ys) → Pv D i ys H' → (∀ y H4, H4 D = some (.lst ys) → ys.length < sizeLine → Pv D (i + 1) (ys ++ [y]) (upd H4 D (.lst (ys ++ [y]))) → Q' y H4) →
      te ((blockSt ix σ).set 0 (some x)) H' Q')
    (hd : ∀ D ys H', H D = none → H' D = some (.lst ys) → Pv D xs.length ys H' → Qd D H') : CompW (Itt K a) ix (gName 0) te σ H Qd := by
  intro D hD
  refine ⟨fun i m σ' H' => m = xs.length - i ∧ i ≤ xs.length ∧ (σ' = blockSt ix σ ∨ ∃ t, σ' = (blockSt ix σ).set 0 t) ∧ ∃ ys, H' D = some (.lst ys) ∧ Pv D i ys H', ⟨xs.length, by simp, Nat.zero_le _, .inl rfl, [], upd_same, h0 D hD⟩, ?_⟩
  rintro i m σ' H' ⟨rfl, hi, hσ, ys, hy, p⟩
  have q := hl D i ys H' hi p
  by_cases hlt : i < xs.length
  · refine .inr ⟨⟨xs, xs[i], q, by simp [hlt]⟩, fun x H2 y => ?_⟩
    obtain ⟨e1, e2⟩ := y
    subst e1
    have ex := e2 xs q
    have es : σ'.set 0 (some x) = (blockSt ix σ).set 0 (some x) := by
      rcases hσ with z | ⟨t, z⟩
      · rw [z]
      · rw [z, List.set_set]
    show te (σ'.set 0 (some x)) _ _
    rw [es]
    refine hs D i x ys _ _ hD ex hy p fun y H4 h4 hz p4 => ⟨ys, h4, hz, xs.length - (i + 1), by omega, rfl, hlt, .inr ⟨_, rfl⟩, ys ++ [y], upd_same, p4⟩
  · have e : i = xs.length := by omega
    subst e
    exact .inl ⟨⟨xs, q, Nat.le_refl _⟩, hd D ys H' hD hy p⟩
theorem comp_seq {K : PySem.W.Frag} {a : Addr} {xs : List V} {ix : List (Option Nat)} {te : TE} {σ : St} {H : Hp} {Qd : Addr → Hp → Prop} (hb : SqL K H a xs ∨ SqT K H a xs) (Pv : Addr → Nat → List V → Hp → Prop)
    (h0 : ∀ D, H D = none → Pv D 0 [] (upd H D (.lst [])))
    (hl : ∀ D i ys H', i ≤ xs.length → Pv D i ys H' → Same H H')
    (hs : ∀ D i x ys H' (Q' : VK), H D = none → xs[i]? = some x → H' D = some (.lst ys) → Pv D i ys H' → (∀ y H4, H4 D = some (.lst ys) → ys.length < sizeLine → Pv D (i + 1) (ys ++ [y]) (upd H4 D (.lst (ys ++ [y]))) → Q' y H4) →
      te ((blockSt ix σ).set 0 (some x)) H' Q')
    (hd : ∀ D ys H', H D = none → H' D = some (.lst ys) → Pv D xs.length ys H' → Qd D H') :
    ((∃ xs, SqL K H a xs) ∧ CompW (Itl K a) ix (gName 0) te σ H Qd) ∨ ((∃ xs, SqT K H a xs) ∧ CompW (Itt K a) ix (gName 0) te σ H Qd) := by
  rcases hb with hb | hb
  · exact .inl ⟨⟨xs, hb⟩, comp_list Pv h0 (fun D i ys H' h p => (hl D i ys H' h p).seq hb) hs hd⟩
  · exact .inr ⟨⟨xs, hb⟩, comp_tup Pv h0 (fun D i ys H' h p => (hl D i ys H' h p).tup hb) hs hd⟩

/-! ### rules in a comprehension's block: K is named -/
section
variable {X : Cx}
def rLen (K : PySem.W.Frag) : List V → Hp → VK → Prop := fun xs H Q => ∃ p ys, xs = [.ref p] ∧ (SqL K H p ys ∨ SqT K H p ys) ∧ Q (.int ys.length) H
theorem call_len_seqK (K : PySem.W.Frag) (h : X.K = K := by rfl) : CallR X (.builtin "len") (rLen K) := by subst h; exact call_len_seq
theorem sl3_tupK (K : PySem.W.Frag) (h : X.K = K := by rfl) : SlR3 X (rSl3T K) := by subst h; exact sl3_tup
end
end L2

set_option Elab.async false
set_option linter.all false
set_option maxRecDepth 100000
namespace L2
open PySem PySem.Spec PyProof.Rows
/-! ### lists of pairs as tables -/
section
variable {κ : Type} [DecidableEq κ]
def valV (kvs : List (κ × V)) (k : κ) : Option V := (kvs.find? fun kv => decide (kv.1 = k)).map (·.2)
/-- in its place, or at the end -/
def putK (kvs : List (κ × V)) (k : κ) (v : V) : List (κ × V) :=
  if (kvs.any fun kv => decide (kv.1 = k)) = true then kvs.map (fun kv => if kv.1 = k then (kv.1, v) else kv) else kvs ++ [(k, v)]
def dropK (kvs : List (κ × V)) (k : κ) : List (κ × V) := kvs.filter fun kv => decide (kv.1 ≠ k)

theorem valV_pos {p : κ × V} {r : List (κ × V)} {k : κ} (e : p.1 = k) : valV (p :: r) k = some p.2 := by simp [valV, List.find?_cons, e]
theorem valV_neg {p : κ × V} {r : List (κ × V)} {k : κ} (e : ¬ p.1 = k) : valV (p :: r) k = valV r k := by simp [valV, List.find?_cons, e]
theorem valV_any (k : κ) : ∀ kvs : List (κ × V), (kvs.any fun kv => decide (kv.1 = k)) = (valV kvs k).isSome
  | [] => rfl
  | p :: r => by
    rw [List.any_cons]
    by_cases e : p.1 = k
    · simp only [valV_pos e, decide_eq_true e, Bool.true_or, Option.isSome_some]
    · rw [valV_neg e, decide_eq_false e, Bool.false_or]; exact valV_any k r
theorem length_putK (kvs : List (κ × V)) (k : κ) (v : V) : (putK kvs k v).length ≤ kvs.length + 1 := by
  unfold putK
  split
  · rw [List.length_map]; omega
  · rw [List.length_append, List.length_cons, List.length_nil]; omega
theorem RelO.isSome_eq {o : Option V} {u : Option Value} (r : RelO o u) : o.isSome = u.isSome := by
  cases o with
  | none => cases u with
    | none => rfl
    | some _ => exact (show False from r).elim
  | some _ => cases u with
    | none => exact (show False from r).elim
    | some _ => rfl
theorem RelO.getD {o : Option V} {u : Option Value} {d : V} {d' : Value} (r : RelO o u) (rd : RelV d d') : RelV (o.getD d) (u.getD d') := by
  cases o with
  | none => cases u with
    | none => exact rd
    | some _ => exact (show False from r).elim
  | some _ => cases u with
    | none => exact (show False from r).elim
    | some _ => exact r

/-- raw tables of the same keys -/
theorem KV.val {kvs : List (κ × V)} {vs : List (κ × Value)} (r : KV kvs vs) (k : κ) : RelO (valV kvs k) (valueAt vs k) := by
  unfold KV at r
  induction r with
  | nil => exact True.intro
  | @cons p q ps qs h t ih =>
    obtain ⟨h1, h2⟩ := h
    by_cases e : p.1 = k
    · have e' : q.1 = k := h1.symm.trans e
      have b : valueAt (q :: qs) k = some q.2 := by simp [valueAt, List.find?_cons, e']
      rw [valV_pos e, b]; exact h2
    · have e' : ¬ q.1 = k := fun z => e (h1.trans z)
      have b : valueAt (q :: qs) k = valueAt qs k := by simp [valueAt, List.find?_cons, e']
      rw [valV_neg e, b]; exact ih
theorem KV.any {kvs : List (κ × V)} {vs : List (κ × Value)} (r : KV kvs vs) (k : κ) : (kvs.any fun kv => decide (kv.1 = k)) = vs.any fun kv => decide (kv.1 = k) := by
  unfold KV at r
  induction r with
  | nil => rfl
  | cons h t ih => rw [List.any_cons, List.any_cons, ih, h.1]
theorem KV.repl {kvs : List (κ × V)} {vs : List (κ × Value)} (r : KV kvs vs) (k : κ) {y : V} {u : Value} (ry : RelV y u) :
    KV (kvs.map fun kv => if kv.1 = k then (kv.1, y) else kv) (vs.map fun kv => if kv.1 = k then (kv.1, u) else kv) := by
  unfold KV at r ⊢
  induction r with
  | nil => exact .nil
  | @cons p q ps qs h t ih =>
    rw [List.map_cons, List.map_cons]
    refine .cons ?_ ih
    obtain ⟨h1, h2⟩ := h
    by_cases e : p.1 = k
    · rw [if_pos e, if_pos (h1.symm.trans e)]; exact ⟨h1, ry⟩
    · rw [if_neg e, if_neg (fun z => e (h1.trans z))]; exact ⟨h1, h2⟩
theorem KV.put {kvs : List (κ × V)} {vs : List (κ × Value)} (r : KV kvs vs) (k : κ) {y : V} {u : Value} (ry : RelV y u) : KV (putK kvs k y) (stored vs k u) := by
  unfold putK stored
  rw [r.any k]
  by_cases e : (vs.any fun kv => decide (kv.1 = k)) = true
  · rw [if_pos e, if_pos e]; exact r.repl k ry
  · rw [if_neg e, if_neg e]; exact Paired.snoc r ⟨rfl, ry⟩
theorem KV.drop {kvs : List (κ × V)} {vs : List (κ × Value)} (r : KV kvs vs) (k : κ) : KV (dropK kvs k) (without vs k) := by
  unfold KV at r ⊢
  unfold dropK without
  induction r with
  | nil => exact .nil
  | @cons p q ps qs h t ih =>
    obtain ⟨h1, h2⟩ := h
    rw [List.filter_cons, List.filter_cons]
    by_cases e : p.1 = k
    · have a : ¬ decide (p.1 ≠ k) = true := by simp [e]
      have b : ¬ decide (q.1 ≠ k) = true := by simp [h1.symm.trans e]
      rw [if_neg a, if_neg b]; exact ih
    · have e' : ¬ q.1 = k := fun z => e (h1.trans z)
      have a : decide (p.1 ≠ k) = true := by simp [e]
      have b : decide (q.1 ≠ k) = true := by simp [e']
      rw [if_pos a, if_pos b]; exact .cons ⟨h1, h2⟩ ih
theorem KV.keys {kvs : List (κ × V)} {vs : List (κ × Value)} (r : KV kvs vs) : kvs.map (·.1) = vs.map (·.1) := by
  unfold KV at r
  induction r with
  | nil => rfl
  | cons h t ih => rw [List.map_cons, List.map_cons, ih, h.1]
theorem KV.length {kvs : List (κ × V)} {vs : List (κ × Value)} (r : KV kvs vs) : kvs.length = vs.length := Paired.length r
end


/-! ### a tracked dict, its keys ints and texts or tuples of these -/
theorem kV_is {P : Program} {w : World} {k : Key} {u : Value} (r : RelV (kV k) u) : (mixKind P w).is k u = true := by
  cases k with
  | inl i => obtain ⟨t, e⟩ := (show ∃ t, u = Value.int i t from r); subst e; exact mixKind_int P w i t
  | inr x => obtain ⟨t, e⟩ := (show ∃ t, u = Value.str x t from r); subst e; exact mixKind_str P w x t
/-- raw entries of a dict with tuple keys -/
abbrev KT (H : Hp) : List (List Key × V) → List (List Key × Addr × Value) → Prop := Paired fun p q => p.1 = q.1 ∧ H q.2.1 = some (.tup (p.1.map kV)) ∧ RelV p.2 q.2.2
theorem KT.val {H : Hp} {kvs : List (List Key × V)} {xs : List (List Key × Addr × Value)} (r : KT H kvs xs) (k : List Key) : RelO (valV kvs k) ((atKey xs k).map (·.2)) := by
  induction r with
  | nil => exact True.intro
  | @cons p q ps qs h t ih =>
    obtain ⟨h1, _, h2⟩ := h
    by_cases e : p.1 = k
    · have e' : q.1 = k := h1.symm.trans e
      have b : atKey (q :: qs) k = some q.2 := by simp [atKey, List.find?_cons, e']
      rw [valV_pos e, b]; exact h2
    · have e' : ¬ q.1 = k := fun z => e (h1.trans z)
      have b : atKey (q :: qs) k = atKey qs k := by simp [atKey, List.find?_cons, e']
      rw [valV_neg e, b]; exact ih
theorem KT.repl {H : Hp} {kvs : List (List Key × V)} {xs : List (List Key × Addr × Value)} (r : KT H kvs xs) (k : List Key) {y : V} {u : Value} (ry : RelV y u) :
    KT H (kvs.map fun kv => if kv.1 = k then (kv.1, y) else kv) (xs.map (putAt k u)) := by
  induction r with
  | nil => exact .nil
  | @cons p q ps qs h t ih =>
    rw [List.map_cons, List.map_cons]
    refine .cons ?_ ih
    obtain ⟨h1, h2, h3⟩ := h
    unfold putAt
    by_cases e : p.1 = k
    · rw [if_pos e, if_pos (h1.symm.trans e)]; exact ⟨h1, h2, ry⟩
    · rw [if_neg e, if_neg (fun z => e (h1.trans z))]; exact ⟨h1, h2, h3⟩
theorem KT.put {H : Hp} {kvs : List (List Key × V)} {xs : List (List Key × Addr × Value)} (r : KT H kvs xs) (k : List Key) {b : Addr} {y : V} {u : Value} (hb : H b = some (.tup (k.map kV))) (ry : RelV y u) :
    KT H (putK kvs k y) (storedH xs k b u) := by
  have e : (kvs.any fun kv => decide (kv.1 = k)) = (atKey xs k).isSome := by
    rw [valV_any, (r.val k).isSome_eq, Option.isSome_map]
  unfold putK storedH
  rw [e]
  by_cases q : (atKey xs k).isSome = true
  · rw [if_pos q, if_pos q]; exact r.repl k ry
  · rw [if_neg q, if_neg q]; exact Paired.snoc r ⟨rfl, hb, ry⟩
theorem KT.keeps {H H' : Hp} {kvs : List (List Key × V)} {xs : List (List Key × Addr × Value)} (r : KT H kvs xs) (ht : ∀ b ys, H b = some (.tup ys) → H' b = some (.tup ys)) : KT H' kvs xs :=
  Paired.mapP r fun _ _ z => ⟨z.1, ht _ _ z.2.1, z.2.2⟩

section
variable {P : Program} {w : World} {H : Hp} {h : Heap} {a : Addr}
theorem rd_of {u : HO} (ok : HOk P w H h) (e : Rd H a u) : ObjOk P w H h a u := e.ok ok
theorem dk_rd {kvs : List (Key × V)} (ok : HOk P w H h) (e : Rd H a (.dK kvs)) : kvs.length ≤ sizeLine ∧ (a == sysModules) = false ∧ ∃ vs, KV kvs vs ∧ h.DictOf (mixKind P w) a vs :=
  show ObjOk P w H h a (.dK kvs) from rd_of ok e
theorem dk_of {kvs : List (Key × V)} (ok : HOk P w H h) (e : H a = some (.dK kvs)) : kvs.length ≤ sizeLine ∧ (a == sysModules) = false ∧ ∃ vs, KV kvs vs ∧ h.DictOf (mixKind P w) a vs := dk_rd ok (.inl e)
end

/-- what the dict at a holds at the key y -/
def DGet (H : Hp) (a : Addr) (y : V) (r : Option V) : Prop :=
  (∃ kvs k, Rd H a (.dK kvs) ∧ y = kV k ∧ r = valV kvs k) ∨ ∃ kvs k b, Rd H a (.dT kvs) ∧ y = .ref b ∧ H b = some (.tup (k.map kV)) ∧ r = valV kvs k
/-- the heap behind a[y] = v -/
def DPut (H : Hp) (a : Addr) (y v : V) (H' : Hp) : Prop :=
  (∃ kvs k, H a = some (.dK kvs) ∧ y = kV k ∧ kvs.length < sizeLine ∧ H' = upd H a (.dK (putK kvs k v))) ∨
  ∃ kvs k b, H a = some (.dT kvs) ∧ y = .ref b ∧ H b = some (.tup (k.map kV)) ∧ kvs.length < sizeLine ∧ H' = upd H a (.dT (putK kvs k v))
theorem DGet.k {H : Hp} {a : Addr} {kvs : List (Key × V)} {k : Key} (e : H a = some (.dK kvs)) : DGet H a (kV k) (valV kvs k) := .inl ⟨kvs, k, .inl e, rfl, rfl⟩
theorem DGet.t {H : Hp} {a b : Addr} {kvs : List (List Key × V)} {k : List Key} (e : H a = some (.dT kvs)) (eb : H b = some (.tup (k.map kV))) : DGet H a (.ref b) (valV kvs k) := .inr ⟨kvs, k, b, .inl e, rfl, eb, rfl⟩
theorem DPut.k {H : Hp} {a : Addr} {kvs : List (Key × V)} {k : Key} {v : V} (e : H a = some (.dK kvs)) (hl : kvs.length < sizeLine) : DPut H a (kV k) v (upd H a (.dK (putK kvs k v))) := .inl ⟨kvs, k, e, rfl, hl, rfl⟩
theorem DPut.t {H : Hp} {a b : Addr} {kvs : List (List Key × V)} {k : List Key} {v : V} (e : H a = some (.dT kvs)) (eb : H b = some (.tup (k.map kV))) (hl : kvs.length < sizeLine) :
    DPut H a (.ref b) v (upd H a (.dT (putK kvs k v))) := .inr ⟨kvs, k, b, e, rfl, eb, hl, rfl⟩


section
variable {X : Cx} {pins : List (Addr × Obj)} {σ : St} {H : Hp} {s : Shared} {a : Addr} {y v : V} {u r : Value} {o : Option V} {A : Around} {E : Value → Shared → Prop}

theorem Inv.big (I : Inv X pins σ H s) : sysModules < s.heap.objs.size := by
  have h : mainGlobals < s.heap.objs.size := (I.mod.glob.keeps I.bk).lt
  exact Nat.lt_trans (by decide) h

/-- a dict's object is replaced -/
theorem d_write {h' : Heap} {t' : Nat} {ob : HO} (I : Inv X pins σ H s) (mu : Mut (H a)) (hs : Heap.SameBut a s.heap h') (he : ∃ q, h'.get? a = some q) (new : ObjOk X.prog X.w (upd H a ob) h' a ob) :
    Inv X pins σ (upd H a ob) { s with heap := h', toks := t' } :=
  I.write (x := a) (e := a) mu (.inl rfl) (fun b q hb z => (hs.2 b hb).trans z) he new
theorem dk_new {P : Program} {w : World} {H' : Hp} {h' : Heap} {kvs : List (Key × V)} {vs : List (Key × Value)} (z : kvs.length ≤ sizeLine) (hd : (a == sysModules) = false) (rel : KV kvs vs) (dd : h'.DictOf (mixKind P w) a vs) :
    ObjOk P w H' h' a (.dK kvs) := ⟨z, hd, vs, rel, dd⟩
end

section
variable {X : Cx} {pins : List (Addr × Obj)} {σ : St} {H : Hp} {s : Shared} {a : Addr} {kvs : List (Key × V)} {k : Key} {u : Value} {A : Around} {E : Value → Shared → Prop}
end


/-! ### readings and rules -/
/-- the element of a subscription, not a slice -/
def NoSl (i : Expr) : Prop := ∀ ov iv, subscripted i false ov iv = operate [ov, iv] (getItem ov iv)
/-- d[y] -/
def tDGet (td ty : TE) : TE := fun σ H Q => td σ H fun x H1 => ty σ H1 fun y H2 => ∃ a v, x = .ref a ∧ DGet H2 a y (some v) ∧ Q v H2
/-- y in d, y not in d -/
def tDIn (ty td : TE) : TE := fun σ H Q => ty σ H fun y H1 => td σ H1 fun x H2 => ∃ a o, x = .ref a ∧ DGet H2 a y o ∧ Q (.bl o.isSome) H2
def tDNotIn (ty td : TE) : TE := fun σ H Q => ty σ H fun y H1 => td σ H1 fun x H2 => ∃ a o, x = .ref a ∧ DGet H2 a y o ∧ Q (.bl (!o.isSome)) H2
/-- d[y] = v -/
def sDPut (td ty tv : TE) : TS := fun D σ H => tv σ H fun v H1 => td σ H1 fun x H2 => ty σ H2 fun y H3 => ∃ a H4, x = .ref a ∧ DPut H3 a y v H4 ∧ D.nx σ H4
/-- d[y] op= v -/
def sDAug (td ty tv : TE) (rd : V → V → Hp → VK → Prop) : TS := fun D σ H => td σ H fun x H1 => ty σ H1 fun y H2 => ∃ a v, x = .ref a ∧ DGet H2 a y (some v) ∧
  tv σ H2 fun y2 H3 => rd v y2 H3 fun z H4 => ∃ H5, DPut H4 a y z H5 ∧ D.nx σ H5
/-- del d[y] -/
def sDDel (td ty : TE) : TS := fun D σ H => td σ H fun x H1 => ty σ H1 fun y H2 => ∃ a kvs k, x = .ref a ∧ H2 a = some (.dK kvs) ∧ y = kV k ∧ (valV kvs k).isSome = true ∧ D.nx σ (upd H2 a (.dK (dropK kvs k)))

section
variable {X : Cx} {o i e value : Expr} {pos pos' tpos : Pos} {td ty tv : TE}
end


/-! ### displays -/
theorem dk_empty {P : Program} {w : World} {H : Hp} (h : Heap) (hb : sysModules < h.objs.size) : ObjOk P w H (h.push { cls := .type "dict", data := .dict #[] }) h.objs.size (.dK []) :=
  ⟨Nat.zero_le _, beq_eq_false_iff_ne.mpr (Ne.symm (Nat.ne_of_lt hb)), [], .nil, Heap.DictOf.new h⟩
/-- {}, to be a dict of the kind that is wanted -/
def tDNewK : TE := fun _ H Q => ∀ p, H p = none → Q (.ref p) (upd H p (.dK []))
def tDNewT : TE := fun _ H Q => ∀ p, H p = none → Q (.ref p) (upd H p (.dT []))
section
variable {X : Cx} {pos : Pos}
theorem pe_dnewK : PE X (.Dict [] [] pos) tDNewK := fun pins s σ H Q I h =>
  wpAny_Dict_empty ⟨.ref s.heap.objs.size, _, I.laid (a := s.heap.objs.size) (o := .dK []) (t' := s.toks) (fun _ _ q => Heap.get?_push_of_some _ q) (Nat.le_refl _) (dk_empty s.heap I.big), rfl, h _ (I.hok.fresh (Nat.le_refl _))⟩
end

/-- the pairs of a display, from the left -/
def tPairs : List (TE × TE) → St → Hp → (List (V × V) → Hp → Prop) → Prop
  | [], _, H, Q => Q [] H
  | (tk, tv) :: r, σ, H, Q => tk σ H fun x H1 => tv σ H1 fun y H2 => tPairs r σ H2 fun ps H3 => Q ((x, y) :: ps) H3
abbrev VV : List (V × V) → List (Value × Value) → Prop := Paired fun p q => RelV p.1 q.1 ∧ RelV p.2 q.2
def PPs (X : Cx) (pos : Pos) (keys : List (Option Expr)) (values : List Expr) (trs : List (TE × TE)) : Prop :=
  ∀ (pins : List (Addr × Obj)) (s : Shared) (σ : St) (H : Hp) (Q : List (V × V) → Hp → Prop), Inv X pins σ H s → tPairs trs σ H Q →
    wpAny (model X.prog X.w) X.A (evalPairs (pairTrees keys values X.env pos)) (fun vs s' => ∃ ps H', Inv X pins σ H' s' ∧ VV ps vs ∧ Q ps H') X.xe s
theorem pps_nil {X : Cx} {pos : Pos} : PPs X pos [] [] [] := fun pins s σ H Q I h => pairTrees_nil_walk ⟨[], H, I, .nil, h⟩
theorem pps_cons {X : Cx} {pos : Pos} {k v : Expr} {ks : List (Option Expr)} {vs : List Expr} {tk tv : TE} {trs : List (TE × TE)} (hk : PE X k tk) (hv : PE X v tv) (hr : PPs X pos ks vs trs) :
    PPs X pos (some k :: ks) (v :: vs) ((tk, tv) :: trs) := fun pins s σ H Q I h =>
  pairTrees_cons_walk (thn (hk pins s σ H _ I h) fun u s1 ⟨x, H1, I1, rx, q1⟩ => thn (hv pins s1 σ H1 _ I1 q1) fun w2 s2 ⟨y, H2, I2, ry, q2⟩ =>
    thn (hr pins s2 σ H2 _ I2 q2) fun ws s3 ⟨ps, H3, I3, rel, q3⟩ => ⟨(x, y) :: ps, H3, I3, .cons ⟨rx, ry⟩ rel, q3⟩)

def mergeK (kvs more : List (Key × V)) : List (Key × V) := more.foldl (fun acc kv => putK acc kv.1 kv.2) kvs
theorem KV.merge : ∀ {more : List (Key × V)} {rs : List (Key × Value)} {kvs : List (Key × V)} {vs : List (Key × Value)}, KV more rs → KV kvs vs → KV (mergeK kvs more) (merged vs rs) := by
  intro more rs kvs vs r
  unfold KV at r
  induction r generalizing kvs vs with
  | nil => intro q; exact q
  | @cons p q ps qs h t ih =>
    intro r0
    have e : KV (putK kvs p.1 p.2) (stored vs q.1 q.2) := by
      have := r0.put p.1 h.2
      rw [← h.1]; exact this
    exact ih e
theorem length_mergeK : ∀ (more kvs : List (Key × V)), (mergeK kvs more).length ≤ kvs.length + more.length
  | [], kvs => by show kvs.length ≤ kvs.length + 0; omega
  | p :: r, kvs => by
    have h1 := length_mergeK r (putK kvs p.1 p.2)
    have h2 := length_putK kvs p.1 p.2
    show (mergeK (putK kvs p.1 p.2) r).length ≤ _
    rw [List.length_cons]; omega
theorem carries_of {P : Program} {w : World} : ∀ {kvs : List (Key × V)} {ws : List (Value × Value)}, VV (kvs.map fun kv => (kV kv.1, kv.2)) ws → ∃ rs, Carries (mixKind P w) ws rs ∧ KV kvs rs
  | [], _, r => by rw [List.map_nil] at r; cases r; exact ⟨[], True.intro, .nil⟩
  | p :: kvs, _, r => by
    rw [List.map_cons] at r
    cases r with
    | @cons a b as bs h t =>
      obtain ⟨rs, c, q⟩ := carries_of (P := P) (w := w) t
      obtain ⟨b1, b2⟩ := b
      exact ⟨(p.1, b2) :: rs, ⟨kV_is h.1, rfl, c⟩, .cons ⟨rfl, h.2⟩ q⟩
/-- {k: v, ..} with keys ints and texts; the new dict stands empty while the pairs are made -/
def tDisp (trs : List (TE × TE)) : TE := fun σ H Q => ∀ p, H p = none → tPairs trs σ (upd H p (.dK [])) fun ps H2 => H2 p = some (.dK []) ∧ ∃ kvs : List (Key × V), ps = kvs.map (fun kv => (kV kv.1, kv.2)) ∧ kvs.length ≤ 15 ∧ Q (.ref p) (upd H2 p (.dK (mergeK [] kvs)))
theorem pe_disp {X : Cx} {pos : Pos} {keys : List (Option Expr)} {values : List Expr} {trs : List (TE × TE)} (h : PPs X pos keys values trs) (hall : keys.all (·.isSome) = true) (hl : keys.length = values.length) (h0 : keys ≠ [])
    (h15 : keys.length ≤ 15) : PE X (.Dict keys values pos) (tDisp trs) := by
  intro pins s σ H Q I q
  have hn := I.hok.fresh (Nat.le_refl s.heap.objs.size)
  have I1 := I.laid (a := s.heap.objs.size) (o := .dK []) (h' := s.heap.push { cls := .type "dict", data := .dict #[] }) (t' := s.toks) (fun _ _ q => Heap.get?_push_of_some _ q) (Nat.le_refl _) (dk_empty s.heap I.big)
  refine wpAny_Dict_walk (knd := mixKind X.prog X.w) hall hl h0 h15 (thn (h pins _ σ _ _ I1 (q _ hn)) fun ws s2 ⟨ps, H2, I2, rel, e, kvs, ep, lk, q2⟩ => ?_)
  subst ep
  obtain ⟨rs, c, rk⟩ := carries_of (P := X.prog) (w := X.w) rel
  obtain ⟨z, hd, vs0, r0, dd⟩ := dk_of I2.hok e
  cases r0
  refine ⟨rs, c, dd, fun h' dd' hs => ⟨.ref s.heap.objs.size, _, ?_, rfl, q2⟩⟩
  have hz : (mergeK [] kvs).length ≤ sizeLine := by
    have h1 := length_mergeK kvs []
    rw [List.length_nil] at h1
    rw [sizeLine_eq]; omega
  have he : ∃ q, h'.get? s.heap.objs.size = some q := let ⟨q, _, _, hq, _⟩ := dd'; ⟨q, hq⟩
  exact d_write I2 (by rw [e]; exact True.intro) hs he (dk_new hz hd (rk.merge .nil) dd')


/-! ### methods -/
/-- a method call o.m(e) of a built-in, with one argument: what must be seen of the text -/
structure M1 (X : Cx) (o : Expr) (m : Str) (apos : Pos) (e : Expr) (cpos : Pos) : Prop where
  base : attributeBase o m X.env (eval o X.env) = eval o X.env
  few : ((backTo cpos (starEach [e] X.env)).all (fun x => !x.1) && (backToKw cpos (keywordEach [] X.env)).all (fun x => x.1.isSome)
    && decide (([e] : List Expr).length + ([] : List Keyword).length + (if ([] : List Keyword).isEmpty then 0 else 1) < 30)) = true
  line : (apos.endLine == cpos.line) = true
  trees : backTo cpos (starEach [e] X.env) = [(false, eval e X.env)]
structure M2 (X : Cx) (o : Expr) (m : Str) (apos : Pos) (e f : Expr) (cpos : Pos) : Prop where
  base : attributeBase o m X.env (eval o X.env) = eval o X.env
  few : ((backTo cpos (starEach [e, f] X.env)).all (fun x => !x.1) && (backToKw cpos (keywordEach [] X.env)).all (fun x => x.1.isSome)
    && decide (([e, f] : List Expr).length + ([] : List Keyword).length + (if ([] : List Keyword).isEmpty then 0 else 1) < 30)) = true
  line : (apos.endLine == cpos.line) = true
  trees : backTo cpos (starEach [e, f] X.env) = [(false, eval e X.env), (false, eval f X.env)]

/-- a is a dict, whatever its keys -/
def IsD (H : Hp) (a : Addr) : Prop := (∃ kvs, Rd H a (.dK kvs)) ∨ ∃ kvs, Rd H a (.dT kvs)
section
variable {X : Cx} {pins : List (Addr × Obj)} {σ : St} {H : Hp} {s : Shared} {a : Addr} {y d : V} {u r : Value} {o : Option V} {A : Around} {E : Value → Shared → Prop}
end

def tDGet1 (td ty : TE) : TE := fun σ H Q => td σ H fun x H1 => ∃ a, x = .ref a ∧ IsD H1 a ∧ ty σ H1 fun y H2 => ∃ o, DGet H2 a y o ∧ Q (o.getD .non) H2
def tDGet2 (td ty tx : TE) : TE := fun σ H Q => td σ H fun x H1 => ∃ a, x = .ref a ∧ IsD H1 a ∧ ty σ H1 fun y H2 => tx σ H2 fun z H3 => ∃ o, DGet H3 a y o ∧ Q (o.getD z) H3
/-- d.pop(k): there; d.pop(k, x): there or not -/
def tDPop1 (td ty : TE) : TE := fun σ H Q => td σ H fun x H1 => ∃ a, x = .ref a ∧ IsD H1 a ∧ ty σ H1 fun y H2 => ∃ kvs k v, H2 a = some (.dK kvs) ∧ y = kV k ∧ valV kvs k = some v ∧ Q v (upd H2 a (.dK (dropK kvs k)))
def tDPop2 (td ty tx : TE) : TE := fun σ H Q => td σ H fun x H1 => ∃ a, x = .ref a ∧ IsD H1 a ∧ ty σ H1 fun y H2 => tx σ H2 fun z H3 => ∃ kvs k, H3 a = some (.dK kvs) ∧ y = kV k ∧
  (∀ v, valV kvs k = some v → Q v (upd H3 a (.dK (dropK kvs k)))) ∧ (valV kvs k = none → Q z H3)
section
variable {X : Cx} {o e f : Expr} {apos cpos : Pos} {td ty tx : TE}
end

/-! ### dict(d): a copy -/
section
variable {X : Cx} {pins : List (Addr × Obj)} {σ : St} {H : Hp} {s : Shared} {a : Addr} {kvs : List (Key × V)} {A : Around} {E : Value → Shared → Prop}
end


section
variable {X : Cx} {pins : List (Addr × Obj)} {σ : St} {H : Hp} {s : Shared} {a : Addr} {y : V} {u : Value} {A : Around} {E : Value → Shared → Prop}
end
end L2

namespace L2
open PySem PySem.Spec PyProof.Rows
/-! ### a dict's pairs: keys that differ -/
section
variable {κ : Type} [DecidableEq κ]
end
end L2


set_option Elab.async false
set_option linter.all false
set_option maxRecDepth 100000
/-! all(..), () + t, t * n, is not True, things of plain kinds -/
namespace PySem
open Sem (wp)
open Builtin
end PySem
namespace L2
open PySem PySem.Spec PyProof.Rows
section
variable {X : Cx}
def rRepT (K : PySem.W.Frag) : R2 := fun x y H Q => ∃ (a : Addr) (k : Int) (xs : List V), x = .ref a ∧ y = .int k ∧ SqT K H a xs ∧ xs ≠ [] ∧ 1 < k ∧ k < 2 ^ 30 ∧ xs.length * k.toNat ≤ sizeLine ∧ ∀ p, H p = none → Q (.ref p) (upd H p (.tup (List.replicate k.toNat xs).flatten))
/-- t + u, any of them empty -/
def rCatA (K : PySem.W.Frag) : R2 := fun x y H Q => ∃ a b xs ys, x = .ref a ∧ y = .ref b ∧ SqT K H a xs ∧ SqT K H b ys ∧ xs.length + ys.length ≤ sizeLine ∧
  (xs = [] → Q (.ref b) H) ∧ (xs ≠ [] → ys = [] → Q (.ref a) H) ∧ (xs ≠ [] → ys ≠ [] → ∀ p, H p = none → Q (.ref p) (upd H p (.tup (xs ++ ys))))
/-! ### all(a list of truths) -/
def rAll (K : PySem.W.Frag) : List V → Hp → VK → Prop := fun xs H Q => ∃ (a : Addr) (bs : List Bool), xs = [.ref a] ∧ SqL K H a (bs.map V.bl) ∧ Q (.bl (bs.all id)) H
end
/-! ### things of plain kinds -/
inductive Pl (H : Hp) : V → Prop where
  | non : Pl H .non
  | bl (b : Bool) : Pl H (.bl b)
  | int (i : Int) : Pl H (.int i)
  | str (x : Str) : Pl H (.str x)
  | lst {a : Addr} {xs : List V} (e : H a = some (.lst xs)) : Pl H (.ref a)
  | tup {a : Addr} {xs : List V} (e : H a = some (.tup xs)) : Pl H (.ref a)
  | dK {a : Addr} {kvs : List (Key × V)} (e : H a = some (.dK kvs)) : Pl H (.ref a)
theorem Pl.same {H H' : Hp} {y : V} (h : Pl H y) (s : Same H H') : Pl H' y := by
  cases h with
  | non => exact .non
  | bl b => exact .bl b
  | int i => exact .int i
  | str x => exact .str x
  | lst e => exact .lst (s _ _ e)
  | tup e => exact .tup (s _ _ e)
  | dK e => exact .dK (s _ _ e)
def isIntV : V → Bool
  | .int _ => true
  | _ => false
/-- what isinstance says of such a thing -/
theorem Pl.isi {K : PySem.W.Frag} {H : Hp} {y : V} (h : Pl H y) : ∃ t bi bb bt, TyOf K H y t ∧ PySem.W.kitOne K t (.type "int") = some bi ∧ PySem.W.kitOne K t (.type "bool") = some bb ∧ PySem.W.kitOne K t (.type "tuple") = some bt ∧
    (bi && !bb) = isIntV y ∧ (bt = true ↔ ∃ a xs, y = .ref a ∧ H a = some (.tup xs)) := by
  cases h with
  | non => exact ⟨_, false, false, false, .non, by with_unfolding_all rfl, by with_unfolding_all rfl, by with_unfolding_all rfl, rfl, by simp⟩
  | bl b => exact ⟨_, true, true, false, .bl b, by with_unfolding_all rfl, by with_unfolding_all rfl, by with_unfolding_all rfl, rfl, by simp⟩
  | int i => exact ⟨_, true, false, false, .int i, by with_unfolding_all rfl, by with_unfolding_all rfl, by with_unfolding_all rfl, rfl, by simp⟩
  | str x => exact ⟨_, false, false, false, .str x, by with_unfolding_all rfl, by with_unfolding_all rfl, by with_unfolding_all rfl, rfl, by simp⟩
  | @lst a xs e => exact ⟨_, false, false, false, .lst e, by with_unfolding_all rfl, by with_unfolding_all rfl, by with_unfolding_all rfl, rfl, by
      refine ⟨fun z => (by cases z), fun ⟨a', xs', z, e'⟩ => ?_⟩
      cases z
      rw [e] at e'
      cases e'⟩
  | @tup a xs e => exact ⟨_, false, false, true, .tup e, by with_unfolding_all rfl, by with_unfolding_all rfl, by with_unfolding_all rfl, rfl, ⟨fun _ => ⟨a, xs, rfl, e⟩, fun _ => rfl⟩⟩
  | @dK a kvs e => exact ⟨_, false, false, false, .dK e, by with_unfolding_all rfl, by with_unfolding_all rfl, by with_unfolding_all rfl, rfl, by
      refine ⟨fun z => (by cases z), fun ⟨a', xs', z, e'⟩ => ?_⟩
      cases z
      rw [e] at e'
      cases e'⟩

/-! ### the judgements as closed boxes: where a display is long, Lean must not look into what is wanted -/
structure PEW (X : Cx) (e : Expr) (t : TE) : Prop where
  out : PE X e t
structure PAW (X : Cx) (es : List Expr) (t : TA) : Prop where
  out : PA X es t
structure PTW (X : Cx) (e : Expr) (t : TT) : Prop where
  out : PT X e t
structure PSW (X : Cx) (s : Stmt) (t : TS) : Prop where
  out : PS X s t
structure PSsW (X : Cx) (s : List Stmt) (t : TS) : Prop where
  out : PSs X s t
section
variable {X : Cx} {a b e : Expr} {es : List Expr} {ta tb te : TE} {t : TA} {pos : Pos}
theorem wa_nil : PAW X [] tNil := ⟨pa_nil⟩
theorem wa_cons (ha : PEW X e te) (hr : PAW X es t) (hs : starEach (e :: es) X.env = (false, eval e X.env) :: starEach es X.env := by rfl) : PAW X (e :: es) (tCons te t) := ⟨pa_cons ha.out hr.out hs⟩
theorem w_lst (h : PAW X es t) : PEW X (.List es pos) (tLst t) := ⟨pe_lst h.out⟩
theorem w_ix {r : R2} (hr : IxR X r) (ha : PEW X a ta) (hb : PEW X b tb) (hs : PlainIx b) : PEW X (.Subscript a b pos) (tOp r ta tb) := ⟨pe_ix hr ha.out hb.out hs⟩
variable {st : Stmt} {rest : List Stmt} {ts us : TS}
theorem ws_cons (h1 : PSW X st ts) (h2 : PSsW X rest us) : PSsW X (st :: rest) (tSeq ts us) := ⟨pss_cons h1.out h2.out⟩
theorem ws_one (h1 : PSW X st ts) : PSsW X [st] ts := ⟨pss_one h1.out⟩
theorem w_ret (he : PEW X e te) : PSW X (.Return (some e) pos) (tRet te) := ⟨ps_ret he.out⟩
theorem body_w {b : List Stmt} {R : TS → Prop} (h : PSsW X b ts) (r : R ts) : ∃ t, PSs X b t ∧ R t := ⟨ts, h.out, r⟩
end
end L2

set_option Elab.async false
set_option linter.all false
set_option maxRecDepth 100000
/-! exceptions of one's own classes: raised, passed on, caught -/
namespace L2
open PySem PySem.Spec PyProof.Rows
/-! ### what stands behind a def that raised -/
def CX1 (P : Program) (w : World) : CXT := fun outer H s E e s' => ∃ (ea t C : Addr) (B : Heap) (H' : Hp), e = .ref ea ∧ s'.os = s.os ∧ AllBare s'.gens ∧ Un (frs outer) [] H H' s.heap s'.heap ∧ HOk P w H' B ∧
  Heap.FlyingW B outer ea (.ref C) (.ref t) s'.heap ∧ (∀ b o, s.heap.get? b = some o → b ∉ frs outer → ∃ o', B.get? b = some o') ∧ H' ea = none ∧ E (.ref C) none H'
theorem ObjOk.ex {P : Program} {w : World} {H : Hp} {h : Heap} {a : Addr} : ∀ {o : HO}, ObjOk P w H h a o → ∃ ob, h.get? a = some ob
  | .lst _, ⟨_, _, _, _, e⟩ => ⟨_, e⟩
  | .tup _, ⟨_, _, _, o, e, _⟩ => ⟨o, e⟩
  | .dK _, ⟨_, _, _, _, o, _, _, e, _⟩ => ⟨o, e⟩
  | .dT _, ⟨_, _, _, _, o, _, _, e, _⟩ => ⟨o, e⟩
  | .set _ _, ⟨o, _, _, _, e, _⟩ => ⟨o, e⟩
  | .ins _ _ _, ⟨_, _, _, e, _⟩ => ⟨_, e⟩
  | .own _, ⟨o, e⟩ => ⟨o, e⟩
  | .xd _, ⟨_, ⟨o, _, _, e, _⟩, _⟩ => ⟨o, e⟩
  | .rng _ _, ⟨_, _, _, e⟩ => ⟨_, e⟩
  | .frz _ _, ⟨e, _⟩ => ⟨_, e⟩
  | .tbl _, e => ⟨_, e⟩
  | .met _ _, e => ⟨_, e⟩
  | .ext _, ⟨_, ⟨o, e⟩, _⟩ => ⟨o, e⟩
theorem HOk.none {P : Program} {w : World} {H : Hp} {h : Heap} {a : Addr} (x : HOk P w H h) (e : h.get? a = none) : H a = none := by
  cases q : H a with
  | none => rfl
  | some o =>
    obtain ⟨ob, e'⟩ := (x a o q).ex
    rw [e] at e'
    cases e'
/-- the same things, the heap without some that aren't tracked -/
theorem HOk.less {P : Program} {w : World} {H : Hp} {h B : Heap} (x : HOk P w H h) (k : ∀ b u, (∃ o, H b = some o) → h.get? b = some u → B.get? b = some u) : HOk P w H B := fun a o e =>
  (x a o e).stay (fun b u hb q => k b u (by
    rcases hb with z | z
    · rw [z]; exact ⟨o, e⟩
    · exact ⟨_, z⟩) q) (fun _ z => z) fun _ _ z => z
theorem Un.fly {fs : List Addr} {H H1 : Hp} {h h1 h2 B : Heap} (u : Un fs [] H H1 h h1) (stays : B.StaysIn h2) (inB : ∀ b o o1, h.get? b = some o → h1.get? b = some o1 → b ∉ fs → B.get? b = some o1)
    (frame : ∀ b o, b ∈ fs → h1.get? b = some o → ∃ sl, h2.get? b = some { o with slots := sl }) : Un fs [] H H1 h h2 where
  keep := fun b o q n hb hx => stays b o (inB b o o q (u.keep b o q n hb hx) hb)
  slot := fun b o q n hb hx => by
    obtain ⟨sl, e⟩ := u.slot b o q n hb hx
    obtain ⟨sl', e'⟩ := frame b _ hb e
    exact ⟨sl', e'⟩
  free := u.free
  there := fun b o q hx => by
    obtain ⟨o', e⟩ := u.there b o q hx
    by_cases hb : b ∈ fs
    · obtain ⟨sl, e'⟩ := frame b _ hb e
      exact ⟨_, e'⟩
    · exact ⟨o', stays b o' (inB b o o' q e hb)⟩
  tups := u.tups
  frzs := u.frzs
  tbls := u.tbls
/-! ### a def's body may raise -/
section
variable {P : Program} {w : World} {K : PySem.W.Frag} {mg : Str → Option Value} {base : Heap} {N : List Str} {qual : Str} {scope : Scope} {f : Addr} {cd : Value} {A : Around} {outer : List Env} {s : Shared} {H : Hp} {E : XK}
/-- an exception just made leaves the body -/
def Thr (X : Cx) (E : XK) : Prop := ∀ (pins : List (Addr × Obj)) (σ : St) (H : Hp) (s : Shared) (h' : Heap) (ea C : Addr) (vs : List Value), Inv X pins σ H s → Heap.MadeExcOf s.heap h' ea (.ref C) vs → E (.ref C) none H → X.xe (.ref ea) { s with heap := h' }
theorem ownFrame (b : Addr) : b ∈ frs (envOfC qual scope s.heap.objs.size f cd :: outer) ↔ b = s.heap.objs.size ∨ b ∈ frs outer := by
  unfold frs
  rw [List.filterMap_cons]
  show b ∈ (s.heap.objs.size :: _) ↔ _
  rw [List.mem_cons]
theorem thr_def : Thr (cxOf (CX1 P w) P w K mg base N qual scope f cd A outer s H E) E := by
  intro pins σ H1 s1 h' ea C vs I hx hE
  show wpAny (model P w) (A.deeper (envOfC qual scope s.heap.objs.size f cd)) (leaving (envOfC qual scope s.heap.objs.size f cd) (.ref ea)) _ _ _
  have hin : ∀ env ∈ (envOfC qual scope s.heap.objs.size f cd :: outer), ∀ b, env.frame = some b → b ∈ frs (envOfC qual scope s.heap.objs.size f cd :: outer) := fun env he b hb => List.mem_filterMap.mpr ⟨env, he, hb⟩
  have fst := I.stack
  have mem : ∀ {b}, b ∈ frs (envOfC qual scope s.heap.objs.size f cd :: outer) → ∃ o, s1.heap.get? b = some o ∧ ∀ vs, o.data ≠ .fields vs := fun {b} hb => (fst.mem hb).2
  refine wpAny_leaves_madeW (base := PySem.W.hideAll s1.heap (frs (envOfC qual scope s.heap.objs.size f cd :: outer))) I.ok.frames rfl (fun b o q => PySem.W.of_hideAll _ q) (PySem.W.funFrames_hide fst hin) hx fun h'' t x1 x2 x3 x4 => ?_
  refine ⟨ea, t, C, _, H1, rfl, I.os, I.bare, ?_, ?_, x1, fun b o q hb => ?_, I.hok.none hx.new, hE⟩
  · refine Un.fly (h1 := s1.heap) I.base x1.1 (fun b o o1 q q1 hb => PySem.W.hideAll_get _ q1 fun z => ?_) fun b o hb q => ?_
    · rcases (ownFrame b).mp z with e | e
      · exact Nat.lt_irrefl _ (e ▸ Heap.lt_size q)
      · exact hb e
    · obtain ⟨o', e', hd⟩ := mem ((ownFrame (qual := qual) (scope := scope) (s := s) (f := f) (cd := cd) b).mpr (.inr hb))
      rw [q] at e'
      cases e'
      exact x4 b o (hx.keeps b o q) hd
  · exact I.hok.less fun b u ⟨o, e⟩ q => PySem.W.hideAll_get _ q fun z => by
      have := I.stkFree b z
      rw [e] at this
      cases this
  · obtain ⟨o', e'⟩ := I.base.there b o q (by intro z; cases z)
    exact ⟨o', PySem.W.hideAll_get _ e' fun z => by
      rcases (ownFrame b).mp z with e | e
      · exact Nat.lt_irrefl _ (e ▸ Heap.lt_size q)
      · exact hb e⟩
/-- an exception of a callee leaves the body -/
theorem pass_def : Passes (CX1 P w) (cxOf (CX1 P w) P w K mg base N qual scope f cd A outer s H E) E := by
  intro pins σ H1 s1 e s' I hc
  obtain ⟨ea, t, C, B, H', rfl, os, bare, un, hok, fl, there, hn, hE⟩ := hc
  have hokS : HOk P w H' s'.heap := hok.kept fun b u q => fl.1 b u q
  have J : Inv (cxOf (CX1 P w) P w K mg base N qual scope f cd A outer s H E) pins σ H' s' := I.call' (ch := []) os un hokS bare (fun b z => by cases z)
  have fst := J.stack
  have mem : ∀ {b}, b ∈ frs (envOfC qual scope s.heap.objs.size f cd :: outer) → ∃ o, s'.heap.get? b = some o ∧ ∀ vs, o.data ≠ .fields vs := fun {b} hb => (fst.mem hb).2
  show wpAny (model P w) (A.deeper (envOfC qual scope s.heap.objs.size f cd)) (leaving (envOfC qual scope s.heap.objs.size f cd) (.ref ea)) _ _ _
  have thereB : ∀ b o, s.heap.get? b = some o → b ∉ frs outer → ∃ o', B.get? b = some o' := fun b o q hb => by
    obtain ⟨o1, e1⟩ := I.base.there b o q (by intro z; cases z)
    exact there b o1 e1 fun z => by
      rcases (ownFrame b).mp z with e | e
      · exact Nat.lt_irrefl _ (e ▸ Heap.lt_size q)
      · exact hb e
  refine wpAny_leaves_onW I.ok.frames rfl fl fun h'' x1 x2 => ?_
  refine ⟨ea, t, C, B, H', rfl, J.os, J.bare, ?_, hok, x1, thereB, hn, hE⟩
  refine Un.fly (h1 := s'.heap) J.base x1.1 (fun b o o1 q q1 hb => ?_) fun b o hb q => ?_
  · obtain ⟨o', e'⟩ := thereB b o q hb
    have := fl.1 b o' e'
    rw [q1] at this
    cases this
    exact e'
  · obtain ⟨o', e', hd⟩ := mem ((ownFrame (qual := qual) (scope := scope) (s := s) (f := f) (cd := cd) b).mpr (.inr hb))
    rw [q] at e'
    cases e'
    exact x2 b o q hd
end
/-- who never raises keeps that promise, too -/
theorem FnOk.lift {P : Program} {w : World} {K : PySem.W.Frag} {mg : Str → Option Value} {base : Heap} {k : Nat} {f : Addr} {fd : FuncData} {ps : List Str} {sp : Sp} (F : FnOk P w K mg base CX0 k f fd ps sp) (CX : CXT) : FnOk P w K mg base CX k f fd ps sp :=
  ⟨F.len, fun A outer s H args us vs Q E hr he hb hv hs => codeAny_mono (F.run A outer s H args us vs Q E hr he hb hv hs) fun r s' q => by
    cases r with
    | ok fl => cases fl <;> exact q
    | error e => exact q.elim⟩
end L2

set_option Elab.async false
set_option linter.all false
set_option maxRecDepth 100000
/-! raise of an own class, f-strings, calls that may raise -/
namespace L2
open PySem PySem.Spec PyProof.Rows
abbrev VEm : List Value := [.type "ValueError", .type "Exception", .type "BaseException", .type "object"]
theorem exc_at {K : PySem.W.Frag} {h : Heap} {C : Addr} {bmB : List Value} {newId : String} (X : K.In h) (q : PySem.W.excIn K C bmB newId = true) :
    ∃ tl N nm qn bs hd sn sub ab col dd k0 k1 k2 k3 k5 mN, h.get? C = some (excClassObj nm qn C N bs tl hd sn sub ab col dd k0 k1 k2 k3 k5 newId) ∧ h.Ns N mN ∧ mN "__init__" = none ∧ OwnTail h bmB tl := by
  unfold PySem.W.excIn at q
  cases e : K.lookup C with
  | none => rw [e] at q; cases q
  | some ob =>
    rw [e] at q
    obtain ⟨oc, od, dt, sl⟩ := ob
    split at q
    · rename_i dd cd sl' he
      cases he
      split at q
      · rename_i C' tl k0 k1 k2 k3 n k5 m1 m2
        simp only [Bool.and_eq_true, beq_iff_eq, Bool.not_eq_true'] at q
        obtain ⟨⟨⟨⟨⟨rfl, rfl⟩, d1⟩, t1⟩, o1⟩, i1⟩ := q
        obtain ⟨nm, bs, mro, ns, qn, hd, sn, sub, ab, col, del⟩ := cd
        dsimp only at m1 d1 o1 i1
        subst m1 d1
        have es : sl = #[k0, k1, k2, k3, some (.builtin n), k5] := by
          cases sl with
          | mk l => exact congrArg Array.mk m2
        subst es
        exact ⟨tl, ns, nm, qn, bs, hd, sn, sub, ab, col, _, k0, k1, k2, k3, k5, _, X _ _ e, .of_isNs (PySem.W.isNs_of_in X o1), PySem.W.nsMap_none_of_in X o1 i1, PySem.W.tail_of_in X t1⟩
      · cases q
    · cases q
section
variable {X : Cx} {x : Str} {j k : Nat} {ps : List Str} {dvs : List V} {sp : Sp} {p pos cpos : Pos} {e : Expr} {es : List Expr} {t : TA} {C : Addr} {E : XK}
def tRaise (C : Addr) (E : XK) (t : TA) : TS := fun _ σ H => t σ H fun vs H1 => vs.length ≤ 8 ∧ E (.ref C) none H1
theorem ps_raise (hq : PySem.W.excIn X.K C VEm "ValueError.__new__" = true) (hc : X.calm = true) (hm : X.mg x = some (.ref C)) (ht : Thr X E) (ha : PA X (e :: es) t) (hg : Gl X x := by rfl) (hdb : (x == ("__debug__" : Str)) = false := by decide)
    (he : starEach (e :: es) X.env = (false, eval e X.env) :: starEach es X.env := by rfl) (hpl : (backTo cpos (starEach es X.env)).any (·.1) = false := by rfl) :
    PS X (.Raise (some (.Call (.Name x p) (e :: es) [] cpos)) none pos) (tRaise C E t) := by
  intro pins s σ H D I h
  obtain ⟨tl, N, nm, qn, bs, hd, sn, sub, ab, col, dd, k0, k1, k2, k3, k5, mN, hC, hN, hni, T⟩ := exc_at I.ok.mod.kin hq
  refine wpAny_Raise_call_subU (C := C) (nm := nm) (q := qn) (N := N) (bs := bs) (bm := tl) (hdct := hd) (sn := sn) (sub := sub) (ab := ab) (col := col) (dd := dd) (k0 := k0) (k1 := k1) (k2 := k2) (k3 := k3) (k5 := k5)
    PySem.F.excBase_ValueError (bmB := VEm) (by decide) PySem.F.excBase_ValueError (mN := mN) (T.hasType (by decide)) (I.ok.hd hc) (by rw [he]; show (false || (backTo cpos (starEach es X.env)).any (·.1)) = false; rw [hpl]; rfl) hni (ld_glob I hg hm ⟨rfl, ?_⟩ hdb)
  have hw := ha cpos pins s σ H _ I h
  rw [he] at hw ⊢
  refine Calls.evalArgs_plain (thn hw fun us s1 ⟨vs, H1, I1, r, l8, q⟩ => ⟨rfl, ?_, I1.bk _ _ hC, hN.keeps I1.bk, T.keeps I1.bk, fun h' ea hx => ht pins σ H1 s1 h' ea C us I1 hx q⟩)
  show us.length ≤ sizeLine
  rw [← r.length]
  exact Nat.le_trans l8 (by decide)
/-- calls of what never raises, anywhere -/
theorem pe_c0 (G : DefOk X.prog X.w X.K X.mg X.base x k ps dvs sp) (hr : Room j X.A) (ha : PA X (e :: es) t) (hkj : k ≤ j := by decide) (hg : Gl X x := by rfl) (hdb : (x == ("__debug__" : Str)) = false := by decide)
    (he : starEach (e :: es) X.env = (false, eval e X.env) :: starEach es X.env := by rfl) (hpl : (backTo pos (starEach es X.env)).any (·.1) = false := by rfl) :
    PE X (.Call (.Name x p) (e :: es) [] pos) (tCall sp dvs E0 t) := by
  obtain ⟨f, fd, ds, hm, hk, hd, hb, F⟩ := G.ex
  exact pe_call F (hr.mono hkj) hg hm hk hb hd (fun _ _ _ _ _ _ _ h => h.elim) ha hdb he hpl
end
/-- a def that may raise, as its callers see it -/
structure DefX (P : Program) (w : World) (K : PySem.W.Frag) (mg : Str → Option Value) (base : Heap) (x : Str) (k : Nat) (ps : List Str) (dvs : List V) (sp : Sp) : Prop where
  ex : ∃ (f : Addr) (fd : FuncData) (ds : List Value), mg x = some (.ref f) ∧ PySem.W.keepIn K (.ref f) = true ∧ Vals dvs ds ∧ Binds K fd ps ds ∧ FnOk P w K mg base (CX1 P w) k f fd ps sp
section
variable {X : Cx} {x : Str} {j k : Nat} {ps : List Str} {dvs : List V} {sp : Sp} {p pos : Pos} {e : Expr} {es : List Expr} {t : TA} {E : XK}
theorem pe_cx (G : DefX X.prog X.w X.K X.mg X.base x k ps dvs sp) (hr : Room j X.A) (hx : Passes (CX1 X.prog X.w) X E) (ha : PA X (e :: es) t) (hkj : k ≤ j := by decide) (hg : Gl X x := by rfl) (hdb : (x == ("__debug__" : Str)) = false := by decide)
    (he : starEach (e :: es) X.env = (false, eval e X.env) :: starEach es X.env := by rfl) (hpl : (backTo pos (starEach es X.env)).any (·.1) = false := by rfl) :
    PE X (.Call (.Name x p) (e :: es) [] pos) (tCall sp dvs E t) := by
  obtain ⟨f, fd, ds, hm, hk, hd, hb, F⟩ := G.ex
  exact pe_call F (hr.mono hkj) hg hm hk hb hd hx ha hdb he hpl
/-- what comes behind a statement that never ends well isn't read -/
def tStop (t : TS) : TS := fun _ σ H => t { nx := fun _ _ => False, rt := fun _ _ => False } σ H
theorem pss_stop {st : Stmt} {rest : List Stmt} {t : TS} (h : PS X st t) : PSs X (st :: rest) (tStop t) := by
  intro pins s σ H D I q
  refine wpAny_execs_cons (thn (h pins s σ H _ I q) fun f s' hs => ?_)
  cases f with
  | next => obtain ⟨_, _, _, z⟩ := hs; exact z.elim
  | brk => obtain ⟨_, _, _, z⟩ := hs; exact z.elim
  | cont => obtain ⟨_, _, _, z⟩ := hs; exact z.elim
  | ret u => obtain ⟨_, _, _, _, _, z⟩ := hs; exact z.elim
end
section
variable {P : Program} {w : World} {K : PySem.W.Frag} {mg : Str → Option Value} {base : Heap}
theorem FunD.okX {x qual : Str} {st : Stmt} {dV : Value} {f : Addr} {fd : FuncData} {N ps : List Str} {k : Nat} {sp : Sp} (F : FunD K x qual st dV f fd) (S : FnScope N ps (defScope st)) (len : ∀ vs H Q E, sp vs H Q E → vs.length = ps.length)
    (hbody : ∀ (cdv : Value) (A : Around) (outer : List Env) (s : Shared) (H : Hp) (vs : List V) (Q : VK) (E : XK), Room k (A.deeper (envOfC qual (defScope st) s.heap.objs.size f cdv)) → sp vs H Q E →
      ∃ t, PSs (cxOf (CX1 P w) P w K mg base N qual (defScope st) f cdv A outer s H E) (defBody st) t ∧ t { nx := fun _ H' => Q .non H', rt := Q } (start N vs) H) : FnOk P w K mg base (CX1 P w) (k + 1) f fd ps sp := by
  obtain ⟨oc, od, kV, doc, pm, an, cdv, ct, osl, rfl, lk, hcd⟩ := F.ex
  exact fn_of lk hcd S len fun A outer s H vs Q E hr hsp => hbody cdv A outer s H vs Q E hr hsp
end
/-! ### f-strings -/
section
variable {X : Cx} {e v1 v2 : Expr} {es rest : List Expr} {pos : Pos} {te : TE} {n : Nat}
/-- a piece: its text, short -/
abbrev TF := St → Hp → (Str → Hp → Prop) → Prop
def PF (X : Cx) (e : Expr) (t : TF) : Prop := ∀ (pins : List (Addr × Obj)) (s : Shared) (σ : St) (H : Hp) (Q : Str → Hp → Prop), Inv X pins σ H s → t σ H Q →
  wpAny (model X.prog X.w) X.A (eval e X.env) (fun u s' => ∃ x tk H', u = .str x tk ∧ Inv X pins σ H' s' ∧ x.length ≤ 1000 ∧ Q x H') X.xe s
theorem pf_str {x : Str} {k : Nat} {pos : Pos} (hx : x.length ≤ 1000 := by decide) : PF X (.Constant (.str x) k pos) (fun _ H Q => Q x H) := fun pins s σ H Q I q =>
  Calls.Constant_str (show _ from ⟨x, _, H, rfl, I.tok _, hx, q⟩)
/-- {name}: a short text, or a number that is written short -/
def tFmt (te : TE) : TF := fun σ H Q => te σ H fun v H1 => (∃ x, v = .str x ∧ x.length ≤ 1000 ∧ Q x H1) ∨ ∃ i : Int, v = .int i ∧ i.natAbs.log2 < 1920 ∧ (Str.ofString (toString i)).length ≤ 1000 ∧ Q (Str.ofString (toString i)) H1
theorem pf_fmt (he : PE X e te) : PF X (.FormattedValue e (-1) none pos) (tFmt te) := by
  intro pins s σ H Q I h
  refine FormattedValue_plain (thn (he pins s σ H _ I h) fun u s1 ⟨v, H1, I1, r, q⟩ => ?_)
  rcases q with ⟨x, rfl, hx, q⟩ | ⟨i, rfl, hd, hx, q⟩
  · obtain ⟨tk, rfl⟩ := (show ∃ t, u = Value.str x t from r)
    exact formatField_str (fun t' tk' => ⟨x, t', H1, rfl, I1.tok _, hx, q⟩) (Nat.le_trans hx (by decide))
  · obtain ⟨tk, rfl⟩ := (show ∃ t, u = Value.int i t from r)
    exact formatField_int_small hd ⟨_, _, H1, rfl, I1.tok _, hx, q⟩
def PFs (X : Cx) (n : Nat) (es : List Expr) (t : TF) : Prop := ∀ (pins : List (Addr × Obj)) (s : Shared) (σ : St) (H : Hp) (Q : Str → Hp → Prop) (out : Str), out.length ≤ n → Inv X pins σ H s → t σ H Q →
  wpAny (model X.prog X.w) X.A (joinParts out (evalEach es X.env)) (fun u s' => ∃ x tk H', u = .str x tk ∧ Inv X pins σ H' s' ∧ Q x H') X.xe s
def tFnil : TF := fun _ H Q => ∀ x, Q x H
def tFcons (t1 t2 : TF) : TF := fun σ H Q => t1 σ H fun _ H1 => t2 σ H1 Q
theorem pfs_nil (hn : n ≤ sizeLine := by decide) : PFs X n [] tFnil := fun pins s σ H Q out ho I h => joinParts_nil ⟨out, _, H, rfl, I.tok _, h out⟩ (Nat.le_trans ho hn)
theorem pfs_cons {t1 t2 : TF} (h1 : PF X e t1) (h2 : PFs X (n + 1000) es t2) (hn : n + 1000 ≤ sizeLine := by decide) : PFs X n (e :: es) (tFcons t1 t2) := by
  intro pins s σ H Q out ho I h
  refine joinParts_cons (thn (h1 pins s σ H _ I h) fun u s1 ⟨x, tk, H1, hu, I1, hx, q⟩ => ?_)
  subst hu
  have hl : (out ++ x).length ≤ n + 1000 := by rw [strLen_append]; omega
  exact ⟨Nat.le_trans hl hn, h2 pins s1 σ H1 Q (out ++ x) hl I1 q⟩
def tJoin (t : TF) : TE := fun σ H Q => t σ H fun x H1 => Q (.str x) H1
theorem pe_join {t : TF} (h : PFs X 0 (v1 :: v2 :: rest) t) : PE X (.JoinedStr (v1 :: v2 :: rest) pos) (tJoin t) := by
  intro pins s σ H Q I q
  exact JoinedStr_many (thn (h pins s σ H _ Str.empty (by decide) I q) fun u s1 ⟨x, tk, H1, hu, I1, q1⟩ => ⟨.str x, H1, I1, ⟨tk, hu⟩, q1⟩)
end
end L2

set_option Elab.async false
set_option linter.all false
set_option maxRecDepth 100000
/-! isinstance of an own exception -/
namespace L2
open PySem PySem.Spec PySem.W PySem.Builtin PySem.Builtin.Getset_descriptor
/-- what of the text is asked of the class -/
structure XCls (K : PySem.W.Frag) (C : Addr) : Prop where
  ga : findIn K (.ref C) "__getattribute__" = some (some (.builtin "BaseException.__getattribute__"))
  gt : findIn K (.ref C) "__getattr__" = some none
  cl : findIn K (.ref C) "__class__" = some (some (.builtin "object.__class__"))
  gg : specialIn K (.builtin "object.__class__") "__get__" = some (some (.builtin "getset_descriptor.__get__"))
  tk : takesIn K (.builtin "object.__class__") = some true
  ob : mroIn K C (.type "object") = some true
  be : mroIn K C (.type "BaseException") = some true
  ci : (clsIn K C).isSome = true
section
variable {prog : Program} {w : World} {A : Around} {E : Value → Shared → Prop} {s : Shared} {K : PySem.W.Frag} {ea C : Addr} {ob : Obj}
theorem exc_find {M : Model} {h : Heap} (c : XCls K C) (X : K.In h) : Looks M h (Builtin.ObjectAttr.find (.ref ea) (.ref C) "__class__") (.bind (.builtin "getset_descriptor.__get__") (.builtin "object.__class__")) := by
  have l1 := looks_findIn (M := M) X c.cl
  have l2 : Looks M h (Builtin.ObjectAttr.getOf (some (.builtin "object.__class__"))) (some (.builtin "getset_descriptor.__get__")) := looks_specialIn (M := M) X c.gg
  have l3 := looks_takesIn (M := M) X c.tk
  have l4 : Looks M h (Builtin.ObjectAttr.dataDescriptor? (some (.builtin "object.__class__")) (some (.builtin "getset_descriptor.__get__"))) (some (.builtin "getset_descriptor.__get__", .builtin "object.__class__")) := l3.andThen .now
  unfold Builtin.ObjectAttr.find
  exact l1.andThen (l2.andThen (l4.andThen (Looks.tag .now)))
theorem exc_get {tp : Value} {R : Result → Shared → Prop} (X : K.In s.heap) (LT : Looks (model prog w) s.heap (typeOf (.ref ea)) (.ref C)) (hm : mroIn K C (.type "object") = some true) (q : R (.ok (.ret (.ref C))) s) :
    codeAny (model prog w) A (.call (.builtin "getset_descriptor.__get__") ⟨[.builtin "object.__class__", .ref ea, tp], []⟩) R s := by
  have LM := looks_mroIn (M := model prog w) X hm
  obtain ⟨hp, gs, dr, tk, os⟩ := s
  dsimp only at LT LM
  refine codeAny_call_builtin KF.slot_gs.plain KF.entry_gs (KF.slot_gs.check _ _ _ _ _ _ _ _ KF.type_class (KF.args_gs _ _ _) ?_)
  unfold Builtin.«getset_descriptor.__get__» descrGet; rw [dga_obj]
  refine wpAny_bind (wpAny_pure ?_); unfold descrGetter descrCheckInstance descrNameAndClass isInstance
  simp only [KF.owner_class]; repeat lk
  refine ⟨Code.quiet_builtin _ (by decide +kernel), codeAny_builtin KF.entry_class ?_⟩; unfold Builtin.«object.__class__» shownTypeOf
  repeat lk
  exact q
theorem exc_check {M : Model} {hh : Heap} {g : Array GenState} {d : Drawn} {t : Nat} {os : OsState} {nameV : Value} {Q : Unit → Shared → Prop} (LB : Looks M hh (isInstance (.ref ea) (.type "BaseException")) true) (hq : Q () ⟨hh, g, d, t, os⟩) :
    wpAny M A (checkBuiltinCall "BaseException.__getattribute__" ⟨[.ref ea, nameV], []⟩) Q E ⟨hh, g, d, t, os⟩ := by
  have hk : builtinKind "BaseException.__getattribute__" = some .slot := by decide +kernel
  have hsplit : splitId "BaseException.__getattribute__" = some ("BaseException", "__getattribute__") := by decide +kernel
  have ha := PySem.F.args_bexc_ga (.ref ea) nameV
  simp only [checkBuiltinCall, hk, hsplit]
  refine wpAny_bind (LB.at ?_)
  simp only [Bool.not_true, Bool.false_eq_true, if_false]
  repeat (any_goals (first | assumption | wp_step))
theorem exc_class {Q : Option Value → Shared → Prop} (c : XCls K C) (X : K.In s.heap) (LT : ∀ M : Model, Looks M s.heap (typeOf (.ref ea)) (.ref C)) (h : Q (some (.ref C)) { s with toks := s.toks + 1 }) :
    wpAny (model prog w) A (getAttr? (.ref ea) "__class__") Q E s := by
  obtain ⟨hh, g, d, t, os⟩ := s
  have L0 := LT (model prog w)
  have L1 := looks_findIn (M := model prog w) X c.ga
  have L2 := looks_findIn (M := model prog w) X c.gt
  have LF := exc_find (M := model prog w) (ea := ea) c X
  have LB : Looks (model prog w) hh (isInstance (.ref ea) (.type "BaseException")) true := L0.andThen (looks_mroIn (M := model prog w) X c.be)
  unfold getAttr? getAttrBy? getAttrBy
  refine wpAny_bind (wpAny_mkText (wpAny_bind (wpAny_attempt (wpAny_holding (wpAny_bind (L0.at (wpAny_bind (L1.at ?_))))))))
  have ne : (onTheHeap (Value.ref C) && Value.builtin "BaseException.__getattribute__" == Value.builtin "object.__getattribute__") = false := by
    have : (Value.builtin "BaseException.__getattribute__" == Value.builtin "object.__getattribute__") = false := by decide +kernel
    rw [this]; rfl
  dsimp only
  rw [ne]
  simp only [Bool.false_eq_true, if_false]
  unfold getAttrByItsOwn hookBefore
  rw [if_pos (show onTheHeap (Value.ref C) = true from rfl)]
  refine wpAny_bind (L2.at ?_)
  refine wpAny_bind (wpAny_attempt (wpAny_holding ?_))
  unfold callGetattribute
  simp only [Bool.false_and, Bool.false_eq_true, if_false]
  unfold boundAndCalled
  rw [PySem.F.attrBase_ValueError.ga.bind (.ref ea)]
  refine wpAny_bind (wpAny_pure ?_)
  have hk : builtinKind "BaseException.__getattribute__" = some .slot := by decide +kernel
  have hsplit : splitId "BaseException.__getattribute__" = some ("BaseException", "__getattribute__") := by decide +kernel
  have ha := PySem.F.args_bexc_ga (.ref ea) (.str "__class__" t)
  refine wpAny_call (codeAny_call_builtin PySem.F.attrBase_ValueError.ga.plain PySem.F.entry_bexc_ga ?_)
  refine exc_check LB ?_
  unfold Builtin.«object.__getattribute__»
  refine wpAny_bind (wpAny_pure ?_)
  dsimp only
  refine wpAny_bind ?_
  refine (show wpAny _ _ (pure _) _ _ _ from wpAny_pure ?_)
  refine wpAny_bind (L0.at ?_)
  refine wpAny_bind (LF.at ?_)
  dsimp only
  show wpAny _ _ (holding [Value.builtin "object.__class__"] (call (.builtin "getset_descriptor.__get__") [.builtin "object.__class__", .ref ea, .ref C]) >>= ret) _ _ _
  refine wpAny_bind (wpAny_holding (wpAny_call (exc_get (s := ⟨hh, g, d, t + 1, os⟩) X L0 c.ob ?_)))
  refine wpAny_pure ?_
  exact handed_on rfl (wpAny_pure h)
/-- an exception of the class at C -/
def ExAt (ea C : Addr) (h : Heap) : Prop := ∃ ob vs, h.get? ea = some ob ∧ ob.cls = .ref C ∧ ob.data = .fields vs
theorem ExAt.ty {M : Model} {h : Heap} (p : ExAt ea C h) : Looks M h (typeOf (.ref ea)) (.ref C) := by
  obtain ⟨ob, vs, e, c, _⟩ := p
  exact c ▸ (Looks.ld e).andThen .now
theorem kitx_exc (c : XCls K C) : KitX K (.ref ea) (.ref C) (ExAt ea C) where
  ty := fun M h _ p => p.ty
  it := fun M h X _ => by
    obtain ⟨cd, e⟩ := Option.isSome_iff_exists.mp c.ci
    unfold clsIn at e
    split at e
    · rename_i ho
      intro A' Q' E' s' k q
      unfold isType loadHead; exact wpAny_bind (wpAny_loadPart (k _ _ (X _ _ ho)) (wpAny_pure q))
    · cases e
  ne := fun h tp dd its n sl X htp => by
    obtain ⟨cd, e⟩ := Option.isSome_iff_exists.mp c.ci
    refine Bool.eq_false_iff.mpr fun q => ?_
    cases (show C = tp from Value.ref.inj (beq_iff_eq.mp q))
    unfold clsIn at e
    split at e
    · rename_i ho; cases (X _ _ ho).symm.trans htp
    · cases e
  ca := fun X p k => exc_class c X (fun M => p.ty) k
end
end L2

set_option Elab.async false
set_option linter.all false
set_option maxRecDepth 100000
/-! try .. except C as e -/
namespace L2
open PySem PySem.Spec PyProof.Rows
/-- within an except suite -/
abbrev Cx.held (X : Cx) (ea : Addr) : Cx := { X with A := X.A.mark (some (.ref ea)), calm := false, xe := fun _ _ => False }
section
variable {X : Cx} {pins : List (Addr × Obj)} {σ : St} {H : Hp} {s : Shared} {E : XK} {ea : Addr}
theorem mark_frames {A : Around} {v : Option Value} : (A.mark v).frames = A.frames := by first | rfl | simp [Around.mark]
theorem Cx.Ok.held (ok : X.Ok) : (X.held ea).Ok :=
  ⟨ok.mod, ok.kind, ok.glob, ok.blt, ok.above, ok.inj, ok.has, ok.cab, (fun z => by cases z), mark_frames.trans ok.frames, ok.stk, ok.exf, ok.bs, ok.bsz, ok.noex, ok.exfs, ok.funs, ok.frf⟩
theorem Inv.held (I : Inv X pins σ H s) : Inv (X.held ea) pins σ H s := ⟨I.ok.held, I.os, I.bare, I.base, I.loc, I.cell, I.free, I.freeC, I.pin, I.hok, I.len⟩
theorem Inv.unheld (ok : X.Ok) (I : Inv (X.held ea) pins σ H s) : Inv X pins σ H s := ⟨ok, I.os, I.bare, I.base, I.loc, I.cell, I.free, I.freeC, I.pin, I.hok, I.len⟩
/-! ### what may raise: the names' values are those of the entry -/
def CXI (X : Cx) (pins : List (Addr × Obj)) (σ : St) (E : XK) (e : Value) (s' : Shared) : Prop := ∃ s H, Inv X pins σ H s ∧ CX1 X.prog X.w X.stack H s E e s'
abbrev TXE := St → Hp → VK → XK → Prop
abbrev TX := Ends → XK → St → Hp → Prop
def PXE (X : Cx) (e : Expr) (t : TXE) : Prop := ∀ (pins : List (Addr × Obj)) (s : Shared) (σ : St) (H : Hp) (Q : VK) (E : XK), Inv X pins σ H s → t σ H Q E → wpAny (model X.prog X.w) X.A (eval e X.env) (EP X pins σ Q) (CXI X pins σ E) s
def PX1 (X : Cx) (st : Stmt) (t : TX) : Prop := ∀ (pins : List (Addr × Obj)) (s : Shared) (σ : St) (H : Hp) (D : Ends) (E : XK), Inv X pins σ H s → t D E σ H → wpAny (model X.prog X.w) X.A (exec st X.env) (SP X pins D) (CXI X pins σ E) s
def PX (X : Cx) (st : List Stmt) (t : TX) : Prop := ∀ (pins : List (Addr × Obj)) (s : Shared) (σ : St) (H : Hp) (D : Ends) (E : XK), Inv X pins σ H s → t D E σ H → wpAny (model X.prog X.w) X.A (execs st X.env) (SP X pins D) (CXI X pins σ E) s
end
section
variable {X : Cx} {x : Str} {j k : Nat} {ps : List Str} {dvs : List V} {sp : Sp} {p pos : Pos} {e : Expr} {es : List Expr} {t : TA} {E : XK}
def tXCall (sp : Sp) (dvs : List V) (t : TA) : TXE := fun σ H Q E => t σ H fun vs H1 => sp (vs ++ dvs) H1 Q E
theorem pxe_call (G : DefX X.prog X.w X.K X.mg X.base x k ps dvs sp) (hr : Room j X.A) (ha : PA X (e :: es) t) (hx : ∀ e s, X.xe e s = False := by intro _ _; rfl) (hkj : k ≤ j := by decide) (hg : Gl X x := by rfl) (hdb : (x == ("__debug__" : Str)) = false := by decide)
    (he : starEach (e :: es) X.env = (false, eval e X.env) :: starEach es X.env := by rfl) (hpl : (backTo pos (starEach es X.env)).any (·.1) = false := by rfl) :
    PXE X (.Call (.Name x p) (e :: es) [] pos) (tXCall sp dvs t) := by
  obtain ⟨f, fd, ds, hm, hk, hd, hb, F⟩ := G.ex
  intro pins s σ H Q E I h
  refine wpAny_Call_Name_kw (ld_glob I hg hm ?_ hdb)
  refine PySem.W.callWith_K (h₀ := X.base) I.ok.mod.kin hk (wpAny_mono (ha pos pins s σ H _ I h) (fun us s1 ⟨vs, H1, I1, r, q⟩ => ⟨I1.kIn, ?_⟩) fun e' s' z => ((hx e' s').mp z).elim) he hpl
  have r2 : Vals (vs ++ dvs) (us ++ ds) := r.append hd
  have hl : (us ++ ds).length = ps.length := by rw [← r2.length]; exact F.len _ _ _ _ q
  refine wpAny_call (codeAny_mono (F.run X.A X.stack s1 H1 ⟨us, []⟩ (us ++ ds) (vs ++ dvs) Q E (hr.mono hkj) I1.env0 (hb s1 us I1.kIn hl) r2 q) fun r' s' hq => ?_)
  cases r' with
  | error e' => exact ⟨s1, H1, I1, hq⟩
  | ok fl =>
    cases fl with
    | ret u => exact I1.after hq
    | next => exact False.elim hq
    | brk => exact False.elim hq
    | cont => exact False.elim hq
def txExpr (t : TXE) : TX := fun D E σ H => t σ H (fun _ H1 => D.nx σ H1) E
theorem px_expr {t : TXE} (he : PXE X e t) (hs : swapsWith e none pos.line X.env = pure false := by rfl) : PX1 X (.Expr e pos) (txExpr t) := by
  intro pins s σ H D E I h
  exact wpAny_Expr_any (thn (he pins s σ H _ E I h) fun v s1 ⟨y, H1, I1, r1, q1⟩ => ⟨σ, H1, I1, q1⟩) I.quiet hs
def txRet (t : TXE) : TX := fun D E σ H => t σ H D.rt E
def txSet (i : Nat) (t : TXE) : TX := fun D E σ H => t σ H (fun v H1 => D.nx (σ.set i (some v)) H1) E
theorem px_one {st : Stmt} {t : TX} (h : PX1 X st t) : PX X [st] t := by
  intro pins s σ H D E I q
  refine wpAny_execs_cons (thn (h pins s σ H D E I q) fun f s' hs => ?_)
  cases f with
  | next => exact wpAny_execs_nil hs
  | brk => exact hs
  | cont => exact hs
  | ret u => exact hs
def txIf (c : TT) (t u : TX) : TX := fun D E σ H => c σ H fun b H1 => if b = true then t D E σ H1 else u D E σ H1
end
/-! ### the landing -/
section
variable {P : Program} {w : World} {fs : List Addr} {H H1 : Hp} {h h1 : Heap} {ea C : Addr} {o : HO}
theorem Un.more (u : Un fs [] H H1 h h1) (n : h.get? ea = none) (z : H ea = none) : Un fs [] H (upd H1 ea o) h h1 where
  keep := u.keep
  slot := u.slot
  free := fun b ob q e hx => by
    rw [upd_ne (fun c => by rw [c, n] at q; cases q)]
    exact u.free b ob q e hx
  there := u.there
  tups := fun b xs q => by rw [upd_ne (ne_of_none q z)]; exact u.tups b xs q
  frzs := fun b ob v q => by rw [upd_ne (ne_of_none q z)]; exact u.frzs b ob v q
  tbls := fun b ps q => by rw [upd_ne (ne_of_none q z)]; exact u.tbls b ps q
theorem HOk.ext (x : HOk P w H h) (z : H ea = Option.none) (p : ExAt ea C h) : HOk P w (upd H ea (.ext (ExAt ea C))) h := by
  intro a u e
  by_cases q : a = ea
  · subst q
    rw [upd_same] at e
    cases e
    obtain ⟨ob, vs, e1, e2, e3⟩ := p
    refine ⟨⟨ob, vs, e1, e2, e3⟩, ⟨ob, e1⟩, ?_⟩
    rintro h1 h2 ⟨ob', vs', f1, f2, f3⟩ k
    exact ⟨ob', vs', k _ f1, f2, f3⟩
  · rw [upd_ne q] at e
    exact (x a u e).stay (fun b v _ f => f) (fun b f => by rw [upd_ne (ne_of_none f z)]; exact f) fun b xs f => by rw [upd_ne (ne_of_none f z)]; exact f
end
section
variable {X : Cx} {pins : List (Addr × Obj)} {σ : St} {H : Hp} {s : Shared} {E : XK}
/-- a name is unbound -/
theorem unbind_ok {M : Model} {A : Around} {EE : Value → Shared → Prop} {i : Nat} {x : Str} {v : V} {pos : Pos} {Q : Unit → Shared → Prop} (I : Inv X pins σ H s) (hN : X.N.Nodup) (hi : X.N[i]? = some x) (hx : X.env.scope.names.lookup x = some .local)
    (h : ∀ s', Inv X pins (σ.set i none) H s' → Q () s') : wpAny M A (do bindName X.env x .none; unbindBehindTheSuite X.env x pos) Q EE s := by
  have hcls : (X.env.scope.kind == .class || (X.env.scope.kind == .module && X.env.locals != X.env.globals)) = false := by rw [I.ok.kind]; rfl
  have hiσ : i < σ.length := by rw [I.len]; exact (List.getElem?_eq_some_iff.mp hi).1
  refine wpAny_bind (wpAny_bindName (store_ok I hN hi (.inl hx) (v := .non) rfl (fun s1 I1 => ?_) (.inr hx)))
  unfold unbindBehindTheSuite
  refine wpAny_onRaise ?_
  obtain ⟨m, hn, hl⟩ := id I1.loc
  have hv : m x = some .none := by
    obtain ⟨u, ru, lk⟩ := hl i x .non hi (List.getElem?_set_self hiσ) (.inl hx)
    cases (show u = Value.none from ru)
    rcases lk with ⟨_, e⟩ | ⟨k, _⟩
    · exact e
    · have k0 : X.env.kindOf x = some .local := hx
      rw [k0] at k
      rcases k with k | k <;> cases k
  refine wpAny_unbindName_local hx hn hv hcls fun h' u hn' hs => h _ ?_
  have cne := I1.cne
  obtain ⟨oL, _, _, hoL, _⟩ := id hn
  refine ⟨I1.ok, I1.os, I1.bare, ⟨fun b o e n hb hz => ?_, fun b o e n hb hz => ?_, I1.base.free, fun b o e hz => ?_, I1.base.tups, I1.base.frzs, I1.base.tbls⟩, ⟨_, hn', fun j y v' e1 e2 e3 => ?_⟩, fun y c e => ?_, I1.free, I1.freeC, fun p hp => ?_, fun b ob e => ?_, ?_⟩
  · exact (hs.2 b (Nat.ne_of_lt (Nat.lt_of_lt_of_le (Heap.lt_size e) I1.ok.above))).trans (I1.base.keep b o e n hb hz)
  · obtain ⟨sl, f⟩ := I1.base.slot b o e n hb hz
    exact ⟨sl, (hs.2 b (Nat.ne_of_lt (Nat.lt_of_lt_of_le (Heap.lt_size e) I1.ok.above))).trans f⟩
  · obtain ⟨o', f⟩ := I1.base.there b o e hz
    exact ⟨o', (hs.2 b (Nat.ne_of_lt (Nat.lt_of_lt_of_le (Heap.lt_size e) I1.ok.above))).trans f⟩
  · by_cases hj : j = i
    · subst hj
      rw [List.getElem?_set_self hiσ] at e2
      cases e2
    · rw [List.getElem?_set_ne (Ne.symm hj)] at e2
      obtain ⟨u', r', q⟩ := hl j y v' e1 (by rw [List.getElem?_set_ne (Ne.symm hj)]; exact e2) e3
      refine ⟨u', r', ?_⟩
      rcases q with ⟨k, e⟩ | ⟨k, c, e, z⟩
      · refine .inl ⟨k, ?_⟩
        have : y ≠ x := fun e => hj (nodup_ix hN e1 (e ▸ hi))
        simp [this, e]
      · exact .inr ⟨k, c, e, z.sameBut hs (cne y c e)⟩
  · obtain ⟨w', z⟩ := I1.cell y c e
    exact ⟨w', z.sameBut hs (cne y c e)⟩
  · obtain ⟨e, n, ne, nf, d⟩ := I1.pin p hp
    exact ⟨(hs.2 p.1 ne).trans e, n, ne, nf, d⟩
  · refine (I1.hok b ob e).stay (fun c w' hc q => (hs.2 c ?_).trans q) (fun _ q => q) fun _ _ q => q
    rintro rfl
    rcases hc with rfl | hc
    · rw [I1.free] at e; cases e
    · rw [I1.free] at hc; cases hc
  · rw [List.length_set]; exact I.len
end
section
variable {X : Cx} {pins : List (Addr × Obj)} {σ : St} {H : Hp} {s s' : Shared} {E : XK} {C F : Addr} {i : Nat} {x n : Str} {np pos hpos : Pos} {body : List Stmt} {b₀ : Stmt} {suite : List Stmt} {tb : TX} {ts : TS}
/-- an exception lands in this frame -/
theorem land {h5 : Heap} {B : Heap} {H' : Hp} (I : Inv X pins σ H s) (os : s'.os = s.os) (bare : AllBare s'.gens) (un : Un (frs X.stack) [] H H' s.heap s'.heap) (hok : HOk X.prog X.w H' B)
    (there : ∀ b o, s.heap.get? b = some o → b ∉ frs X.stack → ∃ o', B.get? b = some o') (f0 : B.StaysIn s'.heap) (f5 : B.StaysIn h5) (sm : s'.heap.UpToSlots h5) : Un (frs X.stack) [] H H' s.heap h5 ∧ HOk X.prog X.w H' h5 := by
  have hokS : HOk X.prog X.w H' s'.heap := hok.kept fun b u q => f0 b u q
  have J : Inv X pins σ H' s' := I.call' (ch := []) os un hokS bare (fun b z => by cases z)
  refine ⟨Un.fly un f5 (fun b o o1 q q1 hb => ?_) fun b o hb q => ?_, hok.kept fun b u q => f5 b u q⟩
  · obtain ⟨o', e'⟩ := there b o q hb
    have := f0 b o' e'
    rw [q1] at this
    cases this
    exact e'
  · obtain ⟨_, o', e', hd⟩ := J.stack.mem hb
    rw [q] at e'
    cases e'
    exact sm b o q hd
/-- try: .. except F as n: .., where all that is raised is of the class at C -/
def tTry (C : Addr) (i : Nat) (tb : TX) (ts : TS) : TS := fun D σ H => tb D (fun c _ H1 => c = .ref C ∧ ∀ ea, H1 ea = none →
  ts { nx := fun σ' H' => D.nx (σ'.set i none) H', rt := D.rt, bk := fun σ' H' => D.bk (σ'.set i none) H', ct := fun σ' H' => D.ct (σ'.set i none) H' } (σ.set i (some (.ref ea))) (upd H1 ea (.ext (ExAt ea C)))) σ H
theorem ps_try (hN : X.N.Nodup) (hi : X.N[i]? = some n) (hx : X.env.scope.names.lookup n = some .local) (hm : X.mg x = some (.ref F)) (hq : PySem.W.exmOne X.K (.ref C) (.ref F) = some true) (hb : PX X body tb) (hs : ∀ ea, PSs (X.held ea) (b₀ :: suite) ts)
    (hst : X.stack = X.env :: X.outer := by rfl) (hfr : X.env.frame = some X.env.locals := by rfl) (hg : Gl X x := by rfl) (hdb : (x == ("__debug__" : Str)) = false := by decide) :
    PS X (.Try body [.ExceptHandler (some (.Name x np)) (some n) (b₀ :: suite) hpos] [] [] pos) (tTry C i tb ts) := by
  intro pins s σ H D I h
  refine wpAny_Try_except (wpAny_mono (hb pins s σ H D _ I h) (fun f s1 q => ?_) fun e s1 q => ?_)
  · cases f with
    | next => exact wpAny_execs_nil q
    | brk => exact q
    | cont => exact q
    | ret u => exact q
  obtain ⟨s0, H0, I0, ea, t, C', B, H', rfl, os, bare, un, hok, fl, there, hn, hc, k⟩ := q
  obtain rfl : C' = C := Value.ref.inj hc
  have flt := fl
  rw [hst] at flt
  have ean : s0.heap.get? ea = none := by
    cases q : s0.heap.get? ea with
    | none => rfl
    | some o =>
      by_cases hb : ea ∈ frs X.stack
      · exfalso
        obtain ⟨_, _, _, oe, vs, _, _, _, he, _, hd, _⟩ := id fl
        have hokS : HOk X.prog X.w H' s1.heap := hok.kept fun b u q => fl.1 b u q
        have J : Inv X pins σ H' s1 := I0.call' (ch := []) os un hokS bare (fun b z => by cases z)
        obtain ⟨_, o', e', hnd⟩ := J.stack.mem hb
        rw [he] at e'
        cases e'
        exact hnd _ hd
      · obtain ⟨o', e'⟩ := there ea o q hb
        rw [fl.2.1] at e'
        cases e'
  have h0n : H0 ea = none := I0.hok.none ean
  refine wpAny_looks_onW (I0.ok.frames.trans (by rw [hst])) hfr flt fun h4 held4 sm4 => ?_
  refine wpAny_landsW held4 fun h5 fl5 sm5 => ?_
  have sm := sm4.trans sm5
  obtain ⟨un5, hok5⟩ := land I0 os bare un hok there fl.1 fl5.1 sm
  have I5 : Inv X pins σ H' { s1 with heap := h5 } := I0.call' (ch := []) os un5 hok5 bare (fun b z => by cases z)
  refine wpAny_handleBy_cons (codeAny_handlers_test ?_) (by intro q; cases q)
  refine ld_glob (X := X.held ea) I5.held hg hm ?_ hdb
  have ty5 : PySem.W.Looks (model X.prog X.w) h5 (typeOf (.ref ea)) (.ref C') := by
    obtain ⟨ob, e1, e2⟩ := fl5.there
    exact e2 ▸ (PySem.W.Looks.ld e1).andThen .now
  refine (PySem.W.exm_one (M := model X.prog X.w) I5.kIn ty5 hq).here ?_
  refine codeAny_handlers_suite_as (lands_againW fl5 fun h6 fl6 sm6 => ?_)
  obtain ⟨un6, hok6⟩ := land I0 os bare un hok there fl.1 fl6.1 (sm.trans sm6)
  have ex6 : ExAt ea C' h6 := by
    obtain ⟨_, _, _, oe, vs, _, _, _, he, hcl, hd, _⟩ := fl6
    exact ⟨oe, vs, he, hcl.1, hd⟩
  have I6 : Inv X pins σ (upd H' ea (.ext (ExAt ea C'))) { s1 with heap := h6 } := I0.call' (ch := []) os (un6.more ean h0n) (hok6.ext hn ex6) bare (fun b z => by cases z)
  refine store_ok (X := X.held ea) I6.held hN hi (.inl hx) (v := .ref ea) rfl (fun s7 I7 => ?_) (.inr hx)
  refine wpAny_mono (hs ea pins s7 _ _ _ I7 (k ea hn)) (fun f s8 q8 => ?_) fun _ _ z => z.elim
  have fin : ∀ {σ8 : St} {H8 : Hp} {Q : Unit → Shared → Prop}, Inv (X.held ea) pins σ8 H8 s8 → (∀ s9, Inv X pins (σ8.set i none) H8 s9 → Q () s9) → wpAny (model X.prog X.w) X.A (do bindName X.env n .none; unbindBehindTheSuite X.env n hpos) Q X.xe s8 :=
    fun {σ8 H8 Q} J g => unbind_ok (v := .non) (J.unheld I.ok) hN hi hx g
  cases f with
  | next => obtain ⟨σ8, H8, J, q⟩ := q8; exact fin J fun s9 J9 => ⟨_, H8, J9, q⟩
  | brk => obtain ⟨σ8, H8, J, q⟩ := q8; exact fin J fun s9 J9 => ⟨_, H8, J9, q⟩
  | cont => obtain ⟨σ8, H8, J, q⟩ := q8; exact fin J fun s9 J9 => ⟨_, H8, J9, q⟩
  | ret u => obtain ⟨v, σ8, H8, J, r, q⟩ := q8; exact fin J fun s9 J9 => ⟨v, _, H8, J9, r, q⟩
end
end L2

set_option Elab.async false
set_option linter.all false
set_option maxRecDepth 100000
namespace L2
open PySem PySem.Spec PyProof.Rows
structure RoomH (k : Nat) (A : Around) : Prop where
  dp : A.depth + 3 * k + 5 < recursionLimit
  un : A.units + 16 * k + 200 < cLine
theorem RoomH.mono {j k : Nat} {A : Around} (r : RoomH k A) (h : j ≤ k) : RoomH j A := ⟨by have := r.dp; omega, by have := r.un; omega⟩
theorem RoomH.deeper {k : Nat} {A : Around} (r : RoomH (k + 1) A) (env : Env) : RoomH k (A.deeper env) :=
  ⟨by have := r.dp; show A.depth + 1 + 3 * k + 5 < _; omega, by have := r.un; show A.units + 3 + 16 * k + 200 < _; omega⟩
theorem RoomH.depth {k : Nat} {A : Around} (r : RoomH k A) : A.depth < recursionLimit := by have := r.dp; omega
theorem RoomH.units {k : Nat} {A : Around} (r : RoomH k A) : A.units + 64 < cLine := by have := r.un; omega
theorem RoomH.units0 {k : Nat} {A : Around} (r : RoomH k A) : A.units < cLine := by have := r.un; omega
theorem Room.held {k : Nat} {A : Around} {v : Option Value} (r : Room k A) : RoomH k (A.mark v) :=
  ⟨by have := r.dp; first | exact this | (simp only [Around.mark]; exact this), by have := r.un; first | exact this | (simp only [Around.mark]; exact this)⟩
structure FnOkH (P : Program) (w : World) (K : PySem.W.Frag) (mg : Str → Option Value) (base : Heap) (CX : CXT) (k : Nat) (f : Addr) (fd : FuncData) (ps : List Str) (sp : Sp) : Prop where
  len : ∀ vs H Q E, sp vs H Q E → vs.length = ps.length
  run : ∀ (A : Around) (outer : List Env) (s : Shared) (H : Hp) (args : Args) (us : List Value) (vs : List V) (Q : VK) (E : XK), RoomH k A → Env0 P w K mg base A outer s H → BindsTo s fd args (ps.zip us) → Vals vs us → sp vs H Q E →
    codeAny (model P w) A (.call (.ref f) args) (CR CX outer P w H s Q E) s
abbrev cxOfH (CX : CXT) (P : Program) (w : World) (K : PySem.W.Frag) (mg : Str → Option Value) (base : Heap) (N : List Str) (qual : Str) (scope : Scope) (f : Addr) (cd : Value) (A : Around) (outer : List Env) (s : Shared) (H : Hp) (E : XK) : Cx :=
  { cxOf CX P w K mg base N qual scope f cd A outer s H E with calm := false }
theorem inv_startH {CX : CXT} {P : Program} {w : World} {K : PySem.W.Frag} {mg : Str → Option Value} {base : Heap} {N ps : List Str} {qual : Str} {scope : Scope} {f : Addr} {cd : Value} {A : Around} {outer : List Env} {s s1 : Shared} {H : Hp} {E : XK} {us : List Value} {vs : List V}
    (S : FnScope N ps scope) (e0 : Env0 P w K mg base A outer s H) (hl : vs.length = ps.length) (r : Vals vs us)
    (x : InCallC s s.heap.objs.size (bindL (envOfC qual scope s.heap.objs.size f cd).kindOf (ps.zip us) fun _ => none) (cellsFrom (s.heap.objs.size + 1) scope.names []) (bindC (envOfC qual scope s.heap.objs.size f cd).kindOf (ps.zip us) fun _ => none) s1) :
    Inv (cxOfH CX P w K mg base N qual scope f cd A outer s H E) [] (start N vs) H s1 := by
  have e1 : Env0 P w K mg base { A with handled := none } outer s H := ⟨e0.frames, e0.mod, e0.bs, e0.bsz, e0.funs, e0.frf, e0.hok, e0.bare⟩
  have I := inv_start (CX := CX) (E := E) (qual := qual) (f := f) (cd := cd) S rfl e1 hl r x
  have ok := I.ok
  exact ⟨⟨ok.mod, ok.kind, ok.glob, ok.blt, ok.above, ok.inj, ok.has, ok.cab, (fun z => by cases z), Around.frames_deeper e0.frames, ok.stk, ok.exf, ok.bs, ok.bsz, ok.noex, ok.exfs, ok.funs, ok.frf⟩, I.os, I.bare, I.base, I.loc, I.cell, I.free, I.freeC, I.pin, I.hok, I.len⟩
theorem fn_ofH {CX : CXT} {P : Program} {w : World} {K : PySem.W.Frag} {mg : Str → Option Value} {base : Heap} {k : Nat} {f : Addr} {name qual : Str} {params : Arguments} {body : List Stmt} {scope : Scope} {dV kV doc pm cdv ct oc : Value} {an od : Option Addr}
    {osl : Array (Option Value)} {N ps : List Str} {sp : Sp} (lk : K.lookup f = some ⟨oc, od, .func (PySem.W.fnOf name qual params body scope dV kV doc pm an cdv ct), osl⟩) (hcd : PySem.W.codeIn K cdv qual = true) (S : FnScope N ps scope)
    (len : ∀ vs H Q E, sp vs H Q E → vs.length = ps.length)
    (hbody : ∀ (A : Around) (outer : List Env) (s : Shared) (H : Hp) (vs : List V) (Q : VK) (E : XK), RoomH k (A.deeper (envOfC qual scope s.heap.objs.size f cdv)) → sp vs H Q E →
      ∃ t, PSs (cxOfH CX P w K mg base N qual scope f cdv A outer s H E) body t ∧ t { nx := fun _ H' => Q .non H', rt := Q } (start N vs) H) :
    FnOkH P w K mg base CX (k + 1) f (PySem.W.fnOf name qual params body scope dV kV doc pm an cdv ct) ps sp := by
  refine ⟨len, fun A outer s H args us vs Q E hr e0 hb r hsp => ?_⟩
  have hl := len _ _ _ _ hsp
  have KX : K.In s.heap := e0.mod.kin.keeps fun b o e => (e0.bs b o e).1
  have lim : s.heap.NoLimit := e0.mod.nolimit.keeps fun b o e => (e0.bs b o e).1
  have hkind : ∀ y ∈ ps.zip us, scope.names.lookup y.1 = some .local ∨ (scope.names.lookup y.1 = some .cell ∧ ((cellsFrom (s.heap.objs.size + 1) scope.names []).lookup y.1).isSome = true) := fun ⟨n, v⟩ hy => by
    rcases S.par n (List.of_mem_zip hy).1 with q | q
    · exact .inl q
    · exact .inr ⟨q, PySem.W.cellsFrom_some _ _ _ (.inl q)⟩
  refine codeAny_call_function hr.depth (KX _ _ lk) rfl S.co S.gen rfl (PySem.W.codeRec_of KX hcd) (hb _ _ _ _ ?_)
  refine wpAny_newFunctionEnv_cells S.kind hkind fun env he s1 x => ?_
  subst he
  refine ⟨lim.keeps x.toInCall.keep, codeAny_func ?_⟩
  obtain ⟨t, ht, hq⟩ := hbody A outer s H vs Q E (hr.deeper _) hsp
  have I : Inv (cxOfH CX P w K mg base N qual scope f cdv A outer s H E) [] (start N vs) H s1 := inv_startH S e0 hl r x
  refine wpAny_mono (ht [] s1 (start N vs) H _ I hq) (fun fl s' hs => ?_) fun e s' hs => hs
  have fin : ∀ {σ' : St} {H' : Hp} {v : V} {u : Value}, Inv (cxOfH CX P w K mg base N qual scope f cdv A outer s H E) [] σ' H' s' → RelV v u → Q v H' → CE outer P w H s Q u s' :=
    fun {σ' H' v u} J rv q => ⟨v, H', J.os, J.bare, J.base, J.hok, rv, q⟩
  cases fl with
  | ret u =>
    obtain ⟨v, σ', H', J, rv, q⟩ := hs
    exact fin J rv q
  | next =>
    obtain ⟨σ', H', J, q⟩ := hs
    exact fin (v := V.non) (u := Value.none) J rfl q
  | brk =>
    obtain ⟨_, _, _, q⟩ := hs
    exact False.elim q
  | cont =>
    obtain ⟨_, _, _, q⟩ := hs
    exact False.elim q

/-- .. as its callers see it -/
structure DefH (P : Program) (w : World) (K : PySem.W.Frag) (mg : Str → Option Value) (base : Heap) (x : Str) (k : Nat) (ps : List Str) (dvs : List V) (sp : Sp) : Prop where
  ex : ∃ (f : Addr) (fd : FuncData) (ds : List Value), mg x = some (.ref f) ∧ PySem.W.keepIn K (.ref f) = true ∧ Vals dvs ds ∧ Binds K fd ps ds ∧ FnOkH P w K mg base CX0 k f fd ps sp
section
variable {P : Program} {w : World} {K : PySem.W.Frag} {mg : Str → Option Value} {base : Heap}
theorem FunD.okH {x qual : Str} {st : Stmt} {dV : Value} {f : Addr} {fd : FuncData} {N ps : List Str} {k : Nat} {sp : Sp} (F : FunD K x qual st dV f fd) (S : FnScope N ps (defScope st)) (len : ∀ vs H Q E, sp vs H Q E → vs.length = ps.length)
    (hbody : ∀ (cdv : Value) (A : Around) (outer : List Env) (s : Shared) (H : Hp) (vs : List V) (Q : VK) (E : XK), RoomH k (A.deeper (envOfC qual (defScope st) s.heap.objs.size f cdv)) → sp vs H Q E →
      ∃ t, PSs (cxOfH CX0 P w K mg base N qual (defScope st) f cdv A outer s H E).nox (defBody st) t ∧ t { nx := fun _ H' => Q .non H', rt := Q } (start N vs) H) : FnOkH P w K mg base CX0 (k + 1) f fd ps sp := by
  obtain ⟨oc, od, kV, doc, pm, an, cdv, ct, osl, rfl, lk, hcd⟩ := F.ex
  refine fn_ofH lk hcd S len fun A outer s H vs Q E hr hsp => ?_
  obtain ⟨t, h, q⟩ := hbody cdv A outer s H vs Q E hr hsp
  exact ⟨t, h.nox, q⟩
end
section
variable {X : Cx} {x : Str} {j k : Nat} {ps : List Str} {dvs : List V} {sp : Sp} {p pos : Pos} {e : Expr} {es : List Expr} {t : TA}
theorem pe_ch (G : DefH X.prog X.w X.K X.mg X.base x k ps dvs sp) (hr : RoomH j X.A) (ha : PA X (e :: es) t) (hkj : k ≤ j := by decide) (hg : Gl X x := by rfl) (hdb : (x == ("__debug__" : Str)) = false := by decide)
    (he : starEach (e :: es) X.env = (false, eval e X.env) :: starEach es X.env := by rfl) (hpl : (backTo pos (starEach es X.env)).any (·.1) = false := by rfl) :
    PE X (.Call (.Name x p) (e :: es) [] pos) (tCall sp dvs E0 t) := by
  obtain ⟨f, fd, ds, hm, hk, hd, hb, F⟩ := G.ex
  intro pins s σ H Q I h
  refine wpAny_Call_Name_kw (ld_glob I hg hm ?_ hdb)
  refine PySem.W.callWith_K (h₀ := X.base) I.ok.mod.kin hk (thn (ha pos pins s σ H _ I h) fun us s1 ⟨vs, H1, I1, r, q⟩ => ⟨I1.kIn, ?_⟩) he hpl
  have r2 : Vals (vs ++ dvs) (us ++ ds) := r.append hd
  have hl : (us ++ ds).length = ps.length := by rw [← r2.length]; exact F.len _ _ _ _ q
  refine wpAny_call (codeAny_mono (F.run X.A X.stack s1 H1 ⟨us, []⟩ (us ++ ds) (vs ++ dvs) Q E0 (hr.mono hkj) I1.env0 (hb s1 us I1.kIn hl) r2 q) fun r' s' hq => ?_)
  cases r' with
  | error e' => exact False.elim hq
  | ok fl =>
    cases fl with
    | ret u => exact I1.after hq
    | next => exact False.elim hq
    | brk => exact False.elim hq
    | cont => exact False.elim hq
end
/-! ### isinstance of an exception that is held -/
section
variable {X : Cx}
def CX_isi (K : PySem.W.Frag) : List V → Hp → VK → Prop := fun xs H Q => ∃ (a C : Addr) (c : V) (cv : Value) (b : Bool), xs = [.ref a, c] ∧ H a = some (.ext (ExAt a C)) ∧ XCls K C ∧ RelV c cv ∧ PySem.W.kitOne K (.ref C) cv = some b ∧ Q (.bl b) H
end
end L2

set_option Elab.async false
set_option linter.all false
set_option maxRecDepth 100000
namespace L2
open PySem PySem.Spec PyProof.Rows
section
variable {X : Cx}
def clsV : V → Option Value
  | .ref a => some (.ref a)
  | .ty n => some (.type n)
  | _ => none
theorem clsV_rel {c : V} {cv u : Value} (e : clsV c = some cv) (r : RelV c u) : u = cv := by
  cases c <;> first | cases e
  · exact r
  · exact r
def rIsX (K : PySem.W.Frag) : List V → Hp → VK → Prop := fun xs H Q => ∃ (a C : Addr) (c : V) (cv : Value) (b : Bool), xs = [.ref a, c] ∧ H a = some (.ext (ExAt a C)) ∧ XCls K C ∧ clsV c = some cv ∧ PySem.W.kitOne K (.ref C) cv = some b ∧ Q (.bl b) H
theorem call_isX : CallR X (.builtin "isinstance") (rIsX X.K) := by
  intro pins s σ H xs us Q I r h
  obtain ⟨a, C, c, cv, b, rfl, ha, cl, hc, e, q⟩ := h
  obtain ⟨u, v, rfl, ru, rv⟩ := r.two
  cases (show u = Value.ref a from ru)
  cases clsV_rel hc rv
  obtain ⟨p, _⟩ := (show ObjOk X.prog X.w H s.heap a (.ext (ExAt a C)) from I.hok a _ ha)
  exact PySem.W.kia_one (kitx_exc cl) I.kIn p e (fun z => nomatch z) fun tk => ⟨.bl b, H, I.tok tk, rfl, q⟩
end
end L2

set_option Elab.async false
set_option linter.all false
set_option maxRecDepth 100000
/-! list(reversed(l)) -/
namespace L2
open PySem PySem.Spec PyProof.Rows
section
variable {prog : Program} {w : World} {A : Around} {E : Value → Shared → Prop} {s : Shared} {it l S : Addr} {items : Array Value}
abbrev RevP (items : Array Value) : Nat → Value → Prop := fun i v => items[items.size - 1 - i]? = some v
end
section
variable {X : Cx} {a : Expr} {ta : TA} {p p2 pos pos2 : Pos}
def tListRev (K : PySem.W.Frag) (ta : TA) : TE := fun σ H Q => ta σ H fun vs H1 => ∃ l xs, vs = [.ref l] ∧ SqL K H1 l xs ∧ ∀ n, H1 n = none → Q (.ref n) (upd H1 n (.lst xs.reverse))
end
end L2

set_option Elab.async false
set_option linter.all false
set_option maxRecDepth 100000
/-! list(d) of a dict of ints and texts -/
namespace L2
open PySem PySem.Spec PyProof.Rows
section
variable {X : Cx}
def rListD : List V → Hp → VK → Prop := fun xs H Q => ∃ p kvs, xs = [.ref p] ∧ H p = some (.dK kvs) ∧ ∀ l, H l = none → Q (.ref l) (upd H l (.lst (kvs.map fun q => kV q.1)))
end
end L2

set_option Elab.async false
set_option linter.all false
set_option maxRecDepth 100000
namespace L2
open PySem PySem.Spec PyProof.Rows

/-! ### the comprehension's loop, with a test -/
/-- what a comprehension's reading asks behind the source: W the invariant by turn and measure -/
def CompWI (J : It) (ix : List (Option Nat)) (g : TG) (tc : TT) (te : TE) (σ : St) (H : Hp) (Qd : Addr → Hp → Prop) : Prop :=
  ∀ D, H D = none → ∃ W : Nat → Nat → St → Hp → Prop, (∃ m, W 0 m (blockSt ix σ) (upd H D (.lst []))) ∧ ∀ i m σ' H', W i m σ' H' →
    (J.stop i H' ∧ Qd D H') ∨ (J.go i H' ∧ ∀ x H2, J.yld i H' x H2 → g x σ' H2 fun σ3 H3 => tc σ3 H3 fun b H4 => if b = true then te σ3 H4 fun y H5 => ∃ ys, H5 D = some (.lst ys) ∧ ys.length < sizeLine ∧ ∃ m', m' < m ∧ W (i + 1) m' σ3 (upd H5 D (.lst (ys ++ [y]))) else ∃ m', m' < m ∧ W (i + 1) m' σ3 H4)

section
variable {X : Cx} {pins : List (Addr × Obj)} {σ : St} {H : Hp} {s : Shared} {N : List Str} {ix : List (Option Nat)} {scope : Scope} {fp : List Addr} {tg elt iter cond : Expr} {tc : TT} {pos spos : Pos} {J : It} {it : Addr} {tn : Nat → Heap → Prop} {g : TG} {te : TE} {wi : TI}

/-- [elt for x in iter] -/
def tCompI (ix : List (Option Nat)) (wi : TI) (g : TG) (tc : TT) (te : TE) : TE := fun σ H Q => wi σ H fun J H1 => CompWI J ix g tc te σ H1 fun D H' => Q (.ref D) H'
end
end L2

set_option Elab.async false
set_option linter.all false
set_option maxRecDepth 100000
/-! an exception out of a comprehension's block -/
namespace L2
open PySem PySem.Spec PyProof.Rows

theorem leaves_flW {M : Model} {A : Around} {E : Value → Shared → Prop} {s : Shared} {base : Heap} {env : Env} {outer : List Env} {L e : Addr} {cls a0 fl : Value} {Q : Unit → Shared → Prop}
    (hfr : A.frames = some (env :: outer)) (hf : env.frame = some L) (f1 : base.StaysIn s.heap) (f2 : base.get? e = none) (f3 : s.heap.FunFrames base (env :: outer)) (ht : s.heap.TracedAtW base e cls a0 fl)
    (hQ : ∀ h', Heap.FlyingW base outer e cls a0 h' → s.heap.UpToSlots h' → Q () { s with heap := h' }) : wpAny M A (leaving env (.ref e)) Q E s := by
  by_cases c : (fl == rawInt L) = true
  · have c' : fl = rawInt L := by simpa using c
    subst c'
    unfold leaving
    refine wpAny_bind (wpAny_noteFrame_againW hf ht ?_)
    refine wpAny_landsW (L := L) ⟨f1, f2, f3, ht⟩ fun h' hfl up => ?_
    obtain ⟨k1, k2, ⟨_, _, k3⟩, k4⟩ := hfl
    exact hQ h' ⟨k1, k2, k3, k4⟩ up
  · obtain ⟨oe, vs, T, oT, ts, he, ⟨hcls, h0⟩, hd, h1, hnT, hTe, hT, hdT, h3⟩ := ht
    subst hcls
    unfold leaving noteFrame
    simp only [hf]
    refine wpAny_bind (wpAny_bind (wpAny_field he hd h1 ?_))
    rw [if_pos (show (Value.ref T != Value.none) = true from by simp)]
    refine wpAny_bind (wpAny_field hT hdT h3 ?_)
    rw [if_neg c]
    refine wpAny_bind (wpAny_setField hT hdT (Array.getElem?_eq_some_iff.mp h3).1 ?_)
    have other : ∀ b, b ≠ T → (s.heap.update T (Obj.mapFields (·.setIfInBounds 3 Value.none))).get? b = s.heap.get? b := fun b hb => Heap.get?_update_other _ _ (Ne.symm hb)
    have plain : ∀ b o, s.heap.get? b = some o → (∀ vs, o.data ≠ .fields vs) → b ≠ T := fun b o hb hnf q => by
      rw [q, hT] at hb
      cases hb
      exact hnf ts hdT
    refine wpAny_newEntryW hfr (f3.of_keeps fun b o hb hnf => ⟨o, (other b (plain b o hb hnf)).trans hb, rfl⟩) hf ((other e (Ne.symm hTe)).trans he)
      (fun b o hbo => (other b fun q => by rw [q, hnT] at hbo; cases hbo).trans (f1 b o hbo)) f2 hd (Array.getElem?_eq_some_iff.mp h1).1 h0 fun h' ⟨x1, ⟨_, _, x2⟩, x3, x4⟩ => ?_
    exact hQ h' ⟨x1, f2, x2, x3⟩ fun b o hb hnf => x4 b o ((other b (plain b o hb hnf)).trans hb) hnf
/-- on its way with any mark of flight -/
structure Aloft (base : Heap) (l : List Env) (e : Addr) (cls a0 : Value) (fl : Value) (h : Heap) : Prop where
  stays : base.StaysIn h
  new : base.get? e = none
  fun_ : h.FunFrames base l
  tr : h.TracedAtW base e cls a0 fl
theorem traced_but {base h h' : Heap} {e C : Addr} {cls a0 fl : Value} {m : Str → Option Value} (x : h.TracedAtW base e cls a0 fl) (hn : h.Ns C m) (sb : ∀ b, b ≠ C → h'.get? b = h.get? b) : h'.TracedAtW base e cls a0 fl := by
  obtain ⟨oe, vs, T, oT, ts, he, hc, hd, h1, hnT, hTe, hT, hdT, h3⟩ := x
  obtain ⟨o, es, ep, ho, hod, _⟩ := hn
  have ne : ∀ {b ob ws}, h.get? b = some ob → ob.data = .fields ws → b ≠ C := fun {b ob ws} q d z => by
    rw [z, ho] at q
    cases q
    rw [hod] at d
    cases d
  exact ⟨oe, vs, T, oT, ts, (sb e (ne he hd)).trans he, hc, hd, h1, hnT, hTe, (sb T (ne hT hdT)).trans hT, hdT, h3⟩
/-- the mark of flight is put anew -/
theorem setFlight_any {M : Model} {A : Around} {E : Value → Shared → Prop} {s : Shared} {base : Heap} {e : Addr} {cls a0 fl : Value} {fr : Option Addr} {Q : Unit → Shared → Prop} (hkb : base.StaysIn s.heap) (ht : s.heap.TracedAtW base e cls a0 fl)
    (h : ∀ h' fl', base.StaysIn h' → h'.TracedAtW base e cls a0 fl' → (∀ b o, s.heap.get? b = some o → (∀ vs, o.data ≠ .fields vs) → h'.get? b = some o) → Q () { s with heap := h' }) : wpAny M A (setFlight (.ref e) fr) Q E s := by
  obtain ⟨oe, vs, T, oT, ts, he, hcls, hd, h1, hnT, hTe, hT, hdT, h3⟩ := ht
  have hsz3 : 3 < ts.size := (Array.getElem?_eq_some_iff.mp h3).1
  have other : ∀ b, b ≠ T → (s.heap.update T (Obj.mapFields (·.setIfInBounds 3 (fr.elim Value.none fun f => rawInt f)))).get? b = s.heap.get? b := fun b hb => Heap.get?_update_other _ _ (Ne.symm hb)
  have plain : ∀ b o, s.heap.get? b = some o → (∀ vs, o.data ≠ .fields vs) → b ≠ T := fun b o hb hnf q => by
    rw [q, hT] at hb
    cases hb
    exact hnf ts hdT
  unfold setFlight
  refine wpAny_bind (wpAny_field he hd h1 ?_)
  rw [if_pos (show (Value.ref T != Value.none) = true from by simp)]
  refine wpAny_setField hT hdT hsz3 (h _ (fr.elim Value.none fun f => rawInt f) (fun b o hbo => (other b fun q => by rw [q, hnT] at hbo; cases hbo).trans (hkb b o hbo)) ?_ fun b o hb hnf => (other b (plain b o hb hnf)).trans hb)
  exact ⟨oe, vs, T, _, _, (other e (Ne.symm hTe)).trans he, hcls, hd, h1, hnT, hTe, Heap.get?_update_self _ hT (Obj.isFreed_of_fields (Obj.data_mapFields hdT _)), Obj.data_mapFields hdT _, by simp [hsz3]⟩
/-- passed on: thrown again, the mark put anew -/
theorem passOn_any {α : Type} {M : Model} {A : Around} {E : Value → Shared → Prop} {s : Shared} {base : Heap} {e : Addr} {cls a0 fl : Value} {env : Env} {what : String} {Q : α → Shared → Prop} (hkb : base.StaysIn s.heap) (ht : s.heap.TracedAtW base e cls a0 fl)
    (h : ∀ h' fl', base.StaysIn h' → h'.TracedAtW base e cls a0 fl' → (∀ b o, s.heap.get? b = some o → (∀ vs, o.data ≠ .fields vs) → h'.get? b = some o) → E (.ref e) { s with heap := h' }) : wpAny M A (PySem.passOn what (.ref e) env : Sem α) Q E s := by
  obtain ⟨oe, vs, T, oT, ts, he, hcls, hd, h1, r⟩ := id ht
  unfold PySem.passOn
  refine wpAny_bind (wpAny_field he hd h1 ?_)
  rw [if_neg (show ¬ ((Value.ref T == Value.none) = true) from by simp)]
  exact wpAny_bind (setFlight_any hkb ht fun h' fl' k1 k2 k3 => wpAny_throw (h h' fl' k1 k2 k3))
/-- what stands behind a comprehension that raised -/
def CXF (X : Cx) (ch : List Addr) (H : Hp) (s : Shared) (E : XK) (e : Value) (s' : Shared) : Prop := ∃ (ea t C : Addr) (B : Heap) (H' : Hp) (fl : Value), e = .ref ea ∧ s'.os = s.os ∧ AllBare s'.gens ∧ Un (frs X.stack) ch H H' s.heap s'.heap ∧ HOk X.prog X.w H' B ∧
  Aloft B X.stack ea (.ref C) (.ref t) fl s'.heap ∧ (∀ b o, s.heap.get? b = some o → b ∉ frs X.stack → b ∉ ch → ∃ o', B.get? b = some o') ∧ H' ea = none ∧ E (.ref C) none H'
def PassF (X : Cx) (E : XK) : Prop := ∀ (pins : List (Addr × Obj)) (σ : St) (H : Hp) (s : Shared) (ch : List Addr) (e : Value) (s' : Shared), Inv X pins σ H s →
  (∀ b ∈ ch, (b ∈ X.ex ∨ X.s₀.heap.objs.size ≤ b) ∧ b ≠ X.env.locals ∧ (∀ x c, X.env.cells.lookup x = some c → c ≠ b) ∧ ∀ p ∈ X.pn ++ pins, p.1 ≠ b) → CXF X ch H s E e s' → X.xe e s'
section
variable {P : Program} {w : World} {K : PySem.W.Frag} {mg : Str → Option Value} {base : Heap} {N : List Str} {qual : Str} {scope : Scope} {f : Addr} {cd : Value} {A : Around} {outer : List Env} {s : Shared} {H : Hp} {E : XK}
theorem passF_def : PassF (cxOf (CX1 P w) P w K mg base N qual scope f cd A outer s H E) E := by
  intro pins σ H1 s1 ch e s' I hch hc
  obtain ⟨ea, t, C, B, H', fl, rfl, os, bare, un, hok, al, there, hn, hE⟩ := hc
  have hokS : HOk P w H' s'.heap := hok.kept fun b u q => al.stays b u q
  have J : Inv (cxOf (CX1 P w) P w K mg base N qual scope f cd A outer s H E) pins σ H' s' := I.call' (ch := ch) os un hokS bare hch
  have fst := J.stack
  have mem : ∀ {b}, b ∈ frs (envOfC qual scope s.heap.objs.size f cd :: outer) → ∃ o, s'.heap.get? b = some o ∧ ∀ vs, o.data ≠ .fields vs := fun {b} hb => (fst.mem hb).2
  show wpAny (model P w) (A.deeper (envOfC qual scope s.heap.objs.size f cd)) (leaving (envOfC qual scope s.heap.objs.size f cd) (.ref ea)) _ _ _
  have thereB : ∀ b o, s.heap.get? b = some o → b ∉ frs outer → ∃ o', B.get? b = some o' := fun b o q hb => by
    obtain ⟨o1, e1⟩ := I.base.there b o q (by intro z; cases z)
    refine there b o1 e1 (fun z => ?_) fun z => ?_
    · rcases (ownFrame b).mp z with e | e
      · exact Nat.lt_irrefl _ (e ▸ Heap.lt_size q)
      · exact hb e
    · rcases (hch b z).1 with y | y
      · cases y
      · exact Nat.lt_irrefl _ (Nat.lt_of_lt_of_le (Heap.lt_size q) y)
  refine leaves_flW I.ok.frames rfl al.stays al.new al.fun_ al.tr fun h'' x1 x2 => ?_
  refine ⟨ea, t, C, B, H', rfl, J.os, J.bare, ?_, hok, x1, thereB, hn, hE⟩
  refine Un.fly (h1 := s'.heap) J.base x1.1 (fun b o o1 q q1 hb => ?_) fun b o hb q => ?_
  · obtain ⟨o', e'⟩ := thereB b o q hb
    have := al.stays b o' e'
    rw [q1] at this
    cases this
    exact e'
  · obtain ⟨o', e', hd⟩ := mem ((ownFrame (qual := qual) (scope := scope) (s := s) (f := f) (cd := cd) b).mpr (.inr hb))
    rw [q] at e'
    cases e'
    exact x2 b o q hd
end
/-! ### the loop, whose element may raise -/
theorem compLoop_byX {prog : Program} {w : World} {A : Around} {R : Result → Shared → Prop} {s : Shared} {elt target iter : Expr} {scope : Scope} {pos : Pos} {it acc : Value} {env : Env} (I : Nat → Shared → Prop)
    (turn : ∀ n s, I n s → wpAny (model prog w) A (pyNext it) (fun r s₁ => match r with
      | none => R (.ok .next) s₁
      | some v => wpAny (model prog w) A (letOwnedTupleGo target it v) (fun _ s₁' => wpAny (model prog w) A (assign target env v) (fun _ s₂ => wpAny (model prog w) A (eval elt env) (fun x s₃ =>
          wpAny (model prog w) A (call (.builtin "list.append") [acc, x]) (fun _ s₄ => ∃ m, m < n ∧ I m s₄) (fun _ _ => False) s₃)
          (notedBy (model prog w) A env fun e s' => R (.error e) s') s₂) (fun _ _ => False) s₁') (fun _ _ => False) s₁) (fun _ _ => False) s)
    (n : Nat) (h : I n s) :
    codeAny (model prog w) A (.compLoop (.ListComp elt [⟨target, iter, [], 0⟩] scope pos) 0 it acc env) R s := by
  refine codeAny_loop rfl I (fun n s hI => ?_) n h
  show wpAny _ _ ((compTurn (.ListComp elt [⟨target, iter, [], 0⟩] scope pos) 0 it acc env).onRaise (fun x => do noteFrame x env; theTreesLotGoes x)) _ _ s
  refine wpAny_noted ?_
  rw [compTurn_list1]
  refine wpAny_bind (wpAny_standAt (wpAny_bind (wpAny_mono (turn n s hI) (fun r s₁ h₁ => ?_) fun _ _ h' => h'.elim)))
  cases r with
  | none => exact wpAny_pure h₁
  | some v =>
    refine wpAny_bind (wpAny_mono h₁ (fun _ s₁' h₁' => ?_) fun _ _ h' => h'.elim)
    exact wpAny_bind (wpAny_mono h₁' (fun _ s₂ h₂ => wpAny_bind (wpAny_bind (wpAny_mono h₂ (fun x s₃ h₃ => wpAny_bind (wpAny_mono h₃
      (fun _ s₄ h₄ => wpAny_pure (wpAny_pure ⟨rfl, h₄⟩)) fun _ _ h' => h'.elim)) fun _ _ h' => h'))) fun _ _ h' => h'.elim)
def CompWX (J : It) (ix : List (Option Nat)) (g : TG) (te : TXE) (E : XK) (σ : St) (H : Hp) (Qd : Addr → Hp → Prop) : Prop :=
  ∀ D, H D = none → ∃ W : Nat → Nat → St → Hp → Prop, (∃ m, W 0 m (blockSt ix σ) (upd H D (.lst []))) ∧ ∀ i m σ' H', W i m σ' H' →
    (J.stop i H' ∧ Qd D H') ∨ (J.go i H' ∧ ∀ x H2, J.yld i H' x H2 → g x σ' H2 fun σ3 H3 => te σ3 H3 (fun y H4 => ∃ ys, H4 D = some (.lst ys) ∧ ys.length < sizeLine ∧ ∃ m', m' < m ∧ W (i + 1) m' σ3 (upd H4 D (.lst (ys ++ [y])))) E)
section
variable {X : Cx} {pins : List (Addr × Obj)} {σ : St} {H : Hp} {s : Shared} {N : List Str} {ix : List (Option Nat)} {scope : Scope} {fp : List Addr} {tg elt iter : Expr} {pos spos : Pos} {J : It} {it : Addr} {tn : Nat → Heap → Prop} {g : TG} {te : TXE} {wi : TI} {Ex : XK}
theorem comp_runX {Qd : Addr → Hp → Prop} {RR : Value → Addr → Result → Shared → Prop} {E : Value → Shared → Prop} (I : Inv X pins σ H s) (hc : X.calm = true) (S : BlkScope X.N X.env.scope N ix scope) (T : Turn X.prog X.w X.K tg J fp it tn) (st : tn 0 s.heap) (f2 : ∀ b ∈ fp, FpOk X pins H b)
    (hg : ∀ C, PG (cxComp X N scope fp s H C) tg g) (he : ∀ C, PXE (cxComp X N scope fp s H C) elt te) (hW : CompWX J ix g te Ex σ H Qd)
    (hR : ∀ D C s' H' m, Inv X pins σ H' s' → s'.heap.Ns C m → FpOk X pins H' C → Qd D H' → RR (.ref D) C (.ok .next) s')
    (hE : ∀ D C e s', s.heap.objs.size ≤ C → (∃ pins' σ' s3 H3, Inv (cxComp X N scope fp s H C) pins' σ' H3 s3 ∧ (∀ b ∈ fp, ∃ o, s3.heap.get? b = some o) ∧ CX1 X.prog X.w X.stack H3 s3 Ex e s') →
      notedBy (model X.prog X.w) X.A (compEnvC scope (closList X.env.cells scope.names []) C X.env) (fun e s' => RR (.ref D) C (.error e) s') e s') :
    wpAny (model X.prog X.w) X.A (newList []) (fun acc s₃ => wpAny (model X.prog X.w) X.A (newFunctionEnv scope X.env.globals (closList X.env.cells scope.names []) [] X.env.qual none .none (some X.env)) (fun cenv s₄ =>
      codeAny (model X.prog X.w) X.A (.compStart (.ListComp elt [⟨tg, iter, [], 0⟩] scope pos) 0 (.ref it) acc { cenv with scope := relabel scope X.env }) (RR acc cenv.locals) s₄) E s₃) E s := by
  refine wpAny_newObj_type (wpAny_newFunctionEnv S.nocell (by intro y hy; simp at hy) (fun h₁ hns₁ hsb₁ => ?_) S.kind)
  dsimp only at hns₁ hsb₁ ⊢
  generalize hH2 : s.heap.push { cls := .type "list", dict := none, data := .seq ([] : List Value).toArray } = H2 at hns₁ hsb₁ ⊢
  have hC : H2.objs.size = s.heap.objs.size + 1 := by rw [← hH2, Heap.size_push]
  have hDC : s.heap.objs.size ≠ H2.objs.size := by rw [hC]; exact Nat.ne_of_lt (Nat.lt_succ_self _)
  have hCle : s.heap.objs.size ≤ H2.objs.size := by rw [hC]; exact Nat.le_succ _
  have below : ∀ b, b < s.heap.objs.size → b ≠ H2.objs.size := fun b hb => by rw [hC]; exact Nat.ne_of_lt (Nat.lt_succ_of_lt hb)
  have old : ∀ b o, s.heap.get? b = some o → h₁.get? b = some o := fun b o e => hsb₁.extBut b o (below b (Heap.lt_size e)) (Heap.get?_push_of_some _ (hH2 ▸ Heap.get?_push_of_some _ e))
  have hacc : ∃ n, h₁.get? s.heap.objs.size = some { cls := .type "list", data := .seq ([] : List Value).toArray n } := ⟨_, hsb₁.extBut _ _ hDC (Heap.get?_push_of_some _ (hH2 ▸ Heap.get?_push_size _ rfl))⟩
  have st1 : tn 0 h₁ := T.keep _ _ _ st fun b _ o e => old b o e
  have fo : ∀ b ∈ fp, ∃ o, s.heap.get? b = some o ∧ ∀ v, o.data ≠ .cell v := T.obj _ _ st
  have I0 : Inv (cxComp X N scope fp s H H2.objs.size) pins (blockSt ix σ) (upd H s.heap.objs.size (.lst [])) { s with heap := h₁, toks := s.toks + ([] : List (Str × Value)).length } :=
    inv_block I S f2 fo (Nat.le_refl _) hCle hDC old hns₁ hacc
  have freshD : H s.heap.objs.size = none := I.hok.fresh (Nat.le_refl _)
  obtain ⟨W, ⟨m0, w0⟩, turn⟩ := hW s.heap.objs.size freshD
  have cl_ne : ∀ b ∈ fp, b ≠ H2.objs.size := fun b hb => by
    obtain ⟨o, e, _⟩ := fo b hb
    exact below b (Heap.lt_size e)
  have stat : ∀ {H' : Hp}, (∀ b ∈ fp, H' b = none) → ∀ b ∈ fp, FpOk (cxComp X N scope fp s H H2.objs.size) pins H' b := fun hn b hb => by
    obtain ⟨f0, f1, f3, f4, f5, f6⟩ := f2 b hb
    exact ⟨hn b hb, cl_ne b hb, I0.ok.exfs b hb, .inl hb, (I0.ok.exf b hb).2, f6⟩
  have fr0 : ∀ b ∈ fp, (upd H s.heap.objs.size (.lst [])) b = none := fun b hb => by
    obtain ⟨o, e, _⟩ := fo b hb
    rw [upd_ne (Nat.ne_of_lt (Heap.lt_size e))]
    exact (f2 b hb).1
  have loop : codeAny (model X.prog X.w) X.A (.compLoop (.ListComp elt [⟨tg, iter, [], 0⟩] scope pos) 0 (.ref it) (.ref s.heap.objs.size) (compEnvC scope (closList X.env.cells scope.names []) H2.objs.size X.env))
      (RR (.ref s.heap.objs.size) H2.objs.size) { s with heap := h₁, toks := s.toks + ([] : List (Str × Value)).length } := by
    refine compLoop_byX (fun n s' => ∃ i σ' H', Inv (cxComp X N scope fp s H H2.objs.size) pins σ' H' s' ∧ tn i s'.heap ∧ (∀ b ∈ fp, H' b = none) ∧ W i n σ' H') ?_ m0 ⟨0, _, _, I0, st1, fr0, w0⟩
    rintro n s3 ⟨i, σ3, H3, I3, st3, fr3, w3⟩
    rcases turn i n σ3 H3 w3 with ⟨stop, qn⟩ | ⟨go, step⟩
    · refine thn (T.done (cxComp X N scope fp s H H2.objs.size) rfl rfl rfl hc i pins s3 σ3 H3 _ I3 (stat fr3) st3 stop) fun r s4 ⟨hr, I4⟩ => ?_
      subst hr
      obtain ⟨m4, hn4, _⟩ := id I4.loc
      refine hR _ _ s4 H3 m4 ?_ hn4 (I.fpOk hCle I4.free) qn
      exact I.call' (ch := fp) I4.os I4.base I4.hok I4.bare fun b hb => by
        obtain ⟨f0, f1, f3, f4, f5, f6⟩ := f2 b hb
        exact ⟨f4, f1, f5, f6⟩
    · refine thn (T.item (cxComp X N scope fp s H H2.objs.size) rfl rfl rfl hc i pins s3 σ3 H3 _ I3 (stat fr3) st3 go) fun r s4 ⟨u, hr, h4⟩ => ?_
      subst hr
      refine thn h4 fun _ s5 ⟨x, H5, I5, r5, y5, st5, fr5⟩ => ?_
      have I5' := I5.pinned (stat fr5) (T.obj _ _ st5)
      refine thn (hg _ _ s5 σ3 H5 x u _ I5' r5 (step x H5 y5)) fun _ s6 ⟨σ6, H6, I6, q6⟩ => ?_
      refine wpAny_mono (he _ _ s6 σ6 H6 _ _ I6 q6) (fun yv s7 ⟨y, H7, I7, r7, ys, hD7, hz7, m', hm, w7⟩ => ?_) fun e s' hx => ?_
      · refine thn (mt_append (X := cxComp X N scope fp s H H2.objs.size) _ s7 σ6 H7 (.ref s.heap.objs.size) [y] (.ref s.heap.objs.size) [yv] (fun _ H8 => W (i + 1) m' σ6 H8) I7 rfl (.cons r7 .nil) ⟨_, ys, y, rfl, rfl, hD7, hz7, w7⟩) fun _ s8 ⟨_, H8, I8, _, w8⟩ => ?_
        refine ⟨m', hm, i + 1, σ6, H8, I8.unpinned, T.keep _ _ _ st5 fun b hb o e => (I8.pin (b, o) (List.mem_append_right _ (List.mem_append_right _ (mem_pinsAt hb e)))).1, fun b hb => ?_, w8⟩
        obtain ⟨o, e, d⟩ := T.obj _ _ st5 b hb
        exact (I8.pin (b, o) (List.mem_append_right _ (List.mem_append_right _ (mem_pinsAt hb e)))).2.1
      · obtain ⟨s9, H9, I9, cx⟩ := hx
        refine hE _ _ e s' hCle ⟨_, _, s9, H9, I9, fun b hb => ?_, cx⟩
        obtain ⟨o, e, d⟩ := T.obj _ _ st5 b hb
        exact ⟨o, (I9.pin (b, o) (List.mem_append_right _ (List.mem_append_right _ (mem_pinsAt hb e)))).1⟩
  exact codeAny_compStart_list loop (T.self _ _ _ _ _ st1 loop)
theorem funFrames_to {h h' base base' : Heap} (hb : ∀ b, base.get? b = none → base'.get? b = none) : ∀ {l : List Env}, (∀ b ∈ frs l, ∀ o, h.get? b = some o → (∀ vs, o.data ≠ .fields vs) → ∃ sl, h'.get? b = some { o with slots := sl }) → h.FunFrames base l → h'.FunFrames base' l
  | [], _, _ => trivial
  | env :: rest, k, hl => by
    obtain ⟨hk, ⟨L, o, hf, hn, ho, hd⟩, hr⟩ := hl
    have hm : L ∈ frs (env :: rest) := List.mem_filterMap.mpr ⟨env, List.mem_cons_self, hf⟩
    obtain ⟨sl, e⟩ := k L hm o ho hd
    refine ⟨hk, ⟨L, _, hf, hb L hn, e, hd⟩, funFrames_to hb (fun b hb' o q d => k b ?_ o q d) hr⟩
    obtain ⟨en, he, hf'⟩ := List.mem_filterMap.mp hb'
    exact List.mem_filterMap.mpr ⟨en, List.mem_cons_of_mem _ he, hf'⟩
/-- an exception of the element goes on out of the comprehension -/
theorem comp_fails {use : Option (Value → Sem Unit)} {Qv : Value → Shared → Prop} (I : Inv X pins σ H s) (hst : X.stack = X.env :: X.outer) (hfm : X.env.frame = some X.env.locals) (hx : PassF X Ex) (f2 : ∀ b ∈ fp, FpOk X pins H b) {D C : Addr} {e : Value} {s' : Shared} (hCle : s.heap.objs.size ≤ C)
    (h : ∃ pins' σ' s3 H3, Inv (cxComp X N scope fp s H C) pins' σ' H3 s3 ∧ (∀ b ∈ fp, ∃ o, s3.heap.get? b = some o) ∧ CX1 X.prog X.w X.stack H3 s3 Ex e s') :
    notedBy (model X.prog X.w) X.A (compEnvC scope (closList X.env.cells scope.names []) C X.env) (fun e s' => compPost (model X.prog X.w) X.A X.xe use Qv (.ref D) C (.error e) s') e s' := by
  obtain ⟨pins', σ', s3, H3, I3, fpo, ea, t, Cl, B, H', rfl, os, bare, un, hok, fl, there, hn, hEx⟩ := h
  have fC := I.fpOk hCle I3.free
  have Cfr : C ∉ frs X.stack := by
    intro z
    rw [hst] at z
    obtain ⟨en, he, hf⟩ := List.mem_filterMap.mp z
    rcases List.mem_cons.mp he with q | q
    · subst q
      rw [hfm] at hf
      exact fC.2.1 (Option.some.inj hf).symm
    · exact fC.2.2.1 (List.mem_filterMap.mpr ⟨en, q, hf⟩)
  have H3C : H3 C = none := I3.free
  obtain ⟨m3, ⟨oC, es, ep, hC3, rC⟩, _⟩ := id I3.loc
  have hC3' : s3.heap.get? C = some oC := hC3
  have hCs : s'.heap.get? C = some oC := un.keep C oC hC3' H3C Cfr (by intro z; cases z)
  obtain ⟨oB, hCB⟩ := there C oC hC3' Cfr
  have eB : oB = oC := by
    have := fl.1 C oB hCB
    rw [hCs] at this
    exact (Option.some.inj this).symm
  subst eB
  have frB : ∀ b ∈ frs X.stack, B.get? b = none := fun b hb => (fl.2.2.1.mem hb).1
  have hfr : X.A.frames = some (X.env :: X.outer) := by rw [← hst]; exact I.ok.frames
  have fl' := fl
  rw [hst] at fl'
  show wpAny (model X.prog X.w) X.A (noteFrame (.ref ea) X.env) _ _ s'
  refine wpAny_looks_onW hfr hfm fl' fun h1 held up => ?_
  have hC1 : h1.get? C = some oB := held.1 C oB hCB
  refine ⟨m3, ⟨oB, es, ep, hC1, rC⟩, fun h2 sb cenv hcl => ?_⟩
  have B'B : ∀ {b o}, (PySem.W.hideAll B [C]).get? b = some o → B.get? b = some o ∧ b ≠ C := fun {b o} q => ⟨PySem.W.of_hideAll _ q, fun z => by
    rw [z, PySem.W.hideAll_none [C] List.mem_cons_self] at q
    cases q⟩
  have B'n : ∀ b, B.get? b = none → (PySem.W.hideAll B [C]).get? b = none := fun b q => by
    cases z : (PySem.W.hideAll B [C]).get? b with
    | none => rfl
    | some o => rw [(B'B z).1] at q; cases q
  have st2 : (PySem.W.hideAll B [C]).StaysIn h2 := fun b o q => (sb.2 b (B'B q).2).trans (held.1 b o (B'B q).1)
  have tr2 : h2.TracedAtW (PySem.W.hideAll B [C]) ea (.ref Cl) (.ref t) (rawInt X.env.locals) := by
    obtain ⟨oe, vs, T, oT, ts, he, hc, hd, h1', hnT, r⟩ := held.2.2.2
    exact traced_but ⟨oe, vs, T, oT, ts, he, hc, hd, h1', B'n T hnT, r⟩ ⟨oB, es, ep, hC1, rC⟩ sb.2
  refine passOn_any st2 tr2 fun h3 fl3 k1 k2 k3 => ?_
  have toB : ∀ b o, s3.heap.get? b = some o → b ∉ frs X.stack → b ≠ C → ∀ o', s'.heap.get? b = some o' → h3.get? b = some o' := fun b o q hb hbC o' q' => by
    obtain ⟨o2, e2⟩ := there b o q hb
    have := fl.1 b o2 e2
    rw [q'] at this
    cases this
    exact k1 b o' (PySem.W.hideAll_get _ e2 (by simpa using hbC))
  have frK : ∀ b ∈ frs X.stack, ∀ o, s'.heap.get? b = some o → (∀ vs, o.data ≠ .fields vs) → ∃ sl, h3.get? b = some { o with slots := sl } := fun b hb o q d => by
    obtain ⟨sl, e1⟩ := up b o q d
    refine ⟨sl, k3 b _ ((sb.2 b fun z => Cfr (z ▸ hb)).trans e1) d⟩
  have ltC : ∀ b o, s.heap.get? b = some o → b ≠ C := fun b o q z => Nat.lt_irrefl _ (Nat.lt_of_lt_of_le (Heap.lt_size q) (z ▸ hCle))
  have H'C : H' C = none := un.free C oB hC3' H3C (by intro z; cases z)
  have ib : Un (frs X.stack) fp H H3 s.heap s3.heap := I3.base
  refine hx pins σ H s fp _ _ I (fun b hb => ?_) ⟨ea, t, Cl, PySem.W.hideAll B [C], H', fl3, rfl, os.trans I3.os, bare, ?_, ?_, ⟨k1, B'n ea fl.2.1, ?_, k2⟩, fun b o q hb hc => ?_, hn, hEx⟩
  · obtain ⟨f0, f1, f3, f4, f5, f6⟩ := f2 b hb
    exact ⟨f4, f1, f5, f6⟩
  · refine ⟨fun b o q n hb hx' => ?_, fun b o q n hb hx' => ?_, fun b o q n hx' => ?_, fun b o q hx' => ?_, fun b xs q => un.tups b xs (ib.tups b xs q), fun b o u q => un.frzs b o u (ib.frzs b o u q), fun b ps q => ?_⟩
    · have e1 := ib.keep b o q n hb hx'
      exact toB b o e1 hb (ltC b o q) o (un.keep b o e1 (ib.free b o q n hx') hb (by intro z; cases z))
    · obtain ⟨s1, e1⟩ := ib.slot b o q n hb hx'
      obtain ⟨s2, e2⟩ := un.slot b _ e1 (ib.free b o q n hx') hb (by intro z; cases z)
      obtain ⟨o2, e3, d⟩ := (fl.2.2.1.mem hb).2
      rw [e2] at e3
      cases e3
      obtain ⟨s4, e4⟩ := frK b hb _ e2 d
      exact ⟨s4, e4⟩
    · obtain ⟨o1, e1⟩ := ib.there b o q hx'
      exact un.free b o1 e1 (ib.free b o q n hx') (by intro z; cases z)
    · obtain ⟨o1, e1⟩ := ib.there b o q hx'
      by_cases hb : b ∈ frs X.stack
      · obtain ⟨o2, e2, d⟩ := (fl.2.2.1.mem hb).2
        obtain ⟨sl, e3⟩ := frK b hb o2 e2 d
        exact ⟨_, e3⟩
      · obtain ⟨o2, e2⟩ := un.there b o1 e1 (by intro z; cases z)
        exact ⟨o2, toB b o1 e1 hb (ltC b o q) o2 e2⟩
    · obtain ⟨m1, e1⟩ := ib.tbls b ps q
      obtain ⟨m2, e2⟩ := un.tbls b _ e1
      exact ⟨m1 ++ m2, by rw [e2, Array.append_assoc]⟩
  · exact hok.less fun b u ⟨o, q⟩ z => PySem.W.hideAll_get _ z (by
      intro y
      have : b = C := by simpa using y
      rw [this, H'C] at q
      cases q)
  · exact funFrames_to B'n (fun b hb o q d => frK b hb o q d) fl.2.2.1
  · obtain ⟨o1, e1⟩ := ib.there b o q hc
    obtain ⟨o2, e2⟩ := there b o1 e1 hb
    exact ⟨o2, PySem.W.hideAll_get _ e2 (by simpa using ltC b o q)⟩
/-- [elt for x in iter], the element may raise -/
def tCompX (ix : List (Option Nat)) (wi : TI) (g : TG) (te : TXE) (E : XK) : TE := fun σ H Q => wi σ H fun J H1 => CompWX J ix g te E σ H1 fun D H' => Q (.ref D) H'
/-- y = [elt for x in iter], y a plain local name, the element may raise -/
theorem ps_setCompX {i : Nat} {y : Str} {py : Pos} (hx : PassF X Ex) (hc : X.calm = true) (hN : X.N.Nodup) (hyi : X.N[i]? = some y) (hy : Loc X.env.scope y) (S : BlkScope X.N X.env.scope N ix scope) (hi : PI X tg iter wi) (hg : ∀ fp s H C, PG (cxComp X N scope fp s H C) tg g) (he : ∀ fp s H C, PXE (cxComp X N scope fp s H C) elt te)
    (hst : X.stack = X.env :: X.outer := by rfl) (hfm : X.env.frame = some X.env.locals := by rfl)
    (hsw : swapsWith (.ListComp elt [⟨tg, iter, [], 0⟩] scope pos) (some (.Name y py)) spos.line X.env = pure true := by rfl)
    (hf : X.fn y = true ∨ X.env.scope.names.lookup y = some .local := by first | exact .inl rfl | exact .inr rfl | assumption)
    (hs : ∀ x, foldedSetIterable iter X.env x = pure x := by intro _; rfl) : PS X (.Assign [.Name y py] (.ListComp elt [⟨tg, iter, [], 0⟩] scope pos) spos) (tAsg (tCompX ix wi g te Ex) (gName i)) := by
  intro pins s σ H D I h
  rw [exec_Assign_Name_used _ _ _ _ hsw]
  refine wpAny_bind (wpAny_standAt (wpAny_bind ?_))
  show wpAny _ X.A (do let _ ← comprehension (.ListComp elt [⟨tg, iter, [], 0⟩] scope pos) scope X.env _ (newList []) false (eval iter X.env) (some (assign (.Name y py) X.env))) _ _ s
  refine wpAny_bind (wpAny_mono (wpAny_comprehension_free (use := some (assign (.Name y py) X.env)) (Q := fun _ s' => SP X pins D .next s') rfl hs (closureFor_eq (S.clos I.ok)) S.kind S.locs
    (thn (hi pins s σ H _ I h) fun v s1 h1 => thn h1 fun itv s2 h2 => ?_)) (fun _ s' hq => wpAny_pure (wpAny_pure hq)) fun _ _ e => e)
  obtain ⟨it, fp, tn, J, H2, e, I2, T, st2, f2, hW⟩ := h2
  subst e
  refine comp_runX (RR := fun acc C => compPost (model X.prog X.w) X.A X.xe (some (assign (.Name y py) X.env)) (fun _ s' => SP X pins D .next s') acc C) I2 hc S T st2 f2 (hg _ _ _) (he _ _ _) hW ?_ fun Dl C e s' hC z => comp_fails I2 hst hfm hx f2 hC z
  intro Dl C s' H' m I' hn fC q
  show wpAny _ X.A (assign (.Name y py) X.env (.ref Dl)) _ _ s'
  refine wpAny_assign_Name (store_ok2 I' hN hyi hy (v := .ref Dl) rfl (fun s2 I2' hsb => ?_) hf)
  obtain ⟨a, sb, ha⟩ := hsb
  refine ⟨m, hn.sameBut sb ?_, fun h3 sb3 => ⟨_, H', I2'.turned (t' := s2.toks) (fun b o hb e => (sb3.2 b hb).trans e) fC.1 fC.2.1 fC.2.2.2.1 fC.2.2.2.2.1 fC.2.2.2.2.2, q⟩⟩
  rcases ha with z | z
  · rw [z]; exact fC.2.1
  · exact Ne.symm (fC.2.2.2.2.1 _ _ z)
end
/-! ### the forms one uses -/
theorem compX_seq {K : PySem.W.Frag} {a : Addr} {xs : List V} {ix : List (Option Nat)} {te : TXE} {E : XK} {σ : St} {H : Hp} {Qd : Addr → Hp → Prop} {J : It} (hJ : (J = Itl K a ∧ SqL K H a xs) ∨ (J = Itt K a ∧ SqT K H a xs)) (Pv : Addr → Nat → List V → Hp → Prop)
    (h0 : ∀ D, H D = none → Pv D 0 [] (upd H D (.lst [])))
    (hk : ∀ D i ys H', H D = none → Pv D i ys H' → Same H H')
    (hs : ∀ D i x ys H' (Q' : VK), H D = none → xs[i]? = some x → H' D = some (.lst ys) → Pv D i ys H' → (∀ y H4, H4 D = some (.lst ys) → ys.length < sizeLine → Pv D (i + 1) (ys ++ [y]) (upd H4 D (.lst (ys ++ [y]))) → Q' y H4) →
      te ((blockSt ix σ).set 0 (some x)) H' Q' E)
    (hd : ∀ D ys H', H D = none → H' D = some (.lst ys) → Pv D xs.length ys H' → Qd D H') : CompWX J ix (gName 0) te E σ H Qd := by
  intro D hD
  refine ⟨fun i m σ' H' => m = xs.length - i ∧ i ≤ xs.length ∧ (σ' = blockSt ix σ ∨ ∃ t, σ' = (blockSt ix σ).set 0 t) ∧ ∃ ys, H' D = some (.lst ys) ∧ Pv D i ys H', ⟨xs.length, by simp, Nat.zero_le _, .inl rfl, [], upd_same, h0 D hD⟩, ?_⟩
  rintro i m σ' H' ⟨rfl, hi, hσ, ys, hy, p⟩
  have sm := hk D i ys H' hD p
  by_cases hlt : i < xs.length
  · have es : ∀ x, σ'.set 0 (some x) = (blockSt ix σ).set 0 (some x) := fun x => by
      rcases hσ with z | ⟨t, z⟩
      · rw [z]
      · rw [z, List.set_set]
    rcases hJ with ⟨rfl, q⟩ | ⟨rfl, q⟩
    · have q' := sm.seq q
      refine .inr ⟨⟨xs, xs[i], q', by simp [hlt]⟩, fun x H2 y => ?_⟩
      obtain ⟨e1, e2⟩ := y
      subst e1
      show te (σ'.set 0 (some x)) _ _ _
      rw [es]
      exact hs D i x ys _ _ hD (e2 xs q') hy p fun y H4 h4 hz p4 => ⟨ys, h4, hz, xs.length - (i + 1), by omega, rfl, hlt, .inr ⟨_, rfl⟩, ys ++ [y], upd_same, p4⟩
    · have q' := sm.tup q
      refine .inr ⟨⟨xs, xs[i], q', by simp [hlt]⟩, fun x H2 y => ?_⟩
      obtain ⟨e1, e2⟩ := y
      subst e1
      show te (σ'.set 0 (some x)) _ _ _
      rw [es]
      exact hs D i x ys _ _ hD (e2 xs q') hy p fun y H4 h4 hz p4 => ⟨ys, h4, hz, xs.length - (i + 1), by omega, rfl, hlt, .inr ⟨_, rfl⟩, ys ++ [y], upd_same, p4⟩
  · have e : i = xs.length := by omega
    subst e
    rcases hJ with ⟨rfl, q⟩ | ⟨rfl, q⟩
    · exact .inl ⟨⟨xs, sm.seq q, Nat.le_refl _⟩, hd D ys H' hD hy p⟩
    · exact .inl ⟨⟨xs, sm.tup q, Nat.le_refl _⟩, hd D ys H' hD hy p⟩
end L2

set_option Elab.async false
set_option linter.all false
set_option maxRecDepth 100000
/-! an own exception class with an __init__ of its own -/
namespace L2
open PySem PySem.Spec PySem.W PySem.Builtin PySem.Builtin.ObjectAttr PyProof.Rows
/-- the exception's object -/
abbrev excObj (C : Addr) (dx : Option Addr) (vs : Array Value) : Obj := { cls := .ref C, dict := dx, data := .fields vs }
/-- the classes that an own exception's class stands under: own ones (at as), then ValueError's -/
def mroIs (K : PySem.W.Frag) (C : Addr) (as : List Addr) : Bool := (clsIn K C).any fun cd => cd.mro == as.map Value.ref ++ VEm
theorem refuse_refs (self : Value) : ∀ as : List Addr, refuseLoop self "__setattr__" (as.map Value.ref ++ VEm) = pure ()
  | [] => PySem.F.store_ValueError.passes self
  | a :: r => by
    rw [List.map_cons, List.cons_append, refuseLoop_ref]
    exact refuse_refs self r
section
variable {prog : Program} {w : World} {A : Around} {E : Value → Shared → Prop} {s : Shared} {K : PySem.W.Frag} {x C : Addr} {vs : Array Value} {name : Str} {v : Value} {as : List Addr}
theorem inst_exc {h : Heap} (hx : h.get? x = some (excObj C none vs)) : InstAt h x (excObj C none vs) C none := ⟨hx, rfl, rfl, trivial⟩
theorem osa_exc {tk : Tok} {R : Result → Shared → Prop} (X : K.In s.heap) (hx : s.heap.get? x = some (excObj C none vs)) (hm : mroIs K C as = true) (ob : mroIn K C (.type "object") = some true) (na : findIn K (.ref C) name = some none)
    (h : wpAny (model prog w) A.in1 (storeInOwnDict (.ref x) (.ref C) (.str name tk) name v false)
      (fun fin s' => match fin with | .done f => R (.ok f) s' | .again c' => c'.quiet = true ∧ codeAny (model prog w) A c' R s') (fun e s' => R (.error e) s') s) :
    codeAny (model prog w) A (.call (.builtin "object.__setattr__") ⟨[.ref x, .str name tk, v], []⟩) R s := by
  have SF := PySem.F.store_object
  have I := inst_exc hx
  obtain ⟨cd, hc, ho⟩ := any_some hm
  have em : cd.mro = as.map Value.ref ++ VEm := by simpa using ho
  have sub : Looks (model prog w) s.heap (isInstance (.ref x) (.type "object")) true := I.type.andThen (looks_mroIn X ob)
  refine codeAny_call_builtin SF.slot.plain SF.entry (@check_slot (model prog w) _ _ s "object.__setattr__" "object" "__setattr__" (.ref x) [.str name tk, v] [] _ SF.kind SF.split sub (SF.args (.ref x) (.str name tk) v) ?_)
  have lm : Looks (model prog w) s.heap (mroOf (.ref C)) cd.mro := (looks_clsIn X hc).andThen .now
  rw [osa_eq, refuse_eq]
  refine wpAny_bind (wpAny_bind (I.type.here (wpAny_bind (lm.here ?_))))
  rw [em, refuse_refs]
  refine wpAny_pure (wpAny_bind (I.type.here (wpAny_bind ((looks_findIn X na).here (wpAny_bind (wpAny_pure ?_))))))
  exact h
/-- x.name = v, the first attribute of its own -/
theorem set_exc {Q : Unit → Shared → Prop} (X : K.In s.heap) (hx : s.heap.get? x = some (excObj C none vs)) (hs : findIn K (.ref C) "__setattr__" = some (some (.builtin "object.__setattr__"))) (hm : mroIs K C as = true) (ob : mroIn K C (.type "object") = some true) (na : findIn K (.ref C) name = some none) (hh : hasDictIn K C = true)
    (h : ∀ h' d, h'.get? x = some (excObj C (some d) vs) → h'.Ns1 d (fun y => if y = name then some v else none) → s.heap.objs.size ≤ d → (∀ b o, b ≠ x → s.heap.get? b = some o → h'.get? b = some o) → Q () { s with heap := h', toks := s.toks + 2 }) :
    wpAny (model prog w) A (setAttr (.ref x) name v) Q E s := by
  have J := inst_exc hx
  refine set_plain X J hs (osa_exc (s := { s with toks := s.toks + 1 }) X hx hm ob na ?_)
  obtain ⟨cd, hc, hd'⟩ := any_some hh
  refine wpAny_bind (wpAny_pure (wpAny_bind (wpAny_bind (wpAny_loadPart hx (wpAny_bind (PySem.W.Looks.here (s := { s with toks := s.toks + 1 }) (looks_clsIn X hc) ?_))))))
  rw [hd']
  rw [if_neg (by decide), if_neg (by simp [typeHasDict])]
  have hx1 : (s.heap.push { cls := .type "dict", data := .dict #[] }).get? x = some (excObj C none vs) := Heap.get?_push_of_some _ hx
  have hxs : x ≠ s.heap.objs.size := Nat.ne_of_lt (Heap.lt_size hx)
  refine wpAny_bind (wpAny_alloc' (wpAny_bind (wpAny_update' hx1 (wpAny_pure ?_))))
  have hgd : ((s.heap.push { cls := .type "dict", data := .dict #[] }).update x fun o => { cls := o.cls, dict := some s.heap.objs.size, data := o.data, slots := o.slots }).get? s.heap.objs.size = some { cls := .type "dict", data := .dict #[] } :=
    (Heap.get?_update_ne _ _ _ _ hxs.symm).trans (Heap.get?_push_at rfl rfl)
  have hnd : ((s.heap.push { cls := .type "dict", data := .dict #[] }).update x fun o => { cls := o.cls, dict := some s.heap.objs.size, data := o.data, slots := o.slots }).Ns s.heap.objs.size (fun _ => none) :=
    ⟨_, #[], _, hgd, rfl, fun e he => absurd he (by simp), fun _ => rfl⟩
  dsimp only
  unfold storeInDict newKeyGuard
  refine wpAny_bind (wpAny_pure (wpAny_bind (wpAny_nsSet1 (Heap.Ns1.of_empty hnd) fun h' hn' hs' => ?_)))
  obtain ⟨oD, esD, epD, hoD, hdD, hcD⟩ := hn'.count (Within.cons name v Within.nil)
  refine wpAny_bind (wpAny_lookBehind hoD (by rw [hdD]; exact pastItsLine_dict (Nat.le_trans hcD (by rw [List.length_cons, List.length_nil, sizeLine_eq]; omega))) ?_)
  refine wpAny_pure (h h' s.heap.objs.size ?_ ?_ (Nat.le_refl _) fun b o hb q => ?_)
  · exact (hs'.2 x hxs).trans (Heap.get?_update_self _ hx1 rfl)
  · obtain ⟨o', es, ep, e1, e2, e3, eu, e4⟩ := hn'
    exact ⟨o', es, ep, e1, e2, e3, eu, fun y => by rw [e4 y]⟩
  · exact (hs'.2 b (Nat.ne_of_lt (Heap.lt_size q))).trans ((Heap.get?_update_ne _ _ _ _ hb).trans (Heap.get?_push_of_some _ q))
/-- x.name, of its own dict -/
theorem get_exc {d : Addr} {mA : Str → Option Value} {Q : Value → Shared → Prop} (c : XCls K C) (X : K.In s.heap) (hx : s.heap.get? x = some (excObj C (some d) vs)) (hn : s.heap.Ns1 d mA) (na : findIn K (.ref C) name = some none) (hh : hasDictIn K C = true)
    (hv : mA name = some v) (hhv : handedIn v = true) (h : Q v { s with toks := s.toks + 1 }) : wpAny (model prog w) A (getAttr (.ref x) name true) Q E s := by
  obtain ⟨od, hod, hl⟩ := lookIn_ns hn
  have J : InstAt s.heap x (excObj C (some d) vs) C (some od) := ⟨hx, rfl, rfl, hod⟩
  have hf : findObj K C (some od) name = some (.value v) := findObj_own hh na rfl (by rw [hl, hv])
  obtain ⟨hp, g, dr, t, os⟩ := s
  have L0 := J.type (M := model prog w)
  have L1 := looks_findIn (M := model prog w) X c.ga
  have L2 := looks_findIn (M := model prog w) X c.gt
  have LF := looks_find (M := model prog w) X J hf
  have LB : Looks (model prog w) hp (isInstance (.ref x) (.type "BaseException")) true := L0.andThen (looks_mroIn (M := model prog w) X c.be)
  unfold getAttr getAttrBy
  refine wpAny_bind (wpAny_mkText (wpAny_holding (wpAny_bind (L0.at (wpAny_bind (L1.at ?_))))))
  have ne : (onTheHeap (Value.ref C) && Value.builtin "BaseException.__getattribute__" == Value.builtin "object.__getattribute__") = false := by
    have : (Value.builtin "BaseException.__getattribute__" == Value.builtin "object.__getattribute__") = false := by decide +kernel
    rw [this]; rfl
  dsimp only
  rw [ne]
  simp only [Bool.false_eq_true, if_false]
  unfold getAttrByItsOwn hookBefore
  rw [if_pos (show onTheHeap (Value.ref C) = true from rfl)]
  refine wpAny_bind (L2.at ?_)
  refine wpAny_bind (wpAny_attempt (wpAny_holding ?_))
  unfold callGetattribute
  rw [show (true && onTheHeap (Value.builtin "BaseException.__getattribute__")) = false from rfl]
  simp only [Bool.false_eq_true, if_false]
  unfold boundAndCalled
  rw [PySem.F.attrBase_ValueError.ga.bind (.ref x)]
  refine wpAny_bind (wpAny_pure ?_)
  refine wpAny_call (codeAny_call_builtin PySem.F.attrBase_ValueError.ga.plain PySem.F.entry_bexc_ga ?_)
  refine exc_check LB ?_
  unfold Builtin.«object.__getattribute__»
  refine wpAny_bind (wpAny_pure ?_)
  dsimp only
  refine wpAny_bind ?_
  refine (show wpAny _ _ (pure _) _ _ _ from wpAny_pure ?_)
  refine wpAny_bind (L0.at ?_)
  refine wpAny_bind (LF.at ?_)
  dsimp only
  refine wpAny_pure ?_
  exact handed_on hhv h
end
end L2

set_option Elab.async false
set_option linter.all false
set_option maxRecDepth 100000
namespace L2
open PySem PySem.Spec PySem.W PySem.Builtin PySem.Builtin.ObjectAttr PyProof.Rows
/-- what of the text is asked of a class with an __init__ of its own (at f), as excIn asks it of one without -/
def excInI (K : PySem.W.Frag) (C : Addr) (f : Addr) : Bool := match K.lookup C with
  | some ⟨.type "type", _, .cls cd, sl⟩ => (match cd.mro, sl.toList with
    | .ref C' :: tl, [_, _, _, _, some (.builtin n), _] => C' == C && n == "ValueError.__new__" && !cd.hasDel && tailIn K VEm tl && nsOkIn K cd.ns && nsIn K cd.ns "__init__" == some (some (.ref f))
    | _, _ => false)
  | _ => false
theorem nsMap_of_in {K : PySem.W.Frag} {h : Heap} {N : Addr} {x : Str} {v : Value} (X : K.In h) (e : nsOkIn K N = true) (q : nsIn K N x = some (some v)) : h.nsMap N x = some v := by
  have G := PySem.Heap.Ns.of_isNs (isNs_of_in X e)
  obtain ⟨o, es, ep, ho, hd, _, hf⟩ := id G
  unfold nsIn at q
  split at q
  · rename_i c d es' n' sl z
    have y := X _ _ z
    rw [ho] at y
    cases y
    cases hd
    split at q
    · rename_i en he
      cases q
      rw [← hf]
      unfold nsFind findBy
      rw [← Array.find?_toList, he]
      rfl
    · split at q <;> cases q
  · cases q
theorem exc_atI {K : PySem.W.Frag} {h : Heap} {C f : Addr} (X : K.In h) (q : excInI K C f = true) :
    ∃ tl N nm qn bs hd sn sub ab col dd k0 k1 k2 k3 k5 mN, h.get? C = some (excClassObj nm qn C N bs tl hd sn sub ab col dd k0 k1 k2 k3 k5 "ValueError.__new__") ∧ h.Ns N mN ∧ mN "__init__" = some (.ref f) ∧ OwnTail h VEm tl := by
  unfold excInI at q
  cases e : K.lookup C with
  | none => rw [e] at q; cases q
  | some ob =>
    rw [e] at q
    obtain ⟨oc, od, dt, sl⟩ := ob
    split at q
    · rename_i dd cd sl' he
      cases he
      split at q
      · rename_i C' tl k0 k1 k2 k3 n k5 m1 m2
        simp only [Bool.and_eq_true, beq_iff_eq, Bool.not_eq_true'] at q
        obtain ⟨⟨⟨⟨⟨rfl, rfl⟩, d1⟩, t1⟩, o1⟩, i1⟩ := q
        obtain ⟨nm, bs, mro, ns, qn, hd, sn, sub, ab, col, del⟩ := cd
        dsimp only at m1 d1 o1 i1
        subst m1 d1
        have es : sl = #[k0, k1, k2, k3, some (.builtin "ValueError.__new__"), k5] := by
          cases sl with
          | mk l => exact congrArg Array.mk m2
        subst es
        exact ⟨tl, ns, nm, qn, bs, hd, sn, sub, ab, col, _, k0, k1, k2, k3, k5, _, X _ _ e, .of_isNs (isNs_of_in X o1), nsMap_of_in X o1 i1, tail_of_in X t1⟩
      · cases q
    · cases q
section
variable {prog : Program} {w : World} {A : Around} {E : Value → Shared → Prop} {h : Heap} {g : Array GenState} {d : Drawn} {t : Nat} {os : OsState}
variable {nm q : Str} {C N : Addr} {bs bm : List Value} {hdct : Bool} {sn : List Str} {sub : List Value} {ab : Bool} {col : Option Bool} {dd : Option Addr} {k0 k1 k2 k3 k5 : Option Value}
theorem type_call_initU (T : OwnTail h VEm bm) {mN : Str → Option Value} {rest : List Value} {fI : Addr} {oI : Obj} {Q : Fin → Shared → Prop}
    (hC : h.get? C = some (excClassObj nm q C N bs bm hdct sn sub ab col dd k0 k1 k2 k3 k5 "ValueError.__new__")) (hn : h.Ns N mN) (hi : mN "__init__" = some (.ref fI)) (hfI : h.get? fI = some oI) (hfc : oI.cls = .type "function")
    (hq : ∀ h' e tp, h'.get? e = some (excObj C none #[.ref tp, .none, .none, .none, .bool false, .none]) → h.get? e = none → h.objs.size ≤ e → (∀ b o, h.get? b = some o → h'.get? b = some o) →
      wpAny (model prog w) A (call (.ref fI) (.ref e :: rest)) (fun r s' => r = .none ∧ Q (.done (.ret (.ref e))) s') E ⟨h', g, d, t, os⟩) (hrest : rest.length ≤ sizeLine) :
    wpAny (model prog w) A (Builtin.«type.__call__» ⟨.ref C :: rest, []⟩) Q E ⟨h, g, d, t, os⟩ := by
  have Fn := PySem.F.excBase_ValueError
  repeat (first | with_reducible refine wpAny_loadPart_at hC ?_ | with_reducible refine wpAny_madeBy_exc hC ?_ | wp_step)
  refine codeAny_call_builtin_code (Code.quiet_builtin _ Fn.quiet) (wpAny_check_new_subU Fn (by decide) T hC ?_)
  refine codeAny_exc_new_subU Fn (by decide) Fn T hC ?_ hrest
  show wpAny _ _ _ _ _ _
  generalize hE : ({ cls := .ref C, data := .fields #[.ref h.objs.size, .none, .none, .none, .bool false, .none] } : Obj) = oE
  generalize hT : ({ cls := .type "tuple", data := .seq rest.toArray } : Obj) = oT
  have keep : ∀ b o, h.get? b = some o → ((h.push oT).push oE).get? b = some o := fun b o e => Heap.get?_push_of_some _ (Heap.get?_push_of_some _ e)
  have hC1 := keep _ _ hC
  have hn1 : ((h.push oT).push oE).Ns N mN := let ⟨o, es, ep, e, r⟩ := hn; ⟨o, es, ep, keep _ _ e, r⟩
  have hget : ((h.push oT).push oE).get? (h.objs.size + 1) = some (excObj C none #[.ref h.objs.size, .none, .none, .none, .bool false, .none]) := by
    have q := Heap.get?_push_size (h.push oT) (o := oE) (by rw [← hE]; rfl)
    rw [Heap.size_push] at q
    rw [q, ← hE]
  have hcC : (Value.ref C :: bm).contains (.ref C) = true := by simp
  have T1 := T.keeps (h' := (h.push oT).push oE) keep
  unfold isInstance
  repeat (first | with_reducible refine wpAny_loadPart_at hget ?_ | (with_reducible refine wpAny_isSubtype_exc hC1 ?_; rw [hcC]) | wp_step)
  show wpAny _ _ (typeLookup (.ref C) _) _ _ _
  refine wpAny_typeLookup_tail hC1 hn1 T1 Fn.mroIs Fn.init.lookup ?_
  rw [hi]
  refine wpAny_holding (wpAny_bind ?_)
  unfold bindSpecial
  refine wpAny_bind (wpAny_typeOf (T := "function") ⟨_, keep _ _ hfI, hfc⟩ ?_)
  rw [if_pos (by decide)]
  refine wpAny_pure (wpAny_bind (wpAny_mono (hq _ (h.objs.size + 1) h.objs.size hget (Heap.get?_none_of_le (Nat.le_succ _)) (Nat.le_succ _) keep) (fun r s' hr => ?_) fun _ _ x => x))
  obtain ⟨rfl, hQ⟩ := hr
  wp_walk
  exact hQ
end
section
variable {prog : Program} {w : World} {A : Around} {E : Value → Shared → Prop} {s : Shared} {K : PySem.W.Frag} {x C f : Addr} {vs : Array Value}
/-- C(..), C's own __init__ called with what is made -/
theorem call_initU {rest : List Value} {Q : Value → Shared → Prop} (X : K.In s.heap) (hx : excInI K C f = true) (hf : isFn K (.ref f) = true)
    (hq : ∀ h' e tp, h'.get? e = some (excObj C none #[.ref tp, .none, .none, .none, .bool false, .none]) → s.heap.get? e = none → s.heap.objs.size ≤ e → (∀ b o, s.heap.get? b = some o → h'.get? b = some o) →
      wpAny (model prog w) (A.under (.builtin "type.__call__" ⟨.ref C :: rest, []⟩)) (call (.ref f) (.ref e :: rest)) (fun r s' => r = .none ∧ Q (.ref e) s') E { s with heap := h' }) (hrest : rest.length ≤ sizeLine) :
    wpAny (model prog w) A (call (.ref C) rest) Q E s := by
  obtain ⟨tl, N, nm, qn, bs, hd, sn, sub, ab, col, dd, k0, k1, k2, k3, k5, mN, hC, hN, hi, T⟩ := exc_atI X hx
  obtain ⟨oI, hfI, hfc⟩ : ∃ oI, s.heap.get? f = some oI ∧ oI.cls = .type "function" := by
    have q : (K.lookup f).map (·.cls) = some (.type "function") := beq_iff_eq.mp hf
    obtain ⟨o, ho, e⟩ := Option.map_eq_some_iff.mp q
    exact ⟨o, X _ _ ho, e⟩
  obtain ⟨hp, g, d, t, os⟩ := s
  have f1 := tc_lookup
  have f2 := tc_bind (.ref C)
  have hT : (⟨hp, g, d, t, os⟩ : Shared).TypeIs (.ref C) "type" := ⟨_, hC, rfl⟩
  refine wpAny_call (codeAny_of_tree ?_)
  show wpAny _ _ (callAny (.ref C) _) _ _ _
  repeat (any_goals (first | assumption | with_reducible refine wpAny_loadPart_at hC ?_ | wp_step))
  refine ⟨rfl, ?_⟩
  refine codeAny_call_builtin_at (Code.quiet_builtin _ (by decide +kernel)) entry_typeCall (wpAny_check_type_call_sub hC (type_call_initU T hC hN hi hfI hfc (fun h' e tp a1 a2 a3 a4 => ?_) hrest))
  exact hq h' e tp a1 a2 a3 a4
abbrev rawF (tp : Addr) : Array Value := #[.ref tp, .none, .none, .none, .bool false, .none]
/-- B.__init__(x, v): B a class above, without one of its own -/
theorem call_baseInit {u : Value} {tp : Addr} {Q : Value → Shared → Prop} (X : K.In s.heap) (hxc : excInI K C f = true) (hx : s.heap.get? x = some (excObj C none (rawF tp)))
    (h : ∀ h' tp', h'.get? x = some (excObj C none (rawF tp')) → (∀ b o, b ≠ x → s.heap.get? b = some o → h'.get? b = some o) → Q .none { s with heap := h' }) :
    wpAny (model prog w) A (call (.builtin "ValueError.__init__") [.ref x, u]) Q E s := by
  obtain ⟨tl, N, nm, qn, bs, hd, sn, sub, ab, col, dd, k0, k1, k2, k3, k5, mN, hC, hN, hi, T⟩ := exc_atI X hxc
  have Fn := PySem.F.excBase_ValueError
  obtain ⟨hp, g, d, t, os⟩ := s
  refine wpAny_call (codeAny_call_builtin Fn.init.plain Fn.initEntry (wpAny_check_init_subU Fn T hC hx rfl ?_))
  unfold Builtin.«BaseException.__init__»
  dsimp only
  rw [if_neg (by decide)]
  refine wpAny_bind (wpAny_newTuple ?_)
  have hx1 : (hp.push (seqObj "tuple" [u].toArray 0)).get? x = some (excObj C none (rawF tp)) := Heap.get?_push_of_some _ hx
  refine wpAny_bind (m := BaseException.bexcPut (.ref x) 0 _) ?_
  unfold BaseException.bexcPut
  refine wpAny_bind (wpAny_field hx1 rfl (x := .ref tp) rfl ?_)
  refine wpAny_bind (wpAny_setField hx1 rfl (by simp) ?_)
  refine wpAny_letGo (wpAny_pure ?_)
  have hd1 := Obj.data_mapFields (o := excObj C none (rawF tp)) rfl (·.setIfInBounds 0 (Value.ref hp.objs.size))
  refine h _ hp.objs.size (Heap.get?_update_self _ hx1 (Obj.isFreed_of_fields hd1)) fun b o hb q => ?_
  exact (Heap.get?_update_other _ _ (Ne.symm hb)).trans (Heap.get?_push_of_some _ q)
end
end L2

set_option Elab.async false
set_option linter.all false
set_option maxRecDepth 100000
namespace L2
open PySem PySem.Spec PyProof.Rows
def ExRaw (x C : Addr) (h : Heap) : Prop := ∃ tp, h.get? x = some (excObj C none (rawF tp))
def ExWith (x C d : Addr) (h : Heap) : Prop := ∃ tp, h.get? x = some (excObj C (some d) (rawF tp))
/-- what of the text is asked of such a class -/
structure XInit (K : PySem.W.Frag) (C f : Addr) : Prop where
  ex : excInI K C f = true
  fn : PySem.W.isFn K (.ref f) = true
  kp : PySem.W.keepIn K (.ref C) = true
  sa : PySem.W.findIn K (.ref C) "__setattr__" = some (some (.builtin "object.__setattr__"))
  hd : PySem.W.hasDictIn K C = true
  mr : ∃ as, mroIs K C as = true
  xc : XCls K C
section
variable {X : Cx} {k : Nat} {f C B : Addr} {fd : FuncData} {ps : List Str} {sp : Sp} {dvs : List V} {ds : List Value} {x y fl : Str} {p pos apos : Pos} {e o value : Expr} {es : List Expr} {t : TA} {ta tv : TE}
def tMakeX (C : Addr) (sp : Sp) (dvs : List V) (t : TA) : TE := fun σ H Q => t σ H fun vs H1 => vs.length ≤ 8 ∧ ∀ x, H1 x = none → sp (.ref x :: (vs ++ dvs)) (upd H1 x (.ext (ExRaw x C))) (fun v H2 => v = .non ∧ Q (.ref x) H2) E0
theorem pe_makeX (M : XInit X.K C f) (F : FnOk X.prog X.w X.K X.mg X.base CX0 k f fd ps sp) (hr : Room (k + 1) X.A) (hg : Gl X x) (hm : X.mg x = some (.ref C)) (hb : Binds X.K fd ps ds) (hd : Vals dvs ds)
    (ha : PA X (e :: es) t) (hdb : (x == ("__debug__" : Str)) = false := by decide) (he : starEach (e :: es) X.env = (false, eval e X.env) :: starEach es X.env := by rfl) (hpl : (backTo pos (starEach es X.env)).any (·.1) = false := by rfl) :
    PE X (.Call (.Name x p) (e :: es) [] pos) (tMakeX C sp dvs t) := by
  intro pins s σ H Q I h
  refine wpAny_Call_Name_kw (ld_glob I hg hm ?_ hdb)
  refine PySem.W.callWith_K (h₀ := X.base) I.ok.mod.kin M.kp (thn (ha pos pins s σ H _ I h) fun us s1 ⟨vs, H1, I1, r, l8, q⟩ => ⟨I1.kIn, ?_⟩) he hpl
  refine call_initU I1.kIn M.ex M.fn (fun h' ea tp a1 a2 a3 a4 => ?_) (by show us.length ≤ sizeLine; rw [← r.length]; exact Nat.le_trans l8 (by decide))
  have hq := q ea (I1.hok.fresh a3)
  have I2 : Inv X pins σ (upd H1 ea (.ext (ExRaw ea C))) { s1 with heap := h' } := I1.laid (o := .ext (ExRaw ea C)) (t' := s1.toks) a4 a3
    (show ExRaw ea C h' ∧ (∃ o, h'.get? ea = some o) ∧ ∀ h1 h2 : Heap, ExRaw ea C h1 → (∀ o, h1.get? ea = some o → h2.get? ea = some o) → ExRaw ea C h2 from ⟨⟨tp, a1⟩, ⟨_, a1⟩, fun h1 h2 ⟨tp, z⟩ kk => ⟨tp, kk _ z⟩⟩)
  have r2 : Vals (V.ref ea :: (vs ++ dvs)) (Value.ref ea :: (us ++ ds)) := .cons rfl (r.append hd)
  have hl : (Value.ref ea :: us ++ ds).length = ps.length := by
    have z := r2.length
    rw [F.len _ _ _ _ hq] at z
    exact z.symm
  refine wpAny_call (codeAny_mono (F.run _ X.stack _ _ ⟨Value.ref ea :: us, []⟩ (Value.ref ea :: (us ++ ds)) _ _ E0 (hr.make C us []) (I2.env0.make C us []) (hb _ (Value.ref ea :: us) I2.kIn hl) r2 hq) fun r s' hq' => ?_)
  cases r with
  | error e => exact hq'.elim
  | ok fl =>
    cases fl with
    | ret u =>
      obtain ⟨v, H', I3, rv, ev, q3⟩ := I2.after hq'
      subst ev
      exact ⟨rv, ⟨V.ref ea, H', I3, rfl, q3⟩⟩
    | next => exact False.elim hq'
    | brk => exact False.elim hq'
    | cont => exact False.elim hq'
def tBaseInit (K : PySem.W.Frag) (t : TA) : TE := fun σ H Q => t σ H fun vs H1 => ∃ (x C f : Addr) (v : V), vs = [.ref x, v] ∧ H1 x = some (.ext (ExRaw x C)) ∧ excInI K C f = true ∧ Q .non H1
theorem pe_baseInit (hg : Gl X y) (hm : X.mg y = some (.ref B)) (hga : PySem.W.specialIn X.K (.ref B) "__getattribute__" = some (some (.builtin "type.__getattribute__"))) (hrd : PySem.W.readsIn X.K B (.type "type") = true)
    (hfc : PySem.W.findCls X.K (.ref B) (.type "type") "__init__" = some (.val (.builtin "ValueError.__init__"))) (ha : PA X (e :: es) t) {pl : Sem Bool}
    (ht : eval (.Call (.Attribute (.Name y p) "__init__" apos) (e :: es) [] pos) X.env = (do
      let ov ← eval (.Name y p) X.env
      standAt apos.atName
      let (f, first) ← holding [ov] (getMethod ov "__init__" pl)
      callWith pos f first (backTo pos (starEach (e :: es) X.env)) (backToKw pos (keywordEach [] X.env))) := by rfl)
    (hdb : (y == ("__debug__" : Str)) = false := by decide) (he : starEach (e :: es) X.env = (false, eval e X.env) :: starEach es X.env := by rfl) (hpl : (backTo pos (starEach es X.env)).any (·.1) = false := by rfl) :
    PE X (.Call (.Attribute (.Name y p) "__init__" apos) (e :: es) [] pos) (tBaseInit X.K t) := by
  intro pins s σ H Q I h
  refine PySem.W.methodCall_KW (pl := pl) (ld_glob I hg hm ?_ hdb) ht
  refine PySem.W.method_cls I.kIn hga (PySem.W.cls_value I.kIn hrd hfc rfl ?_)
  refine PyProof.Rows.callWith_builtin1 (thn (ha pos pins _ σ H _ (I.tok _) h) fun us s1 ⟨vs, H1, I1, r, ea, C, f, v, ev, hx, hxc, q⟩ => ?_) he hpl
  subst ev
  obtain ⟨u1, u2, rfl, r1, r2⟩ := vals2 r
  cases r1
  obtain ⟨⟨tp, z⟩, _, _⟩ := (show ObjOk X.prog X.w H1 s1.heap ea (.ext (ExRaw ea C)) from I1.hok ea _ hx)
  refine call_baseInit I1.kIn hxc z fun h' tp' z' keep => ?_
  have I2 : Inv X pins σ (upd H1 ea (.ext (ExRaw ea C))) { s1 with heap := h' } := I1.write (x := ea) (e := ea) (t' := s1.toks) (by rw [hx]; exact trivial) (.inl rfl) keep ⟨_, z'⟩
    (show ExRaw ea C h' ∧ (∃ o, h'.get? ea = some o) ∧ ∀ h1 h2 : Heap, ExRaw ea C h1 → (∀ o, h1.get? ea = some o → h2.get? ea = some o) → ExRaw ea C h2 from ⟨⟨tp', z'⟩, ⟨_, z'⟩, fun h1 h2 ⟨tp, z⟩ kk => ⟨tp, kk _ z⟩⟩)
  have eH : upd H1 ea (.ext (ExRaw ea C)) = H1 := by
    funext b
    by_cases c : b = ea
    · rw [c, upd_same, hx]
    · rw [upd_ne c]
  rw [eH] at I2
  exact ⟨.non, H1, I2, rfl, q⟩
def sFldX (K : PySem.W.Frag) (ta tv : TE) (fl : Str) : TS := fun D σ H => tv σ H fun y H1 => ta σ H1 fun v H2 => ∃ x C f : Addr, v = .ref x ∧ H2 x = some (.ext (ExRaw x C)) ∧ XInit K C f ∧ PySem.W.findIn K (.ref C) fl = some none ∧
  ∀ d, H2 d = none → d ≠ x → D.nx σ (upd (upd H2 x (.ext (ExWith x C d))) d (.xd [(fl, y)]))
theorem ps_fldX {pos' : Pos} (ha : PE X o ta) (hv : PE X value tv) (hs : swapsWith value (some (.Attribute o fl pos')) pos.line X.env = pure false := by rfl) : PS X (.Assign [.Attribute o fl pos'] value pos) (sFldX X.K ta tv fl) := by
  intro pins s σ H D I h
  refine plainObj_wpAny_Assign_Attribute (thn (hv pins s σ H _ I h) fun u s1 ⟨yv, H1, I1, ry, q⟩ => thn (ha pins s1 σ H1 _ I1 q) fun ov s2 ⟨xv, H2, I2, rx, ea, C, f, ex, hx, M, na, q2⟩ => ?_) hs
  subst ex
  obtain rfl : ov = Value.ref ea := rx
  obtain ⟨⟨tp, z⟩, _, _⟩ := (show ObjOk X.prog X.w H2 s2.heap ea (.ext (ExRaw ea C)) from I2.hok ea _ hx)
  obtain ⟨as, mr⟩ := M.mr
  refine set_exc I2.kIn z M.sa mr M.xc.ob na M.hd fun h' d hx' hn hle keep => ?_
  have hd0 : H2 d = none := I2.hok.fresh hle
  have hdx : d ≠ ea := fun c => by rw [c, hx] at hd0; cases hd0
  have hok1 : HOk X.prog X.w (upd H2 ea (.ext (ExWith ea C d))) h' := I2.hok.write (x := ea) (e := ea) (by rw [hx]; exact trivial) (.inl rfl) keep ⟨_, hx'⟩
    (show ExWith ea C d h' ∧ (∃ o, h'.get? ea = some o) ∧ ∀ h1 h2 : Heap, ExWith ea C d h1 → (∀ o, h1.get? ea = some o → h2.get? ea = some o) → ExWith ea C d h2 from ⟨⟨tp, hx'⟩, ⟨_, hx'⟩, fun h1 h2 ⟨tp, z⟩ kk => ⟨tp, kk _ z⟩⟩)
  have z1 : (upd H2 ea (.ext (ExWith ea C d))) d = none := by rw [upd_ne hdx]; exact hd0
  have hok2 : HOk X.prog X.w (upd (upd H2 ea (.ext (ExWith ea C d))) d (.xd [(fl, yv)])) h' := by
    intro a uo qa
    by_cases c : a = d
    · subst c
      rw [upd_same] at qa
      cases qa
      refine ⟨_, hn, fun g => ?_⟩
      show RelO ([(fl, yv)].lookup g) (if g = fl then some u else none)
      by_cases cg : g = fl
      · subst cg
        rw [if_pos rfl]
        simp [List.lookup]
        exact ry
      · rw [if_neg cg]
        have : (g == fl) = false := beq_eq_false_iff_ne.mpr cg
        simp [List.lookup, this]
        exact trivial
    · rw [upd_ne c] at qa
      exact (hok1 a uo qa).stay (fun b v _ f => f) (fun b f => by rw [upd_ne (ne_of_none f z1)]; exact f) fun b xs f => by rw [upd_ne (ne_of_none f z1)]; exact f
  have u1 : Un X.fs [] H2 (upd H2 ea (.ext (ExWith ea C d))) s2.heap h' := Un.write (by rw [hx]; exact trivial) (.inl rfl) keep ⟨_, hx'⟩
  have u2 : Un X.fs [] H2 (upd (upd H2 ea (.ext (ExWith ea C d))) d (.xd [(fl, yv)])) s2.heap h' := u1.more (Heap.get?_none_of_le hle) hd0
  exact ⟨σ, _, I2.un (t' := s2.toks + 2) u2 hok2, q2 d hd0 hdx⟩
def tFldX (K : PySem.W.Frag) (ta : TE) (fl : Str) : TE := fun σ H Q => ta σ H fun v H1 => ∃ (x C d f : Addr) (fs : List (Str × V)) (y : V), v = .ref x ∧ H1 x = some (.ext (ExWith x C d)) ∧ H1 d = some (.xd fs) ∧ XInit K C f ∧ PySem.W.findIn K (.ref C) fl = some none ∧ fs.lookup fl = some y ∧ Q y H1
theorem pe_fldX (he : PE X e ta) (hb : attributeBase e fl X.env (eval e X.env) = eval e X.env := by rfl) : PE X (.Attribute e fl pos) (tFldX X.K ta fl) := by
  intro pins s σ H Q I h
  refine attr_of hb (thn (he pins s σ H _ I h) fun u s1 ⟨v, H1, I1, rv, ea, C, d, f, fs, yv, ev, hx, hd, M, na, l, q⟩ => ?_)
  subst ev
  obtain rfl : u = Value.ref ea := rv
  obtain ⟨⟨tp, z⟩, _, _⟩ := (show ObjOk X.prog X.w H1 s1.heap ea (.ext (ExWith ea C d)) from I1.hok ea _ hx)
  obtain ⟨mA, hn, hr⟩ := (show ObjOk X.prog X.w H1 s1.heap d (.xd fs) from I1.hok d _ hd)
  obtain ⟨w1, hw, rw1⟩ := RelO.some_of (v := yv) (o := mA fl) (by rw [← l]; exact hr fl)
  exact get_exc M.xc I1.kIn z hn na M.hd hw (handed_of rw1) ⟨yv, H1, I1.tok _, rw1, q⟩
end
/-- a class with an __init__ of its own, as its callers see it -/
structure DefI (P : Program) (w : World) (K : PySem.W.Frag) (mg : Str → Option Value) (base : Heap) (x : Str) (C f : Addr) (k : Nat) (ps : List Str) (sp : Sp) : Prop where
  m : mg x = some (.ref C)
  M : XInit K C f
  F : ∃ fd, Binds K fd ps [] ∧ FnOk P w K mg base CX0 k f fd ps sp
theorem pe_mkX {X : Cx} {x : Str} {C f : Addr} {j k : Nat} {ps : List Str} {sp : Sp} {p pos : Pos} {e : Expr} {es : List Expr} {t : TA} (G : DefI X.prog X.w X.K X.mg X.base x C f k ps sp) (hr : Room j X.A) (ha : PA X (e :: es) t) (hkj : k + 1 ≤ j := by decide) (hg : Gl X x := by rfl) (hdb : (x == ("__debug__" : Str)) = false := by decide)
    (he : starEach (e :: es) X.env = (false, eval e X.env) :: starEach es X.env := by rfl) (hpl : (backTo pos (starEach es X.env)).any (·.1) = false := by rfl) : PE X (.Call (.Name x p) (e :: es) [] pos) (tMakeX C sp [] t) := by
  obtain ⟨fd, hb, F⟩ := G.F
  exact pe_makeX G.M F (hr.mono hkj) hg G.m hb .nil ha hdb he hpl
end L2

set_option Elab.async false
set_option linter.all false
set_option maxRecDepth 100000
set_option maxHeartbeats 8000000
namespace My
open PySem L2
def top (i : Nat) : Stmt := PySem.Challenge.pw_figuretell_k05_what_is_refused.main.body.getD i (.Pass ⟨0, 0, 0, 0⟩)
abbrev s_is_whole : Stmt := top 12
abbrev s_is_whole_from : Stmt := top 13
abbrev s_is_whole_within : Stmt := top 14
abbrev s_need_whole : Stmt := top 15
abbrev s_need_row : Stmt := top 16
abbrev s_figures : Stmt := top 17
abbrev s_halved : Stmt := top 18
abbrev s_number_of : Stmt := top 19
abbrev s_merged : Stmt := top 20
abbrev s_joint : Stmt := top 21
abbrev s_apart : Stmt := top 22
abbrev s__law_cell_at : Stmt := top 24
abbrev s__law_others : Stmt := top 25
abbrev s__law_asked : Stmt := top 26
abbrev s__law_refused : Stmt := top 27
abbrev s__law_no_number : Stmt := top 28
abbrev s__law_no_wide : Stmt := top 29
abbrev s__law_no_row : Stmt := top 30
abbrev s__law_put : Stmt := top 31
abbrev s__law_good : Stmt := top 32
abbrev s_law : Stmt := top 33
abbrev s_TooGreat___init__ : Stmt := inClass (top 6) 0
/-! ### small helps -/
theorem iteD {c A B : Prop} [Decidable c] (h1 : c → A) (h2 : ¬ c → B) : if decide c = true then A else B := ite2 (fun h => h1 (of_decide_eq_true h)) fun h => h2 fun z => h (decide_eq_true z)
theorem iteDn {c A B : Prop} [Decidable c] (h1 : ¬ c → A) (h2 : c → B) : if (!decide c) = true then A else B := ite2 (fun h => h1 fun z => by rw [decide_eq_true z] at h; cases h) fun h => h2 (Decidable.byContradiction fun z => h (by rw [decide_eq_false z]; rfl))
theorem iteI {a b : Int} {A B : Prop} (h1 : a = b → A) (h2 : a ≠ b → B) : if decide (V.int a = V.int b) = true then A else B := iteD (fun h => h1 (V.int.inj h)) fun h => h2 fun z => h (congrArg V.int z)
theorem mul_in {a b m n : Int} (a0 : 0 ≤ a) (a1 : a ≤ m) (b0 : 0 ≤ b) (b1 : b ≤ n) : 0 ≤ a * b ∧ a * b ≤ m * n := ⟨Int.mul_nonneg a0 b0, Int.mul_le_mul a1 b1 b0 (Int.le_trans a0 a1)⟩
theorem mod_in {a b : Int} (h : 0 < b) : 0 ≤ a % b ∧ a % b < b := ⟨Int.emod_nonneg a (by omega), Int.emod_lt_of_pos a h⟩
theorem cut_seq {t u : TS} {D : Ends} {σ : St} {H : Hp} (R : St → Hp → Prop) (h2 : ∀ σ' H', R σ' H' → u D σ' H') (h1 : (∀ σ' H', R σ' H' → u D σ' H') → tSeq t u D σ H) : tSeq t u D σ H := h1 h2
theorem same_upd {H H' : Hp} {p : Addr} {o : HO} (h : Same H H') (hp : H p = none) : Same H (upd H' p o) := fun b u e => by rw [upd_ne (ne_of_none e hp)]; exact h b u e
def IntsIn (lo hi : Int) (ys : List V) : Prop := ∀ y ∈ ys, ∃ v : Int, y = .int v ∧ lo ≤ v ∧ v < hi
theorem IntsIn.nil {lo hi : Int} : IntsIn lo hi [] := fun y h => by cases h
theorem IntsIn.snoc {lo hi v : Int} {ys : List V} (h : IntsIn lo hi ys) (h0 : lo ≤ v) (h1 : v < hi) : IntsIn lo hi (ys ++ [.int v]) := fun y hy => by
  rcases List.mem_append.mp hy with z | z
  · exact h y z
  · rw [List.mem_singleton.mp z]; exact ⟨v, rfl, h0, h1⟩
/-- the ints of such a row -/
theorem IntsIn.ints {lo hi : Int} : ∀ {ys : List V}, IntsIn lo hi ys → ∃ ns : List Int, ys = ns.map V.int ∧ ∀ z ∈ ns, lo ≤ z ∧ z < hi
  | [], _ => ⟨[], rfl, fun z h => by cases h⟩
  | y :: r, h => by
    obtain ⟨v, e, h0, h1⟩ := h y List.mem_cons_self
    obtain ⟨ns, e2, h2⟩ := IntsIn.ints (ys := r) fun z hz => h z (List.mem_cons_of_mem _ hz)
    refine ⟨v :: ns, by rw [e, e2]; rfl, fun z hz => ?_⟩
    rcases List.mem_cons.mp hz with q | q
    · rw [q]; exact ⟨h0, h1⟩
    · exact h2 z q
theorem nat_of {x : Int} (h : 0 ≤ x) : ∃ n : Nat, x = (n : Int) := ⟨x.toNat, by omega⟩
theorem getD_at {α : Type} {xs : List α} {i : Nat} {d : α} (h : i < xs.length) : xs.getD i d = xs[i] := by simp [h]
/-- a place of a row of ints -/
theorem atI_ints {ns : List Int} {k : Int} (h0 : 0 ≤ k) (h : k < (ns.length : Int)) : atI (ns.map V.int) k = some (.int (ns.getD k.toNat 0)) := by
  have hk : k.toNat < ns.length := by omega
  have ek : k = ((k.toNat : Nat) : Int) := by omega
  have q : atI (ns.map V.int) ((k.toNat : Nat) : Int) = some (.int ns[k.toNat]) := atI_nat (by rw [List.getElem?_map, List.getElem?_eq_getElem hk] <;> rfl)
  rw [← ek] at q
  rw [q, getD_at hk]
/-- ints -/
theorem ints_at {ns : List Int} {i : Nat} {y : V} (h : (ns.map V.int)[i]? = some y) : ∃ z, y = V.int z ∧ ns[i]? = some z := by
  rw [List.getElem?_map] at h
  cases e : ns[i]? with
  | none => rw [e] at h; cases h
  | some z => rw [e] at h; exact ⟨z, (Option.some.inj h).symm, rfl⟩
theorem flat_ints (ns : List Int) : (ns.map V.int).all flatV = true := by
  rw [List.all_map]
  exact List.all_eq_true.mpr fun _ _ => rfl
/-! ### figures: the mathematics -/
def valB (b : Int) : List Int → Int
  | [] => 0
  | p :: r => p + b * valB b r
def halve (m : Int) : List Int → List Int
  | [] => []
  | p :: r => p % m :: p / m :: halve m r
def InB (b : Int) (ps : List Int) : Prop := ∀ p ∈ ps, 0 ≤ p ∧ p < b
theorem InB.nil {b : Int} : InB b [] := fun p h => by cases h
theorem InB.cons {b p : Int} {r : List Int} (h0 : 0 ≤ p) (h1 : p < b) (h : InB b r) : InB b (p :: r) := fun x hx => by
  rcases List.mem_cons.mp hx with z | z
  · rw [z]; exact ⟨h0, h1⟩
  · exact h x z
theorem InB.tail {b p : Int} {r : List Int} (h : InB b (p :: r)) : InB b r := fun x hx => h x (List.mem_cons_of_mem _ hx)
theorem halve_len (m : Int) : ∀ ps : List Int, (halve m ps).length = 2 * ps.length
  | [] => rfl
  | p :: r => by simp only [halve, List.length_cons, halve_len m r]; omega
theorem halve_in {m : Int} (hm : 0 < m) : ∀ {ps : List Int}, InB (m * m) ps → InB m (halve m ps)
  | [], _ => InB.nil
  | p :: r, h => by
    have hp := h p List.mem_cons_self
    have d0 : 0 ≤ p / m := Int.ediv_nonneg hp.1 (Int.le_of_lt hm)
    have d1 : p / m < m := Int.ediv_lt_of_lt_mul hm hp.2
    exact InB.cons (Int.emod_nonneg p (by omega)) (Int.emod_lt_of_pos p hm) (InB.cons d0 d1 (halve_in hm h.tail))
theorem halve_val (m : Int) : ∀ ps : List Int, valB m (halve m ps) = valB (m * m) ps
  | [] => rfl
  | p :: r => by
    have e := Int.emod_add_mul_ediv p m
    simp only [halve, valB, halve_val m r]
    rw [Int.mul_add, ← Int.add_assoc, e, Int.mul_assoc]
theorem halve_append (m : Int) : ∀ (ps : List Int) (x : Int), halve m (ps ++ [x]) = halve m ps ++ [x % m, x / m]
  | [], x => rfl
  | p :: r, x => by simp only [List.cons_append, halve, halve_append m r x]
theorem valB_nonneg {b : Int} (hb : 0 ≤ b) : ∀ {ps : List Int}, InB b ps → 0 ≤ valB b ps
  | [], _ => Int.le_refl 0
  | p :: r, h => Int.add_nonneg (h p List.mem_cons_self).1 (Int.mul_nonneg hb (valB_nonneg hb h.tail))
theorem valB_append (b : Int) : ∀ (ps qs : List Int), valB b (ps ++ qs) = valB b ps + b ^ ps.length * valB b qs
  | [], qs => by simp [valB]
  | p :: r, qs => by
    simp only [List.cons_append, valB, valB_append b r qs, List.length_cons]
    rw [Int.mul_add, Int.pow_succ, Int.add_assoc, ← Int.mul_assoc, Int.mul_comm b (b ^ r.length)]
theorem valB_snoc (b : Int) (ps : List Int) (x : Int) : valB b (ps ++ [x]) = valB b ps + x * b ^ ps.length := by
  rw [valB_append]
  simp [valB, Int.mul_comm]
/-- w, w * w, (w * w) * (w * w), .. -/
def pw (w : Int) : Nat → Int
  | 0 => w
  | i + 1 => pw w i * pw w i
theorem pw_two {w : Int} (h : 2 ≤ w) : ∀ i, 2 ≤ pw w i
  | 0 => h
  | i + 1 => by
    have q := pw_two h i
    have := Int.mul_le_mul q q (by decide) (by omega)
    show 2 ≤ pw w i * pw w i
    omega
theorem pw_lt {w : Int} (h : 2 ≤ w) (i : Nat) : pw w i < pw w (i + 1) := by
  have q := pw_two h i
  have := Int.mul_le_mul q (Int.le_refl (pw w i)) (by omega) (by omega)
  show pw w i < pw w i * pw w i
  omega
theorem pw_ge {w : Int} (h : 2 ≤ w) : ∀ i : Nat, (2 : Int) ^ (2 ^ i) ≤ pw w i
  | 0 => by simpa [pw] using h
  | i + 1 => by
    have q := pw_ge h i
    have e : (2 : Int) ^ (2 ^ (i + 1)) = 2 ^ (2 ^ i) * 2 ^ (2 ^ i) := by
      rw [Nat.pow_succ, Nat.mul_two, Int.pow_add]
    rw [e]
    have p0 : (0 : Int) ≤ 2 ^ (2 ^ i) := Int.le_of_lt (Int.pow_pos (by decide))
    exact Int.mul_le_mul q q p0 (Int.le_trans p0 q)
/-- the numbers asked about -/
def NB : Int := 2 ^ 1100
theorem NB_big : NB * NB < BIG := by decide +kernel
theorem NB_pos : 2 < NB := by decide +kernel
theorem pw_few {w n : Int} {t : Nat} (h : 2 ≤ w) (hp : pw w t ≤ n) (hn : n < NB) : 2 ^ t < 1100 := by
  have q := pw_ge h t
  have q2 : (2 : Int) ^ (2 ^ t) < 2 ^ 1100 := Int.lt_of_le_of_lt (Int.le_trans q hp) hn
  have q3 : (2 : Nat) ^ (2 ^ t) < 2 ^ 1100 := by exact_mod_cast q2
  exact (Nat.pow_lt_pow_iff_right (by decide)).mp q3
def pws (w : Int) (t : Nat) : List Int := (List.range t).map (pw w)
theorem pws_succ (w : Int) (t : Nat) : pws w (t + 1) = pws w t ++ [pw w t] := by
  unfold pws
  rw [List.range_succ, List.map_append]
  rfl
theorem pws_len (w : Int) (t : Nat) : (pws w t).length = t := by simp [pws]
theorem pws_get {w : Int} {t i : Nat} (h : i < t) : (pws w t)[i]? = some (pw w i) := by simp [pws, h]
/-- the figures of a number: those that come to it, the last one not 0 -/
structure Figs (w n : Int) (ds : List Int) : Prop where
  inb : InB w ds
  val : valB w ds = n
  top : ∀ d, ds.getLast? = some d → d ≠ 0
theorem last_cases (ds : List Int) : ds = [] ∨ ∃ r x, ds = r ++ [x] := by
  rcases List.eq_nil_or_concat ds with h | ⟨r, x, h⟩
  · exact .inl h
  · exact .inr ⟨r, x, by simpa using h⟩
/-! ### figures: the program -/
def spWhole : Sp := fun vs H Q _ => ∃ z : Int, vs = [.int z] ∧ Q (.bl true) H
def spFrom : Sp := fun vs H Q _ => ∃ z y : Int, vs = [.int z, .int y] ∧ Q (.bl (decide (y ≤ z))) H
def spNeed : Sp := fun vs H Q _ => ∃ (z y : Int) (x : Str), vs = [.int z, .int y, .str x] ∧ y ≤ z ∧ Q .non H
def spHalved (K : PySem.W.Frag) : Sp := fun vs H Q _ => ∃ (a : Addr) (m : Int) (ps : List Int), vs = [.ref a, .int m] ∧ SqL K H a (ps.map V.int) ∧ ps.length ≤ 5000 ∧ (0 < m ∧ m < BIG) ∧
  ∀ (l : Addr) (H' : Hp), Same H H' → H l = none → H' l = some (.lst ((halve m ps).map V.int)) → Q (.ref l) H'
def spFigures (K : PySem.W.Frag) : Sp := fun vs H Q _ => ∃ n w : Int, vs = [.int n, .int w] ∧ (0 ≤ n ∧ n < NB) ∧ (2 ≤ w ∧ w < NB) ∧
  ∀ (t : Addr) (H' : Hp) (ds : List Int), Same H H' → H' t = some (.tup (ds.map V.int)) → Figs w n ds → ds.length ≤ 5000 → Q (.ref t) H'
section
variable {P : Program} {w : World} {K : PySem.W.Frag} {mg : Str → Option Value} {base : Heap} {f : Addr} {fd : FuncData} {dV : Value}
theorem sc_is_whole : FnScope ["thing"] ["thing"] (defScope s_is_whole) := ⟨rfl, rfl, rfl, by decide +kernel, rfl, by decide +kernel, by decide +kernel⟩
theorem sc_is_whole_from : FnScope ["thing", "least"] ["thing", "least"] (defScope s_is_whole_from) := ⟨rfl, rfl, rfl, by decide +kernel, rfl, by decide +kernel, by decide +kernel⟩
theorem sc_need_whole : FnScope ["thing", "least", "called"] ["thing", "least", "called"] (defScope s_need_whole) := ⟨rfl, rfl, rfl, by decide +kernel, rfl, by decide +kernel, by decide +kernel⟩
theorem sc_figures : FnScope ["number", "wide", "powers", "power", "parts", "middle"] ["number", "wide"] (defScope s_figures) := ⟨rfl, rfl, rfl, by decide +kernel, rfl, by decide +kernel, by decide +kernel⟩
theorem sc_halved : FnScope ["parts", "middle", "halves", "part"] ["parts", "middle"] (defScope s_halved) := ⟨rfl, rfl, rfl, by decide +kernel, rfl, by decide +kernel, by decide +kernel⟩
theorem ok_is_whole (F : FunD K "is_whole" "is_whole" s_is_whole dV f fd) (z_isinstance : mg "isinstance" = none) (z_int : mg "int" = none) (z_bool : mg "bool" = none) : FnOk P w K mg base CX0 1 f fd ["thing"] spWhole := by
  refine F.ok sc_is_whole (fun vs H Q E h => ?_) (fun cdv A outer s H vs Q E hr h => ?_)
  · obtain ⟨z, rfl, _⟩ := h
    rfl
  obtain ⟨z, rfl, q⟩ := h
  refine ⟨_, (pss_one (ps_ret (pe_and (pe_callB call_isi (by rfl) z_isinstance bt_isinstance (pa_cons (pv 0) (pa_cons (pe_bltn (v := .ty "int") rfl z_int bt_int rfl) pa_nil))) (pe_one (pe_not (pe_callB call_isi (by rfl) z_isinstance bt_isinstance (pa_cons (pv 0) (pa_cons (pe_bltn (v := .ty "bool") rfl z_bool bt_bool rfl) pa_nil)))))))), ?_⟩
  refine ⟨_, rfl, _, _, _, _, rfl, TyOf.int z, kit_int_int K, _, rfl, iteT ?_⟩
  exact ⟨_, rfl, _, _, _, _, rfl, TyOf.int z, kit_int_bool K, _, rfl, q⟩
theorem ok_from (F : FunD K "is_whole_from" "is_whole_from" s_is_whole_from dV f fd) (G_is_whole : DefOk P w K mg base "is_whole" 1 ["thing"] [] spWhole) : FnOk P w K mg base CX0 2 f fd ["thing", "least"] spFrom := by
  refine F.ok sc_is_whole_from (fun vs H Q E h => ?_) (fun cdv A outer s H vs Q E hr h => ?_)
  · obtain ⟨z, y, rfl, _⟩ := h
    rfl
  obtain ⟨z, y, rfl, q⟩ := h
  refine ⟨_, (pss_one (ps_ret (pe_and (pe_cd G_is_whole hr (pa_cons (pv 0) pa_nil)) (pe_one (pe_cmpR op_ge (pv 0) (pv 1) (nomark _)))))), ?_⟩
  exact ⟨_, rfl, z, rfl, _, rfl, iteT ⟨_, rfl, _, rfl, _, _, rfl, rfl, q⟩⟩
theorem ok_need (F : FunD K "need_whole" "need_whole" s_need_whole dV f fd) (G_is_whole_from : DefOk P w K mg base "is_whole_from" 2 ["thing", "least"] [] spFrom) : FnOk P w K mg base CX0 3 f fd ["thing", "least", "called"] spNeed := by
  refine F.ok sc_need_whole (fun vs H Q E h => ?_) (fun cdv A outer s H vs Q E hr h => ?_)
  · obtain ⟨z, y, x, rfl, _⟩ := h
    rfl
  obtain ⟨z, y, x, rfl, hy, q⟩ := h
  refine ⟨_, (pss_one (ps_if (pt_not (pt_val (pe_cd G_is_whole_from hr (pa_cons (pv 0) (pa_cons (pv 1) pa_nil))))) (pss_one ps_never) pss_nil)), ?_⟩
  refine ⟨_, rfl, _, rfl, z, y, rfl, _, rfl, iteNS hy ?_⟩
  exact q
theorem ok_halved (F : FunD K "halved" "halved" s_halved dV f fd) : FnOk P w K mg base CX0 1 f fd ["parts", "middle"] (spHalved K) := by
  refine F.ok sc_halved (fun vs H Q E h => ?_) (fun cdv A outer s H vs Q E hr h => ?_)
  · obtain ⟨a, m, ps, rfl, _⟩ := h
    rfl
  obtain ⟨a, m, ps, rfl, hS, hl, ⟨m0, m1⟩, k⟩ := h
  refine ⟨_, (pss_cons (ps_set (i := 2) sc_halved.nd rfl (Or.inl rfl) (pe_lst pa_nil))
      (pss_cons (ps_for PassesOwn.never rfl (pi_list (pv 0)) (pg_name (i := 3) sc_halved.nd rfl (Or.inl rfl)) (pss_cons (ps_expr (pe_bm PySem.F.plainAttrs_list PySem.F.slot_list_append PySem.F.type_list_append mt_append (pv 2) (pa_cons (pe_op op_mod (pv 3) (pv 1)) pa_nil)))
      (pss_one (ps_expr (pe_bm PySem.F.plainAttrs_list PySem.F.slot_list_append PySem.F.type_list_append mt_append (pv 2) (pa_cons (pe_op op_fdivB (pv 3) (pv 1)) pa_nil))))))
      (pss_one (ps_ret (pv 2))))), ?_⟩
  refine ⟨(by show 0 ≤ sizeLine; decide), fun l hl0 => ?_⟩
  refine ⟨_, rfl, a, rfl, ⟨_, (same_new hl0 _).seq hS⟩, for_list (K := K) (xs := ps.map V.int) (fun i σ' H' => ∃ v, σ' = [some (.ref a), some (.int m), some (.ref l), v] ∧ Same H H' ∧ H' l = some (.lst ((halve m (ps.take i)).map V.int)))
    ⟨none, rfl, same_new hl0 _, upd_same⟩ (fun i σ' H' _ ⟨_, _, s, _⟩ => s.seq hS) ?_ ?_⟩
  · rintro i y σ' H' hi ⟨v, rfl, s1, h1⟩
    obtain ⟨z, rfl, hz⟩ := ints_at hi
    have hi' : i < ps.length := (List.getElem?_eq_some_iff.mp hz).1
    have l1 : ((halve m (ps.take i)).map V.int).length ≤ 10000 := by
      rw [List.length_map, halve_len, List.length_take]
      omega
    have big : 10002 < sizeLine := by decide
    refine ⟨_, rfl, .inl ⟨rfl, _, SqL.of h1⟩, _, rfl, _, rfl, _, _, rfl, rfl, m0, l, _, _, rfl, rfl, h1, by omega, ?_⟩
    refine ⟨_, rfl, .inl ⟨rfl, _, SqL.of upd_same⟩, _, rfl, _, rfl, _, _, rfl, rfl, ⟨m0, m1⟩, l, _, _, rfl, rfl, upd_same, by rw [List.length_append]; simp only [List.length_singleton]; omega, ?_⟩
    refine ⟨_, rfl, same_upd (same_upd s1 hl0) hl0, ?_⟩
    rw [upd_same, List.take_add_one, hz]
    show _ = some (HO.lst ((halve m (ps.take i ++ [z])).map V.int))
    rw [halve_append, List.map_append, List.append_assoc]
    rfl
  · rintro σ' H' ⟨v, rfl, s1, h1⟩
    rw [List.length_map, List.take_length] at h1
    exact ⟨_, rfl, k l H' s1 hl0 h1⟩
theorem ok_figures (F : FunD K "figures" "figures" s_figures dV f fd) (G_need_whole : DefOk P w K mg base "need_whole" 3 ["thing", "least", "called"] [] spNeed) (G_halved : DefOk P w K mg base "halved" 1 ["parts", "middle"] [] (spHalved K))
    (z_reversed : mg "reversed" = none) (z_tuple : mg "tuple" = none) : FnOk P w K mg base CX0 4 f fd ["number", "wide"] (spFigures K) := by
  refine F.ok sc_figures (fun vs H Q E h => ?_) (fun cdv A outer s H vs Q E hr h => ?_)
  · obtain ⟨n, w, rfl, _⟩ := h
    rfl
  obtain ⟨n, wd, rfl, ⟨n0, n1⟩, ⟨w0, w1⟩, k⟩ := h
  have hbig : ∀ {x y : Int}, 0 ≤ x → x < NB → 0 ≤ y → y < NB → x * y < BIG := fun {x y} hx hx' hy hy' =>
    Int.lt_of_le_of_lt (Int.mul_le_mul (Int.le_of_lt hx') (Int.le_of_lt hy') hy (Int.le_trans hx (Int.le_of_lt hx'))) NB_big
  have nbig : ∀ {x : Int}, 0 ≤ x → x < NB → x < BIG := fun {x} hx hx' => by
    have := NB_pos
    have := NB_big
    have q : NB * 1 ≤ NB * NB := Int.mul_le_mul (Int.le_refl _) (by omega) (by decide) (by omega)
    omega
  refine ⟨_, (pss_cons (ps_expr (pe_cd G_need_whole hr (pa_cons (pv 0) (pa_cons pe_int (pa_cons pe_str pa_nil)))))
      (pss_cons (ps_expr (pe_cd G_need_whole hr (pa_cons (pv 1) (pa_cons pe_int (pa_cons pe_str pa_nil)))))
      (pss_cons (ps_set (i := 2) sc_figures.nd rfl (Or.inl rfl) (pe_lst pa_nil))
      (pss_cons (ps_set (i := 3) sc_figures.nd rfl (Or.inl rfl) (pv 1))
      (pss_cons (ps_while PassesOwn.never (pt_cmpR op_le (pv 3) (pv 0) (nomark _)) (pss_cons (ps_expr (pe_bm PySem.F.plainAttrs_list PySem.F.slot_list_append PySem.F.type_list_append mt_append (pv 2) (pa_cons (pv 3) pa_nil)))
      (pss_one (ps_set (i := 3) sc_figures.nd rfl (Or.inl rfl) (pe_op op_mulB (pv 3) (pv 3))))))
      (pss_cons (ps_set (i := 4) sc_figures.nd rfl (Or.inl rfl) (pe_lst (pa_cons (pv 0) pa_nil)))
      (pss_cons (ps_for PassesOwn.never rfl (pi_rev rfl z_reversed (pa_cons (pv 2) pa_nil)) (pg_name (i := 5) sc_figures.nd rfl (Or.inl rfl)) (pss_one (ps_set (i := 4) sc_figures.nd rfl (Or.inl rfl) (pe_cd G_halved hr (pa_cons (pv 4) (pa_cons (pv 5) pa_nil))))))
      (pss_cons (ps_while PassesOwn.never (PW.pt (pw_and (pt_truth (pv 4) (fun _ => rfl)) (pw_and1 (pt_cmpR op_eq (pe_ix ix_list (pv 4) (pe_un un_neg pe_int) (fun _ _ => rfl)) pe_int (nomark _))))) (pss_one (ps_expr (pe_bm0 PySem.F.plainAttrs_list PySem.F.slot_list_pop PySem.F.type_list_pop mt_pop (pv 4)))))
      (pss_one (ps_ret (pe_callTy call_tuple_of (by rfl) z_tuple bt_tuple (pa_cons (pv 4) pa_nil)))))))))))), ?_⟩
  refine ⟨_, rfl, n, 0, _, rfl, n0, ?_⟩
  refine ⟨_, rfl, wd, 2, _, rfl, w0, ?_⟩
  -- powers = []; power = wide
  refine ⟨(by show 0 ≤ sizeLine; decide), fun L hL => ?_⟩
  refine ⟨_, rfl, ?_⟩
  -- while power <= number
  try dsimp only [gName]
  refine cut_seq (t := tWhile _ _) (fun σ' H' => ∃ t : Nat, σ' = [some (.int n), some (.int wd), some (.ref L), some (.int (pw wd t)), none, none] ∧ Same H H' ∧ H' L = some (.lst ((pws wd t).map V.int)) ∧ n < pw wd t ∧ (t = 0 ∨ pw wd (t - 1) ≤ n)) ?_ (fun nxt => ?_)
  rotate_left
  · refine while_W (fun m σ' H' => ∃ t : Nat, m = (n + 1 - pw wd t).toNat ∧ σ' = [some (.int n), some (.int wd), some (.ref L), some (.int (pw wd t)), none, none] ∧ Same H H' ∧ H' L = some (.lst ((pws wd t).map V.int)) ∧ (t = 0 ∨ pw wd (t - 1) ≤ n))
      ⟨_, 0, rfl, rfl, same_new hL _, upd_same, .inl rfl⟩ ?_
    rintro m σ' H' ⟨t, rfl, rfl, s1, h1, ht⟩
    refine ⟨_, rfl, _, rfl, _, _, rfl, rfl, _, rfl, iteD (fun c => ?_) (fun c => ?_)⟩
    · have c' : pw wd t ≤ n := c
      have p2 := pw_two w0 t
      have few := pw_few w0 c' n1
      have lt2 : t < 2 ^ t := Nat.lt_two_pow_self
      have plt := pw_lt w0 t
      refine ⟨fun σ' H' => ∃ m', m' < (n + 1 - pw wd t).toNat ∧ ∃ t : Nat, m' = (n + 1 - pw wd t).toNat ∧ σ' = [some (.int n), some (.int wd), some (.ref L), some (.int (pw wd t)), none, none] ∧ Same H H' ∧ H' L = some (.lst ((pws wd t).map V.int)) ∧ (t = 0 ∨ pw wd (t - 1) ≤ n), fun σ' H' h => h, ?_⟩
      refine ⟨_, rfl, .inl ⟨rfl, _, SqL.of h1⟩, _, rfl, L, _, _, rfl, rfl, h1, ?_, ?_⟩
      · rw [List.length_map, pws_len]
        have big : (1101 : Nat) < sizeLine := by decide
        omega
      refine ⟨_, rfl, _, rfl, _, _, rfl, rfl, ⟨⟨by omega, nbig (by omega) (by omega)⟩, ⟨by omega, nbig (by omega) (by omega)⟩⟩, _, ?_, t + 1, rfl, rfl, same_upd s1 hL, ?_, .inr c'⟩
      · show (n + 1 - pw wd (t + 1)).toNat < _
        omega
      · rw [upd_same, pws_succ, List.map_append]
        rfl
    · exact nxt _ _ ⟨t, rfl, s1, h1, by omega, ht⟩
  rintro σ' H1 ⟨t, rfl, s1, h1, hn, ht⟩
  have few : 2 ^ t ≤ 2200 := by
    rcases ht with z | z
    · rw [z]; decide
    · rcases t with _ | t
      · decide
      · have := pw_few w0 z n1
        rw [Nat.pow_succ]
        simp only [Nat.add_sub_cancel] at this
        omega
  -- parts = [number]
  refine ⟨_, rfl, (by show 1 ≤ sizeLine; decide), fun D0 hD0 => ?_⟩
  have s2 := s1.trans (same_new hD0 (HO.lst [V.int n]))
  have nL : L ≠ D0 := ne_of_none h1 hD0
  -- for middle in reversed(powers)
  try dsimp only [gName]
  refine cut_seq (t := tFor _ _ _) (fun σ' H' => ∃ (D : Addr) (v : Option V) (ps : List Int), σ' = [some (.int n), some (.int wd), some (.ref L), some (.int (pw wd t)), some (.ref D), v] ∧ Same H H' ∧ H D = none ∧ H' D = some (.lst (ps.map V.int)) ∧ InB wd ps ∧ valB wd ps = n ∧ ps.length ≤ 2200) ?_ (fun nxt => ?_)
  rotate_left
  · refine ⟨_, rfl, L, _, rfl, SqL.of (by rw [upd_ne nL]; exact h1), for_rev (K := K) (xs := (pws wd t).map V.int) (fun i σ' H' => ∃ (D : Addr) (v : Option V) (ps : List Int), σ' = [some (.int n), some (.int wd), some (.ref L), some (.int (pw wd t)), some (.ref D), v] ∧ Same H1 H' ∧ H1 D = none ∧ H' D = some (.lst (ps.map V.int)) ∧ InB (pw wd (t - i)) ps ∧ valB (pw wd (t - i)) ps = n ∧ ps.length = 2 ^ i)
      ⟨D0, none, [n], rfl, same_new hD0 _, hD0, upd_same, InB.cons n0 hn InB.nil, by simp [valB], rfl⟩ (fun i σ' H' _ ⟨_, _, _, _, s, _⟩ => SqL.of (s _ _ h1)) ?_ ?_⟩
    · rintro i y σ' H' hi hy ⟨D, v, ps, rfl, s3, fD, hD, hin, hval, hlen⟩
      rw [List.length_map, pws_len] at hi
      rw [List.length_map, pws_len] at hy
      have e1 : t - i = (t - 1 - i) + 1 := by omega
      have e2 : t - (i + 1) = t - 1 - i := by omega
      obtain ⟨z, rfl, hz⟩ := ints_at hy
      rw [pws_get (show t - 1 - i < t by omega)] at hz
      cases hz
      rw [e1] at hin hval
      have hp := pw_two w0 (t - 1 - i)
      have hle : pw wd (t - 1 - i) ≤ n := by
        rcases ht with z | z
        · omega
        · have mono : ∀ a b : Nat, pw wd a ≤ pw wd (a + b) := fun a b => by
            induction b with
            | zero => exact Int.le_refl _
            | succ b ih => exact Int.le_trans ih (Int.le_of_lt (pw_lt w0 (a + b)))
          have := mono (t - 1 - i) i
          rw [show t - 1 - i + i = t - 1 by omega] at this
          omega
      have li : 2 ^ i ≤ 2 ^ t := Nat.pow_le_pow_right (by decide) (by omega)
      refine ⟨_, rfl, _, rfl, D, _, ps, rfl, SqL.of hD, by omega, ⟨by omega, nbig (by omega) (by omega)⟩, fun l H'' s4 fl hl => ?_⟩
      refine ⟨l, _, halve (pw wd (t - 1 - i)) ps, rfl, s3.trans s4, s3.free fl, hl, ?_, ?_, ?_⟩
      · rw [e2]; exact halve_in (by omega) hin
      · rw [e2, halve_val]; exact hval
      · rw [halve_len, hlen, Nat.pow_succ]; omega
    · rintro σ' H' ⟨D, v, ps, rfl, s3, fD, hD, hin, hval, hlen⟩
      rw [List.length_map, pws_len] at hin hval hlen
      rw [Nat.sub_self] at hin hval
      exact nxt _ _ ⟨D, v, ps, rfl, s1.trans s3, s1.free fD, hD, hin, hval, by omega⟩
  rintro σ' H2 ⟨D, v, ps, rfl, s3, fD, hD, hin, hval, hlen⟩
  -- while parts and parts[-1] == 0: parts.pop()
  try dsimp only [gName]
  refine cut_seq (t := tWhile _ _) (fun σ' H' => ∃ ps : List Int, σ' = [some (.int n), some (.int wd), some (.ref L), some (.int (pw wd t)), some (.ref D), v] ∧ Same H H' ∧ H' D = some (.lst (ps.map V.int)) ∧ Figs wd n ps ∧ ps.length ≤ 2200) ?_ (fun nxt => ?_)
  rotate_left
  · refine while_W (fun m σ' H' => ∃ ps : List Int, m = ps.length ∧ σ' = [some (.int n), some (.int wd), some (.ref L), some (.int (pw wd t)), some (.ref D), v] ∧ Same H H' ∧ H' D = some (.lst (ps.map V.int)) ∧ InB wd ps ∧ valB wd ps = n ∧ ps.length ≤ 2200) ⟨_, ps, rfl, rfl, s3, hD, hin, hval, hlen⟩ ?_
    rintro m σ' H' ⟨ps, rfl, rfl, s4, h4, hin, hval, hlen⟩
    rcases last_cases ps with rfl | ⟨r, x, rfl⟩
    · refine ⟨_, rfl, _, .inl ⟨_, SqL.of h4, rfl⟩, iteF (iteF ?_)⟩
      exact nxt _ _ ⟨[], rfl, s4, h4, ⟨hin, hval, fun d h => by cases h⟩, hlen⟩
    · have ix : atI ((r ++ [x]).map V.int) (-1) = some (.int x) := by
        rw [List.map_append]
        exact atI_last _ _
      refine ⟨_, rfl, _, .inl ⟨_, SqL.of h4, rfl⟩, ?_⟩
      have ne : (!((r ++ [x]).map V.int).isEmpty) = true := by simp
      rw [ne]
      refine iteT ⟨_, rfl, _, rfl, D, _, _, _, rfl, rfl, SqL.of h4, ix, rfl, _, rfl, iteI (fun c => ?_) (fun c => ?_)⟩
      · have hr : valB wd r = n := by
          rw [valB_snoc, c, Int.zero_mul, Int.add_zero] at hval
          exact hval
        refine ⟨fun σ' H' => ∃ m', m' < (r ++ [x]).length ∧ ∃ ps : List Int, m' = ps.length ∧ σ' = [some (.int n), some (.int wd), some (.ref L), some (.int (pw wd t)), some (.ref D), v] ∧ Same H H' ∧ H' D = some (.lst (ps.map V.int)) ∧ InB wd ps ∧ valB wd ps = n ∧ ps.length ≤ 2200, fun σ' H' h => h, ?_⟩
        refine ⟨_, rfl, .inl ⟨rfl, _, SqL.of h4⟩, D, _, V.int x, rfl, rfl, h4, by simp, ?_⟩
        · refine ⟨r.length, by simp, r, rfl, rfl, same_upd s4 fD, ?_, fun p hp => hin p (List.mem_append_left _ hp), hr, ?_⟩
          · rw [upd_same, List.map_append]
            show some (HO.lst ((r.map V.int ++ [V.int x]).dropLast)) = _
            rw [List.dropLast_concat]
          · rw [List.length_append] at hlen
            omega
      · exact nxt _ _ ⟨r ++ [x], rfl, s4, h4, ⟨hin, hval, fun d h => by
          rw [List.getLast?_concat] at h
          cases h
          exact c⟩, hlen⟩
  rintro σ' H3 ⟨ps, rfl, s4, h4, FG, hlen⟩
  refine ⟨_, rfl, D, _, rfl, .inl ⟨SqL.of h4, fun T hT => ?_⟩⟩
  exact k T _ ps (s4.trans (same_new hT _)) upd_same FG (by omega)
end
/-! ### what is refused: the program -/
def spWholeG : Sp := fun vs H Q _ => ∃ y : V, vs = [y] ∧ Pl H y ∧ Q (.bl (isIntV y)) H
theorem iteB {c : Bool} {A B : Prop} (h1 : c = true → A) (h2 : c = false → B) : if c = true then A else B := by
  cases c
  · exact iteF (h2 rfl)
  · exact iteT (h1 rfl)
theorem iteBn {c : Bool} {A B : Prop} (h1 : c = false → A) (h2 : c = true → B) : if (!c) = true then A else B := by
  cases c
  · exact iteT (h1 rfl)
  · exact iteF (h2 rfl)
/-- a whole number from lo on -/
def whF (lo : Int) : V → Bool
  | .int z => decide (lo ≤ z)
  | _ => false
def spFromG : Sp := fun vs H Q _ => ∃ (y : V) (lo : Int), vs = [y, .int lo] ∧ Pl H y ∧ Q (.bl (whF lo y)) H
def spNeedX (C : Addr) : Sp := fun vs H Q E => ∃ (y : V) (lo : Int) (x : Str), vs = [y, .int lo, .str x] ∧ Pl H y ∧ x.length ≤ 1000 ∧ (lo.natAbs.log2 < 1920 ∧ (Str.ofString (toString lo)).length ≤ 1000) ∧ (whF lo y = true → Q .non H) ∧ (whF lo y = false → E (.ref C) none H)
/-- whole from lo to hi -/
def wholeIn (lo hi : Int) : V → Bool
  | .int z => decide (lo ≤ z) && decide (z ≤ hi)
  | _ => false
def spWithinG : Sp := fun vs H Q _ => ∃ (y : V) (lo hi : Int), vs = [y, .int lo, .int hi] ∧ Pl H y ∧ Q (.bl (wholeIn lo hi y)) H
/-- a row: a list or a tuple -/
def RowV (H : Hp) (y : V) : Prop := ∃ a xs, y = .ref a ∧ (H a = some (.lst xs) ∨ H a = some (.tup xs))
def spRowX (C : Addr) : Sp := fun vs H Q E => ∃ (y : V) (x : Str), vs = [y, .str x] ∧ Pl H y ∧ x.length ≤ 1000 ∧ (RowV H y → ∀ H', Same H H' → Q .non H') ∧ (¬ RowV H y → ∀ H', Same H H' → E (.ref C) none H')
def spFigY (C : Addr) : Sp := fun vs H Q E => ∃ y v : V, vs = [y, v] ∧ Pl H y ∧ Pl H v ∧ (whF 0 y = true → whF 2 v = false) ∧ E (.ref C) none H
/-- what number_of refuses -/
def spNumX (C : Addr) : Sp := fun vs H Q E => ∃ y v : V, vs = [y, v] ∧ Pl H y ∧ Pl H v ∧ (whF 2 v = true → RowV H y → ∃ (w : Int) (a : Addr) (xs : List V), v = .int w ∧ y = .ref a ∧ (H a = some (.lst xs) ∨ H a = some (.tup xs)) ∧ (∀ z ∈ xs, Pl H z) ∧ ∃ z ∈ xs, wholeIn 0 (w - 1) z = false) ∧
  ∀ H', Same H H' → E (.ref C) none H'
theorem pl_row {K : PySem.W.Frag} {H : Hp} {y : V} (h : Pl H y) : ∃ t b, TyOf K H y t ∧ PySem.W.kitAny K t (["tuple", "list"].map Value.type) = some b ∧ (b = true ↔ RowV H y) := by
  cases h with
  | non => exact ⟨_, false, .non, by with_unfolding_all rfl, ⟨(fun z => by cases z), (fun ⟨a, xs, z, _⟩ => by cases z)⟩⟩
  | bl b => exact ⟨_, false, .bl b, by with_unfolding_all rfl, ⟨(fun z => by cases z), (fun ⟨a, xs, z, _⟩ => by cases z)⟩⟩
  | int i => exact ⟨_, false, .int i, by with_unfolding_all rfl, ⟨(fun z => by cases z), (fun ⟨a, xs, z, _⟩ => by cases z)⟩⟩
  | str x => exact ⟨_, false, .str x, by with_unfolding_all rfl, ⟨(fun z => by cases z), (fun ⟨a, xs, z, _⟩ => by cases z)⟩⟩
  | @lst a xs e => exact ⟨_, true, .lst e, by with_unfolding_all rfl, ⟨fun _ => ⟨a, xs, rfl, .inl e⟩, fun _ => rfl⟩⟩
  | @tup a xs e => exact ⟨_, true, .tup e, by with_unfolding_all rfl, ⟨fun _ => ⟨a, xs, rfl, .inr e⟩, fun _ => rfl⟩⟩
  | @dK a kvs e => exact ⟨_, false, .dK e, by with_unfolding_all rfl, ⟨(fun z => by cases z), (fun ⟨a', xs, z, q⟩ => by
      cases z
      rw [e] at q
      rcases q with q | q <;> cases q)⟩⟩
section
variable {P : Program} {w : World} {K : PySem.W.Frag} {mg : Str → Option Value} {base : Heap} {f : Addr} {fd : FuncData} {dV : Value} {C : Addr}
theorem ok_is_wholeG (F : FunD K "is_whole" "is_whole" s_is_whole dV f fd) (z_isinstance : mg "isinstance" = none) (z_int : mg "int" = none) (z_bool : mg "bool" = none) : FnOk P w K mg base CX0 1 f fd ["thing"] spWholeG := by
  refine F.ok sc_is_whole (fun vs H Q E h => ?_) (fun cdv A outer s H vs Q E hr h => ?_)
  · obtain ⟨y, rfl, _⟩ := h
    rfl
  obtain ⟨y, rfl, hp, q⟩ := h
  refine ⟨_, (pss_one (ps_ret (pe_and (pe_callB call_isi (by rfl) z_isinstance bt_isinstance (pa_cons (pv 0) (pa_cons (pe_bltn (v := .ty "int") rfl z_int bt_int rfl) pa_nil))) (pe_one (pe_not (pe_callB call_isi (by rfl) z_isinstance bt_isinstance (pa_cons (pv 0) (pa_cons (pe_bltn (v := .ty "bool") rfl z_bool bt_bool rfl) pa_nil)))))))), ?_⟩
  obtain ⟨t, bi, bb, bt, ty, ki, kb, _, e, _⟩ := hp.isi (K := K)
  refine ⟨_, rfl, _, _, _, _, rfl, ty, ki, _, rfl, iteB (fun c => ?_) (fun c => ?_)⟩
  · refine ⟨_, rfl, _, _, _, _, rfl, ty, kb, _, rfl, ?_⟩
    rw [c, Bool.true_and] at e
    rw [e]
    exact q
  · rw [c, Bool.false_and] at e
    rw [← e] at q
    exact q
theorem ok_fromG (F : FunD K "is_whole_from" "is_whole_from" s_is_whole_from dV f fd) (G_is_whole : DefOk P w K mg base "is_whole" 1 ["thing"] [] spWholeG) : FnOk P w K mg base CX0 2 f fd ["thing", "least"] spFromG := by
  refine F.ok sc_is_whole_from (fun vs H Q E h => ?_) (fun cdv A outer s H vs Q E hr h => ?_)
  · obtain ⟨y, lo, rfl, _⟩ := h
    rfl
  obtain ⟨y, lo, rfl, hp, q⟩ := h
  refine ⟨_, (pss_one (ps_ret (pe_and (pe_cd G_is_whole hr (pa_cons (pv 0) pa_nil)) (pe_one (pe_cmpR op_ge (pv 0) (pv 1) (nomark _)))))), ?_⟩
  refine ⟨_, rfl, y, rfl, hp, _, rfl, iteB (fun c => ?_) (fun c => ?_)⟩
  · cases y with
    | int z => exact ⟨_, rfl, _, rfl, _, _, rfl, rfl, q⟩
    | _ => cases c
  · cases y with
    | int z => cases c
    | _ => exact q
theorem ok_needX (F : FunD K "need_whole" "need_whole" s_need_whole dV f fd) (G_is_whole_from : DefOk P w K mg base "is_whole_from" 2 ["thing", "least"] [] spFromG) (g_NoFigures : mg "NoFigures" = some (.ref C)) (q_NoFigures : PySem.W.excIn K C VEm "ValueError.__new__" = true) :
    FnOk P w K mg base (CX1 P w) 3 f fd ["thing", "least", "called"] (spNeedX C) := by
  refine F.okX sc_need_whole (fun vs H Q E h => ?_) (fun cdv A outer s H vs Q E hr h => ?_)
  · obtain ⟨y, lo, x, rfl, _⟩ := h
    rfl
  obtain ⟨y, lo, x, rfl, hp, hx, ⟨l1, l2⟩, q1, q2⟩ := h
  refine ⟨_, (pss_one (ps_if (pt_not (pt_val (pe_c0 G_is_whole_from hr (pa_cons (pv 0) (pa_cons (pv 1) pa_nil))))) (pss_one (ps_raise q_NoFigures rfl g_NoFigures thr_def (pa_cons (pe_join (pfs_cons (pf_fmt (pv 2)) (pfs_cons pf_str (pfs_cons (pf_fmt (pv 1)) (pfs_cons pf_str pfs_nil))))) pa_nil))) pss_nil)), ?_⟩
  refine ⟨_, rfl, _, rfl, y, lo, rfl, hp, _, rfl, iteBn (fun c => ?_) (fun c => q1 c)⟩
  refine ⟨_, rfl, .inl ⟨x, rfl, hx, ?_⟩⟩
  refine ⟨_, rfl, .inr ⟨lo, rfl, l1, l2, ?_⟩⟩
  exact fun z => ⟨(by show 1 ≤ 8; decide), q2 c⟩
theorem sc_need_row : FnScope ["thing", "called"] ["thing", "called"] (defScope s_need_row) := ⟨rfl, rfl, rfl, by decide +kernel, rfl, by decide +kernel, by decide +kernel⟩
theorem sc_is_whole_within : FnScope ["thing", "least", "most"] ["thing", "least", "most"] (defScope s_is_whole_within) := ⟨rfl, rfl, rfl, by decide +kernel, rfl, by decide +kernel, by decide +kernel⟩
theorem sc_number_of : FnScope ["row", "wide", "figure", "parts", "middle"] ["row", "wide"] (defScope s_number_of) := ⟨rfl, rfl, rfl, by decide +kernel, rfl, by decide +kernel, by decide +kernel⟩
theorem ok_withinG (F : FunD K "is_whole_within" "is_whole_within" s_is_whole_within dV f fd) (G_is_whole : DefOk P w K mg base "is_whole" 1 ["thing"] [] spWholeG) : FnOk P w K mg base CX0 2 f fd ["thing", "least", "most"] spWithinG := by
  refine F.ok sc_is_whole_within (fun vs H Q E h => ?_) (fun cdv A outer s H vs Q E hr h => ?_)
  · obtain ⟨y, lo, hi, rfl, _⟩ := h
    rfl
  obtain ⟨y, lo, hi, rfl, hp, q⟩ := h
  refine ⟨_, (pss_one (ps_ret (pe_and (pe_cd G_is_whole hr (pa_cons (pv 0) pa_nil)) (pe_one (pe_chain op_le op_le (pv 1) (pv 0) (pv 2)))))), ?_⟩
  refine ⟨_, rfl, y, rfl, hp, _, rfl, iteB (fun c => ?_) (fun c => ?_)⟩
  · cases y with
    | int z =>
      have q' : Q (.bl (decide (lo ≤ z) && decide (z ≤ hi))) H := q
      refine ⟨_, rfl, _, rfl, _, _, rfl, rfl, _, rfl, iteD (fun c1 => ?_) (fun c1 => ?_)⟩
      · rw [decide_eq_true c1, Bool.true_and] at q'
        exact ⟨_, rfl, _, _, rfl, rfl, q'⟩
      · rw [decide_eq_false c1, Bool.false_and] at q'
        exact q'
    | _ => cases c
  · have e : wholeIn lo hi y = false := by
      cases y with
      | int z => cases c
      | _ => rfl
    rw [e] at q
    exact q
theorem ok_need_rowX (F : FunD K "need_row" "need_row" s_need_row dV f fd) (g_NoFigures : mg "NoFigures" = some (.ref C)) (q_NoFigures : PySem.W.excIn K C VEm "ValueError.__new__" = true) (z_isinstance : mg "isinstance" = none) (z_tuple : mg "tuple" = none) (z_list : mg "list" = none) :
    FnOk P w K mg base (CX1 P w) 1 f fd ["thing", "called"] (spRowX C) := by
  refine F.okX sc_need_row (fun vs H Q E h => ?_) (fun cdv A outer s H vs Q E hr h => ?_)
  · obtain ⟨y, x, rfl, _⟩ := h
    rfl
  obtain ⟨y, x, rfl, hp, hx, q1, q2⟩ := h
  refine ⟨_, (pss_one (ps_if (pt_not (pt_val (pe_callB call_isiT (by rfl) z_isinstance bt_isinstance (pa_cons (pv 0) (pa_cons (pe_tup (pa_cons (pe_bltn (v := .ty "tuple") rfl z_tuple bt_tuple rfl) (pa_cons (pe_bltn (v := .ty "list") rfl z_list bt_list rfl) pa_nil))) pa_nil))))) (pss_one (ps_raise q_NoFigures rfl g_NoFigures thr_def (pa_cons (pe_join (pfs_cons (pf_fmt (pv 1)) (pfs_cons pf_str pfs_nil))) pa_nil))) pss_nil)), ?_⟩
  refine ⟨_, rfl, (by show 2 ≤ sizeLine; decide), fun p hp' => ?_⟩
  have s1 := same_new hp' (HO.tup [V.ty "tuple", V.ty "list"])
  obtain ⟨t, b, ty, kb, hb⟩ := pl_row (K := K) (hp.same s1)
  have back : RowV (upd H p (HO.tup [V.ty "tuple", V.ty "list"])) y → RowV H y := by
    rintro ⟨a, xs, rfl, e⟩
    have ne : a ≠ p := by
      intro z
      subst z
      cases hp with
      | lst e => rw [hp'] at e; cases e
      | tup e => rw [hp'] at e; cases e
      | dK e => rw [hp'] at e; cases e
    rw [upd_ne ne] at e
    exact ⟨a, xs, rfl, e⟩
  have fwd : RowV H y → RowV (upd H p (HO.tup [V.ty "tuple", V.ty "list"])) y := fun ⟨a, xs, z, e⟩ => ⟨a, xs, z, e.imp (s1 _ _) (s1 _ _)⟩
  refine ⟨_, p, ["tuple", "list"], _, _, rfl, upd_same, ty, kb, _, rfl, iteBn (fun c => ?_) (fun c => q1 (back (hb.mp c)) _ s1)⟩
  refine ⟨_, rfl, .inl ⟨x, rfl, hx, ?_⟩⟩
  exact fun z => ⟨(by show 1 ≤ 8; decide), q2 (fun r => by rw [hb.mpr (fwd r)] at c; cases c) _ s1⟩
theorem ok_number_ofX (F : FunD K "number_of" "number_of" s_number_of dV f fd) (GX_need_whole : DefX P w K mg base "need_whole" 3 ["thing", "least", "called"] [] (spNeedX C)) (GX_need_row : DefX P w K mg base "need_row" 1 ["thing", "called"] [] (spRowX C))
    (G_is_whole_within : DefOk P w K mg base "is_whole_within" 2 ["thing", "least", "most"] [] spWithinG) (g_NoFigures : mg "NoFigures" = some (.ref C)) (q_NoFigures : PySem.W.excIn K C VEm "ValueError.__new__" = true) : FnOk P w K mg base (CX1 P w) 4 f fd ["row", "wide"] (spNumX C) := by
  refine F.okX sc_number_of (fun vs H Q E h => ?_) (fun cdv A outer s H vs Q E hr h => ?_)
  · obtain ⟨y, v, rfl, _⟩ := h
    rfl
  obtain ⟨y, v, rfl, hy, hv, hx, q⟩ := h
  by_cases hg : whF 2 v = true ∧ RowV H y
  · obtain ⟨w, a, xs, rfl, rfl, hxs, hpl, z, hz, hbad⟩ := hx hg.1 hg.2
    rcases hxs with hxs | hxs
    · refine ⟨_, (pss_cons (ps_expr (pe_cx GX_need_whole hr pass_def (pa_cons (pv 1) (pa_cons pe_int (pa_cons pe_str pa_nil)))))
      (pss_cons (ps_expr (pe_cx GX_need_row hr pass_def (pa_cons (pv 0) (pa_cons pe_str pa_nil))))
      (pss_stop (ps_for PassesOwn.leaving rfl (pi_list (pv 0)) (pg_name (i := 2) sc_number_of.nd rfl (Or.inl rfl)) (pss_one (ps_if (pt_not (pt_val (pe_c0 G_is_whole_within hr (pa_cons (pv 2) (pa_cons pe_int (pa_cons (pe_op op_sub (pv 1) pe_int) pa_nil)))))) (pss_one (ps_raise q_NoFigures rfl g_NoFigures thr_def (pa_cons pe_str pa_nil))) pss_nil)))))), ?_⟩
      refine ⟨_, rfl, .int w, 2, _, rfl, .int w, by decide, ⟨by decide, by decide⟩, fun c => ?_, fun c => q _ (Same.refl _)⟩
      refine ⟨_, rfl, .ref a, _, rfl, hy, by decide, fun r H1 s1 => ?_, fun _ H' s' => q _ s'⟩
      refine ⟨_, rfl, a, rfl, ⟨_, SqL.of (s1 _ _ hxs)⟩, for_list (K := K) (xs := xs) (fun i σ' H' => ∃ v, σ' = [some (.ref a), some (.int w), v, none, none] ∧ Same H1 H' ∧ ∀ z ∈ xs.take i, wholeIn 0 (w - 1) z = true) ⟨none, rfl, Same.refl _, (fun z hz => by cases hz)⟩ (fun i σ' H' _ ⟨_, _, e, _⟩ => SqL.of (e _ _ (s1 _ _ hxs))) ?_ ?_⟩
      · rintro i x σ' H' hi ⟨v, rfl, s2, hall⟩
        have hmem : x ∈ xs := List.mem_of_getElem? hi
        refine ⟨_, rfl, _, rfl, _, _, rfl, rfl, x, 0, w - 1, rfl, ((hpl x hmem).same s1).same s2, _, rfl, iteBn (fun c => ?_) (fun c => ?_)⟩
        · exact ⟨(by show 1 ≤ 8; decide), q _ (s1.trans s2)⟩
        · refine ⟨_, rfl, s2, fun z hz => ?_⟩
          rw [List.take_add_one, hi] at hz
          rcases List.mem_append.mp hz with hz | hz
          · exact hall z hz
          · rw [List.mem_singleton.mp hz]
            exact c
      · rintro σ' H' ⟨v, rfl, s2, hall⟩
        rw [List.take_length] at hall
        have := hall z hz
        rw [hbad] at this
        cases this
    · refine ⟨_, (pss_cons (ps_expr (pe_cx GX_need_whole hr pass_def (pa_cons (pv 1) (pa_cons pe_int (pa_cons pe_str pa_nil)))))
      (pss_cons (ps_expr (pe_cx GX_need_row hr pass_def (pa_cons (pv 0) (pa_cons pe_str pa_nil))))
      (pss_stop (ps_for PassesOwn.leaving rfl (pi_tup (pv 0)) (pg_name (i := 2) sc_number_of.nd rfl (Or.inl rfl)) (pss_one (ps_if (pt_not (pt_val (pe_c0 G_is_whole_within hr (pa_cons (pv 2) (pa_cons pe_int (pa_cons (pe_op op_sub (pv 1) pe_int) pa_nil)))))) (pss_one (ps_raise q_NoFigures rfl g_NoFigures thr_def (pa_cons pe_str pa_nil))) pss_nil)))))), ?_⟩
      refine ⟨_, rfl, .int w, 2, _, rfl, .int w, by decide, ⟨by decide, by decide⟩, fun c => ?_, fun c => q _ (Same.refl _)⟩
      refine ⟨_, rfl, .ref a, _, rfl, hy, by decide, fun r H1 s1 => ?_, fun _ H' s' => q _ s'⟩
      refine ⟨_, rfl, a, rfl, ⟨_, SqT.of (s1 _ _ hxs)⟩, for_tup (K := K) (xs := xs) (fun i σ' H' => ∃ v, σ' = [some (.ref a), some (.int w), v, none, none] ∧ Same H1 H' ∧ ∀ z ∈ xs.take i, wholeIn 0 (w - 1) z = true) ⟨none, rfl, Same.refl _, (fun z hz => by cases hz)⟩ (fun i σ' H' _ ⟨_, _, e, _⟩ => SqT.of (e _ _ (s1 _ _ hxs))) ?_ ?_⟩
      · rintro i x σ' H' hi ⟨v, rfl, s2, hall⟩
        have hmem : x ∈ xs := List.mem_of_getElem? hi
        refine ⟨_, rfl, _, rfl, _, _, rfl, rfl, x, 0, w - 1, rfl, ((hpl x hmem).same s1).same s2, _, rfl, iteBn (fun c => ?_) (fun c => ?_)⟩
        · exact ⟨(by show 1 ≤ 8; decide), q _ (s1.trans s2)⟩
        · refine ⟨_, rfl, s2, fun z hz => ?_⟩
          rw [List.take_add_one, hi] at hz
          rcases List.mem_append.mp hz with hz | hz
          · exact hall z hz
          · rw [List.mem_singleton.mp hz]
            exact c
      · rintro σ' H' ⟨v, rfl, s2, hall⟩
        rw [List.take_length] at hall
        have := hall z hz
        rw [hbad] at this
        cases this
  · refine ⟨_, (pss_cons (ps_expr (pe_cx GX_need_whole hr pass_def (pa_cons (pv 1) (pa_cons pe_int (pa_cons pe_str pa_nil)))))
      (pss_stop (ps_expr (pe_cx GX_need_row hr pass_def (pa_cons (pv 0) (pa_cons pe_str pa_nil)))))), ?_⟩
    refine ⟨_, rfl, v, 2, _, rfl, hv, by decide, ⟨by decide, by decide⟩, fun c => ?_, fun c => q _ (Same.refl _)⟩
    exact ⟨_, rfl, y, _, rfl, hy, by decide, fun r => absurd ⟨c, r⟩ hg, fun _ H' s' => q _ s'⟩
end
/-- a promise in two parts -/
theorem fn_or {P : Program} {w : World} {K : PySem.W.Frag} {mg : Str → Option Value} {base : Heap} {CX : CXT} {k : Nat} {f : Addr} {fd : FuncData} {ps : List Str} {sp sp' : Sp} (F : FnOk P w K mg base CX k f fd ps sp) (F' : FnOk P w K mg base CX k f fd ps sp') :
    FnOk P w K mg base CX k f fd ps (fun vs H Q E => sp vs H Q E ∨ sp' vs H Q E) :=
  ⟨fun vs H Q E h => h.elim (F.len vs H Q E) (F'.len vs H Q E), fun A outer s H args us vs Q E hr he hb hv hs => hs.elim (F.run A outer s H args us vs Q E hr he hb hv) (F'.run A outer s H args us vs Q E hr he hb hv)⟩
section
variable {P : Program} {w : World} {K : PySem.W.Frag} {mg : Str → Option Value} {base : Heap} {f : Addr} {fd : FuncData} {dV : Value} {C : Addr}
theorem sc_apart : FnScope ["number", "base", "many", "laid"] ["number", "base", "many"] (defScope s_apart) := ⟨rfl, rfl, rfl, by decide +kernel, rfl, by decide +kernel, by decide +kernel⟩
theorem bk_apart_0 : BlkScope ["number", "base", "many", "laid"] (defScope s_apart) ["at", "base", "laid", "many"] [none, some 1, some 3, some 2] { kind := ScopeKind.function, names := [(".0", NameKind.local), ("at", NameKind.local), ("number_of", NameKind.globalImplicit), ("base", NameKind.free), ("laid", NameKind.free), ("many", NameKind.free)], isGenerator := false, isCoroutine := false, more := [] } := ⟨rfl, by decide +kernel, by decide +kernel, by decide +kernel, by decide +kernel, rfl, by decide +kernel⟩
theorem ok_figuresY (F : FunD K "figures" "figures" s_figures dV f fd) (GX_need_whole : DefX P w K mg base "need_whole" 3 ["thing", "least", "called"] [] (spNeedX C)) : FnOk P w K mg base (CX1 P w) 4 f fd ["number", "wide"] (spFigY C) := by
  refine F.okX sc_figures (fun vs H Q E h => ?_) (fun cdv A outer s H vs Q E hr h => ?_)
  · obtain ⟨y, v, rfl, _⟩ := h
    rfl
  obtain ⟨y, v, rfl, hp, hv, hw, q⟩ := h
  refine ⟨_, (pss_cons (ps_expr (pe_cx GX_need_whole hr pass_def (pa_cons (pv 0) (pa_cons pe_int (pa_cons pe_str pa_nil)))))
      (pss_stop (ps_expr (pe_cx GX_need_whole hr pass_def (pa_cons (pv 1) (pa_cons pe_int (pa_cons pe_str pa_nil))))))), ?_⟩
  refine ⟨_, rfl, y, 0, _, rfl, hp, by decide, ⟨by decide, by decide⟩, fun c => ?_, fun c => q⟩
  refine ⟨_, rfl, v, 2, _, rfl, hv, by decide, ⟨by decide, by decide⟩, fun c2 => ?_, fun c2 => q⟩
  rw [hw c] at c2
  cases c2
/-- what apart refuses -/
def spApartX (C : Addr) : Sp := fun vs H Q E => ∃ y v m : V, vs = [y, v, m] ∧ Pl H y ∧ Pl H v ∧ Pl H m ∧
  (whF 2 v = true → whF 0 m = true → whF 0 y = true → ∃ n w : Int, y = .int n ∧ v = .int w ∧ m = .int 0 ∧ (0 < n ∧ n < NB) ∧ (2 ≤ w ∧ w < NB)) ∧ ∀ H', Same H H' → E (.ref C) none H'
theorem ok_apartX (F : FunD K "apart" "apart" s_apart dV f fd) (GX_need_whole : DefX P w K mg base "need_whole" 3 ["thing", "least", "called"] [] (spNeedX C)) (GX_figures : DefX P w K mg base "figures" 4 ["number", "wide"] [] (spFigY C)) (G_figures : DefOk P w K mg base "figures" 4 ["number", "wide"] [] (spFigures K))
    (g_NoFigures : mg "NoFigures" = some (.ref C)) (q_NoFigures : PySem.W.excIn K C VEm "ValueError.__new__" = true) : FnOk P w K mg base (CX1 P w) 5 f fd ["number", "base", "many"] (spApartX C) := by
  refine F.okX sc_apart (fun vs H Q E h => ?_) (fun cdv A outer s H vs Q E hr h => ?_)
  · obtain ⟨y, v, m, rfl, _⟩ := h
    rfl
  obtain ⟨y, v, m, rfl, hy, hv, hm, hx, q⟩ := h
  by_cases hg : whF 2 v = true ∧ whF 0 m = true ∧ whF 0 y = true
  · obtain ⟨n, wd, rfl, rfl, rfl, hn, hw⟩ := hx hg.1 hg.2.1 hg.2.2
    refine ⟨_, (pss_cons (ps_expr (pe_cx GX_need_whole hr pass_def (pa_cons (pv 1) (pa_cons pe_int (pa_cons pe_str pa_nil)))))
      (pss_cons (ps_expr (pe_cx GX_need_whole hr pass_def (pa_cons (pv 2) (pa_cons pe_int (pa_cons pe_str pa_nil)))))
      (pss_cons (ps_set (i := 3) sc_apart.nd rfl (Or.inr rfl) (pe_c0 G_figures hr (pa_cons (pv 0) (pa_cons (pv 1) pa_nil))))
      (pss_stop (ps_if (PW.pt (pw_and (pt_cmpR op_eq (pv 2) pe_int (nomark _)) (pw_and1 (pt_cmpR op_ne (pv 0) pe_int (nomark _))))) (pss_one (ps_raise q_NoFigures rfl g_NoFigures thr_def (pa_cons pe_str pa_nil))) pss_nil))))), ?_⟩
    refine ⟨_, rfl, .int wd, 2, _, rfl, hv, by decide, ⟨by decide, by decide⟩, fun c => ?_, fun c => q _ (Same.refl _)⟩
    refine ⟨_, rfl, .int 0, 0, _, rfl, hm, by decide, ⟨by decide, by decide⟩, fun c => ?_, fun c => q _ (Same.refl _)⟩
    refine ⟨_, rfl, _, rfl, n, wd, rfl, ⟨by omega, hn.2⟩, hw, fun t H' ds s1 ht Fd hl => ?_⟩
    refine ⟨_, rfl, rfl, _, rfl, iteI (fun _ => ?_) (fun c => absurd rfl c)⟩
    refine ⟨_, rfl, rfl, _, rfl, ?_⟩
    refine iteDn (fun _ => ?_) (fun c => ?_)
    · exact ⟨(by show 1 ≤ 8; decide), q _ s1⟩
    · have := V.int.inj c
      omega
  · refine ⟨_, (pss_cons (ps_expr (pe_cx GX_need_whole hr pass_def (pa_cons (pv 1) (pa_cons pe_int (pa_cons pe_str pa_nil)))))
      (pss_cons (ps_expr (pe_cx GX_need_whole hr pass_def (pa_cons (pv 2) (pa_cons pe_int (pa_cons pe_str pa_nil)))))
      (pss_stop (ps_set (i := 3) sc_apart.nd rfl (Or.inr rfl) (pe_cx GX_figures hr pass_def (pa_cons (pv 0) (pa_cons (pv 1) pa_nil))))))), ?_⟩
    refine ⟨_, rfl, v, 2, _, rfl, hv, by decide, ⟨by decide, by decide⟩, fun c => ?_, fun c => q _ (Same.refl _)⟩
    refine ⟨_, rfl, m, 0, _, rfl, hm, by decide, ⟨by decide, by decide⟩, fun c2 => ?_, fun c2 => q _ (Same.refl _)⟩
    exact ⟨_, rfl, _, rfl, y, v, rfl, hy, hv, (fun z => absurd ⟨c, c2, z⟩ hg), q _ (Same.refl _)⟩
end
end My

set_option Elab.async false
set_option linter.all false
set_option maxRecDepth 100000
set_option maxHeartbeats 8000000
namespace My
open PySem L2
/-! ### joint refused: an exception out of a comprehension -/
def spFigAny (K : PySem.W.Frag) (C : Addr) : Sp := fun vs H Q E => spFigures K vs H Q E ∨ spFigY C vs H Q E
def spJointX (C : Addr) : Sp := fun vs H Q E => ∃ y v : V, vs = [y, v] ∧ Pl H y ∧ Pl H v ∧ (whF 2 v = true → RowV H y → ∃ (wd : Int) (a : Addr) (xs : List V), v = .int wd ∧ wd < NB ∧ y = .ref a ∧ (H a = some (.lst xs) ∨ H a = some (.tup xs)) ∧ xs.length ≤ 1000 ∧ (∀ z ∈ xs, Pl H z) ∧
  (∀ n : Int, V.int n ∈ xs → n < NB) ∧ ∃ z ∈ xs, whF 0 z = false) ∧ ∀ H', Same H H' → E (.ref C) none H'
section
variable {P : Program} {w : World} {K : PySem.W.Frag} {mg : Str → Option Value} {base : Heap} {f : Addr} {fd : FuncData} {dV : Value} {C : Addr}
theorem sc_joint : FnScope ["numbers", "base", "rows", "laid", "place", "row"] ["numbers", "base"] (defScope s_joint) := ⟨rfl, rfl, rfl, by decide +kernel, rfl, by decide +kernel, by decide +kernel⟩
theorem bk_joint_0 : BlkScope ["numbers", "base", "rows", "laid", "place", "row"] (defScope s_joint) ["number", "base"] [none, some 1] { kind := ScopeKind.function, names := [(".0", NameKind.local), ("number", NameKind.local), ("figures", NameKind.globalImplicit), ("base", NameKind.free)], isGenerator := false, isCoroutine := false, more := [] } := ⟨rfl, by decide +kernel, by decide +kernel, by decide +kernel, by decide +kernel, rfl, by decide +kernel⟩
theorem bk_joint_1 : BlkScope ["numbers", "base", "rows", "laid", "place", "row"] (defScope s_joint) ["row"] [none] { kind := ScopeKind.function, names := [(".0", NameKind.local), ("row", NameKind.local), ("len", NameKind.globalImplicit)], isGenerator := false, isCoroutine := false, more := [] } := ⟨rfl, by decide +kernel, by decide +kernel, by decide +kernel, by decide +kernel, rfl, by decide +kernel⟩
theorem ok_jointX (F : FunD K "joint" "joint" s_joint dV f fd) (GX_need_whole : DefX P w K mg base "need_whole" 3 ["thing", "least", "called"] [] (spNeedX C)) (GX_need_row : DefX P w K mg base "need_row" 1 ["thing", "called"] [] (spRowX C))
    (GX_figures : DefX P w K mg base "figures" 4 ["number", "wide"] [] (spFigAny K C)) : FnOk P w K mg base (CX1 P w) 5 f fd ["numbers", "base"] (spJointX C) := by
  refine F.okX sc_joint (fun vs H Q E h => ?_) (fun cdv A outer s H vs Q E hr h => ?_)
  · obtain ⟨y, v, rfl, _⟩ := h
    rfl
  obtain ⟨y, v, rfl, hy, hv, hx, q⟩ := h
  by_cases hg : whF 2 v = true ∧ RowV H y
  · obtain ⟨wd, a, xs, rfl, hw, rfl, hxs, hxl, hpl, hnb, z, hz, hbad⟩ := hx hg.1 hg.2
    have hw2 : 2 ≤ wd := of_decide_eq_true hg.1
    have body : ∀ H1 (J : It), Same H H1 → ((J = Itl K a ∧ SqL K H1 a xs) ∨ (J = Itt K a ∧ SqT K H1 a xs)) → ∀ Qd, CompWX J [none, some 1] (gName 0) (tXCall (spFigAny K C) [] (tCons (tVar 0) (tCons (tVar 1) tNil))) E [some (.ref a), some (.int wd), none, none, none, none] H1 Qd := by
      intro H1 J s1 hJ Qd
      refine compX_seq hJ (fun D i ys H' => Same H1 H' ∧ ys.length = i ∧ ∀ z ∈ xs.take i, whF 0 z = true) (fun D hD => ⟨same_new hD _, rfl, fun z hz => by cases hz⟩) (fun D i ys H' _ p => p.1) ?_ ?_
      · rintro D i x ys H' Q' hD hi hy' ⟨s2, hl, al⟩ k'
        have hmem : x ∈ xs := List.mem_of_getElem? hi
        have hil : i < xs.length := (List.getElem?_eq_some_iff.mp hi).1
        have tk : xs.take (i + 1) = xs.take i ++ [x] := by rw [List.take_add_one, hi]; rfl
        refine ⟨_, rfl, _, rfl, ?_⟩
        cases c : whF 0 x with
        | true =>
          cases x with
          | int n =>
            have n0 : 0 ≤ n := of_decide_eq_true c
            refine .inl ⟨n, wd, rfl, ⟨n0, hnb n hmem⟩, ⟨hw2, hw⟩, fun t H2 ds s3 ht Fd hl' => ?_⟩
            refine k' _ H2 (s3 _ _ hy') (small1000 (by omega)) ⟨same_upd (s2.trans s3) hD, by simp [hl], fun z hz' => ?_⟩
            rw [tk] at hz'
            rcases List.mem_append.mp hz' with y | y
            · exact al z y
            · rw [List.mem_singleton.mp y]; exact c
          | _ => cases c
        | false =>
          exact .inr ⟨x, .int wd, rfl, ((hpl x hmem).same s1).same s2, .int wd, (fun h => by rw [c] at h; cases h), q _ (s1.trans s2)⟩
      · rintro D ys H' hD hy' ⟨s2, hl, al⟩
        rw [List.take_length] at al
        have := al z hz
        rw [hbad] at this
        cases this
    rcases hxs with hxs | hxs
    · refine ⟨_, (pss_cons (ps_expr (pe_cx GX_need_whole hr pass_def (pa_cons (pv 1) (pa_cons pe_int (pa_cons pe_str pa_nil)))))
      (pss_cons (ps_expr (pe_cx GX_need_row hr pass_def (pa_cons (pv 0) (pa_cons pe_str pa_nil))))
      (pss_stop (ps_setCompX (i := 2) passF_def rfl sc_joint.nd rfl (Or.inl rfl) bk_joint_0 (pi_list (pv 0)) (fun _ _ _ _ => (pg_name (i := 0) bk_joint_0.nd rfl (Or.inl rfl))) (fun _ _ _ _ => (pxe_call GX_figures hr (pa_cons (pv 0) (pa_cons (pv 1) pa_nil)))))))), ?_⟩
      refine ⟨_, rfl, .int wd, 2, _, rfl, .int wd, by decide, ⟨by decide, by decide⟩, fun c => ?_, fun c => q _ (Same.refl _)⟩
      refine ⟨_, rfl, .ref a, _, rfl, hy, by decide, fun r H1 s1 => ?_, fun _ H' s' => q _ s'⟩
      exact ⟨_, rfl, a, rfl, ⟨_, SqL.of (s1 _ _ hxs)⟩, body H1 _ s1 (.inl ⟨rfl, SqL.of (s1 _ _ hxs)⟩) _⟩
    · refine ⟨_, (pss_cons (ps_expr (pe_cx GX_need_whole hr pass_def (pa_cons (pv 1) (pa_cons pe_int (pa_cons pe_str pa_nil)))))
      (pss_cons (ps_expr (pe_cx GX_need_row hr pass_def (pa_cons (pv 0) (pa_cons pe_str pa_nil))))
      (pss_stop (ps_setCompX (i := 2) passF_def rfl sc_joint.nd rfl (Or.inl rfl) bk_joint_0 (pi_tup (pv 0)) (fun _ _ _ _ => (pg_name (i := 0) bk_joint_0.nd rfl (Or.inl rfl))) (fun _ _ _ _ => (pxe_call GX_figures hr (pa_cons (pv 0) (pa_cons (pv 1) pa_nil)))))))), ?_⟩
      refine ⟨_, rfl, .int wd, 2, _, rfl, .int wd, by decide, ⟨by decide, by decide⟩, fun c => ?_, fun c => q _ (Same.refl _)⟩
      refine ⟨_, rfl, .ref a, _, rfl, hy, by decide, fun r H1 s1 => ?_, fun _ H' s' => q _ s'⟩
      exact ⟨_, rfl, a, rfl, ⟨_, SqT.of (s1 _ _ hxs)⟩, body H1 _ s1 (.inr ⟨rfl, SqT.of (s1 _ _ hxs)⟩) _⟩
  · refine ⟨_, (pss_cons (ps_expr (pe_cx GX_need_whole hr pass_def (pa_cons (pv 1) (pa_cons pe_int (pa_cons pe_str pa_nil)))))
      (pss_stop (ps_expr (pe_cx GX_need_row hr pass_def (pa_cons (pv 0) (pa_cons pe_str pa_nil)))))), ?_⟩
    refine ⟨_, rfl, v, 2, _, rfl, hv, by decide, ⟨by decide, by decide⟩, fun c => ?_, fun c => q _ (Same.refl _)⟩
    exact ⟨_, rfl, y, _, rfl, hy, by decide, fun r => absurd ⟨c, r⟩ hg, fun _ H' s' => q _ s'⟩
end
/-! ### TooGreat(most): its own __init__ -/
def spMade (C : Addr) : Sp := fun vs H Q _ => ∃ (x : Addr) (n : Int), vs = [.ref x, .int n] ∧ H x = some (.ext (ExRaw x C)) ∧ (n.natAbs.log2 < 1920 ∧ (Str.ofString (toString n)).length ≤ 1000) ∧
  ∀ d, H d = none → d ≠ x → Q .non (upd (upd H x (.ext (ExWith x C d))) d (.xd [("most", .int n)]))
section
variable {P : Program} {w : World} {K : PySem.W.Frag} {mg : Str → Option Value} {base : Heap} {f : Addr} {fd : FuncData} {dV : Value} {C F0 f0 : Addr}
theorem sc_TooGreat___init__ : FnScope ["self", "most"] ["self", "most"] (defScope s_TooGreat___init__) := ⟨rfl, rfl, rfl, by decide +kernel, rfl, by decide +kernel, by decide +kernel⟩
theorem ok_made (F : FunD K "__init__" "TooGreat.__init__" s_TooGreat___init__ dV f fd) (M : XInit K C f0) (na : PySem.W.findIn K (.ref C) "most" = some none) (g_FigureError : mg "FigureError" = some (.ref F0)) (ga_FigureError : PySem.W.specialIn K (.ref F0) "__getattribute__" = some (some (.builtin "type.__getattribute__")))
    (rd_FigureError : PySem.W.readsIn K F0 (.type "type") = true) (fc_FigureError : PySem.W.findCls K (.ref F0) (.type "type") "__init__" = some (.val (.builtin "ValueError.__init__"))) : FnOk P w K mg base CX0 1 f fd ["self", "most"] (spMade C) := by
  refine F.ok sc_TooGreat___init__ (fun vs H Q E h => ?_) (fun cdv A outer s H vs Q E hr h => ?_)
  · obtain ⟨x, n, rfl, _⟩ := h
    rfl
  obtain ⟨x, n, rfl, hx, ⟨l1, l2⟩, k⟩ := h
  refine ⟨_, (pss_cons (ps_expr (pe_baseInit rfl g_FigureError ga_FigureError rd_FigureError fc_FigureError (pa_cons (pv 0) (pa_cons (pe_join (pfs_cons pf_str (pfs_cons (pf_fmt (pv 1)) pfs_nil))) pa_nil))))
      (pss_one (ps_fldX (pv 0) (pv 1)))), ?_⟩
  refine ⟨_, rfl, _, rfl, .inr ⟨n, rfl, l1, l2, fun z => ?_⟩⟩
  refine ⟨x, C, f0, _, rfl, hx, M.ex, ?_⟩
  exact ⟨_, rfl, _, rfl, x, C, f0, rfl, hx, M, na, fun d hd ne => k d hd ne⟩
end
end My

set_option Elab.async false
set_option linter.all false
set_option maxRecDepth 100000
set_option maxHeartbeats 8000000
namespace My
open PySem L2
/-! ### machines as data -/
def stepI (rows : List (List Int)) (h f : Int) : Int := (rows.getD h.toNat []).getD f.toNat 0
def walkI (rows : List (List Int)) (row : List Int) (h : Int) : Int := row.foldl (stepI rows) h
/-- many rooms, wide figures -/
structure RowsOk (many wide : Nat) (rows : List (List Int)) : Prop where
  len : rows.length = many
  row : ∀ r ∈ rows, r.length = wide
  val : ∀ r ∈ rows, ∀ v ∈ r, 0 ≤ v ∧ v < (many : Int)
/-- the rows stand as tuples -/
def RowsAt (H : Hp) : List Addr → List (List Int) → Prop := Paired fun a r => H a = some (.tup (r.map V.int))
theorem RowsAt.length {H : Hp} {ras : List Addr} {rows : List (List Int)} (h : RowsAt H ras rows) : ras.length = rows.length := Paired.length h
theorem RowsAt.get : ∀ {H : Hp} {ras : List Addr} {rows : List (List Int)} {i : Nat}, RowsAt H ras rows → (h : i < rows.length) → ∃ ra, ras[i]? = some ra ∧ H ra = some (.tup (rows[i].map V.int))
  | _, _, _, _, .nil, h => by simp at h
  | _, _, _, 0, .cons (a := a) r _, _ => ⟨a, rfl, r⟩
  | _, _, _, i + 1, .cons _ t, h => by
    obtain ⟨ra, h1, h2⟩ := RowsAt.get (i := i) t (by simpa using h)
    exact ⟨ra, by simpa using h1, by simpa using h2⟩
theorem RowsAt.same {H H' : Hp} {ras : List Addr} {rows : List (List Int)} (h : RowsAt H ras rows) (s : ∀ b xs, H b = some (.tup xs) → H' b = some (.tup xs)) : RowsAt H' ras rows := Paired.mapP h fun _ _ q => s _ _ q
theorem RowsAt.snoc : ∀ {H : Hp} {ras : List Addr} {rows : List (List Int)} {a : Addr} {r : List Int}, RowsAt H ras rows → H a = some (.tup (r.map V.int)) → RowsAt H (ras ++ [a]) (rows ++ [r])
  | _, _, _, _, _, .nil, h => .cons h .nil
  | _, _, _, _, _, .cons q t, h => .cons q (RowsAt.snoc t h)
structure MachAt (H : Hp) (m r g : Addr) (wide : Nat) (rows : List (List Int)) (signs : List Int) : Prop where
  tup : H m = some (.tup [.int wide, .ref r, .ref g])
  rows : ∃ ras, H r = some (.tup (ras.map V.ref)) ∧ RowsAt H ras rows
  sgn : H g = some (.tup (signs.map V.int))
theorem MachAt.same {H H' : Hp} {m r g : Addr} {wide : Nat} {rows : List (List Int)} {signs : List Int} (M : MachAt H m r g wide rows signs) (s : ∀ b xs, H b = some (.tup xs) → H' b = some (.tup xs)) : MachAt H' m r g wide rows signs := by
  obtain ⟨h1, ⟨ras, h2, h3⟩, h4⟩ := M
  exact ⟨s _ _ h1, ⟨ras, s _ _ h2, h3.same s⟩, s _ _ h4⟩
/-! ### numbers told back: the mathematics -/
def mergeB (m : Int) : List Int → List Int
  | [] => []
  | [p] => [p + m * 0]
  | p :: q :: r => (p + m * q) :: mergeB m r
theorem mergeB_val (m : Int) : ∀ ps : List Int, valB (m * m) (mergeB m ps) = valB m ps
  | [] => rfl
  | [p] => by simp [mergeB, valB]
  | p :: q :: r => by
    simp only [mergeB, valB, mergeB_val m r]
    rw [Int.mul_add, Int.mul_assoc, Int.add_assoc]
theorem mergeB_len (m : Int) : ∀ ps : List Int, (mergeB m ps).length = (ps.length + 1) / 2
  | [] => rfl
  | [p] => by simp [mergeB]
  | p :: q :: r => by
    simp only [mergeB, List.length_cons, mergeB_len m r]
    omega
theorem mergeB_in {m : Int} (hm : 0 < m) : ∀ {ps : List Int}, InB m ps → InB (m * m) (mergeB m ps)
  | [], _ => InB.nil
  | [p], h => by
    have hp := h p List.mem_cons_self
    have mm : m * 1 ≤ m * m := Int.mul_le_mul_of_nonneg_left (by omega) (by omega)
    exact InB.cons (by omega) (by omega) InB.nil
  | p :: q :: r, h => by
    have hp := h p List.mem_cons_self
    have hq := h q (List.mem_cons_of_mem _ List.mem_cons_self)
    have a0 : 0 ≤ m * q := Int.mul_nonneg (by omega) hq.1
    have a1 : m * q ≤ m * (m - 1) := Int.mul_le_mul_of_nonneg_left (by omega) (by omega)
    have a2 : m * (m - 1) = m * m - m := by rw [Int.mul_sub, Int.mul_one]
    exact InB.cons (by omega) (by omega) (mergeB_in hm h.tail.tail)
/-- one more pair -/
theorem mergeB_take {m : Int} {ps : List Int} : ∀ {i : Nat}, 2 * i < ps.length → mergeB m (ps.take (2 * (i + 1))) = mergeB m (ps.take (2 * i)) ++ [ps.getD (2 * i) 0 + m * ps.getD (2 * i + 1) 0] := by
  intro i
  induction i generalizing ps with
  | zero =>
    intro h
    rcases ps with _ | ⟨p, _ | ⟨q, r⟩⟩
    · simp at h
    · simp [mergeB]
    · simp [mergeB]
  | succ i ih =>
    intro h
    rcases ps with _ | ⟨p, _ | ⟨q, r⟩⟩
    · simp at h
    · simp at h
    · have h' : 2 * i < r.length := by simp at h; omega
      have e := ih (ps := r) h'
      have e1 : 2 * (i + 1 + 1) = 2 * (i + 1) + 1 + 1 := by omega
      have e2 : 2 * (i + 1) = 2 * i + 1 + 1 := by omega
      rw [e1, List.take_succ_cons, List.take_succ_cons]
      show (p + m * q) :: mergeB m (r.take (2 * (i + 1))) = _
      rw [e, e2, List.take_succ_cons, List.take_succ_cons]
      rfl
theorem pw_pow {w : Int} : ∀ t : Nat, pw w t = w ^ (2 ^ t)
  | 0 => (Int.pow_one w).symm
  | t + 1 => by
    show pw w t * pw w t = _
    rw [pw_pow t, Nat.pow_succ, Nat.mul_two, Int.pow_add]
theorem ipow_mono {w : Int} (h : 1 ≤ w) {i : Nat} : ∀ {j : Nat}, i ≤ j → w ^ i ≤ w ^ j
  | 0, h' => by rw [Nat.le_zero.mp h']; exact Int.le_refl _
  | j + 1, h' => by
    rcases Nat.lt_or_ge i (j + 1) with q | q
    · have ih := ipow_mono h (i := i) (j := j) (by omega)
      have p0 : (0 : Int) < w ^ j := Int.pow_pos (by omega)
      have : w ^ j * 1 ≤ w ^ j * w := Int.mul_le_mul_of_nonneg_left h (by omega)
      rw [Int.pow_succ]
      omega
    · rw [Nat.le_antisymm h' q]; exact Int.le_refl _
theorem valB_lt {w : Int} (h : 0 < w) : ∀ {ps : List Int}, InB w ps → valB w ps < w ^ ps.length
  | [], _ => by simp [valB]
  | p :: r, hin => by
    have hp := hin p List.mem_cons_self
    have ih := valB_lt h hin.tail
    have : w * (valB w r + 1) ≤ w * w ^ r.length := Int.mul_le_mul_of_nonneg_left (by omega) (by omega)
    rw [Int.mul_add, Int.mul_one] at this
    rw [List.length_cons, Int.pow_succ, Int.mul_comm (w ^ r.length) w]
    show p + w * valB w r < _
    omega
theorem InB.append {b : Int} {ps qs : List Int} (h : InB b ps) (h' : InB b qs) : InB b (ps ++ qs) := fun x hx => (List.mem_append.mp hx).elim (h x) (h' x)
/-! ### numbers told back: the program -/
def spWithin : Sp := fun vs H Q _ => ∃ z lo hi : Int, vs = [.int z, .int lo, .int hi] ∧ (lo ≤ z ∧ z ≤ hi) ∧ Q (.bl true) H
def spNeedRow : Sp := fun vs H Q _ => ∃ (b : Addr) (xs : List V) (x : Str), vs = [.ref b, .str x] ∧ (H b = some (.lst xs) ∨ H b = some (.tup xs)) ∧ ∀ H', Same H H' → Q .non H'
def spMerged (K : PySem.W.Frag) : Sp := fun vs H Q _ => ∃ (a : Addr) (m : Int) (ps : List Int), vs = [.ref a, .int m] ∧ H a = some (.lst (ps.map V.int)) ∧ ps.length ≤ 5000 ∧ (0 ≤ m ∧ m < BIG) ∧ (∀ p ∈ ps, 0 ≤ p ∧ p < BIG) ∧
  ∀ (l : Addr) (H' : Hp), Same H H' → H l = none → H' l = some (.lst ((mergeB m ps).map V.int)) → Q (.ref l) H'
def spNumOf (K : PySem.W.Frag) : Sp := fun vs H Q _ => ∃ (b : Addr) (w : Int) (ds : List Int), vs = [.ref b, .int w] ∧ (H b = some (.lst (ds.map V.int)) ∨ H b = some (.tup (ds.map V.int))) ∧ 2 ≤ w ∧ ds.length ≤ 4000 ∧ w ^ (ds.length + 1) < BIG ∧ InB w ds ∧
  ∀ H', Same H H' → Q (.int (valB w ds)) H'
theorem kitany_list (K : PySem.W.Frag) : PySem.W.kitAny K (.type "list") (["tuple", "list"].map Value.type) = some true := by with_unfolding_all rfl
theorem kitany_tuple (K : PySem.W.Frag) : PySem.W.kitAny K (.type "tuple") (["tuple", "list"].map Value.type) = some true := by with_unfolding_all rfl
section
variable {P : Program} {w : World} {K : PySem.W.Frag} {mg : Str → Option Value} {base : Heap} {f : Addr} {fd : FuncData} {dV : Value}
theorem sc_merged : FnScope ["parts", "middle", "wholes", "at", "high"] ["parts", "middle"] (defScope s_merged) := ⟨rfl, rfl, rfl, by decide +kernel, rfl, by decide +kernel, by decide +kernel⟩
theorem ok_within (F : FunD K "is_whole_within" "is_whole_within" s_is_whole_within dV f fd) (G_is_whole : DefOk P w K mg base "is_whole" 1 ["thing"] [] spWhole) : FnOk P w K mg base CX0 2 f fd ["thing", "least", "most"] spWithin := by
  refine F.ok sc_is_whole_within (fun vs H Q E h => ?_) (fun cdv A outer s H vs Q E hr h => ?_)
  · obtain ⟨z, lo, hi, rfl, _⟩ := h
    rfl
  obtain ⟨z, lo, hi, rfl, ⟨h1, h2⟩, q⟩ := h
  refine ⟨_, (pss_one (ps_ret (pe_and (pe_cd G_is_whole hr (pa_cons (pv 0) pa_nil)) (pe_one (pe_chain op_le op_le (pv 1) (pv 0) (pv 2)))))), ?_⟩
  refine ⟨_, rfl, z, rfl, _, rfl, iteT ⟨_, rfl, _, rfl, _, _, rfl, rfl, _, rfl, iteD (fun _ => ?_) (fun c => absurd h1 c)⟩⟩
  refine ⟨_, rfl, _, _, rfl, rfl, ?_⟩
  show Q (.bl (decide (z ≤ hi))) H
  rw [decide_eq_true h2]
  exact q
theorem ok_need_row (F : FunD K "need_row" "need_row" s_need_row dV f fd) (z_isinstance : mg "isinstance" = none) (z_tuple : mg "tuple" = none) (z_list : mg "list" = none) : FnOk P w K mg base CX0 1 f fd ["thing", "called"] spNeedRow := by
  refine F.ok sc_need_row (fun vs H Q E h => ?_) (fun cdv A outer s H vs Q E hr h => ?_)
  · obtain ⟨b, xs, x, rfl, _⟩ := h
    rfl
  obtain ⟨b, xs, x, rfl, hb, q⟩ := h
  refine ⟨_, (pss_one (ps_if (pt_not (pt_val (pe_callB call_isiT (by rfl) z_isinstance bt_isinstance (pa_cons (pv 0) (pa_cons (pe_tup (pa_cons (pe_bltn (v := .ty "tuple") rfl z_tuple bt_tuple rfl) (pa_cons (pe_bltn (v := .ty "list") rfl z_list bt_list rfl) pa_nil))) pa_nil))))) (pss_one ps_never) pss_nil)), ?_⟩
  refine ⟨_, rfl, (by show 2 ≤ sizeLine; decide), fun p hp => ?_⟩
  have s1 := same_new hp (HO.tup [V.ty "tuple", V.ty "list"])
  rcases hb with hb | hb
  · exact ⟨_, p, ["tuple", "list"], _, _, rfl, upd_same, TyOf.lst (s1 _ _ hb), kitany_list K, _, rfl, iteF (q _ s1)⟩
  · exact ⟨_, p, ["tuple", "list"], _, _, rfl, upd_same, TyOf.tup (s1 _ _ hb), kitany_tuple K, _, rfl, iteF (q _ s1)⟩
theorem ok_merged (F : FunD K "merged" "merged" s_merged dV f fd) (z_range : mg "range" = none) (z_len : mg "len" = none) : FnOk P w K mg base CX0 1 f fd ["parts", "middle"] (spMerged K) := by
  refine F.ok sc_merged (fun vs H Q E h => ?_) (fun cdv A outer s H vs Q E hr h => ?_)
  · obtain ⟨a, m, ps, rfl, _⟩ := h
    rfl
  obtain ⟨a, m, ps, rfl, ha, hl, ⟨m0, m1⟩, hps, k⟩ := h
  have lp : (ps.map V.int).length = ps.length := List.length_map _
  have big : 5001 < sizeLine := by decide
  refine ⟨_, (pss_cons (ps_set (i := 2) sc_merged.nd rfl (Or.inl rfl) (pe_lst pa_nil))
      (pss_cons (ps_for PassesOwn.never rfl (pi_range3 rfl z_range (pa_cons pe_int (pa_cons (pe_callB call_len_seq (by rfl) z_len bt_len (pa_cons (pv 0) pa_nil)) (pa_cons pe_int pa_nil)))) (pg_name (i := 3) sc_merged.nd rfl (Or.inl rfl)) (pss_cons (ps_set (i := 4) sc_merged.nd rfl (Or.inl rfl) (pe_ifExp (pt_cmpR op_lt (pe_op op_add (pv 3) pe_int) (pe_callB call_len_seq (by rfl) z_len bt_len (pa_cons (pv 0) pa_nil)) (nomark _)) (pe_ix ix_list (pv 0) (pe_op op_add (pv 3) pe_int) (fun _ _ => rfl)) pe_int))
      (pss_one (ps_expr (pe_bm PySem.F.plainAttrs_list PySem.F.slot_list_append PySem.F.type_list_append mt_append (pv 2) (pa_cons (pe_op op_add (pe_ix ix_list (pv 0) (pv 3) (fun _ _ => rfl)) (pe_op op_mulB (pv 1) (pv 4))) pa_nil))))))
      (pss_one (ps_ret (pv 2))))), ?_⟩
  refine ⟨(by show 0 ≤ sizeLine; decide), fun l hl0 => ?_⟩
  have nla : a ≠ l := ne_of_none ha hl0
  refine ⟨_, rfl, a, _, rfl, .inl (SqL.of (by rw [upd_ne nla]; exact ha)), _, rfl, ⟨by omega, by omega⟩, for_rangeS (fun i σ' H' => ∃ v1 v2, σ' = [some (.ref a), some (.int m), some (.ref l), v1, v2] ∧ Same H H' ∧ H' l = some (.lst ((mergeB m (ps.take (2 * i))).map V.int)))
    ⟨none, none, rfl, same_new hl0 _, by rw [upd_same]; rfl⟩ ?_ ?_⟩
  · rintro i σ' H' hi ⟨v1, v2, rfl, s1, h1⟩
    have hi2 : 2 * i < ps.length := by omega
    have a1 := s1 _ _ ha
    have g0 : (ps.getD (2 * i) 0) = ps[2 * i] := getD_at hi2
    have at0 : atI (ps.map V.int) (0 + (i : Int) * 2) = some (.int (ps.getD (2 * i) 0)) := by
      have q := atI_ints (ns := ps) (k := 0 + (i : Int) * 2) (by omega) (by omega)
      rw [show (0 + (i : Int) * 2).toNat = 2 * i by omega] at q
      exact q
    have step : ∀ hh : Int, hh = ps.getD (2 * i + 1) 0 → ∃ v1 v2, [some (V.ref a), some (V.int m), some (V.ref l), some (V.int (0 + (i : Int) * 2)), some (V.int hh)] = [some (V.ref a), some (V.int m), some (V.ref l), v1, v2] ∧ Same H (upd H' l (.lst ((mergeB m (ps.take (2 * i))).map V.int ++ [V.int (ps.getD (2 * i) 0 + m * hh)]))) ∧
        (upd H' l (.lst ((mergeB m (ps.take (2 * i))).map V.int ++ [V.int (ps.getD (2 * i) 0 + m * hh)]))) l = some (.lst ((mergeB m (ps.take (2 * (i + 1)))).map V.int)) := fun hh e => by
      refine ⟨_, _, rfl, same_upd s1 hl0, ?_⟩
      rw [upd_same, mergeB_take hi2, e, List.map_append]
      rfl
    have lenl : ((mergeB m (ps.take (2 * i))).map V.int).length < sizeLine := by
      rw [List.length_map, mergeB_len, List.length_take]
      omega
    refine ⟨_, rfl, _, _, rfl, rfl, _, rfl, a, _, rfl, .inl (SqL.of a1), _, _, rfl, rfl, _, rfl, iteD (fun c => ?_) (fun c => ?_)⟩
    · have c' : 0 + (i : Int) * 2 + 1 < (ps.length : Int) := by rw [← lp]; exact c
      have hi3 : 2 * i + 1 < ps.length := by omega
      have hh := hps _ (List.getElem_mem hi3)
      rw [← getD_at (d := 0) hi3] at hh
      have at1 : atI (ps.map V.int) (0 + (i : Int) * 2 + 1) = some (.int (ps.getD (2 * i + 1) 0)) := by
        have q := atI_ints (ns := ps) (k := 0 + (i : Int) * 2 + 1) (by omega) (by omega)
        rw [show (0 + (i : Int) * 2 + 1).toNat = 2 * i + 1 by omega] at q
        exact q
      refine ⟨_, rfl, _, rfl, _, _, rfl, rfl, a, _, _, _, rfl, rfl, SqL.of a1, at1, ?_⟩
      refine ⟨_, rfl, .inl ⟨rfl, _, SqL.of h1⟩, _, rfl, _, rfl, a, _, _, _, rfl, rfl, SqL.of a1, at0, _, rfl, _, rfl, _, _, rfl, rfl, ⟨⟨m0, m1⟩, hh⟩, _, _, rfl, rfl, l, _, _, rfl, rfl, h1, lenl, step _ rfl⟩
    · have c' : ¬ (0 + (i : Int) * 2 + 1 < (ps.length : Int)) := by rw [← lp]; exact c
      have e0 : (0 : Int) = ps.getD (2 * i + 1) 0 := by
        rw [List.getD_eq_getElem?_getD, List.getElem?_eq_none (by omega)]
        rfl
      refine ⟨_, rfl, .inl ⟨rfl, _, SqL.of h1⟩, _, rfl, _, rfl, a, _, _, _, rfl, rfl, SqL.of a1, at0, _, rfl, _, rfl, _, _, rfl, rfl, ⟨⟨m0, m1⟩, ⟨by decide, by decide +kernel⟩⟩, _, _, rfl, rfl, l, _, _, rfl, rfl, h1, lenl, step _ e0⟩
  · rintro σ' H' ⟨v1, v2, rfl, s1, h1⟩
    rw [List.take_of_length_le (by omega)] at h1
    exact ⟨_, rfl, k l H' s1 hl0 h1⟩
theorem ok_number_of (F : FunD K "number_of" "number_of" s_number_of dV f fd) (G_need_whole : DefOk P w K mg base "need_whole" 3 ["thing", "least", "called"] [] spNeed) (G_need_row : DefOk P w K mg base "need_row" 1 ["thing", "called"] [] spNeedRow)
    (G_is_whole_within : DefOk P w K mg base "is_whole_within" 2 ["thing", "least", "most"] [] spWithin) (G_merged : DefOk P w K mg base "merged" 1 ["parts", "middle"] [] (spMerged K)) (z_list : mg "list" = none) (z_len : mg "len" = none) :
    FnOk P w K mg base CX0 4 f fd ["row", "wide"] (spNumOf K) := by
  refine F.ok sc_number_of (fun vs H Q E h => ?_) (fun cdv A outer s H vs Q E hr h => ?_)
  · obtain ⟨b, w, ds, rfl, _⟩ := h
    rfl
  obtain ⟨b, wd, ds, rfl, hb, w0, hl, hB, hin, k⟩ := h
  have lp : (ds.map V.int).length = ds.length := List.length_map _
  have big : 5001 < sizeLine := by decide
  have w1 : wd ^ 1 ≤ wd ^ (ds.length + 1) := ipow_mono (by omega) (by omega)
  rw [Int.pow_one] at w1
  rcases hb with hb | hb
  · refine ⟨_, (pss_cons (ps_expr (pe_cd G_need_whole hr (pa_cons (pv 1) (pa_cons pe_int (pa_cons pe_str pa_nil)))))
      (pss_cons (ps_expr (pe_cd G_need_row hr (pa_cons (pv 0) (pa_cons pe_str pa_nil))))
      (pss_cons (ps_for PassesOwn.never rfl (pi_list (pv 0)) (pg_name (i := 2) sc_number_of.nd rfl (Or.inl rfl)) (pss_one (ps_if (pt_not (pt_val (pe_cd G_is_whole_within hr (pa_cons (pv 2) (pa_cons pe_int (pa_cons (pe_op op_sub (pv 1) pe_int) pa_nil)))))) (pss_one ps_never) pss_nil)))
      (pss_cons (ps_set (i := 3) sc_number_of.nd rfl (Or.inl rfl) (pe_op op_cat (pe_callTy call_list_of (by rfl) z_list bt_list (pa_cons (pv 0) pa_nil)) (pe_lst (pa_cons pe_int pa_nil))))
      (pss_cons (ps_set (i := 4) sc_number_of.nd rfl (Or.inl rfl) (pv 1))
      (pss_cons (ps_while PassesOwn.never (pt_cmpR op_gt (pe_callB call_len_seq (by rfl) z_len bt_len (pa_cons (pv 3) pa_nil)) pe_int (nomark _)) (pss_cons (ps_set (i := 3) sc_number_of.nd rfl (Or.inl rfl) (pe_cd G_merged hr (pa_cons (pv 3) (pa_cons (pv 4) pa_nil))))
      (pss_one (ps_set (i := 4) sc_number_of.nd rfl (Or.inl rfl) (pe_op op_mulB (pv 4) (pv 4))))))
      (pss_one (ps_ret (pe_ix ix_list (pv 3) pe_int (fun _ _ => rfl)))))))))), ?_⟩
    refine ⟨_, rfl, wd, 2, _, rfl, w0, ?_⟩
    refine ⟨_, rfl, b, _, _, rfl, (.inl hb), fun H1 s1 => ?_⟩
    have hb1 := s1 _ _ hb
    refine ⟨_, rfl, b, rfl, ⟨_, SqL.of hb1⟩, for_list (K := K) (xs := ds.map V.int) (fun i σ' H' => ∃ v, σ' = [some (.ref b), some (.int wd), v, none, none] ∧ H' = H1) ⟨none, rfl, rfl⟩ (fun i σ' H' _ ⟨_, _, e⟩ => by rw [e]; exact SqL.of hb1) ?_ ?_⟩
    · rintro i y σ' H' hi ⟨v, rfl, rfl⟩
      obtain ⟨z, rfl, hz⟩ := ints_at hi
      have hz' := hin z (List.mem_of_getElem? hz)
      refine ⟨_, rfl, _, rfl, _, _, rfl, rfl, z, 0, _, rfl, ⟨hz'.1, by omega⟩, _, rfl, iteF ?_⟩
      exact ⟨_, rfl, rfl⟩
    · rintro σ' H' ⟨v, rfl, rfl⟩
      -- parts = list(row) + [0]
      refine ⟨_, rfl, b, _, rfl, .inl (SqL.of hb1), fun l1 hl1 => ?_⟩
      refine ⟨(by show 1 ≤ sizeLine; decide), fun l2 hl2 => ?_⟩
      have n12 : l1 ≠ l2 := ne_of_none upd_same hl2
      refine ⟨l1, l2, _, _, rfl, rfl, (by rw [upd_ne n12, upd_same]), upd_same, (by rw [lp]; simp only [List.length_singleton]; omega), fun D hD => ?_⟩
      have s2 := (same_new hl1 (HO.lst (ds.map V.int))).trans ((same_new hl2 (HO.lst [V.int 0])).trans (same_new hD (HO.lst (ds.map V.int ++ [V.int 0]))))
      have s3 := s1.trans s2
      have fD : H D = none := (s1.trans ((same_new hl1 (HO.lst (ds.map V.int))).trans (same_new hl2 (HO.lst [V.int 0])))).free hD
      -- middle = wide
      refine ⟨_, rfl, ?_⟩
      try dsimp only [gName]
      refine cut_seq (t := tWhile _ _) (fun σ' H' => ∃ (D : Addr) (x : Int) (v v' : Option V), σ' = [some (.ref b), some (.int wd), v, some (.ref D), v'] ∧ Same H H' ∧ H' D = some (.lst [V.int x]) ∧ x = valB wd ds) ?_ (fun nxt => ?_)
      rotate_left
      · refine while_W (fun m σ' H' => ∃ (D : Addr) (t : Nat) (ps : List Int) (v : Option V), m = ps.length ∧ σ' = [some (.ref b), some (.int wd), v, some (.ref D), some (.int (pw wd t))] ∧ Same H H' ∧ H' D = some (.lst (ps.map V.int)) ∧ InB (pw wd t) ps ∧ valB (pw wd t) ps = valB wd ds ∧ 1 ≤ ps.length ∧ ps.length ≤ ds.length + 1 ∧ (1 < ps.length → 2 ^ t ≤ ds.length ∧ 2 ^ t * (ps.length - 1) ≤ ds.length))
          ⟨_, D, 0, ds ++ [0], _, rfl, rfl, s3, ?_, hin.append (InB.cons (by decide) (by omega) InB.nil), ?_, by simp, by simp, fun h => by simp at h ⊢; omega⟩ ?_
        · rw [upd_same, List.map_append]; rfl
        · show valB wd (ds ++ [0]) = _
          rw [valB_snoc, Int.zero_mul, Int.add_zero]
        rintro m σ' H2 ⟨D, t, ps, v, rfl, rfl, s4, h4, hi4, hv4, hl4, hl5, h6⟩
        have lq : (ps.map V.int).length = ps.length := List.length_map _
        refine ⟨_, rfl, D, _, rfl, .inl (SqL.of h4), _, _, rfl, rfl, _, rfl, iteD (fun c => ?_) (fun c => ?_)⟩
        · have c' : 1 < ps.length := by
            have : (1 : Int) < (((ps.map V.int).length : Nat) : Int) := c
            omega
          obtain ⟨q1, q2⟩ := h6 c'
          have mB : pw wd t < BIG := by
            have : wd ^ (2 ^ t) ≤ wd ^ (ds.length + 1) := ipow_mono (by omega) (by omega)
            rw [pw_pow]
            omega
          have p2 := pw_two w0 t
          refine ⟨_, fun σ' H' h => h, ?_⟩
          refine ⟨_, rfl, _, rfl, D, _, ps, rfl, h4, by omega, ⟨by omega, mB⟩, fun p hp => ⟨(hi4 p hp).1, by have := (hi4 p hp).2; omega⟩, fun l H3 s5 fl hl3 => ?_⟩
          refine ⟨_, rfl, _, rfl, _, _, rfl, rfl, ⟨⟨by omega, mB⟩, ⟨by omega, mB⟩⟩, (mergeB (pw wd t) ps).length, ?_, l, t + 1, mergeB (pw wd t) ps, _, rfl, rfl, s4.trans s5, hl3, mergeB_in (by omega) hi4, ?_, ?_, ?_, fun h => ?_⟩
          · rw [mergeB_len]; omega
          · show valB (pw wd t * pw wd t) _ = _
            rw [mergeB_val]; exact hv4
          · rw [mergeB_len]; omega
          · rw [mergeB_len]; omega
          · rw [mergeB_len] at h ⊢
            have e2 : 2 ^ (t + 1) = 2 * 2 ^ t := by rw [Nat.pow_succ, Nat.mul_comm]
            have k1 : 2 ^ t * 2 ≤ 2 ^ t * (ps.length - 1) := Nat.mul_le_mul_left _ (by omega)
            have k2 : 2 ^ t * (2 * ((ps.length + 1) / 2 - 1)) ≤ 2 ^ t * (ps.length - 1) := Nat.mul_le_mul_left _ (by omega)
            rw [← Nat.mul_assoc] at k2
            rw [e2]
            constructor
            · omega
            · rw [Nat.mul_comm 2 (2 ^ t)]; omega
        · have c' : ps.length = 1 := by
            have : ¬ ((1 : Int) < (((ps.map V.int).length : Nat) : Int)) := c
            omega
          obtain ⟨x, rfl⟩ := List.length_eq_one_iff.mp c'
          exact nxt _ _ ⟨D, x, _, _, rfl, s4, h4, by rw [← hv4]; simp [valB]⟩
      rintro σ' H2 ⟨D, x, v, v', rfl, s4, h4, rfl⟩
      exact ⟨_, rfl, D, _, _, _, rfl, rfl, SqL.of h4, rfl, k H2 s4⟩
  · refine ⟨_, (pss_cons (ps_expr (pe_cd G_need_whole hr (pa_cons (pv 1) (pa_cons pe_int (pa_cons pe_str pa_nil)))))
      (pss_cons (ps_expr (pe_cd G_need_row hr (pa_cons (pv 0) (pa_cons pe_str pa_nil))))
      (pss_cons (ps_for PassesOwn.never rfl (pi_tup (pv 0)) (pg_name (i := 2) sc_number_of.nd rfl (Or.inl rfl)) (pss_one (ps_if (pt_not (pt_val (pe_cd G_is_whole_within hr (pa_cons (pv 2) (pa_cons pe_int (pa_cons (pe_op op_sub (pv 1) pe_int) pa_nil)))))) (pss_one ps_never) pss_nil)))
      (pss_cons (ps_set (i := 3) sc_number_of.nd rfl (Or.inl rfl) (pe_op op_cat (pe_callTy call_list_of (by rfl) z_list bt_list (pa_cons (pv 0) pa_nil)) (pe_lst (pa_cons pe_int pa_nil))))
      (pss_cons (ps_set (i := 4) sc_number_of.nd rfl (Or.inl rfl) (pv 1))
      (pss_cons (ps_while PassesOwn.never (pt_cmpR op_gt (pe_callB call_len_seq (by rfl) z_len bt_len (pa_cons (pv 3) pa_nil)) pe_int (nomark _)) (pss_cons (ps_set (i := 3) sc_number_of.nd rfl (Or.inl rfl) (pe_cd G_merged hr (pa_cons (pv 3) (pa_cons (pv 4) pa_nil))))
      (pss_one (ps_set (i := 4) sc_number_of.nd rfl (Or.inl rfl) (pe_op op_mulB (pv 4) (pv 4))))))
      (pss_one (ps_ret (pe_ix ix_list (pv 3) pe_int (fun _ _ => rfl)))))))))), ?_⟩
    refine ⟨_, rfl, wd, 2, _, rfl, w0, ?_⟩
    refine ⟨_, rfl, b, _, _, rfl, (.inr hb), fun H1 s1 => ?_⟩
    have hb1 := s1 _ _ hb
    refine ⟨_, rfl, b, rfl, ⟨_, SqT.of hb1⟩, for_tup (K := K) (xs := ds.map V.int) (fun i σ' H' => ∃ v, σ' = [some (.ref b), some (.int wd), v, none, none] ∧ H' = H1) ⟨none, rfl, rfl⟩ (fun i σ' H' _ ⟨_, _, e⟩ => by rw [e]; exact SqT.of hb1) ?_ ?_⟩
    · rintro i y σ' H' hi ⟨v, rfl, rfl⟩
      obtain ⟨z, rfl, hz⟩ := ints_at hi
      have hz' := hin z (List.mem_of_getElem? hz)
      refine ⟨_, rfl, _, rfl, _, _, rfl, rfl, z, 0, _, rfl, ⟨hz'.1, by omega⟩, _, rfl, iteF ?_⟩
      exact ⟨_, rfl, rfl⟩
    · rintro σ' H' ⟨v, rfl, rfl⟩
      -- parts = list(row) + [0]
      refine ⟨_, rfl, b, _, rfl, .inr (SqT.of hb1), fun l1 hl1 => ?_⟩
      refine ⟨(by show 1 ≤ sizeLine; decide), fun l2 hl2 => ?_⟩
      have n12 : l1 ≠ l2 := ne_of_none upd_same hl2
      refine ⟨l1, l2, _, _, rfl, rfl, (by rw [upd_ne n12, upd_same]), upd_same, (by rw [lp]; simp only [List.length_singleton]; omega), fun D hD => ?_⟩
      have s2 := (same_new hl1 (HO.lst (ds.map V.int))).trans ((same_new hl2 (HO.lst [V.int 0])).trans (same_new hD (HO.lst (ds.map V.int ++ [V.int 0]))))
      have s3 := s1.trans s2
      have fD : H D = none := (s1.trans ((same_new hl1 (HO.lst (ds.map V.int))).trans (same_new hl2 (HO.lst [V.int 0])))).free hD
      -- middle = wide
      refine ⟨_, rfl, ?_⟩
      try dsimp only [gName]
      refine cut_seq (t := tWhile _ _) (fun σ' H' => ∃ (D : Addr) (x : Int) (v v' : Option V), σ' = [some (.ref b), some (.int wd), v, some (.ref D), v'] ∧ Same H H' ∧ H' D = some (.lst [V.int x]) ∧ x = valB wd ds) ?_ (fun nxt => ?_)
      rotate_left
      · refine while_W (fun m σ' H' => ∃ (D : Addr) (t : Nat) (ps : List Int) (v : Option V), m = ps.length ∧ σ' = [some (.ref b), some (.int wd), v, some (.ref D), some (.int (pw wd t))] ∧ Same H H' ∧ H' D = some (.lst (ps.map V.int)) ∧ InB (pw wd t) ps ∧ valB (pw wd t) ps = valB wd ds ∧ 1 ≤ ps.length ∧ ps.length ≤ ds.length + 1 ∧ (1 < ps.length → 2 ^ t ≤ ds.length ∧ 2 ^ t * (ps.length - 1) ≤ ds.length))
          ⟨_, D, 0, ds ++ [0], _, rfl, rfl, s3, ?_, hin.append (InB.cons (by decide) (by omega) InB.nil), ?_, by simp, by simp, fun h => by simp at h ⊢; omega⟩ ?_
        · rw [upd_same, List.map_append]; rfl
        · show valB wd (ds ++ [0]) = _
          rw [valB_snoc, Int.zero_mul, Int.add_zero]
        rintro m σ' H2 ⟨D, t, ps, v, rfl, rfl, s4, h4, hi4, hv4, hl4, hl5, h6⟩
        have lq : (ps.map V.int).length = ps.length := List.length_map _
        refine ⟨_, rfl, D, _, rfl, .inl (SqL.of h4), _, _, rfl, rfl, _, rfl, iteD (fun c => ?_) (fun c => ?_)⟩
        · have c' : 1 < ps.length := by
            have : (1 : Int) < (((ps.map V.int).length : Nat) : Int) := c
            omega
          obtain ⟨q1, q2⟩ := h6 c'
          have mB : pw wd t < BIG := by
            have : wd ^ (2 ^ t) ≤ wd ^ (ds.length + 1) := ipow_mono (by omega) (by omega)
            rw [pw_pow]
            omega
          have p2 := pw_two w0 t
          refine ⟨_, fun σ' H' h => h, ?_⟩
          refine ⟨_, rfl, _, rfl, D, _, ps, rfl, h4, by omega, ⟨by omega, mB⟩, fun p hp => ⟨(hi4 p hp).1, by have := (hi4 p hp).2; omega⟩, fun l H3 s5 fl hl3 => ?_⟩
          refine ⟨_, rfl, _, rfl, _, _, rfl, rfl, ⟨⟨by omega, mB⟩, ⟨by omega, mB⟩⟩, (mergeB (pw wd t) ps).length, ?_, l, t + 1, mergeB (pw wd t) ps, _, rfl, rfl, s4.trans s5, hl3, mergeB_in (by omega) hi4, ?_, ?_, ?_, fun h => ?_⟩
          · rw [mergeB_len]; omega
          · show valB (pw wd t * pw wd t) _ = _
            rw [mergeB_val]; exact hv4
          · rw [mergeB_len]; omega
          · rw [mergeB_len]; omega
          · rw [mergeB_len] at h ⊢
            have e2 : 2 ^ (t + 1) = 2 * 2 ^ t := by rw [Nat.pow_succ, Nat.mul_comm]
            have k1 : 2 ^ t * 2 ≤ 2 ^ t * (ps.length - 1) := Nat.mul_le_mul_left _ (by omega)
            have k2 : 2 ^ t * (2 * ((ps.length + 1) / 2 - 1)) ≤ 2 ^ t * (ps.length - 1) := Nat.mul_le_mul_left _ (by omega)
            rw [← Nat.mul_assoc] at k2
            rw [e2]
            constructor
            · omega
            · rw [Nat.mul_comm 2 (2 ^ t)]; omega
        · have c' : ps.length = 1 := by
            have : ¬ ((1 : Int) < (((ps.map V.int).length : Nat) : Int)) := c
            omega
          obtain ⟨x, rfl⟩ := List.length_eq_one_iff.mp c'
          exact nxt _ _ ⟨D, x, _, _, rfl, s4, h4, by rw [← hv4]; simp [valB]⟩
      rintro σ' H2 ⟨D, x, v, v', rfl, s4, h4, rfl⟩
      exact ⟨_, rfl, D, _, _, _, rfl, rfl, SqL.of h4, rfl, k H2 s4⟩
end
/-! ### numbers side by side: the mathematics -/
def dig (w n : Int) (j : Nat) : Int := n / w ^ j % w
def laidN (w : Int) (ns : List Int) : Nat → List Int
  | 0 => []
  | t + 1 => laidN w ns t ++ ns.map fun n => dig w n t
theorem laidN_len (w : Int) (ns : List Int) : ∀ t, (laidN w ns t).length = t * ns.length
  | 0 => by simp [laidN]
  | t + 1 => by
    simp only [laidN, List.length_append, List.length_map, laidN_len w ns t]
    rw [Nat.succ_mul]
theorem laidN_in {w : Int} (h : 0 < w) (ns : List Int) : ∀ t, InB w (laidN w ns t)
  | 0 => InB.nil
  | t + 1 => (laidN_in h ns t).append fun p hp => by
    obtain ⟨n, _, rfl⟩ := List.mem_map.mp hp
    exact mod_in h
theorem valB_zeros (w : Int) : ∀ {zs : List Int}, (∀ z ∈ zs, z = 0) → valB w zs = 0
  | [], _ => rfl
  | z :: r, h => by
    have h1 := h z List.mem_cons_self
    have h2 := valB_zeros w (zs := r) fun y hy => h y (List.mem_cons_of_mem _ hy)
    show z + w * valB w r = 0
    rw [h1, h2, Int.mul_zero, Int.add_zero]
theorem ediv_done {w n : Int} {T k : Nat} (hw : 2 ≤ w) (h : n / w ^ T = 0) : n / w ^ (T + k) = 0 := by
  rw [Int.pow_add, ← Int.ediv_ediv_of_nonneg (Int.le_of_lt (Int.pow_pos (by omega))), h, Int.zero_ediv]
theorem laidN_done {w : Int} {ns : List Int} {T : Nat} (hw : 2 ≤ w) (h : ∀ n ∈ ns, n / w ^ T = 0) : ∀ k, valB w (laidN w ns (T + k)) = valB w (laidN w ns T)
  | 0 => rfl
  | k + 1 => by
    show valB w (laidN w ns (T + k) ++ ns.map fun n => dig w n (T + k)) = _
    rw [valB_append, laidN_done hw h k, valB_zeros w (zs := ns.map fun n => dig w n (T + k)), Int.mul_zero, Int.add_zero]
    intro z hz
    obtain ⟨n, hn, rfl⟩ := List.mem_map.mp hz
    show n / w ^ (T + k) % w = 0
    rw [ediv_done hw (h n hn), Int.zero_emod]
def JointIs (w : Int) (ns : List Int) (v : Int) : Prop := ∃ T, (∀ n ∈ ns, n / w ^ T = 0) ∧ v = valB w (laidN w ns T)
theorem JointIs.one {w : Int} {ns : List Int} {v v' : Int} (hw : 2 ≤ w) (h : JointIs w ns v) (h' : JointIs w ns v') : v = v' := by
  obtain ⟨T, h1, rfl⟩ := h
  obtain ⟨T', h1', rfl⟩ := h'
  rcases Nat.le_total T T' with q | q
  · obtain ⟨k, rfl⟩ := Nat.le.dest q
    exact (laidN_done hw h1 k).symm
  · obtain ⟨k, rfl⟩ := Nat.le.dest q
    exact laidN_done hw h1' k
theorem valB_dig {w : Int} (hw : 2 ≤ w) : ∀ {ds : List Int}, InB w ds → ∀ j, ds.getD j 0 = valB w ds / w ^ j % w
  | [], _, j => by simp [valB]
  | d :: r, h, 0 => by
    have hd := h d List.mem_cons_self
    show d = (d + w * valB w r) / w ^ 0 % w
    rw [Int.pow_zero, Int.ediv_one, Int.add_mul_emod_self_left]
    exact (Int.emod_eq_of_lt hd.1 hd.2).symm
  | d :: r, h, j + 1 => by
    have hd := h d List.mem_cons_self
    have e : (d + w * valB w r) / w = valB w r := by
      rw [Int.add_mul_ediv_left _ _ (by omega), Int.ediv_eq_zero_of_lt hd.1 hd.2, Int.zero_add]
    show r.getD j 0 = (d + w * valB w r) / w ^ (j + 1) % w
    rw [Int.pow_succ, Int.mul_comm (w ^ j) w, ← Int.ediv_ediv_of_nonneg (by omega), e]
    exact valB_dig hw h.tail j
theorem Figs.dig {w n : Int} {ds : List Int} (hw : 2 ≤ w) (F : Figs w n ds) (j : Nat) : ds.getD j 0 = dig w n j := by
  have := valB_dig hw F.inb j
  rw [F.val] at this
  exact this
theorem Figs.done {w n : Int} {ds : List Int} (hw : 2 ≤ w) (F : Figs w n ds) {j : Nat} (h : ds.length ≤ j) : n / w ^ j = 0 := by
  obtain ⟨k, rfl⟩ := Nat.le.dest h
  refine ediv_done hw ?_
  rw [← F.val]
  exact Int.ediv_eq_zero_of_lt (valB_nonneg (by omega) F.inb) (valB_lt (by omega) F.inb)
theorem Figs.most {w n : Int} {ds : List Int} (hw : 2 ≤ w) (F : Figs w n ds) (h : ds ≠ []) : w ^ (ds.length - 1) ≤ n := by
  rcases last_cases ds with rfl | ⟨r, x, rfl⟩
  · exact absurd rfl h
  · have hx := F.inb x (by simp)
    have hx0 : x ≠ 0 := F.top x (List.getLast?_concat ..)
    have v := F.val
    rw [valB_snoc] at v
    have r0 := valB_nonneg (by omega : (0 : Int) ≤ w) (ps := r) fun p hp => F.inb p (List.mem_append_left _ hp)
    have p0 : (0 : Int) < w ^ r.length := Int.pow_pos (by omega)
    have : 1 * w ^ r.length ≤ x * w ^ r.length := Int.mul_le_mul_of_nonneg_right (by omega) (by omega)
    have e : (r ++ [x]).length - 1 = r.length := by simp
    rw [e]
    omega
theorem base_mono {a b : Int} (h0 : 0 ≤ a) (h : a ≤ b) : ∀ n : Nat, a ^ n ≤ b ^ n
  | 0 => by rw [Int.pow_zero, Int.pow_zero]; exact Int.le_refl _
  | n + 1 => by
    rw [Int.pow_succ, Int.pow_succ]
    have p : 0 ≤ b ^ n := Int.pow_nonneg (by omega)
    exact Int.mul_le_mul (base_mono h0 h n) h h0 p
/-- the bound under which all of it is told -/
structure JointOk (w U : Int) (ns : List Int) : Prop where
  w0 : 2 ≤ w
  w1 : w ≤ 1000000001
  u0 : 1 ≤ U
  u1 : U ≤ 10 ^ 60
  few : ns.length ≤ 13
  all : ∀ n ∈ ns, 0 ≤ n ∧ n < U
  big : (w * U) ^ ns.length * w < BIG
theorem JointOk.len {w U n : Int} {ns ds : List Int} (J : JointOk w U ns) (hn : n ∈ ns) (F : Figs w n ds) : w ^ ds.length ≤ w * U ∧ ds.length ≤ 200 := by
  have w0 := J.w0
  have u0 := J.u0
  have hnU := J.all n hn
  rcases last_cases ds with rfl | ⟨r, x, rfl⟩
  · refine ⟨?_, by simp⟩
    have : 2 * 1 ≤ w * U := Int.mul_le_mul w0 u0 (by decide) (by omega)
    simp
    omega
  · have m := F.most w0 (by simp)
    have e : (r ++ [x]).length - 1 = r.length := by simp
    rw [e] at m
    have lU : w ^ r.length ≤ U := by omega
    refine ⟨?_, ?_⟩
    · rw [List.length_append, List.length_singleton, Int.pow_succ, Int.mul_comm]
      exact Int.mul_le_mul_of_nonneg_left lU (by omega)
    · have b : (2 : Int) ^ r.length ≤ w ^ r.length := base_mono (by decide) w0 _
      have c : (2 : Int) ^ r.length < 2 ^ 200 := Int.lt_of_le_of_lt (Int.le_trans b (Int.le_trans lU J.u1)) (by decide +kernel)
      have d : (2 : Nat) ^ r.length < 2 ^ 200 := by exact_mod_cast c
      have := (Nat.pow_lt_pow_iff_right (by decide)).mp d
      rw [List.length_append, List.length_singleton]
      omega
theorem JointOk.laid {w U : Int} {ns : List Int} {M : Nat} (J : JointOk w U ns) (hM : M = 0 ∨ w ^ M ≤ w * U) (hM2 : M ≤ 200) : w ^ ((laidN w ns M).length + 1) < BIG ∧ (laidN w ns M).length ≤ 4000 := by
  have w0 := J.w0
  have u0 := J.u0
  have few := J.few
  rw [laidN_len]
  refine ⟨Int.lt_of_le_of_lt ?_ J.big, ?_⟩
  · have hw : w ^ M ≤ w * U := by
      rcases hM with rfl | h
      · have : 2 * 1 ≤ w * U := Int.mul_le_mul w0 u0 (by decide) (by omega)
        simp
        omega
      · exact h
    have e : w ^ (M * ns.length + 1) = (w ^ M) ^ ns.length * w := by rw [Int.pow_succ, Int.pow_mul]
    rw [e]
    exact Int.mul_le_mul_of_nonneg_right (base_mono (Int.le_of_lt (Int.pow_pos (by omega))) hw _) (by omega)
  · have := Nat.mul_le_mul hM2 few
    omega
end My

set_option Elab.async false
set_option linter.all false
set_option maxRecDepth 100000
set_option maxHeartbeats 8000000
namespace My
open PySem L2
/-! ### numbers side by side: the program -/
def spJoint (K : PySem.W.Frag) : Sp := fun vs H Q _ => ∃ (b : Addr) (w U : Int) (ns : List Int), vs = [.ref b, .int w] ∧ (H b = some (.lst (ns.map V.int)) ∨ H b = some (.tup (ns.map V.int))) ∧ JointOk w U ns ∧ ∀ (v : Int) (H' : Hp), Same H H' → JointIs w ns v → Q (.int v) H'
theorem rMaxD_nat {K : PySem.W.Frag} {H : Hp} {a : Addr} {ls : List Nat} {Q : VK} (hS : SqL K H a ((ls.map fun l : Nat => (l : Int)).map V.int)) (h : ∀ M : Nat, (∀ l ∈ ls, l ≤ M) → (M = 0 ∨ M ∈ ls) → Q (.int M) H) : rMaxD K [.ref a] [.int 0] H Q := by
  refine ⟨a, _, _, rfl, rfl, hS, fun e => ?_, fun M hM hall => ?_⟩
  · have e' : ls = [] := List.map_eq_nil_iff.mp e
    refine h 0 (fun l hl => ?_) (.inl rfl)
    rw [e'] at hl
    cases hl
  · obtain ⟨l, hl, rfl⟩ := List.mem_map.mp hM
    refine h l (fun l' hl' => ?_) (.inr hl)
    have := hall (l' : Int) (List.mem_map.mpr ⟨l', hl', rfl⟩)
    omega
theorem getD_snoc {α : Type} {xs : List α} {x d : α} {j : Nat} (h : j < xs.length) : (xs ++ [x]).getD j d = xs.getD j d := by simp [List.getD_eq_getElem?_getD, List.getElem?_append_left h]
theorem getD_snoc_last {α : Type} {xs : List α} {x d : α} : (xs ++ [x]).getD xs.length d = x := by simp [List.getD_eq_getElem?_getD]
theorem refs_at {ras : List Addr} {i : Nat} {y : V} (h : (ras.map V.ref)[i]? = some y) : ∃ z, y = V.ref z ∧ ras[i]? = some z := by
  rw [List.getElem?_map] at h
  cases e : ras[i]? with
  | none => rw [e] at h; cases h
  | some z => rw [e] at h; exact ⟨z, (Option.some.inj h).symm, rfl⟩
theorem rowsAt_upd {H : Hp} {D : Addr} {xs : List V} {o : HO} {ras : List Addr} {rows : List (List Int)} (h : RowsAt H ras rows) (hD : H D = some (.lst xs)) : RowsAt (upd H D o) ras rows := h.same fun b ys e => by
  rw [upd_ne (ne_of e hD (by intro z; cases z))]
  exact e
theorem rowsAt_same {H H' : Hp} {ras : List Addr} {rows : List (List Int)} (h : RowsAt H ras rows) (s : Same H H') : RowsAt H' ras rows := h.same fun b ys e => s _ _ e
section
variable {P : Program} {w : World} {K : PySem.W.Frag} {mg : Str → Option Value} {base : Heap} {f : Addr} {fd : FuncData} {dV : Value}

theorem ok_joint (F : FunD K "joint" "joint" s_joint dV f fd) (G_need_whole : DefOk P w K mg base "need_whole" 3 ["thing", "least", "called"] [] spNeed) (G_need_row : DefOk P w K mg base "need_row" 1 ["thing", "called"] [] spNeedRow)
    (G_figures : DefOk P w K mg base "figures" 4 ["number", "wide"] [] (spFigures K)) (G_number_of : DefOk P w K mg base "number_of" 4 ["row", "wide"] [] (spNumOf K)) (z_range : mg "range" = none) (z_len : mg "len" = none) (z_max : mg "max" = none) :
    FnOk P w K mg base CX0 5 f fd ["numbers", "base"] (spJoint K) := by
  refine F.ok sc_joint (fun vs H Q E h => ?_) (fun cdv A outer s H vs Q E hr h => ?_)
  · obtain ⟨b, wd, U, ns, rfl, _⟩ := h
    rfl
  obtain ⟨b, wd, U, ns, rfl, hb, J, k⟩ := h
  have w0 := J.w0
  have w1 := J.w1
  have few := J.few
  have wNB : (1000000001 : Int) < NB := by decide +kernel
  have uNB : (10 : Int) ^ 60 < NB := by decide +kernel
  have u1 := J.u1
  have big : 5001 < sizeLine := by decide
  refine ⟨_, (pss_cons (ps_expr (pe_cd G_need_whole hr (pa_cons (pv 1) (pa_cons pe_int (pa_cons pe_str pa_nil)))))
      (pss_cons (ps_expr (pe_cd G_need_row hr (pa_cons (pv 0) (pa_cons pe_str pa_nil))))
      (pss_cons (ps_setComp (i := 2) rfl sc_joint.nd rfl (Or.inl rfl) bk_joint_0 (pi_seq (pv 0)) (fun _ _ _ _ => (pg_name (i := 0) bk_joint_0.nd rfl (Or.inl rfl))) (fun _ _ _ _ => (pe_cd G_figures hr (pa_cons (pv 0) (pa_cons (pv 1) pa_nil)))))
      (pss_cons (ps_set (i := 3) sc_joint.nd rfl (Or.inl rfl) (pe_lst pa_nil))
      (pss_cons (ps_for PassesOwn.never rfl (pi_range1 rfl z_range (pa_cons (pe_maxD rfl rfl z_max (pa_cons (pe_comp rfl bk_joint_1 (pi_list (pv 2)) (fun _ _ _ _ => (pg_name (i := 0) bk_joint_1.nd rfl (Or.inl rfl))) (fun _ _ _ _ => (pe_callB (call_len_seqK K) (by rfl) z_len bt_len (pa_cons (pv 0) pa_nil)))) pa_nil) pe_int) pa_nil)) (pg_name (i := 4) sc_joint.nd rfl (Or.inl rfl)) (pss_one (ps_for PassesOwn.never rfl (pi_list (pv 2)) (pg_name (i := 5) sc_joint.nd rfl (Or.inl rfl)) (pss_one (ps_expr (pe_bm PySem.F.plainAttrs_list PySem.F.slot_list_append PySem.F.type_list_append mt_append (pv 3) (pa_cons (pe_ifExp (pt_cmpR op_lt (pv 4) (pe_callB call_len_seq (by rfl) z_len bt_len (pa_cons (pv 5) pa_nil)) (nomark _)) (pe_ix ix_tup (pv 5) (pv 4) (fun _ _ => rfl)) pe_int) pa_nil)))))))
      (pss_one (ps_ret (pe_cd G_number_of hr (pa_cons (pv 3) (pa_cons (pv 1) pa_nil)))))))))), ?_⟩
  refine ⟨_, rfl, wd, 2, _, rfl, w0, ?_⟩
  refine ⟨_, rfl, b, _, _, rfl, hb, fun H1 s1 => ?_⟩
  have hb1 : SqL K H1 b (ns.map V.int) ∨ SqT K H1 b (ns.map V.int) := hb.imp (fun h => SqL.of (s1 _ _ h)) fun h => SqT.of (s1 _ _ h)
  -- rows = [figures(number, base) for number in numbers]
  refine ⟨_, rfl, b, rfl, comp_seq hb1 (fun D i ys H' => Same H1 H' ∧ ∃ (ras : List Addr) (dss : List (List Int)), ys = ras.map V.ref ∧ RowsAt H' ras dss ∧ dss.length = i ∧ ∀ j, j < i → Figs wd (ns.getD j 0) (dss.getD j []))
    (fun D hD => ⟨same_new hD _, [], [], rfl, .nil, rfl, fun j h => absurd h (Nat.not_lt_zero _)⟩) (fun D i ys H' _ p => p.1) ?_ ?_⟩
  · rintro D i y ys H' Q' hD hi hy ⟨hs, ras, dss, rfl, hA, hl, hF⟩ k'
    obtain ⟨z, rfl, hz⟩ := ints_at hi
    have hz' := J.all z (List.mem_of_getElem? hz)
    have hi' : i < ns.length := (List.getElem?_eq_some_iff.mp hz).1
    refine ⟨_, rfl, _, rfl, z, wd, rfl, ⟨hz'.1, by omega⟩, ⟨w0, by omega⟩, fun t H4 ds sT hT FG _ => ?_⟩
    have hy4 := sT _ _ hy
    have ln := hA.length
    refine k' _ H4 hy4 (by rw [List.length_map]; omega) ⟨same_upd (hs.trans sT) hD, ras ++ [t], dss ++ [ds], by rw [List.map_append]; rfl, ?_, by simp [hl], fun j hj => ?_⟩
    · exact rowsAt_upd ((rowsAt_same hA sT).snoc hT) hy4
    · rcases Nat.lt_or_ge j i with q | q
      · rw [getD_snoc (by omega)]
        exact hF j q
      · have e : j = dss.length := by omega
        rw [e, getD_snoc_last, hl]
        have e2 : ns.getD i 0 = z := by simp [List.getD_eq_getElem?_getD, hz]
        rw [e2]
        exact FG
  rintro D ys H2 hD hD2 ⟨hs2, ras, dss, rfl, hA, hl, hF⟩
  rw [List.length_map] at hl hF
  have ln := hA.length
  -- laid = []
  refine ⟨(by show 0 ≤ sizeLine; decide), fun L hL => ?_⟩
  have nDL : D ≠ L := ne_of_none hD2 hL
  have s3 : Same H (upd H2 L (HO.lst [])) := (s1.trans hs2).trans (same_new hL _)
  have fL : H L = none := (s1.trans hs2).free hL
  have hA3 : RowsAt (upd H2 L (HO.lst [])) ras dss := rowsAt_same hA (same_new hL _)
  have hD3 : upd H2 L (HO.lst []) D = some (.lst (ras.map V.ref)) := by rw [upd_ne nDL]; exact hD2
  generalize hH3 : upd H2 L (HO.lst []) = H3 at s3 hA3 hD3 ⊢
  have hL3 : H3 L = some (.lst []) := by rw [← hH3]; exact upd_same
  have dlen : ∀ ds ∈ dss, wd ^ ds.length ≤ wd * U ∧ ds.length ≤ 200 := fun ds hds => by
    obtain ⟨j, hj, rfl⟩ := List.getElem_of_mem hds
    have FG := hF j (by omega)
    rw [getD_at hj, getD_at (by omega : j < ns.length)] at FG
    exact J.len (List.getElem_mem _) FG
  -- max([len(row) for row in rows], default=0)
  refine ⟨_, rfl, D, rfl, ⟨_, SqL.of hD3⟩, comp_list (K := K) (xs := ras.map V.ref) (fun D2 i ys H' => Same H3 H' ∧ ys = ((dss.take i).map fun ds => ((ds.length : Nat) : Int)).map V.int) (fun D2 hD2 => ⟨same_new hD2 _, rfl⟩) (fun D2 i ys H' _ p => SqL.of (p.1 _ _ hD3)) ?_ ?_⟩
  · rintro D2 i y ys H' Q' hD2 hi hy ⟨hs, rfl⟩ k'
    obtain ⟨ra, rfl, hra⟩ := refs_at hi
    have hi' : i < dss.length := by rw [← ln]; exact (List.getElem?_eq_some_iff.mp hra).1
    obtain ⟨ra', e1, e2⟩ := hA3.get hi'
    rw [hra] at e1
    cases e1
    refine ⟨_, rfl, ra, _, rfl, .inr (SqT.of (hs _ _ e2)), k' _ H' hy (by simp; omega) ⟨same_upd hs hD2, ?_⟩⟩
    rw [List.take_add_one, List.getElem?_eq_getElem hi', List.map_append, List.map_append, List.length_map]
    rfl
  rintro D2 ys H4 hD2 hD4 ⟨s4, rfl⟩
  rw [List.length_map, ln, List.take_length] at hD4
  have e4 : (dss.map fun ds => ((ds.length : Nat) : Int)) = (dss.map List.length).map fun l : Nat => (l : Int) := by rw [List.map_map]; rfl
  rw [e4] at hD4
  refine rMaxD_nat (SqL.of hD4) fun M hM1 hM2 => ?_
  have M200 : M ≤ 200 := by
    rcases hM2 with h | h
    · omega
    · obtain ⟨ds, hds, rfl⟩ := List.mem_map.mp h
      exact (dlen ds hds).2
  have MwU : M = 0 ∨ wd ^ M ≤ wd * U := by
    rcases hM2 with h | h
    · exact .inl h
    · obtain ⟨ds, hds, rfl⟩ := List.mem_map.mp h
      exact .inr (dlen ds hds).1
  have Mdone : ∀ n ∈ ns, n / wd ^ M = 0 := fun n hn => by
    obtain ⟨j, hj, rfl⟩ := List.getElem_of_mem hn
    have FG := hF j hj
    have hj2 : j < dss.length := by omega
    rw [getD_at hj, getD_at hj2] at FG
    exact FG.done w0 (hM1 _ (List.mem_map.mpr ⟨_, List.getElem_mem hj2, rfl⟩))
  obtain ⟨lb, l4⟩ := J.laid MwU M200
  refine ⟨(M : Int), rfl, by omega, by omega, for_range (fun i σ' H' => ∃ (v v' : Option V), σ' = [some (.ref b), some (.int wd), some (.ref D), some (.ref L), v, v'] ∧ Same H H' ∧ H' D = some (.lst (ras.map V.ref)) ∧ RowsAt H' ras dss ∧ H' L = some (.lst ((laidN wd ns i).map V.int)))
    ⟨_, _, rfl, s3.trans s4, s4 _ _ hD3, rowsAt_same hA3 s4, s4 _ _ hL3⟩ ?_ ?_⟩
  · rintro i σ' H5 hi ⟨v, v', rfl, s5, hD5, hA5, hL5⟩
    have hiM : i < M := by simpa using hi
    have li : (laidN wd ns i).length ≤ 2600 := by
      rw [laidN_len]
      have := Nat.mul_le_mul (by omega : i ≤ 200) few
      omega
    refine ⟨_, rfl, D, rfl, ⟨_, SqL.of hD5⟩, for_list (K := K) (xs := ras.map V.ref) (fun j σ' H' => ∃ (v' : Option V), σ' = [some (.ref b), some (.int wd), some (.ref D), some (.ref L), some (.int (0 + i)), v'] ∧ Same H H' ∧ H' D = some (.lst (ras.map V.ref)) ∧ RowsAt H' ras dss ∧ H' L = some (.lst ((laidN wd ns i ++ (ns.take j).map fun n => dig wd n i).map V.int)))
      ⟨_, rfl, s5, hD5, hA5, by simpa using hL5⟩ (fun j σ' H' _ ⟨_, _, _, h, _⟩ => SqL.of h) ?_ ?_⟩
    · rintro j y σ' H6 hj ⟨v', rfl, s6, hD6, hA6, hL6⟩
      obtain ⟨ra, rfl, hra⟩ := refs_at hj
      have hj' : j < dss.length := by rw [← ln]; exact (List.getElem?_eq_some_iff.mp hra).1
      have hjn : j < ns.length := by omega
      obtain ⟨ra', e1, e2⟩ := hA6.get hj'
      rw [hra] at e1
      cases e1
      have FG := hF j hjn
      rw [getD_at hjn, getD_at hj'] at FG
      have dg := FG.dig w0 i
      have new : (laidN wd ns i ++ (ns.take (j + 1)).map fun n => dig wd n i).map V.int = (laidN wd ns i ++ (ns.take j).map fun n => dig wd n i).map V.int ++ [V.int (dig wd ns[j] i)] := by
        rw [List.take_add_one, List.getElem?_eq_getElem hjn, Option.toList_some]
        simp only [List.map_append, List.append_assoc, List.map_cons, List.map_nil]
      have few2 : ((laidN wd ns i ++ (ns.take j).map fun n => dig wd n i).map V.int).length < sizeLine := by
        rw [List.length_map, List.length_append, List.length_map, List.length_take]
        omega
      have fin : ∀ z, z = dig wd ns[j] i → ∃ (v' : Option V), [some (V.ref b), some (.int wd), some (.ref D), some (.ref L), some (.int (0 + (i : Int))), some (.ref ra)] = [some (V.ref b), some (.int wd), some (.ref D), some (.ref L), some (.int (0 + (i : Int))), v'] ∧ Same H (upd H6 L (.lst ((laidN wd ns i ++ (ns.take j).map fun n => dig wd n i).map V.int ++ [V.int z]))) ∧ upd H6 L (.lst ((laidN wd ns i ++ (ns.take j).map fun n => dig wd n i).map V.int ++ [V.int z])) D = some (.lst (ras.map V.ref)) ∧
          RowsAt (upd H6 L (.lst ((laidN wd ns i ++ (ns.take j).map fun n => dig wd n i).map V.int ++ [V.int z]))) ras dss ∧ upd H6 L (.lst ((laidN wd ns i ++ (ns.take j).map fun n => dig wd n i).map V.int ++ [V.int z])) L = some (.lst ((laidN wd ns i ++ (ns.take (j + 1)).map fun n => dig wd n i).map V.int)) := fun z e => by
        subst e
        exact ⟨_, rfl, same_upd s6 fL, by rw [upd_ne nDL]; exact hD6, rowsAt_upd hA6 hL6, by rw [upd_same, new]⟩
      refine ⟨_, rfl, .inl ⟨rfl, _, SqL.of hL6⟩, _, rfl, _, rfl, ra, _, rfl, .inr (SqT.of e2), _, _, rfl, rfl, _, rfl, iteD (fun c => ?_) (fun c => ?_)⟩
      · have c' : i < dss[j].length := by
          have : (0 : Int) + (i : Int) < (((dss[j].map V.int).length : Nat) : Int) := c
          rw [List.length_map] at this
          omega
        refine ⟨_, rfl, _, rfl, ra, _, _, _, rfl, rfl, SqT.of e2, atI_ints (by omega) (by omega), L, _, _, rfl, rfl, hL6, few2, fin _ ?_⟩
        have e : (0 + (i : Int)).toNat = i := by omega
        rw [e]
        exact dg
      · have c' : dss[j].length ≤ i := by
          have : ¬ ((0 : Int) + (i : Int) < (((dss[j].map V.int).length : Nat) : Int)) := c
          rw [List.length_map] at this
          omega
        refine ⟨L, _, _, rfl, rfl, hL6, few2, fin _ ?_⟩
        rw [← dg, List.getD_eq_getElem?_getD, List.getElem?_eq_none c']
        rfl
    · rintro σ' H6 ⟨v', rfl, s6, hD6, hA6, hL6⟩
      rw [List.length_map, ln, hl, List.take_length] at hL6
      exact ⟨_, _, rfl, s6, hD6, hA6, hL6⟩
  · rintro σ' H5 ⟨v, v', rfl, s5, hD5, hA5, hL5⟩
    rw [Int.toNat_natCast] at hL5
    exact ⟨_, rfl, _, rfl, L, wd, laidN wd ns M, rfl, .inl hL5, w0, l4, lb, laidN_in (by omega) ns M, fun H6 s6 => k _ H6 (s5.trans s6) ⟨M, Mdone, rfl⟩⟩
end
/-! ### told apart: the mathematics -/
/-- skip k, take one, skip m - 1, take one, .. -/
def pickS {α : Type} (m : Nat) : Nat → List α → List α
  | _, [] => []
  | 0, d :: r => d :: pickS m (m - 1) r
  | k + 1, _ :: r => pickS m k r
theorem pickS_map {α β : Type} (g : α → β) (m : Nat) : ∀ (ds : List α) (k : Nat), pickS m k (ds.map g) = (pickS m k ds).map g
  | [], k => by cases k <;> rfl
  | d :: r, 0 => by simp only [List.map_cons, pickS, pickS_map g m r]
  | d :: r, k + 1 => by simp only [List.map_cons, pickS, pickS_map g m r]
theorem pickS_get {α : Type} {m : Nat} (hm : 1 ≤ m) : ∀ (ds : List α) (k j : Nat), (pickS m k ds)[j]? = ds[k + j * m]?
  | [], k, j => by cases k <;> simp [pickS]
  | d :: r, 0, 0 => by simp [pickS]
  | d :: r, 0, j + 1 => by
    have e : 0 + (j + 1) * m = (m - 1 + j * m) + 1 := by rw [Nat.succ_mul]; omega
    rw [e]
    show (d :: pickS m (m - 1) r)[j + 1]? = _
    rw [List.getElem?_cons_succ, List.getElem?_cons_succ]
    exact pickS_get hm r (m - 1) j
  | d :: r, k + 1, j => by
    have e : k + 1 + j * m = (k + j * m) + 1 := by omega
    rw [e, List.getElem?_cons_succ]
    exact pickS_get hm r k j
theorem pickS_len_le {α : Type} (m : Nat) : ∀ (ds : List α) (k : Nat), (pickS m k ds).length ≤ ds.length
  | [], k => by cases k <;> simp [pickS]
  | d :: r, 0 => by
    have := pickS_len_le m r (m - 1)
    simp only [pickS, List.length_cons]
    omega
  | d :: r, k + 1 => by
    have := pickS_len_le m r k
    simp only [pickS, List.length_cons]
    omega
theorem pickS_mem {α : Type} (m : Nat) : ∀ (ds : List α) (k : Nat) (x : α), x ∈ pickS m k ds → x ∈ ds
  | [], k, x, h => by cases k <;> simp [pickS] at h
  | d :: r, 0, x, h => by
    rcases List.mem_cons.mp h with z | z
    · rw [z]; exact List.mem_cons_self
    · exact List.mem_cons_of_mem _ (pickS_mem m r _ x z)
  | d :: r, k + 1, x, h => List.mem_cons_of_mem _ (pickS_mem m r k x h)
theorem pickS_le {w : Int} (hw : 1 ≤ w) (m : Nat) : ∀ (ds : List Int) (k : Nat), InB w ds → valB w (pickS m k ds) ≤ valB w ds
  | [], k, _ => by cases k <;> exact Int.le_refl _
  | d :: r, 0, h => by
    have ih := pickS_le hw m r (m - 1) h.tail
    have := Int.mul_le_mul_of_nonneg_left ih (by omega : (0 : Int) ≤ w)
    show d + w * _ ≤ d + w * _
    omega
  | d :: r, k + 1, h => by
    have ih := pickS_le hw m r k h.tail
    have hd := h d List.mem_cons_self
    have v0 := valB_nonneg (by omega : (0 : Int) ≤ w) h.tail
    have : 1 * valB w r ≤ w * valB w r := Int.mul_le_mul_of_nonneg_right hw v0
    show valB w (pickS m k r) ≤ d + w * valB w r
    omega
theorem filterMap_get {α : Type} {xs : List α} (f : Nat → Nat) : ∀ (p : Nat), (∀ j, j < p → f j < xs.length) → ∀ i, ((List.range p).filterMap fun j => xs[f j]?)[i]? = if i < p then xs[f i]? else none
  | 0, _, i => by simp
  | p + 1, h, i => by
    have ih := filterMap_get f p (fun j hj => h j (by omega)) i
    have l : ((List.range p).filterMap fun j => xs[f j]?).length = p := by
      have all := filterMap_get f p (fun j hj => h j (by omega))
      rcases Nat.lt_trichotomy ((List.range p).filterMap fun j => xs[f j]?).length p with q | q | q
      · have e := all ((List.range p).filterMap fun j => xs[f j]?).length
        rw [if_pos q, List.getElem?_eq_none (Nat.le_refl _), List.getElem?_eq_getElem (h _ (by omega))] at e
        cases e
      · exact q
      · have e := all p
        rw [if_neg (Nat.lt_irrefl _), List.getElem?_eq_getElem q] at e
        cases e
    have hp := h p (by omega)
    rw [List.range_succ, List.filterMap_append]
    have e1 : [p].filterMap (fun j => xs[f j]?) = [xs[f p]] := by simp [List.getElem?_eq_getElem hp]
    rw [e1]
    rcases Nat.lt_trichotomy i p with q | q | q
    · rw [List.getElem?_append_left (by omega), ih, if_pos q, if_pos (by omega)]
    · subst q
      rw [List.getElem?_append_right (by omega), l, if_pos (by omega), Nat.sub_self, List.getElem?_eq_getElem hp]
      rfl
    · rw [if_neg (by omega), List.getElem?_eq_none]
      rw [List.length_append, l, List.length_singleton]
      omega
/-- xs[at::m] -/
theorem stride_pick {xs : List V} {a m : Nat} (hm : 1 ≤ m) : strideV xs (some (a : Int)) none (m : Int) = pickS m a xs := by
  have hadj : Builtin.Slice.sliceAdjust (some (a : Int)) none (m : Int) (xs.length : Int) = (((min a xs.length : Nat) : Int), (xs.length : Int)) := by
    unfold Builtin.Slice.sliceAdjust
    have h1 : ¬ ((m : Int) < 0) := by omega
    have h2 : ¬ ((a : Int) < 0) := by omega
    simp only [h1, h2, if_false]
    congr 1
    omega
  unfold strideV
  rw [hadj]
  simp only
  apply List.ext_getElem?
  intro i
  rw [pickS_get hm]
  have ef : (fun (j : Nat) => xs[(((min a xs.length : Nat) : Int) + (j : Int) * (m : Int)).toNat]?) = fun (j : Nat) => xs[min a xs.length + j * m]? := by
    funext j
    have : (((min a xs.length : Nat) : Int) + (j : Int) * (m : Int)).toNat = min a xs.length + j * m := by
      have e : (j : Int) * (m : Int) = ((j * m : Nat) : Int) := by simp
      rw [e]
      omega
    rw [this]
  rw [ef]
  rcases Nat.lt_or_ge a xs.length with q | q
  · have ea : min a xs.length = a := by omega
    rw [ea]
    have hp : Builtin.Slice.slicePlaces ((a : Nat) : Int) (xs.length : Int) (m : Int) = (xs.length - a - 1) / m + 1 := by
      unfold Builtin.Slice.slicePlaces
      rw [if_pos (by omega), if_pos (by omega)]
      have e : ((xs.length : Int) - (a : Int) - 1) = ((xs.length - a - 1 : Nat) : Int) := by omega
      rw [e]
      have e2 : ((xs.length - a - 1 : Nat) : Int) / (m : Int) = (((xs.length - a - 1) / m : Nat) : Int) := by simp
      rw [e2]
      generalize (xs.length - a - 1) / m = z
      omega
    rw [hp, filterMap_get]
    · split
      · rfl
      · rename_i h
        rw [List.getElem?_eq_none]
        have h' : (xs.length - a - 1) / m + 1 ≤ i := by omega
        have : (xs.length - a - 1) < ((xs.length - a - 1) / m + 1) * m := Nat.lt_mul_of_div_lt (by omega) (by omega)
        have := Nat.mul_le_mul_right m h'
        omega
    · intro j hj
      have h1 : j ≤ (xs.length - a - 1) / m := by omega
      have h2 := Nat.mul_le_mul_right m h1
      have h3 := Nat.div_mul_le_self (xs.length - a - 1) m
      omega
  · have ea : min a xs.length = xs.length := by omega
    rw [ea]
    have hp : Builtin.Slice.slicePlaces ((xs.length : Nat) : Int) (xs.length : Int) (m : Int) = 0 := by
      unfold Builtin.Slice.slicePlaces
      rw [if_pos (by omega), if_neg (by omega)]
      rfl
    rw [hp, List.getElem?_eq_none (l := xs) (by omega)]
    rfl
theorem pickS_one {α : Type} (ds : List α) : pickS 1 0 ds = ds := by
  apply List.ext_getElem?
  intro i
  rw [pickS_get (Nat.le_refl 1)]
  simp
theorem figs_big {w n : Int} {ds : List Int} (w0 : 2 ≤ w) (w1 : w ≤ 1000000001) (n1 : n ≤ 10 ^ 60) (F : Figs w n ds) {k : Nat} (hk : k ≤ ds.length) : w ^ (k + 1) < BIG := by
  have a0 : w ^ (k + 1) ≤ w ^ (ds.length + 1) := ipow_mono (by omega) (by omega)
  refine Int.lt_of_le_of_lt a0 ?_
  rcases last_cases ds with rfl | ⟨r, x, rfl⟩
  · rw [List.length_nil, Int.pow_succ, Int.pow_zero, Int.one_mul]
    exact Int.lt_of_le_of_lt w1 (by decide +kernel)
  · have m := F.most w0 (by simp)
    have e : (r ++ [x]).length - 1 = r.length := by simp
    rw [e] at m
    have e2 : w ^ ((r ++ [x]).length + 1) = w ^ r.length * (w * w) := by
      rw [List.length_append, List.length_singleton, Int.pow_succ, Int.pow_succ, Int.mul_assoc]
    rw [e2]
    have a1 : w * w ≤ 1000000001 * 1000000001 := Int.mul_le_mul w1 w1 (by omega) (by decide)
    have a2 : w ^ r.length * (w * w) ≤ 10 ^ 60 * (1000000001 * 1000000001) := Int.mul_le_mul (Int.le_trans m n1) a1 (Int.mul_nonneg (by omega) (by omega)) (by decide +kernel)
    exact Int.lt_of_le_of_lt a2 (by decide +kernel)
theorem figs_few {w n : Int} {ds : List Int} (w0 : 2 ≤ w) (n1 : n ≤ 10 ^ 60) (F : Figs w n ds) : ds.length ≤ 201 := by
  rcases last_cases ds with rfl | ⟨r, x, rfl⟩
  · simp
  · have m := F.most w0 (by simp)
    have e : (r ++ [x]).length - 1 = r.length := by simp
    rw [e] at m
    have b : (2 : Int) ^ r.length ≤ w ^ r.length := base_mono (by decide) w0 _
    have c : (2 : Int) ^ r.length < 2 ^ 200 := Int.lt_of_le_of_lt (Int.le_trans b (Int.le_trans m n1)) (by decide +kernel)
    have d : (2 : Nat) ^ r.length < 2 ^ 200 := by exact_mod_cast c
    have := (Nat.pow_lt_pow_iff_right (by decide)).mp d
    rw [List.length_append, List.length_singleton]
    omega
/-- the numbers that stand in n side by side -/
def apartI (w : Int) (m : Nat) (ds : List Int) : List Int := (List.range m).map fun a => valB w (pickS m a ds)
theorem valB_pad {w : Int} : ∀ (ds : List Int) (N : Nat), ds.length ≤ N → valB w ((List.range N).map fun i => ds.getD i 0) = valB w ds
  | [], N, _ => valB_zeros w fun z hz => by
    obtain ⟨i, _, rfl⟩ := List.mem_map.mp hz
    simp
  | d :: r, 0, h => by simp at h
  | d :: r, N + 1, h => by
    rw [List.range_succ_eq_map, List.map_cons, List.map_map]
    show d + w * valB w ((List.range N).map fun i => r.getD i 0) = d + w * valB w r
    rw [valB_pad r N (by simpa using h)]
theorem laidN_apart {w : Int} (hw : 2 ≤ w) {m : Nat} (hm : 1 ≤ m) {ds : List Int} (h : InB w ds) : ∀ T : Nat, laidN w (apartI w m ds) T = (List.range (T * m)).map fun i => ds.getD i 0
  | 0 => by simp [laidN]
  | T + 1 => by
    show laidN w (apartI w m ds) T ++ _ = _
    rw [laidN_apart hw hm h T, Nat.succ_mul, List.range_add, List.map_append]
    congr 1
    unfold apartI
    rw [List.map_map, List.map_map]
    apply List.map_congr_left
    intro a _
    show dig w (valB w (pickS m a ds)) T = ds.getD (T * m + a) 0
    unfold dig
    rw [← valB_dig hw (fun p hp => h p (pickS_mem m ds a p hp)) T, List.getD_eq_getElem?_getD, pickS_get hm, List.getD_eq_getElem?_getD, Nat.add_comm]
theorem apart_joint {w n : Int} (hw : 2 ≤ w) {m : Nat} {ds : List Int} (F : Figs w n ds) (hm : m = 0 → n = 0) : JointIs w (apartI w m ds) n := by
  rcases Nat.eq_zero_or_pos m with z | hm'
  · subst z
    rw [hm rfl]
    exact ⟨0, fun x hx => by simp [apartI] at hx, rfl⟩
  · refine ⟨ds.length, fun x hx => ?_, ?_⟩
    · obtain ⟨a, _, rfl⟩ := List.mem_map.mp hx
      have hin : InB w (pickS m a ds) := fun p hp => F.inb p (pickS_mem m ds a p hp)
      have l := pickS_len_le m ds a
      refine Int.ediv_eq_zero_of_lt (valB_nonneg (by omega) hin) (Int.lt_of_lt_of_le (valB_lt (by omega) hin) (ipow_mono (by omega) l))
    · rw [laidN_apart hw hm' F.inb, valB_pad _ _ (Nat.le_mul_of_pos_right _ hm')]
      exact F.val.symm
/-! ### told apart: the program -/
def spApart (K : PySem.W.Frag) : Sp := fun vs H Q _ => ∃ (n w : Int) (m : Nat), vs = [.int n, .int w, .int m] ∧ (0 ≤ n ∧ n ≤ 10 ^ 60) ∧ (2 ≤ w ∧ w ≤ 1000000001) ∧ m ≤ 13 ∧ (m = 0 → n = 0) ∧
  ∀ (t : Addr) (H' : Hp) (xs : List Int), Same H H' → H' t = some (.tup (xs.map V.int)) → xs.length = m → (∀ x ∈ xs, 0 ≤ x ∧ x ≤ n) → JointIs w xs n → Q (.ref t) H'
section
variable {P : Program} {w : World} {K : PySem.W.Frag} {mg : Str → Option Value} {base : Heap} {f : Addr} {fd : FuncData} {dV : Value}

theorem ok_apart (F : FunD K "apart" "apart" s_apart dV f fd) (G_need_whole : DefOk P w K mg base "need_whole" 3 ["thing", "least", "called"] [] spNeed)
    (G_figures : DefOk P w K mg base "figures" 4 ["number", "wide"] [] (spFigures K)) (G_number_of : DefOk P w K mg base "number_of" 4 ["row", "wide"] [] (spNumOf K)) (z_range : mg "range" = none) (z_tuple : mg "tuple" = none) :
    FnOk P w K mg base CX0 5 f fd ["number", "base", "many"] (spApart K) := by
  refine F.ok sc_apart (fun vs H Q E h => ?_) (fun cdv A outer s H vs Q E hr h => ?_)
  · obtain ⟨n, wd, m, rfl, _⟩ := h
    rfl
  obtain ⟨n, wd, m, rfl, ⟨n0, n1⟩, ⟨w0, w1⟩, m13, hm0, k⟩ := h
  have wNB : (1000000001 : Int) < NB := by decide +kernel
  have uNB : (10 : Int) ^ 60 < NB := by decide +kernel
  refine ⟨_, (pss_cons (ps_expr (pe_cd G_need_whole hr (pa_cons (pv 1) (pa_cons pe_int (pa_cons pe_str pa_nil)))))
      (pss_cons (ps_expr (pe_cd G_need_whole hr (pa_cons (pv 2) (pa_cons pe_int (pa_cons pe_str pa_nil)))))
      (pss_cons (ps_set (i := 3) sc_apart.nd rfl (Or.inr rfl) (pe_cd G_figures hr (pa_cons (pv 0) (pa_cons (pv 1) pa_nil))))
      (pss_cons (ps_if (PW.pt (pw_and (pt_cmpR op_eq (pv 2) pe_int (nomark _)) (pw_and1 (pt_cmpR op_ne (pv 0) pe_int (nomark _))))) (pss_one ps_never) pss_nil)
      (pss_one (ps_ret (pe_callTy call_tuple_of (by rfl) z_tuple bt_tuple (pa_cons (pe_comp rfl bk_apart_0 (pi_range1 rfl z_range (pa_cons (pv 2) pa_nil)) (fun _ _ _ _ => (pg_name (i := 0) bk_apart_0.nd rfl (Or.inl rfl))) (fun _ _ _ _ => (pe_cd G_number_of hr (pa_cons (pe_slice3 (sl3_tupK K) (pv 2) (po_some (pv 0)) po_none (po_some (pv 3))) (pa_cons (pv 1) pa_nil))))) pa_nil)))))))), ?_⟩
  refine ⟨_, rfl, wd, 2, _, rfl, w0, ?_⟩
  refine ⟨_, rfl, m, 0, _, rfl, by omega, ?_⟩
  refine ⟨_, rfl, _, rfl, n, wd, rfl, ⟨n0, by omega⟩, ⟨w0, by omega⟩, fun T H1 ds s1 hT FG hlen => ?_⟩
  try dsimp only [gName]
  refine cut_seq (t := tIfS _ _ _) (fun σ' H' => σ' = [some (.int n), some (.int wd), some (.int m), some (.ref T)] ∧ H' = H1) ?_ (fun nxt => ?_)
  rotate_left
  · refine ⟨_, rfl, rfl, _, rfl, iteI (fun c => ?_) (fun c => ?_)⟩
    · have e : n = 0 := hm0 (by omega)
      refine ⟨_, rfl, rfl, _, rfl, ?_⟩
      rw [e]
      exact iteF (nxt _ _ ⟨by rw [e]; rfl, rfl⟩)
    · exact iteF (nxt _ _ ⟨rfl, rfl⟩)
  rintro σ' H1 ⟨rfl, rfl⟩
  have big : 5001 < sizeLine := by decide
  have few := figs_few w0 n1 FG
  refine ⟨_, rfl, (m : Int), rfl, by omega, by omega, comp_range (fun D i ys H' => Same H1 H' ∧ ys = ((List.range i).map fun a => valB wd (pickS m a ds)).map V.int) (fun D hD => ⟨same_new hD _, rfl⟩) ?_ ?_⟩
  · rintro D i ys H2 Q' hD hi hy ⟨hs, rfl⟩ k'
    have hi' : i < m := by simpa using hi
    have hin : InB wd (pickS m i ds) := fun p hp => FG.inb p (pickS_mem m ds i p hp)
    have lp := pickS_len_le m ds i
    have es : strideV (ds.map V.int) (some (0 + (i : Int))) none (m : Int) = (pickS m i ds).map V.int := by rw [Int.zero_add, stride_pick (by omega), pickS_map]
    have snoc : ((List.range (i + 1)).map fun a => valB wd (pickS m a ds)).map V.int = ((List.range i).map fun a => valB wd (pickS m a ds)).map V.int ++ [V.int (valB wd (pickS m i ds))] := by
      rw [List.range_succ, List.map_append, List.map_append]
      rfl
    refine ⟨_, rfl, _, rfl, _, rfl, _, rfl, _, rfl, T, _, (m : Int), rfl, rfl, SqT.of (hs _ _ hT), by omega, ?_, fun e1 e2 e3 => ?_, fun p hp => ?_⟩
    · rw [es, List.length_map]
      omega
    · have em : m = 1 := by omega
      have ei : i = 0 := by omega
      have ep : pickS m i ds = ds := by rw [em, ei]; exact pickS_one ds
      refine ⟨_, rfl, T, wd, ds, rfl, .inr (hs _ _ hT), w0, by omega, figs_big w0 w1 n1 FG (Nat.le_refl _), FG.inb, fun H3 s3 => k' _ H3 (s3 _ _ hy) (by simp; omega) ⟨same_upd (hs.trans s3) hD, ?_⟩⟩
      rw [snoc, ep]
    · rw [es]
      refine ⟨_, rfl, p, wd, pickS m i ds, rfl, .inr upd_same, w0, by omega, figs_big w0 w1 n1 FG lp, hin, fun H3 s3 => k' _ H3 (s3 _ _ ((same_new hp _) _ _ hy)) (by simp; omega) ⟨same_upd ((hs.trans (same_new hp _)).trans s3) hD, ?_⟩⟩
      rw [snoc]
  rintro D ys H2 hD hD2 ⟨hs2, rfl⟩
  have em : (m : Int).toNat = m := Int.toNat_natCast m
  rw [em] at hD2
  refine ⟨D, _, rfl, .inl ⟨SqL.of hD2, fun t ht => k t _ (apartI wd m ds) ((s1.trans hs2).trans (same_new ht _)) upd_same (by simp [apartI]) (fun x hx => ?_) (apart_joint w0 FG hm0)⟩⟩
  obtain ⟨a, _, rfl⟩ := List.mem_map.mp hx
  have hin : InB wd (pickS m a ds) := fun p hp => FG.inb p (pickS_mem m ds a p hp)
  refine ⟨valB_nonneg (by omega) hin, ?_⟩
  have := pickS_le (by omega : (1 : Int) ≤ wd) m ds a FG.inb
  rw [FG.val] at this
  exact this
end
end My

set_option Elab.async false
set_option linter.all false
set_option maxRecDepth 100000
set_option maxHeartbeats 8000000
namespace My
open PySem L2
/-! ### what is refused: the law's own words -/
theorem joint_one {w : Int} (hw : 2 ≤ w) (n : Int) : ∀ T : Nat, valB w (laidN w [n] T) + w ^ T * (n / w ^ T) = n
  | 0 => by simp [laidN, valB]
  | T + 1 => by
    have ih := joint_one hw n T
    have p0 : 0 < w ^ T := Int.pow_pos (by omega)
    have e1 : n / w ^ (T + 1) = n / w ^ T / w := by rw [Int.pow_succ, Int.ediv_ediv_of_nonneg (Int.le_of_lt p0)]
    have e2 := Int.emod_add_mul_ediv (n / w ^ T) w
    show valB w (laidN w [n] T ++ [n / w ^ T % w]) + _ = n
    rw [valB_append, laidN_len, List.length_singleton, Nat.mul_one, e1]
    show valB w (laidN w [n] T) + w ^ T * (n / w ^ T % w + w * 0) + w ^ (T + 1) * (n / w ^ T / w) = n
    rw [Int.mul_zero, Int.add_zero, Int.pow_succ, Int.add_assoc, Int.mul_assoc (w ^ T) w, ← Int.mul_add, e2]
    exact ih
theorem JointIs.single {w n v : Int} (hw : 2 ≤ w) (h : JointIs w [n] v) : v = n := by
  obtain ⟨T, h1, rfl⟩ := h
  have h2 := h1 n List.mem_cons_self
  have h3 := joint_one hw n T
  rw [h2, Int.mul_zero, Int.add_zero] at h3
  exact h3
theorem Figs.zero {w : Int} {ds : List Int} (hw : 2 ≤ w) (h : Figs w 0 ds) : ds = [] := by
  rcases last_cases ds with e | ⟨r, x, e⟩
  · exact e
  · exfalso
    have hx := h.inb x (by rw [e]; exact List.mem_append_right _ List.mem_cons_self)
    have hr : 0 ≤ valB w r := valB_nonneg (by omega) fun p hp => h.inb p (by rw [e]; exact List.mem_append_left _ hp)
    have ht : x ≠ 0 := h.top x (by rw [e]; simp)
    have hv := h.val
    rw [e, valB_append] at hv
    have p0 : 0 < w ^ r.length := Int.pow_pos (by omega)
    have : 0 < w ^ r.length * valB w [x] := Int.mul_pos p0 (by show 0 < x + w * 0; omega)
    omega
def spCell (K : PySem.W.Frag) : Sp := fun vs H Q _ => ∃ (a : Addr) (k : Int) (ns : List Int), vs = [.ref a, .int k] ∧ SqL K H a (ns.map V.int) ∧ ns.length ≤ 63 ∧ 0 ≤ k ∧ ∀ v : Int, Q (.int v) H
def spNoNum : Sp := fun vs H Q _ => ∃ c : Int, vs = [.int c] ∧ ∀ (y : V) (H' : Hp), Same H H' → Pl H' y → whF 0 y = false → Q y H'
def spNoWide : Sp := fun vs H Q _ => ∃ c : Int, vs = [.int c] ∧ ∀ (y : V) (H' : Hp), Same H H' → Pl H' y → whF 2 y = false → Q y H'
def spNoRow : Sp := fun vs H Q _ => ∃ c : Int, vs = [.int c] ∧ ∀ (y : V) (H' : Hp), Same H H' → Pl H' y → ¬ RowV H' y → Q y H'
def spPutIn : Sp := fun vs H Q _ => ∃ (r : Addr) (i : Int) (y : V) (xs : List V), vs = [.ref r, .int i, y] ∧ H r = some (.lst xs) ∧ xs.length ≤ 100 ∧ 0 ≤ i ∧ ∀ (l : Addr) (H' : Hp) (k : Nat), k ≤ xs.length → Same H H' →
  (H' l = some (.lst (xs.take k ++ y :: xs.drop k)) ∨ H' l = some (.tup (xs.take k ++ y :: xs.drop k))) → Q (.ref l) H'
/-- what is asked is refused -/
def spAskedX (C : Addr) : Sp := fun vs H Q E => ∃ (q : Int) (a b c : V), vs = [.int q, a, b, c] ∧ ((q = 0 ∧ spFigY C [a, b] H Q E) ∨ (q = 1 ∧ spNumX C [a, b] H Q E) ∨ (q = 2 ∧ spJointX C [a, b] H Q E) ∨ (q = 3 ∧ spApartX C [a, b, c] H Q E))
def spRefusedA (C : Addr) : Sp := fun vs H Q _ => vs.length = 4 ∧ (∀ (Q' : VK) (E' : XK), (∀ H', Same H H' → E' (.ref C) none H') → spAskedX C vs H Q' E') ∧ ∀ H', Same H H' → Q (.bl true) H'
def spOthers (C : Addr) : Sp := fun vs H Q _ => ∃ ea : Addr, vs = [.ref ea] ∧ H ea = some (.ext (ExAt ea C)) ∧ ∀ H', Same H H' → Q (.bl false) H'
theorem call_isXK {X : Cx} (K : PySem.W.Frag) (h : X.K = K := by rfl) : CallR X (.builtin "isinstance") (rIsX K) := by subst h; exact call_isX
theorem kit_self (K : PySem.W.Frag) (t : Value) : PySem.W.kitOne K t t = some true := by
  unfold PySem.W.kitOne
  rw [if_pos (by simp)]
section
variable {P : Program} {w : World} {K : PySem.W.Frag} {mg : Str → Option Value} {base : Heap} {f : Addr} {fd : FuncData} {dV : Value} {C F0 D1 D2 D3 D4 D5 D6 D7 D8 : Addr}
theorem sc__law_cell_at : FnScope ["_law_script", "_law_k"] ["_law_script", "_law_k"] (defScope s__law_cell_at) := ⟨rfl, rfl, rfl, by decide +kernel, rfl, by decide +kernel, by decide +kernel⟩
theorem sc__law_others : FnScope ["_law_e", "_law_kinds"] ["_law_e"] (defScope s__law_others) := ⟨rfl, rfl, rfl, by decide +kernel, rfl, by decide +kernel, by decide +kernel⟩
theorem sc__law_asked : FnScope ["_law_which", "_law_one", "_law_two", "_law_three"] ["_law_which", "_law_one", "_law_two", "_law_three"] (defScope s__law_asked) := ⟨rfl, rfl, rfl, by decide +kernel, rfl, by decide +kernel, by decide +kernel⟩
theorem sc__law_refused : FnScope ["_law_which", "_law_one", "_law_two", "_law_three", "_law_e"] ["_law_which", "_law_one", "_law_two", "_law_three"] (defScope s__law_refused) := ⟨rfl, rfl, rfl, by decide +kernel, rfl, by decide +kernel, by decide +kernel⟩
theorem sc__law_no_number : FnScope ["_law_cell"] ["_law_cell"] (defScope s__law_no_number) := ⟨rfl, rfl, rfl, by decide +kernel, rfl, by decide +kernel, by decide +kernel⟩
theorem sc__law_no_wide : FnScope ["_law_cell"] ["_law_cell"] (defScope s__law_no_wide) := ⟨rfl, rfl, rfl, by decide +kernel, rfl, by decide +kernel, by decide +kernel⟩
theorem sc__law_no_row : FnScope ["_law_cell"] ["_law_cell"] (defScope s__law_no_row) := ⟨rfl, rfl, rfl, by decide +kernel, rfl, by decide +kernel, by decide +kernel⟩
theorem sc__law_put : FnScope ["_law_row", "_law_at", "_law_thing", "_law_longer"] ["_law_row", "_law_at", "_law_thing"] (defScope s__law_put) := ⟨rfl, rfl, rfl, by decide +kernel, rfl, by decide +kernel, by decide +kernel⟩
theorem sc__law_good : FnScope ["_law_row", "_law_wide", "_law_number", "_law_many"] ["_law_row", "_law_wide", "_law_number", "_law_many"] (defScope s__law_good) := ⟨rfl, rfl, rfl, by decide +kernel, rfl, by decide +kernel, by decide +kernel⟩
theorem bk__law_good_0 : BlkScope ["_law_row", "_law_wide", "_law_number", "_law_many"] (defScope s__law_good) ["_law_k"] [none] { kind := ScopeKind.function, names := [(".0", NameKind.local), ("_law_k", NameKind.local)], isGenerator := false, isCoroutine := false, more := [] } := ⟨rfl, by decide +kernel, by decide +kernel, by decide +kernel, by decide +kernel, rfl, by decide +kernel⟩
theorem sc_law : FnScope ["_law_script", "_law_wide", "_law_size", "_law_row", "_law_numbers", "_law_pick", "_law_at", "_law_number", "_law_many", "_law_bad", "_law_figure"] ["_law_script"] (defScope s_law) := ⟨rfl, rfl, rfl, by decide +kernel, rfl, by decide +kernel, by decide +kernel⟩
theorem bk_law_0 : BlkScope ["_law_script", "_law_wide", "_law_size", "_law_row", "_law_numbers", "_law_pick", "_law_at", "_law_number", "_law_many", "_law_bad", "_law_figure"] (defScope s_law) ["_law_cell", "_law_wide"] [none, some 1] { kind := ScopeKind.function, names := [(".0", NameKind.local), ("_law_cell", NameKind.local), ("_law_wide", NameKind.free)], isGenerator := false, isCoroutine := false, more := [] } := ⟨rfl, by decide +kernel, by decide +kernel, by decide +kernel, by decide +kernel, rfl, by decide +kernel⟩
theorem bk_law_1 : BlkScope ["_law_script", "_law_wide", "_law_size", "_law_row", "_law_numbers", "_law_pick", "_law_at", "_law_number", "_law_many", "_law_bad", "_law_figure"] (defScope s_law) ["_law_cell"] [none] { kind := ScopeKind.function, names := [(".0", NameKind.local), ("_law_cell", NameKind.local)], isGenerator := false, isCoroutine := false, more := [] } := ⟨rfl, by decide +kernel, by decide +kernel, by decide +kernel, by decide +kernel, rfl, by decide +kernel⟩
theorem ok_cell (F : FunD K "_law_cell_at" "_law_cell_at" s__law_cell_at dV f fd) (z_len : mg "len" = none) : FnOk P w K mg base CX0 1 f fd ["_law_script", "_law_k"] (spCell K) := by
  refine F.ok sc__law_cell_at (fun vs H Q E h => ?_) (fun cdv A outer s H vs Q E hr h => ?_)
  · obtain ⟨a, k, ns, rfl, _⟩ := h
    rfl
  obtain ⟨a, k, ns, rfl, hS, h63, k0, q⟩ := h
  refine ⟨_, (pss_cons (ps_if (pt_cmpR op_lt (pv 1) (pe_callB call_len_seq (by rfl) z_len bt_len (pa_cons (pv 0) pa_nil)) (nomark _)) (pss_one (ps_ret (pe_ix ix_list (pv 0) (pv 1) (fun _ _ => rfl)))) pss_nil)
      (pss_one (ps_ret pe_int))), ?_⟩
  refine ⟨_, rfl, _, rfl, a, _, rfl, .inl hS, _, _, rfl, rfl, _, rfl, iteD (fun c => ?_) (fun c => ?_)⟩
  · rw [List.length_map] at c
    exact ⟨_, rfl, _, rfl, a, _, _, _, rfl, rfl, hS, atI_ints k0 (by omega), q _⟩
  · exact q _
theorem ok_asked (F : FunD K "_law_asked" "_law_asked" s__law_asked dV f fd) (GX_figures : DefX P w K mg base "figures" 4 ["number", "wide"] [] (spFigY C)) (GX_number_of : DefX P w K mg base "number_of" 4 ["row", "wide"] [] (spNumX C)) (GX_joint : DefX P w K mg base "joint" 5 ["numbers", "base"] [] (spJointX C))
    (GX_apart : DefX P w K mg base "apart" 5 ["number", "base", "many"] [] (spApartX C)) : FnOk P w K mg base (CX1 P w) 6 f fd ["_law_which", "_law_one", "_law_two", "_law_three"] (spAskedX C) := by
  refine F.okX sc__law_asked (fun vs H Q E h => ?_) (fun cdv A outer s H vs Q E hr h => ?_)
  · obtain ⟨q, a, b, c, rfl, _⟩ := h
    rfl
  obtain ⟨q, a, b, c, rfl, h⟩ := h
  refine ⟨_, (pss_cons (ps_if (pt_cmpR op_eq (pv 0) pe_int (nomark _)) (pss_one (ps_ret (pe_cx GX_figures hr pass_def (pa_cons (pv 1) (pa_cons (pv 2) pa_nil))))) pss_nil)
      (pss_cons (ps_if (pt_cmpR op_eq (pv 0) pe_int (nomark _)) (pss_one (ps_ret (pe_cx GX_number_of hr pass_def (pa_cons (pv 1) (pa_cons (pv 2) pa_nil))))) pss_nil)
      (pss_cons (ps_if (pt_cmpR op_eq (pv 0) pe_int (nomark _)) (pss_one (ps_ret (pe_cx GX_joint hr pass_def (pa_cons (pv 1) (pa_cons (pv 2) pa_nil))))) pss_nil)
      (pss_one (ps_ret (pe_cx GX_apart hr pass_def (pa_cons (pv 1) (pa_cons (pv 2) (pa_cons (pv 3) pa_nil))))))))), ?_⟩
  refine ⟨_, rfl, rfl, _, rfl, iteI (fun e0 => ?_) (fun n0 => ?_)⟩
  · rcases h with ⟨_, h⟩ | ⟨e, _⟩ | ⟨e, _⟩ | ⟨e, _⟩
    · exact ⟨_, rfl, _, rfl, h⟩
    · omega
    · omega
    · omega
  refine ⟨_, rfl, rfl, _, rfl, iteI (fun e1 => ?_) (fun n1 => ?_)⟩
  · rcases h with ⟨e, _⟩ | ⟨_, h⟩ | ⟨e, _⟩ | ⟨e, _⟩
    · omega
    · exact ⟨_, rfl, _, rfl, h⟩
    · omega
    · omega
  refine ⟨_, rfl, rfl, _, rfl, iteI (fun e2 => ?_) (fun n2 => ?_)⟩
  · rcases h with ⟨e, _⟩ | ⟨e, _⟩ | ⟨_, h⟩ | ⟨e, _⟩
    · omega
    · omega
    · exact ⟨_, rfl, _, rfl, h⟩
    · omega
  · rcases h with ⟨e, _⟩ | ⟨e, _⟩ | ⟨e, _⟩ | ⟨_, h⟩
    · omega
    · omega
    · omega
    · exact ⟨_, rfl, _, rfl, _, rfl, h⟩
end
end My

set_option Elab.async false
set_option linter.all false
set_option maxRecDepth 100000
set_option maxHeartbeats 8000000
namespace My
open PySem L2
theorem bt_ValueError : bootBuiltins "ValueError" = some (.type "ValueError") := by decide +kernel
section
variable {P : Program} {w : World} {K : PySem.W.Frag} {mg : Str → Option Value} {base : Heap} {f : Addr} {fd : FuncData} {dV : Value} {C F0 D1 D2 D3 D4 D5 D6 D7 D8 : Addr}
theorem ok_others (F : FunD K "_law_others" "_law_others" s__law_others dV f fd) (c : XCls K C) (g_NoMachine : mg "NoMachine" = some (.ref D1)) (g_NoName : mg "NoName" = some (.ref D2)) (g_NoPower : mg "NoPower" = some (.ref D3)) (g_NoRow : mg "NoRow" = some (.ref D4))
    (g_NoSome : mg "NoSome" = some (.ref D5)) (g_NoText : mg "NoText" = some (.ref D6)) (g_TooGreat : mg "TooGreat" = some (.ref D7)) (g_TooWide : mg "TooWide" = some (.ref D8))
    (n1 : PySem.W.kitOne K (.ref C) (.ref D1) = some false) (n2 : PySem.W.kitOne K (.ref C) (.ref D2) = some false) (n3 : PySem.W.kitOne K (.ref C) (.ref D3) = some false) (n4 : PySem.W.kitOne K (.ref C) (.ref D4) = some false)
    (n5 : PySem.W.kitOne K (.ref C) (.ref D5) = some false) (n6 : PySem.W.kitOne K (.ref C) (.ref D6) = some false) (n7 : PySem.W.kitOne K (.ref C) (.ref D7) = some false) (n8 : PySem.W.kitOne K (.ref C) (.ref D8) = some false)
    (z_isinstance : mg "isinstance" = none) : FnOkH P w K mg base CX0 1 f fd ["_law_e"] (spOthers C) := by
  refine F.okH sc__law_others (fun vs H Q E h => ?_) (fun cdv A outer s H vs Q E hr h => ?_)
  · obtain ⟨ea, rfl, _⟩ := h
    rfl
  obtain ⟨ea, rfl, he, q⟩ := h
  refine ⟨_, (pss_cons (ps_set (i := 1) sc__law_others.nd rfl (Or.inl rfl) (pe_lst (pa_cons (pe_callB call_isX (by rfl) z_isinstance bt_isinstance (pa_cons (pv 0) (pa_cons (pe_glob (v := .ref _) rfl g_NoMachine rfl) pa_nil))) (pa_cons (pe_callB call_isX (by rfl) z_isinstance bt_isinstance (pa_cons (pv 0) (pa_cons (pe_glob (v := .ref _) rfl g_NoName rfl) pa_nil))) (pa_cons (pe_callB call_isX (by rfl) z_isinstance bt_isinstance (pa_cons (pv 0) (pa_cons (pe_glob (v := .ref _) rfl g_NoPower rfl) pa_nil))) (pa_cons (pe_callB call_isX (by rfl) z_isinstance bt_isinstance (pa_cons (pv 0) (pa_cons (pe_glob (v := .ref _) rfl g_NoRow rfl) pa_nil))) pa_nil))))))
      (pss_cons (ps_set (i := 1) sc__law_others.nd rfl (Or.inl rfl) (pe_op op_cat (pv 1) (pe_lst (pa_cons (pe_callB call_isX (by rfl) z_isinstance bt_isinstance (pa_cons (pv 0) (pa_cons (pe_glob (v := .ref _) rfl g_NoSome rfl) pa_nil))) (pa_cons (pe_callB call_isX (by rfl) z_isinstance bt_isinstance (pa_cons (pv 0) (pa_cons (pe_glob (v := .ref _) rfl g_NoText rfl) pa_nil))) (pa_cons (pe_callB call_isX (by rfl) z_isinstance bt_isinstance (pa_cons (pv 0) (pa_cons (pe_glob (v := .ref _) rfl g_TooGreat rfl) pa_nil))) (pa_cons (pe_callB call_isX (by rfl) z_isinstance bt_isinstance (pa_cons (pv 0) (pa_cons (pe_glob (v := .ref _) rfl g_TooWide rfl) pa_nil))) pa_nil)))))))
      (pss_one (ps_ret (pe_cmpR op_in_seq pe_bl (pv 1) (by with_unfolding_all rfl)))))), ?_⟩
  refine ⟨_, rfl, ea, C, _, _, _, rfl, he, c, rfl, n1, _, rfl, ea, C, _, _, _, rfl, he, c, rfl, n2, _, rfl, ea, C, _, _, _, rfl, he, c, rfl, n3, _, rfl, ea, C, _, _, _, rfl, he, c, rfl, n4, (by show 4 ≤ sizeLine; decide), fun l1 h1 => ?_⟩
  have s1 := same_new h1 (HO.lst [.bl false, .bl false, .bl false, .bl false])
  have e1 := s1 _ _ he
  refine ⟨_, rfl, _, rfl, ea, C, _, _, _, rfl, e1, c, rfl, n5, _, rfl, ea, C, _, _, _, rfl, e1, c, rfl, n6, _, rfl, ea, C, _, _, _, rfl, e1, c, rfl, n7, _, rfl, ea, C, _, _, _, rfl, e1, c, rfl, n8, (by show 4 ≤ sizeLine; decide), fun l2 h2 => ?_⟩
  have s2 := same_new h2 (HO.lst [.bl false, .bl false, .bl false, .bl false])
  refine ⟨l1, l2, _, _, rfl, rfl, s2 _ _ upd_same, upd_same, (by show 8 ≤ sizeLine; decide), fun l3 h3 => ?_⟩
  have s3 := same_new h3 (HO.lst [.bl false, .bl false, .bl false, .bl false, .bl false, .bl false, .bl false, .bl false])
  have sA := s1.trans (s2.trans s3)
  exact ⟨_, rfl, l3, _, rfl, .inl (SqL.of upd_same), rfl, rfl, q _ sA⟩
theorem ok_refused (F : FunD K "_law_refused" "_law_refused" s__law_refused dV f fd) (c : XCls K C) (g_FigureError : mg "FigureError" = some (.ref F0)) (g_NoFigures : mg "NoFigures" = some (.ref C)) (xm : PySem.W.exmOne K (.ref C) (.ref F0) = some true)
    (kv : PySem.W.kitOne K (.ref C) (.type "ValueError") = some true) (GX__law_asked : DefX P w K mg base "_law_asked" 6 ["_law_which", "_law_one", "_law_two", "_law_three"] [] (spAskedX C))
    (GH__law_others : DefH P w K mg base "_law_others" 1 ["_law_e"] [] (spOthers C)) (z_isinstance : mg "isinstance" = none) (z_ValueError : mg "ValueError" = none) : FnOk P w K mg base CX0 7 f fd ["_law_which", "_law_one", "_law_two", "_law_three"] (spRefusedA C) := by
  refine F.ok sc__law_refused (fun vs H Q E h => ?_) (fun cdv A outer s H vs Q E hr h => ?_)
  · exact h.1
  obtain ⟨hl, ask, k⟩ := h
  match vs, hl with
  | [v1, v2, v3, v4], _ =>
  refine ⟨_, (pss_cons (ps_try (i := 4) sc__law_refused.nd rfl rfl g_FigureError xm (px_one (px_expr (pxe_call GX__law_asked hr (pa_cons (pv 0) (pa_cons (pv 1) (pa_cons (pv 2) (pa_cons (pv 3) pa_nil))))))) (fun _ => (pss_one (ps_ret (pe_and (pe_callB (call_isXK K) (by rfl) z_isinstance bt_isinstance (pa_cons (pv 4) (pa_cons (pe_glob (v := .ref _) rfl g_NoFigures rfl) pa_nil))) (pe_and (pe_callB (call_isXK K) (by rfl) z_isinstance bt_isinstance (pa_cons (pv 4) (pa_cons (pe_bltn (v := .ty "ValueError") rfl z_ValueError bt_ValueError rfl) pa_nil))) (pe_one (pe_not (pe_ch GH__law_others hr.held (pa_cons (pv 4) pa_nil))))))))))
      (pss_one (ps_ret pe_bl))), ?_⟩
  refine ⟨_, rfl, _, rfl, _, rfl, _, rfl, ask _ _ fun H1 s1 => ⟨rfl, fun ea hea => ?_⟩⟩
  have s2 := s1.trans (same_new hea (HO.ext (ExAt ea C)))
  refine ⟨_, rfl, ea, C, _, _, _, rfl, upd_same, c, rfl, kit_self K _, _, rfl, iteT ⟨_, rfl, ea, C, _, _, _, rfl, upd_same, c, rfl, kv, _, rfl, iteT ?_⟩⟩
  exact ⟨_, rfl, ea, rfl, upd_same, fun H2 s3 => ⟨_, rfl, k _ (s2.trans s3)⟩⟩
end
end My

set_option Elab.async false
set_option linter.all false
set_option maxRecDepth 100000
set_option maxHeartbeats 8000000
namespace My
open PySem L2
theorem atI_all {xs : List V} {j : Int} {p : V → Prop} (j0 : 0 ≤ j) (j1 : j < (xs.length : Int)) (h : ∀ y ∈ xs, p y) : ∃ y, atI xs j = some y ∧ p y := by
  have hj : j.toNat < xs.length := by omega
  have ej : j = ((j.toNat : Nat) : Int) := by omega
  refine ⟨xs[j.toNat], ?_, h _ (List.getElem_mem hj)⟩
  have q : atI xs ((j.toNat : Nat) : Int) = some xs[j.toNat] := atI_nat (List.getElem?_eq_getElem hj)
  rw [← ej] at q
  exact q
section
variable {P : Program} {w : World} {K : PySem.W.Frag} {mg : Str → Option Value} {base : Heap} {f : Addr} {fd : FuncData} {dV : Value} {C F0 D1 D2 D3 D4 D5 D6 D7 D8 : Addr}
theorem ok_no_number (F : FunD K "_law_no_number" "_law_no_number" s__law_no_number dV f fd) : FnOk P w K mg base CX0 1 f fd ["_law_cell"] spNoNum := by
  refine F.ok sc__law_no_number (fun vs H Q E h => ?_) (fun cdv A outer s H vs Q E hr h => ?_)
  · obtain ⟨c, rfl, _⟩ := h
    rfl
  obtain ⟨c, rfl, k⟩ := h
  have hu := hu_of hr
  refine body_w (ws_one (w_ret (w_ix ix_list (w_lst (wa_cons (PEW.mk (pe_un un_neg pe_int)) (wa_cons (PEW.mk (pe_op op_sub (pe_un un_neg pe_int) (pe_op op_mod (pe_op op_fdiv (pv 0) pe_int) (pe_op op_pow pe_int pe_int)))) (wa_cons (PEW.mk pe_bl) (wa_cons (PEW.mk pe_bl) (wa_cons (PEW.mk pe_non) (wa_cons (PEW.mk pe_str) (wa_cons (PEW.mk pe_str) (wa_cons (PEW.mk (pe_tup pa_nil)) (wa_cons (PEW.mk (pe_tup (pa_cons pe_int pa_nil))) (wa_cons (PEW.mk (pe_lst (pa_cons pe_int pa_nil))) (wa_cons (PEW.mk pe_dnewK) (wa_cons (PEW.mk (pe_disp (pps_cons pe_int pe_int pps_nil) rfl rfl (by intro z; cases z) (by decide))) wa_nil))))))))))))) (PEW.mk (pe_op op_mod (pv 0) pe_int)) (fun _ _ => rfl)))) ?_
  refine ⟨_, rfl, _, rfl, _, rfl, _, _, rfl, rfl, ⟨by decide, by decide⟩, _, _, rfl, rfl, ⟨by decide, by decide, by decide⟩, _, _, rfl, rfl, (by show (0 : Int) < 10 ^ 18; decide), _, _, rfl, rfl, ?_⟩
  refine ⟨(by show 0 ≤ sizeLine; decide), fun t0 h0 => ?_⟩
  refine ⟨(by show 1 ≤ sizeLine; decide), fun t1 h1 => ?_⟩
  refine ⟨(by show 1 ≤ sizeLine; decide), fun l2 h2 => ?_⟩
  refine fun d3 h3 => ?_
  refine fun d4 h4 => ⟨upd_same, [(Sum.inl 1, V.int 1)], rfl, by decide, ?_⟩
  rw [upd_upd]
  refine ⟨(by show 12 ≤ sizeLine; decide), fun l hl => ?_⟩
  have s0 := same_new h0 (HO.tup [])
  have s1 := same_new h1 (HO.tup [V.int 1])
  have s2 := same_new h2 (HO.lst [V.int 2])
  have s3 := same_new h3 (HO.dK [])
  have s4 := same_new h4 (HO.dK (mergeK [] [(Sum.inl 1, V.int 1)]))
  obtain ⟨xs, exs⟩ : ∃ xs, ([V.int (-1), V.int (-1 - c / 16 % 10 ^ 18), V.bl true, V.bl false, V.non, V.str "1", V.str "", V.ref t0, V.ref t1, V.ref l2, V.ref d3, V.ref d4] : List V) = xs := ⟨_, rfl⟩
  have s5 := same_new hl (HO.lst xs)
  have n16 := mod_in (a := c / 16) (b := (10 : Int) ^ 18) (by decide)
  have r9 := mod_in (a := c) (b := (12 : Int)) (by decide)
  have lx : xs.length = 12 := by rw [← exs]; rfl
  obtain ⟨y, ey, hp, hw⟩ := atI_all (xs := xs) (j := c % 12) (p := fun y => Pl _ y ∧ whF 0 y = false) r9.1 (by rw [lx]; exact r9.2) (by
    intro y hy
    rw [← exs] at hy
    simp only [List.mem_cons, List.not_mem_nil, or_false] at hy
    rcases hy with rfl | rfl | rfl | rfl | rfl | rfl | rfl | rfl | rfl | rfl | rfl | rfl
    · exact ⟨.int _, by decide⟩
    · exact ⟨.int _, decide_eq_false (by omega)⟩
    · exact ⟨.bl _, rfl⟩
    · exact ⟨.bl _, rfl⟩
    · exact ⟨.non, rfl⟩
    · exact ⟨.str _, rfl⟩
    · exact ⟨.str _, rfl⟩
    · exact ⟨.tup (((((s1.trans s2).trans s3).trans s4).trans s5) _ _ upd_same), rfl⟩
    · exact ⟨.tup ((((s2.trans s3).trans s4).trans s5) _ _ upd_same), rfl⟩
    · exact ⟨.lst (((s3.trans s4).trans s5) _ _ upd_same), rfl⟩
    · exact ⟨.dK ((s4.trans s5) _ _ upd_same), rfl⟩
    · exact ⟨.dK (s5 _ _ upd_same), rfl⟩)
  subst exs
  exact ⟨_, rfl, _, _, rfl, rfl, (by show (0 : Int) < 12; decide), l, _, _, _, rfl, rfl, SqL.of upd_same, ey, k y _ (((((s0.trans s1).trans s2).trans s3).trans s4).trans s5) hp hw⟩
theorem whF_two {y : V} (h : whF 0 y = false) : whF 2 y = false := by
  cases y with
  | int n =>
    have : ¬ (0 ≤ n) := of_decide_eq_false h
    exact decide_eq_false (by omega)
  | _ => rfl
theorem ok_no_wide (F : FunD K "_law_no_wide" "_law_no_wide" s__law_no_wide dV f fd) (G__law_no_number : DefOk P w K mg base "_law_no_number" 1 ["_law_cell"] [] spNoNum) : FnOk P w K mg base CX0 2 f fd ["_law_cell"] spNoWide := by
  refine F.ok sc__law_no_wide (fun vs H Q E h => ?_) (fun cdv A outer s H vs Q E hr h => ?_)
  · obtain ⟨c, rfl, _⟩ := h
    rfl
  obtain ⟨c, rfl, k⟩ := h
  refine ⟨_, (pss_cons (ps_if (pt_cmpR op_eq (pe_op op_mod (pv 0) pe_int) pe_int (nomark _)) (pss_one (ps_ret (pe_ix ix_list (pe_lst (pa_cons pe_int (pa_cons pe_int (pa_cons (pe_un un_neg pe_int) (pa_cons (pe_un un_neg pe_int) pa_nil))))) (pe_op op_mod (pe_op op_fdiv (pv 0) pe_int) pe_int) (fun _ _ => rfl)))) pss_nil)
      (pss_one (ps_ret (pe_cd G__law_no_number hr (pa_cons (pe_op op_fdiv (pv 0) pe_int) pa_nil))))), ?_⟩
  refine ⟨_, rfl, _, _, rfl, rfl, (by show (0 : Int) < 4; decide), rfl, _, rfl, iteI (fun _ => ?_) (fun _ => ?_)⟩
  · refine ⟨_, rfl, _, rfl, (by show 4 ≤ sizeLine; decide), fun l hl => ?_⟩
    have r9 := mod_in (a := c / 4) (b := (4 : Int)) (by decide)
    have s1 := same_new hl (HO.lst [V.int 0, V.int 1, V.int (-2), V.int (-10)])
    obtain ⟨y, ey, hp, hw⟩ := atI_all (xs := [V.int 0, V.int 1, V.int (-2), V.int (-10)]) (j := c / 4 % 4) (p := fun y => Pl (upd H l (HO.lst [V.int 0, V.int 1, V.int (-2), V.int (-10)])) y ∧ whF 2 y = false) r9.1 r9.2 (by
      intro y hy
      simp only [List.mem_cons, List.not_mem_nil, or_false] at hy
      rcases hy with rfl | rfl | rfl | rfl <;> exact ⟨.int _, by decide⟩)
    exact ⟨_, rfl, _, _, rfl, rfl, ⟨by decide, by decide⟩, _, _, rfl, rfl, (by show (0 : Int) < 4; decide), l, _, _, _, rfl, rfl, SqL.of upd_same, ey, k y _ s1 hp hw⟩
  · exact ⟨_, rfl, _, _, rfl, rfl, ⟨by decide, by decide⟩, _, rfl, fun y H' s' hp hw => k y H' s' hp (whF_two hw)⟩
theorem ok_no_row (F : FunD K "_law_no_row" "_law_no_row" s__law_no_row dV f fd) : FnOk P w K mg base CX0 1 f fd ["_law_cell"] spNoRow := by
  refine F.ok sc__law_no_row (fun vs H Q E h => ?_) (fun cdv A outer s H vs Q E hr h => ?_)
  · obtain ⟨c, rfl, _⟩ := h
    rfl
  obtain ⟨c, rfl, k⟩ := h
  have hu := hu_of hr
  refine body_w (ws_one (w_ret (w_ix ix_list (w_lst (wa_cons (PEW.mk pe_non) (wa_cons (PEW.mk pe_str) (wa_cons (PEW.mk pe_str) (wa_cons (PEW.mk pe_int) (wa_cons (PEW.mk pe_int) (wa_cons (PEW.mk pe_bl) (wa_cons (PEW.mk pe_dnewK) (wa_cons (PEW.mk (pe_disp (pps_cons pe_int pe_int pps_nil) rfl rfl (by intro z; cases z) (by decide))) wa_nil))))))))) (PEW.mk (pe_op op_mod (pv 0) pe_int)) (fun _ _ => rfl)))) ?_
  refine fun d3 h3 => ?_
  refine fun d4 h4 => ⟨upd_same, [(Sum.inl 0, V.int 1)], rfl, by decide, ?_⟩
  rw [upd_upd]
  refine ⟨(by show 8 ≤ sizeLine; decide), fun l hl => ?_⟩
  have s3 := same_new h3 (HO.dK [])
  have s4 := same_new h4 (HO.dK (mergeK [] [(Sum.inl 0, V.int 1)]))
  obtain ⟨xs, exs⟩ : ∃ xs, ([V.non, V.str "12", V.str "", V.int 12, V.int 0, V.bl true, V.ref d3, V.ref d4] : List V) = xs := ⟨_, rfl⟩
  have s5 := same_new hl (HO.lst xs)
  obtain ⟨H6, e6⟩ : ∃ H6, upd (upd (upd H d3 (HO.dK [])) d4 (HO.dK (mergeK [] [(Sum.inl 0, V.int 1)]))) l (HO.lst xs) = H6 := ⟨_, rfl⟩
  rw [e6] at s5
  have r9 := mod_in (a := c) (b := (8 : Int)) (by decide)
  have lx : xs.length = 8 := by rw [← exs]; rfl
  have e3 := (s4.trans s5) _ _ (upd_same (H := H) (a := d3) (o := HO.dK []))
  have e4 := s5 _ _ (upd_same (a := d4) (o := HO.dK (mergeK [] [(Sum.inl 0, V.int 1)])))
  obtain ⟨y, ey, hp, hw⟩ := atI_all (xs := xs) (j := c % 8) (p := fun y => Pl H6 y ∧ ¬ RowV H6 y) r9.1 (by rw [lx]; exact r9.2) (by
    intro y hy
    rw [← exs] at hy
    simp only [List.mem_cons, List.not_mem_nil, or_false] at hy
    rcases hy with rfl | rfl | rfl | rfl | rfl | rfl | rfl | rfl
    · exact ⟨.non, fun ⟨a, xs, z, _⟩ => by cases z⟩
    · exact ⟨.str _, fun ⟨a, xs, z, _⟩ => by cases z⟩
    · exact ⟨.str _, fun ⟨a, xs, z, _⟩ => by cases z⟩
    · exact ⟨.int _, fun ⟨a, xs, z, _⟩ => by cases z⟩
    · exact ⟨.int _, fun ⟨a, xs, z, _⟩ => by cases z⟩
    · exact ⟨.bl _, fun ⟨a, xs, z, _⟩ => by cases z⟩
    · refine ⟨.dK e3, fun ⟨a, xs, z, q⟩ => ?_⟩
      cases z
      rw [e3] at q
      rcases q with q | q <;> cases q
    · refine ⟨.dK e4, fun ⟨a, xs, z, q⟩ => ?_⟩
      cases z
      rw [e4] at q
      rcases q with q | q <;> cases q)
  subst exs e6
  exact ⟨_, rfl, _, _, rfl, rfl, (by show (0 : Int) < 8; decide), l, _, _, _, rfl, rfl, SqL.of upd_same, ey, k y _ ((s3.trans s4).trans s5) hp hw⟩
theorem ok_put (F : FunD K "_law_put" "_law_put" s__law_put dV f fd) (z_list : mg "list" = none) (z_tuple : mg "tuple" = none) (z_len : mg "len" = none) : FnOk P w K mg base CX0 1 f fd ["_law_row", "_law_at", "_law_thing"] spPutIn := by
  refine F.ok sc__law_put (fun vs H Q E h => ?_) (fun cdv A outer s H vs Q E hr h => ?_)
  · obtain ⟨r, i, y, xs, rfl, _⟩ := h
    rfl
  obtain ⟨r, i, y, xs, rfl, hxs, hl, i0, k⟩ := h
  refine ⟨_, (pss_cons (ps_set (i := 3) sc__law_put.nd rfl (Or.inl rfl) (pe_callTy call_list_of (by rfl) z_list bt_list (pa_cons (pv 0) pa_nil)))
      (pss_cons (ps_expr (pe_bm PySem.F.plainAttrs_list PySem.F.slot_list_insert PySem.F.type_list_insert mt_insert (pv 3) (pa_cons (pe_op op_mod (pv 1) (pe_op op_add (pe_callB call_len_seq (by rfl) z_len bt_len (pa_cons (pv 0) pa_nil)) pe_int)) (pa_cons (pv 2) pa_nil))))
      (pss_cons (ps_if (pt_cmpR op_eq (pe_op op_mod (pe_op op_fdiv (pv 1) pe_int) pe_int) pe_int (nomark _)) (pss_one (ps_ret (pe_callTy call_tuple_of (by rfl) z_tuple bt_tuple (pa_cons (pv 3) pa_nil)))) pss_nil)
      (pss_one (ps_ret (pv 3)))))), ?_⟩
  refine ⟨_, rfl, r, _, rfl, .inl (SqL.of hxs), fun l hl0 => ?_⟩
  have s1 := same_new hl0 (HO.lst xs)
  have r9 := mod_in (a := i) (b := ((xs.length : Nat) : Int) + 1) (by omega)
  have big : 200 < sizeLine := by decide
  refine ⟨_, rfl, .inl ⟨rfl, _, SqL.of upd_same⟩, _, rfl, _, rfl, r, _, rfl, .inl (SqL.of (s1 _ _ hxs)), _, _, rfl, rfl, _, _, rfl, rfl, (by omega), _, rfl, l, xs, _, y, rfl, rfl, upd_same, ⟨r9.1, by omega⟩, by omega, ?_⟩
  rw [upd_upd]
  have s2 := same_new hl0 (HO.lst (xs.take (i % (((xs.length : Nat) : Int) + 1)).toNat ++ y :: xs.drop (i % (((xs.length : Nat) : Int) + 1)).toNat))
  refine ⟨_, rfl, _, _, rfl, rfl, ⟨by decide, by decide⟩, _, _, rfl, rfl, (by show (0 : Int) < 2; decide), rfl, _, rfl, iteI (fun _ => ?_) (fun _ => ?_)⟩
  · refine ⟨_, rfl, l, _, rfl, .inl ⟨SqL.of upd_same, fun t ht => ?_⟩⟩
    exact k t _ _ (by omega) (s2.trans (same_new ht _)) (.inr upd_same)
  · exact ⟨_, rfl, k l _ _ (by omega) s2 (.inl upd_same)⟩
end
end My

set_option Elab.async false
set_option linter.all false
set_option maxRecDepth 100000
set_option maxHeartbeats 8000000
namespace My
open PySem L2
def spGoodL (K : PySem.W.Frag) : Sp := fun vs H Q _ => ∃ (r : Addr) (wd n : Int) (m : Nat) (ds : List Int), vs = [.ref r, .int wd, .int n, .int m] ∧ H r = some (.lst (ds.map V.int)) ∧ ds.length ≤ 12 ∧ (2 ≤ wd ∧ wd ≤ 12) ∧ InB wd ds ∧ (0 ≤ n ∧ n < 10 ^ 18) ∧ m ≤ 6 ∧ ∀ H', Same H H' → Q (.bl true) H'
theorem pow_small {w : Int} {k : Nat} (w1 : 0 ≤ w) (w12 : w ≤ 12) (hk : k ≤ 14) : w ^ k < BIG := by
  have go : ∀ j : Nat, 0 ≤ w ^ j ∧ w ^ j ≤ 12 ^ j := by
    intro j
    induction j with
    | zero => simp
    | succ j ih =>
      rw [Int.pow_succ, Int.pow_succ]
      exact mul_in ih.1 ih.2 w1 w12
  have fin : ∀ j : Fin 15, (12 : Int) ^ j.val < BIG := by decide +kernel
  exact Int.lt_of_le_of_lt (go k).2 (fin ⟨k, by omega⟩)
theorem zeros_of : ∀ {xs : List Int}, (∀ x ∈ xs, 0 ≤ x ∧ x ≤ 0) → xs = List.replicate xs.length 0
  | [], _ => rfl
  | x :: r, h => by
    have h1 := h x List.mem_cons_self
    have e : x = 0 := by omega
    rw [List.length_cons, List.replicate_succ, ← zeros_of (xs := r) fun y hy => h y (List.mem_cons_of_mem _ hy), e]
section
variable {P : Program} {w : World} {K : PySem.W.Frag} {mg : Str → Option Value} {base : Heap} {f : Addr} {fd : FuncData} {dV : Value} {C F0 D1 D2 D3 D4 D5 D6 D7 D8 : Addr}
theorem ok_good (F : FunD K "_law_good" "_law_good" s__law_good dV f fd) (G_figures : DefOk P w K mg base "figures" 4 ["number", "wide"] [] (spFigures K)) (G_joint : DefOk P w K mg base "joint" 5 ["numbers", "base"] [] (spJoint K)) (G_number_of : DefOk P w K mg base "number_of" 4 ["row", "wide"] [] (spNumOf K))
    (G_apart : DefOk P w K mg base "apart" 5 ["number", "base", "many"] [] (spApart K)) (z_list : mg "list" = none) (z_tuple : mg "tuple" = none) (z_range : mg "range" = none) : FnOk P w K mg base CX0 6 f fd ["_law_row", "_law_wide", "_law_number", "_law_many"] (spGoodL K) := by
  refine F.ok sc__law_good (fun vs H Q E h => ?_) (fun cdv A outer s H vs Q E hr h => ?_)
  · obtain ⟨r, wd, n, m, ds, rfl, _⟩ := h
    rfl
  obtain ⟨r, wd, n, m, ds, rfl, hr', hl, ⟨w2, w12⟩, inb, ⟨n0, n1⟩, m6, k⟩ := h
  have hu := hr.units0
  have wNB : wd < NB := Int.lt_of_le_of_lt w12 (by unfold NB; decide)
  refine ⟨_, (pss_cons (ps_if (PW.pt (pw_or (pt_cmpR (op_neT hu) (pe_cd G_figures hr (pa_cons pe_int (pa_cons (pv 1) pa_nil))) (pe_tup pa_nil) (nomark _)) (pw_or1 (pt_cmpR op_ne (pe_cd G_joint hr (pa_cons (pe_tup (pa_cons (pv 2) pa_nil)) (pa_cons (pv 1) pa_nil))) (pv 2) (nomark _))))) (pss_one (ps_ret pe_bl)) pss_nil)
      (pss_cons (ps_if (PW.pt (pw_or (pt_cmpR op_eq (pe_cd G_number_of hr (pa_cons (pe_op op_cat (pe_callTy call_list_of (by rfl) z_list bt_list (pa_cons (pv 0) pa_nil)) (pe_lst (pa_cons pe_int pa_nil))) (pa_cons (pv 1) pa_nil))) pe_int (nomark _)) (pw_or1 (pt_cmpR op_ne (pe_cd G_number_of hr (pa_cons (pe_callTy call_tuple_of (by rfl) z_tuple bt_tuple (pa_cons (pv 0) pa_nil)) (pa_cons (pv 1) pa_nil))) (pe_cd G_number_of hr (pa_cons (pv 0) (pa_cons (pv 1) pa_nil))) (nomark _))))) (pss_one (ps_ret pe_bl)) pss_nil)
      (pss_one (ps_ret (pe_cmpR (op_eqT hu) (pe_cd G_apart hr (pa_cons pe_int (pa_cons (pv 1) (pa_cons (pv 3) pa_nil)))) (pe_callTy call_tuple_of (by rfl) z_tuple bt_tuple (pa_cons (pe_comp rfl bk__law_good_0 (pi_range1 rfl z_range (pa_cons (pv 3) pa_nil)) (fun _ _ _ _ => (pg_name (i := 0) bk__law_good_0.nd rfl (Or.inl rfl))) (fun _ _ _ _ => pe_int)) pa_nil)) (nomark _)))))), ?_⟩
  refine ⟨_, rfl, 0, wd, rfl, ⟨by decide, by unfold NB; decide⟩, ⟨w2, wNB⟩, fun t H1 es s1 ht Fs _ => ?_⟩
  have ees := Fs.zero w2
  subst ees
  refine ⟨(by show 0 ≤ sizeLine; decide), fun t2 ht2 => ?_⟩
  have s2 := same_new ht2 (HO.tup [])
  refine ⟨t, t2, [], [], rfl, rfl, SqT.of (s2 _ _ ht), SqT.of upd_same, rfl, rfl, _, rfl, iteF ?_⟩
  -- joint((number,), wide) != number
  have s12 := s1.trans s2
  refine ⟨_, rfl, (by show 1 ≤ sizeLine; decide), fun t3 ht3 => ?_⟩
  have s3 := s12.trans (same_new ht3 (HO.tup [V.int n]))
  have ww := mul_in (a := wd) (b := wd) (m := 12) (n := 12) (by omega) w12 (by omega) w12
  have JO : JointOk wd (10 ^ 18) [n] := by
    refine ⟨w2, by omega, by decide, by decide, by show 1 ≤ 13; decide, fun x hx => ?_, ?_⟩
    · rw [List.mem_singleton.mp hx]; exact ⟨n0, n1⟩
    · show (wd * 10 ^ 18) ^ 1 * wd < BIG
      have e : (wd * 10 ^ 18) ^ 1 * wd = wd * wd * 10 ^ 18 := by
        rw [Int.pow_succ, Int.pow_zero, Int.one_mul, Int.mul_right_comm]
      rw [e]
      refine Int.lt_of_le_of_lt (show _ ≤ 144 * 10 ^ 18 by omega) ?_
      decide +kernel
  refine ⟨_, rfl, t3, wd, 10 ^ 18, [n], rfl, .inr upd_same, JO, fun v H4 s4 hv => ?_⟩
  have ev := hv.single w2
  subst ev
  refine ⟨_, rfl, rfl, _, rfl, iteDn (fun z => absurd rfl z) (fun _ => ?_)⟩
  have s5 := s3.trans s4
  have r5 := s5 _ _ hr'
  have big : 1000 ≤ sizeLine := by decide
  -- number_of(list(row) + [1], wide) == 0
  refine ⟨_, rfl, r, _, rfl, .inl (SqL.of r5), fun l1 hl1 => ?_⟩
  have s6 := same_new hl1 (HO.lst (ds.map V.int))
  refine ⟨(by show 1 ≤ sizeLine; decide), fun l2 hl2 => ?_⟩
  have s7 := same_new hl2 (HO.lst [V.int 1])
  refine ⟨l1, l2, _, _, rfl, rfl, s7 _ _ upd_same, upd_same, Nat.le_trans (show _ ≤ 100 by rw [List.length_map]; simp only [List.length_singleton]; omega) (Nat.le_trans (by decide) big), fun l3 hl3 => ?_⟩
  have s8 := ((s5.trans s6).trans s7).trans (same_new hl3 (HO.lst (ds.map V.int ++ [V.int 1])))
  have in1 : InB wd (ds ++ [1]) := inb.append fun p hp => by rw [List.mem_singleton.mp hp]; omega
  refine ⟨_, rfl, l3, wd, ds ++ [1], rfl, .inl (by rw [upd_same, List.map_append]; rfl), w2, by rw [List.length_append, List.length_singleton]; omega, pow_small (by omega) w12 (by rw [List.length_append, List.length_singleton]; omega), in1, fun H6 s9 => ?_⟩
  have vpos : 0 < valB wd (ds ++ [1]) := by
    rw [valB_append]
    have h1 : 0 ≤ valB wd ds := valB_nonneg (by omega) inb
    have h2 : 0 < wd ^ ds.length := Int.pow_pos (by omega)
    have h3 : valB wd [1] = 1 := by show 1 + wd * 0 = 1; omega
    rw [h3, Int.mul_one]
    omega
  refine ⟨rfl, _, rfl, iteI (fun c => by omega) (fun _ => ?_)⟩
  have s10 := s8.trans s9
  -- number_of(tuple(row), wide) != number_of(row, wide)
  refine ⟨_, rfl, r, _, rfl, .inl ⟨SqL.of (s10 _ _ hr'), fun t4 ht4 => ?_⟩⟩
  have s11 := s10.trans (same_new ht4 (HO.tup (ds.map V.int)))
  refine ⟨_, rfl, t4, wd, ds, rfl, .inr upd_same, w2, by omega, pow_small (by omega) w12 (by omega), inb, fun H7 s12 => ?_⟩
  have s13 := s11.trans s12
  refine ⟨_, rfl, _, rfl, r, wd, ds, rfl, .inl (s13 _ _ hr'), w2, by omega, pow_small (by omega) w12 (by omega), inb, fun H8 s14 => ?_⟩
  refine ⟨rfl, _, rfl, iteDn (fun z => absurd rfl z) (fun _ => ?_)⟩
  have s15 := s13.trans s14
  -- apart(0, wide, many) == tuple([0, ..])
  refine ⟨_, rfl, _, rfl, 0, wd, m, rfl, ⟨by decide, by decide⟩, ⟨w2, by omega⟩, by omega, fun _ => rfl, fun t5 H9 xs s16 ht5 hlx hx _ => ?_⟩
  have ex := zeros_of hx
  refine ⟨_, rfl, (m : Int), rfl, by omega, by omega, ?_⟩
  refine comp_range (fun D i ys H' => Same H9 H' ∧ ys = (List.replicate i (0 : Int)).map V.int) (fun D hD => ⟨same_new hD _, rfl⟩) ?_ ?_
  · rintro D i ys H' Q' hD hi hy ⟨hs, rfl⟩ k'
    refine k' _ H' hy (small1000 (by rw [List.length_map, List.length_replicate]; omega)) ⟨same_upd hs hD, ?_⟩
    rw [List.replicate_succ', List.map_append]
    rfl
  rintro D ys H10 hD0 hD ⟨s17, rfl⟩
  refine ⟨D, _, rfl, .inl ⟨SqL.of hD, fun t6 ht6 => ?_⟩⟩
  have s18 := s17.trans (same_new ht6 (HO.tup ((List.replicate ((m : Int).toNat) (0 : Int)).map V.int)))
  refine ⟨t5, t6, _, _, rfl, rfl, SqT.of (s18 _ _ ht5), SqT.of upd_same, flat_ints _, flat_ints _, ?_⟩
  have e9 : xs = List.replicate ((m : Int).toNat) (0 : Int) := by rw [ex, hlx, Int.toNat_natCast]
  rw [e9, eqVs_refl_int]
  exact k _ ((s15.trans s16).trans s18)
end
end My

set_option Elab.async false
set_option linter.all false
set_option maxRecDepth 100000
set_option maxHeartbeats 8000000
namespace My
open PySem L2
def spLaw (K : PySem.W.Frag) : Sp := fun vs H Q _ => ∃ (a : Addr) (ns : List Int), vs = [.ref a] ∧ SqL K H a (ns.map V.int) ∧ ns.length ≤ 63 ∧ ∀ H', Q (.bl true) H'
theorem text_short {n : Int} (h0 : 0 ≤ n) (h : n < 10 ^ 18) : n.natAbs.log2 < 1920 ∧ (Str.ofString (toString n)).length ≤ 1000 := by
  have hn : n.natAbs < 10 ^ 18 := by
    have e : ((n.natAbs : Nat) : Int) = n := Int.natAbs_of_nonneg h0
    have : ((n.natAbs : Nat) : Int) < ((10 ^ 18 : Nat) : Int) := by rw [e]; exact h
    exact Int.ofNat_lt.mp this
  constructor
  · rcases Nat.eq_zero_or_pos n.natAbs with z | z
    · rw [z]; decide
    · exact (Nat.log2_lt (by omega)).mpr (Nat.lt_trans hn (by decide))
  · have q := int_text_length_le10 (a := n) (k := 18) (by decide) hn
    rw [ofString_length]
    omega
theorem cut_intsS {ns : List Int} {s : Nat} : ∃ cs : List Int, cutV (ns.map V.int) (some 2) (some (2 + (s : Int))) = cs.map V.int ∧ cs.length ≤ s := by
  have e2 : (2 : Int) + (s : Int) = ((2 + s : Nat) : Int) := by omega
  rw [e2]
  refine ⟨(ns.drop (min 2 ns.length)).take (min (2 + s) ns.length - min 2 ns.length), ?_, ?_⟩
  · unfold cutV
    rw [show (some (2 : Int)) = some (((2 : Nat) : Nat) : Int) from rfl, HT.sIx_nat, HT.sIx_nat, List.length_map, List.map_take, List.map_drop]
  · rw [List.length_take, List.length_drop]
    omega
theorem wholeIn_bad {y : V} {hi : Int} (h : whF 0 y = false) : wholeIn 0 hi y = false := by
  cases y with
  | int n =>
    have : ¬ (0 ≤ n) := of_decide_eq_false h
    show (decide (0 ≤ n) && decide (n ≤ hi)) = false
    rw [decide_eq_false this]
    rfl
  | _ => rfl
theorem mem_put {α : Type} {xs : List α} {k : Nat} {y z : α} (h : z ∈ xs.take k ++ y :: xs.drop k) : z = y ∨ z ∈ xs := by
  rcases List.mem_append.mp h with q | q
  · exact .inr (List.mem_of_mem_take q)
  · rcases List.mem_cons.mp q with q | q
    · exact .inl q
    · exact .inr (List.mem_of_mem_drop q)
theorem put_mem {α : Type} {xs : List α} {k : Nat} {y : α} : y ∈ xs.take k ++ y :: xs.drop k := List.mem_append_right _ List.mem_cons_self
section
variable {P : Program} {w : World} {K : PySem.W.Frag} {mg : Str → Option Value} {base : Heap} {f : Addr} {fd : FuncData} {dV : Value} {C C1 f1 : Addr}
theorem ok_law (F : FunD K "law" "law" s_law dV f fd) (G__law_cell_at : DefOk P w K mg base "_law_cell_at" 1 ["_law_script", "_law_k"] [] (spCell K)) (G__law_no_number : DefOk P w K mg base "_law_no_number" 1 ["_law_cell"] [] spNoNum) (G__law_no_wide : DefOk P w K mg base "_law_no_wide" 2 ["_law_cell"] [] spNoWide)
    (G__law_no_row : DefOk P w K mg base "_law_no_row" 1 ["_law_cell"] [] spNoRow) (G__law_put : DefOk P w K mg base "_law_put" 1 ["_law_row", "_law_at", "_law_thing"] [] spPutIn) (G__law_refused : DefOk P w K mg base "_law_refused" 7 ["_law_which", "_law_one", "_law_two", "_law_three"] [] (spRefusedA C))
    (G__law_good : DefOk P w K mg base "_law_good" 6 ["_law_row", "_law_wide", "_law_number", "_law_many"] [] (spGoodL K)) (GI_TooGreat : DefI P w K mg base "TooGreat" C1 f1 1 ["self", "most"] (spMade C1)) (na : PySem.W.findIn K (.ref C1) "most" = some none) : FnOk P w K mg base CX0 8 f fd ["_law_script"] (spLaw K) := by
  refine F.ok sc_law (fun vs H Q E h => ?_) (fun cdv A outer s H vs Q E hr h => ?_)
  · obtain ⟨a, ns, rfl, _⟩ := h
    rfl
  obtain ⟨a, ns, rfl, hS, h63, k⟩ := h
  refine body_w (ws_cons (PSW.mk (ps_set (i := 1) sc_law.nd rfl (Or.inr rfl) (pe_op op_add pe_int (pe_op op_mod (pe_cd G__law_cell_at hr (pa_cons (pv 0) (pa_cons pe_int pa_nil))) pe_int))))
      (ws_cons (PSW.mk (ps_set (i := 2) sc_law.nd rfl (Or.inl rfl) (pe_op op_mod (pe_cd G__law_cell_at hr (pa_cons (pv 0) (pa_cons pe_int pa_nil))) pe_int)))
      (ws_cons (PSW.mk (ps_setComp (i := 3) rfl sc_law.nd rfl (Or.inl rfl) bk_law_0 (pi_list (pe_slice sl_seq (pv 0) (po_some pe_int) (po_some (pe_op op_add pe_int (pv 2))))) (fun _ _ _ _ => (pg_name (i := 0) bk_law_0.nd rfl (Or.inl rfl))) (fun _ _ _ _ => (pe_op op_mod (pv 0) (pv 1)))))
      (ws_cons (PSW.mk (ps_setComp (i := 4) rfl sc_law.nd rfl (Or.inl rfl) bk_law_1 (pi_list (pe_slice sl_seq (pv 0) (po_some pe_int) (po_some (pe_op op_add pe_int (pv 2))))) (fun _ _ _ _ => (pg_name (i := 0) bk_law_1.nd rfl (Or.inl rfl))) (fun _ _ _ _ => (pe_op op_mod (pv 0) (pe_op op_pow pe_int pe_int)))))
      (ws_cons (PSW.mk (ps_set (i := 5) sc_law.nd rfl (Or.inl rfl) (pe_op op_mod (pe_op op_add (pe_op op_mul (pe_op op_mod (pe_cd G__law_cell_at hr (pa_cons (pv 0) (pa_cons pe_int pa_nil))) pe_int) pe_int) pe_int) pe_int)))
      (ws_cons (PSW.mk (ps_set (i := 6) sc_law.nd rfl (Or.inl rfl) (pe_op op_mod (pe_cd G__law_cell_at hr (pa_cons (pv 0) (pa_cons pe_int pa_nil))) pe_int)))
      (ws_cons (PSW.mk (ps_set (i := 7) sc_law.nd rfl (Or.inl rfl) (pe_op op_mod (pe_cd G__law_cell_at hr (pa_cons (pv 0) (pa_cons pe_int pa_nil))) (pe_op op_pow pe_int pe_int))))
      (ws_cons (PSW.mk (ps_set (i := 8) sc_law.nd rfl (Or.inl rfl) (pe_op op_mod (pe_cd G__law_cell_at hr (pa_cons (pv 0) (pa_cons pe_int pa_nil))) pe_int)))
      (ws_cons (PSW.mk (ps_set (i := 9) sc_law.nd rfl (Or.inl rfl) (pe_cd G__law_no_number hr (pa_cons (pv 5) pa_nil))))
      (ws_cons (PSW.mk (ps_if (PW.pt (pw_or (pt_not (pt_val (pe_cd G__law_refused hr (pa_cons pe_int (pa_cons (pv 9) (pa_cons (pv 1) (pa_cons pe_int pa_nil))))))) (pw_or1 (pt_not (pt_val (pe_cd G__law_refused hr (pa_cons pe_int (pa_cons (pv 7) (pa_cons (pe_cd G__law_no_wide hr (pa_cons (pv 5) pa_nil)) (pa_cons pe_int pa_nil)))))))))) (pss_one (ps_ret pe_bl)) pss_nil))
      (ws_cons (PSW.mk (ps_if (PW.pt (pw_or (pt_not (pt_val (pe_cd G__law_refused hr (pa_cons pe_int (pa_cons (pe_cd G__law_no_row hr (pa_cons (pv 5) pa_nil)) (pa_cons (pv 1) (pa_cons pe_int pa_nil))))))) (pw_or1 (pt_not (pt_val (pe_cd G__law_refused hr (pa_cons pe_int (pa_cons (pv 3) (pa_cons (pe_cd G__law_no_wide hr (pa_cons (pv 5) pa_nil)) (pa_cons pe_int pa_nil)))))))))) (pss_one (ps_ret pe_bl)) pss_nil))
      (ws_cons (PSW.mk (ps_set (i := 10) sc_law.nd rfl (Or.inl rfl) (pe_ix ix_list (pe_lst (pa_cons (pv 9) (pa_cons (pv 1) (pa_cons (pe_op op_add (pv 1) (pv 7)) pa_nil)))) (pe_op op_mod (pe_op op_fdiv (pv 5) pe_int) pe_int) (fun _ _ => rfl))))
      (ws_cons (PSW.mk (ps_if (pt_not (pt_val (pe_cd G__law_refused hr (pa_cons pe_int (pa_cons (pe_cd G__law_put hr (pa_cons (pv 3) (pa_cons (pv 6) (pa_cons (pv 10) pa_nil)))) (pa_cons (pv 1) (pa_cons pe_int pa_nil))))))) (pss_one (ps_ret pe_bl)) pss_nil))
      (ws_cons (PSW.mk (ps_if (PW.pt (pw_or (pt_not (pt_val (pe_cd G__law_refused hr (pa_cons pe_int (pa_cons (pe_cd G__law_no_row hr (pa_cons (pv 5) pa_nil)) (pa_cons (pv 1) (pa_cons pe_int pa_nil))))))) (pw_or1 (pt_not (pt_val (pe_cd G__law_refused hr (pa_cons pe_int (pa_cons (pv 4) (pa_cons (pe_cd G__law_no_wide hr (pa_cons (pv 5) pa_nil)) (pa_cons pe_int pa_nil)))))))))) (pss_one (ps_ret pe_bl)) pss_nil))
      (ws_cons (PSW.mk (ps_if (PW.pt (pw_or (pt_not (pt_val (pe_cd G__law_refused hr (pa_cons pe_int (pa_cons (pe_cd G__law_put hr (pa_cons (pv 4) (pa_cons (pv 6) (pa_cons (pv 9) pa_nil)))) (pa_cons (pv 1) (pa_cons pe_int pa_nil))))))) (pw_or1 (pt_not (pt_val (pe_cd G__law_refused hr (pa_cons pe_int (pa_cons (pv 9) (pa_cons (pv 1) (pa_cons (pv 8) pa_nil)))))))))) (pss_one (ps_ret pe_bl)) pss_nil))
      (ws_cons (PSW.mk (ps_if (PW.pt (pw_or (pt_not (pt_val (pe_cd G__law_refused hr (pa_cons pe_int (pa_cons (pv 7) (pa_cons (pe_cd G__law_no_wide hr (pa_cons (pv 5) pa_nil)) (pa_cons (pe_op op_add (pv 8) pe_int) pa_nil))))))) (pw_or1 (pt_not (pt_val (pe_cd G__law_refused hr (pa_cons pe_int (pa_cons (pv 7) (pa_cons (pv 1) (pa_cons (pv 9) pa_nil)))))))))) (pss_one (ps_ret pe_bl)) pss_nil))
      (ws_cons (PSW.mk (ps_if (PW.pt (pw_or (pt_not (pt_val (pe_cd G__law_refused hr (pa_cons pe_int (pa_cons (pe_op op_add (pv 7) pe_int) (pa_cons (pv 1) (pa_cons pe_int pa_nil))))))) (pw_or1 (pt_cmpR op_ne (pe_fldX (pe_mkX GI_TooGreat hr (pa_cons (pv 7) pa_nil))) (pv 7) (nomark _))))) (pss_one (ps_ret pe_bl)) pss_nil))
      (ws_one (PSW.mk (ps_ret (pe_cd G__law_good hr (pa_cons (pv 3) (pa_cons (pv 1) (pa_cons (pv 7) (pa_cons (pv 8) pa_nil))))))))))))))))))))))))) ?_
  -- wide
  try dsimp only [gName]
  refine cut_seq (t := tAsg _ _) (fun σ' H' => ∃ wd : Int, σ' = [some (.ref a), some (.int wd), none, none, none, none, none, none, none, none, none] ∧ H = H' ∧ 2 ≤ wd ∧ wd ≤ 12) ?_ (fun nxt => ?_)
  rotate_left
  · refine ⟨_, rfl, a, 0, ns, rfl, hS, h63, by decide, fun v => ?_⟩
    have r := mod_in (a := v) (b := (11 : Int)) (by decide)
    exact ⟨_, _, rfl, rfl, (by show (0 : Int) < 11; decide), _, _, rfl, rfl, nxt _ _ ⟨_, rfl, rfl, by omega, by omega⟩⟩
  rintro σ' H' ⟨wd, rfl, rfl, w2, w12⟩
  -- size
  try dsimp only [gName]
  refine cut_seq (t := tAsg _ _) (fun σ' H' => ∃ sz : Nat, σ' = [some (.ref a), some (.int wd), some (.int sz), none, none, none, none, none, none, none, none] ∧ H = H' ∧ sz ≤ 12) ?_ (fun nxt => ?_)
  rotate_left
  · refine ⟨_, rfl, a, 1, ns, rfl, hS, h63, by decide, fun v => ?_⟩
    have r := mod_in (a := v) (b := (13 : Int)) (by decide)
    obtain ⟨j, ej⟩ := nat_of r.1
    refine ⟨_, _, rfl, rfl, (by show (0 : Int) < 13; decide), nxt _ _ ⟨j, ?_, rfl, by omega⟩⟩
    rw [← ej]
    rfl
  rintro σ' H' ⟨sz, rfl, rfl, sz12⟩
  -- row
  try dsimp only [gName]
  refine cut_seq (t := tAsg _ _) (fun σ' H' => ∃ (R : Addr) (ds : List Int), σ' = [some (.ref a), some (.int wd), some (.int sz), some (.ref R), none, none, none, none, none, none, none] ∧ Same H H' ∧ H' R = some (.lst (ds.map V.int)) ∧ InB wd ds ∧ ds.length ≤ 12) ?_ (fun nxt => ?_)
  rotate_left
  · obtain ⟨cs, ec, lc⟩ := cut_intsS (ns := ns) (s := sz)
    refine ⟨_, rfl, _, rfl, _, rfl, _, _, rfl, rfl, _, rfl, a, _, rfl, .inl ⟨hS, fun p hp => ?_⟩⟩
    rw [ec]
    refine ⟨p, rfl, ⟨_, SqL.of upd_same⟩, ?_⟩
    refine comp_list (K := K) (xs := cs.map V.int) (fun D i ys H' => Same (upd H p (HO.lst (cs.map V.int))) H' ∧ ys.length = i ∧ IntsIn 0 wd ys) (fun D hD => ⟨same_new hD _, rfl, IntsIn.nil⟩) (fun D i ys H' _ p => SqL.of (p.1 _ _ upd_same)) ?_ ?_
    · rintro D i x ys H' Q' hD hx hy ⟨hs, hl', hall⟩ k'
      obtain ⟨z, rfl, hz⟩ := ints_at hx
      have hi : i < cs.length := (List.getElem?_eq_some_iff.mp hz).1
      have rm := mod_in (a := z) (b := wd) (by omega)
      exact ⟨_, rfl, _, rfl, _, _, rfl, rfl, (by show (0 : Int) < wd; omega), k' _ H' hy (small1000 (by omega)) ⟨same_upd hs hD, by simp [hl'], hall.snoc rm.1 rm.2⟩⟩
    rintro D1 ys1 H3 hD0 hD1 ⟨hs3, hl3, hall3⟩
    obtain ⟨n1, rfl, hn1⟩ := hall3.ints
    rw [List.length_map, List.length_map] at hl3
    exact nxt _ _ ⟨D1, n1, rfl, (same_new hp _).trans hs3, hD1, fun z hz => hn1 z hz, by omega⟩
  rintro σ' H1 ⟨R, ds, rfl, s1, hR, inb, lds⟩
  -- numbers
  try dsimp only [gName]
  refine cut_seq (t := tAsg _ _) (fun σ' H' => ∃ (N : Addr) (ms : List Int), σ' = [some (.ref a), some (.int wd), some (.int sz), some (.ref R), some (.ref N), none, none, none, none, none, none] ∧ Same H1 H' ∧ H' N = some (.lst (ms.map V.int)) ∧ (∀ z ∈ ms, 0 ≤ z ∧ z < 10 ^ 18) ∧ ms.length ≤ 12) ?_ (fun nxt => ?_)
  rotate_left
  · obtain ⟨cs, ec, lc⟩ := cut_intsS (ns := ns) (s := sz)
    refine ⟨_, rfl, _, rfl, _, rfl, _, _, rfl, rfl, _, rfl, a, _, rfl, .inl ⟨s1.seq hS, fun p hp => ?_⟩⟩
    rw [ec]
    refine ⟨p, rfl, ⟨_, SqL.of upd_same⟩, ?_⟩
    refine comp_list (K := K) (xs := cs.map V.int) (fun D i ys H' => Same (upd H1 p (HO.lst (cs.map V.int))) H' ∧ ys.length = i ∧ IntsIn 0 (10 ^ 18) ys) (fun D hD => ⟨same_new hD _, rfl, IntsIn.nil⟩) (fun D i ys H' _ p => SqL.of (p.1 _ _ upd_same)) ?_ ?_
    · rintro D i x ys H' Q' hD hx hy ⟨hs, hl', hall⟩ k'
      obtain ⟨z, rfl, hz⟩ := ints_at hx
      have hi : i < cs.length := (List.getElem?_eq_some_iff.mp hz).1
      have rm := mod_in (a := z) (b := 10 ^ 18) (by decide)
      exact ⟨_, rfl, _, _, rfl, rfl, ⟨by decide, by decide, by decide⟩, _, _, rfl, rfl, (by show (0 : Int) < 10 ^ 18; decide), k' _ H' hy (small1000 (by omega)) ⟨same_upd hs hD, by simp [hl'], hall.snoc rm.1 rm.2⟩⟩
    rintro D1 ys1 H3 hD0 hD1 ⟨hs3, hl3, hall3⟩
    obtain ⟨n1, rfl, hn1⟩ := hall3.ints
    rw [List.length_map, List.length_map] at hl3
    exact nxt _ _ ⟨D1, n1, rfl, (same_new hp _).trans hs3, hD1, hn1, by omega⟩
  rintro σ' H2 ⟨N, ms, rfl, s2, hN, hms, lms⟩
  have hS2 := (s1.trans s2).seq hS
  have hR2 := s2 _ _ hR
  -- pick
  try dsimp only [gName]
  refine cut_seq (t := tAsg _ _) (fun σ' H' => ∃ p : Int, σ' = [some (.ref a), some (.int wd), some (.int sz), some (.ref R), some (.ref N), some (.int p), none, none, none, none, none] ∧ H2 = H' ∧ 0 ≤ p) ?_ (fun nxt => ?_)
  rotate_left
  · refine ⟨_, rfl, a, 2, ns, rfl, hS2, h63, by decide, fun v => ?_⟩
    refine ⟨_, _, rfl, rfl, (by show (0 : Int) < 1000003; decide), _, _, rfl, rfl, ?_, ?_⟩
    · have r := mod_in (a := v) (b := (1000003 : Int)) (by decide)
      first | trivial | exact ⟨by decide, by omega⟩ | exact ⟨by omega, by omega, by decide, by decide⟩ | (unfold CMul; trace_state; omega)
    · have r := mod_in (a := v % 1000003 * 48271 + 7) (b := (1000003 : Int)) (by decide)
      exact ⟨_, _, rfl, rfl, _, _, rfl, rfl, (by show (0 : Int) < 1000003; decide), nxt _ _ ⟨_, rfl, rfl, r.1⟩⟩
  rintro σ' H' ⟨p, rfl, rfl, p0⟩
  -- at
  try dsimp only [gName]
  refine cut_seq (t := tAsg _ _) (fun σ' H' => ∃ q : Int, σ' = [some (.ref a), some (.int wd), some (.int sz), some (.ref R), some (.ref N), some (.int p), some (.int q), none, none, none, none] ∧ H2 = H' ∧ 0 ≤ q) ?_ (fun nxt => ?_)
  rotate_left
  · refine ⟨_, rfl, a, 3, ns, rfl, hS2, h63, by decide, fun v => ?_⟩
    have r := mod_in (a := v) (b := (1000003 : Int)) (by decide)
    exact ⟨_, _, rfl, rfl, (by show (0 : Int) < 1000003; decide), nxt _ _ ⟨_, rfl, rfl, r.1⟩⟩
  rintro σ' H' ⟨at', rfl, rfl, at0⟩
  -- number
  try dsimp only [gName]
  refine cut_seq (t := tAsg _ _) (fun σ' H' => ∃ n : Int, σ' = [some (.ref a), some (.int wd), some (.int sz), some (.ref R), some (.ref N), some (.int p), some (.int at'), some (.int n), none, none, none] ∧ H2 = H' ∧ 0 ≤ n ∧ n < 10 ^ 18) ?_ (fun nxt => ?_)
  rotate_left
  · refine ⟨_, rfl, a, 4, ns, rfl, hS2, h63, by decide, fun v => ?_⟩
    have r := mod_in (a := v) (b := (10 ^ 18 : Int)) (by decide)
    exact ⟨_, _, rfl, rfl, ⟨by decide, by decide, by decide⟩, _, _, rfl, rfl, (by show (0 : Int) < 10 ^ 18; decide), nxt _ _ ⟨_, rfl, rfl, r.1, r.2⟩⟩
  rintro σ' H' ⟨n, rfl, rfl, n0, n1⟩
  -- many
  try dsimp only [gName]
  refine cut_seq (t := tAsg _ _) (fun σ' H' => ∃ m : Nat, σ' = [some (.ref a), some (.int wd), some (.int sz), some (.ref R), some (.ref N), some (.int p), some (.int at'), some (.int n), some (.int m), none, none] ∧ H2 = H' ∧ m ≤ 6) ?_ (fun nxt => ?_)
  rotate_left
  · refine ⟨_, rfl, a, 5, ns, rfl, hS2, h63, by decide, fun v => ?_⟩
    have r := mod_in (a := v) (b := (7 : Int)) (by decide)
    obtain ⟨j, ej⟩ := nat_of r.1
    refine ⟨_, _, rfl, rfl, (by show (0 : Int) < 7; decide), nxt _ _ ⟨j, ?_, rfl, by omega⟩⟩
    rw [← ej]
    rfl
  rintro σ' H' ⟨m, rfl, rfl, m6⟩
  -- bad
  refine ⟨_, rfl, p, rfl, fun y H3 s3 hy wy => ?_⟩
  have hR3 := s3 _ _ hR2
  have hN3 := s3 _ _ hN
  have nB : (10 : Int) ^ 18 < NB := by unfold NB; decide
  have wNB : wd < NB := Int.lt_of_le_of_lt w12 (by unfold NB; decide)
  have noY : ∀ {α : Prop}, whF 0 y = true → α := fun c => by rw [wy] at c; cases c
  -- figures
  refine ⟨_, rfl, _, rfl, rfl, fun Q' E' he => ⟨0, y, .int wd, .int 0, rfl, .inl ⟨rfl, y, .int wd, rfl, hy, .int _, fun c => noY c, he _ (Same.refl _)⟩⟩, fun H4 s4 => ⟨_, rfl, iteF ?_⟩⟩
  refine ⟨_, rfl, _, rfl, p, rfl, fun v H5 s5 hv wv => ⟨rfl, fun Q' E' he => ⟨0, .int n, v, .int 0, rfl, .inl ⟨rfl, .int n, v, rfl, .int _, hv, fun _ => wv, he _ (Same.refl _)⟩⟩, fun H6 s6 => ⟨_, rfl, iteF ?_⟩⟩⟩
  have t6 := s4.trans (s5.trans s6)
  -- number_of
  refine ⟨_, rfl, p, rfl, fun v H7 s7 hv nr => ⟨_, rfl, rfl, fun Q' E' he => ⟨1, v, .int wd, .int 0, rfl, .inr (.inl ⟨rfl, v, .int wd, rfl, hv, .int _, fun _ c => absurd c nr, he⟩)⟩, fun H8 s8 => ⟨_, rfl, iteF ?_⟩⟩⟩
  have t8 := t6.trans (s7.trans s8)
  refine ⟨_, rfl, _, rfl, p, rfl, fun v H9 s9 hv wv => ⟨rfl, fun Q' E' he => ⟨1, .ref R, v, .int 0, rfl, .inr (.inl ⟨rfl, .ref R, v, rfl, .lst ((t8.trans s9) _ _ hR3), hv, (fun c => by rw [wv] at c; cases c), he⟩)⟩, fun H10 s10 => ⟨_, rfl, iteF ?_⟩⟩⟩
  have t10 := t8.trans (s9.trans s10)
  -- the figure
  dsimp only [tNext, gName]
  refine cut_seq (t := tAsg _ _) (fun σ' H' => ∃ z : V, σ' = [some (.ref a), some (.int wd), some (.int sz), some (.ref R), some (.ref N), some (.int p), some (.int at'), some (.int n), some (.int m), some y, some z] ∧ Same H10 H' ∧ Pl H' z ∧ wholeIn 0 (wd - 1) z = false) ?_ (fun nxt => ?_)
  rotate_left
  · refine ⟨_, rfl, _, rfl, _, rfl, _, rfl, _, _, rfl, rfl, (by show 3 ≤ sizeLine; decide), fun l hl => ?_⟩
    have r9 := mod_in (a := p / 12) (b := (3 : Int)) (by decide)
    have sl := same_new hl (HO.lst [y, V.int wd, V.int (wd + n)])
    obtain ⟨z, ez, hp, hw⟩ := atI_all (xs := [y, V.int wd, V.int (wd + n)]) (j := p / 12 % 3) (p := fun z => Pl (upd H10 l (HO.lst [y, V.int wd, V.int (wd + n)])) z ∧ wholeIn 0 (wd - 1) z = false) r9.1 r9.2 (by
      intro z hz
      simp only [List.mem_cons, List.not_mem_nil, or_false] at hz
      rcases hz with rfl | rfl | rfl
      · exact ⟨hy.same (t10.trans sl), wholeIn_bad wy⟩
      · refine ⟨.int _, ?_⟩
        show (decide (0 ≤ wd) && decide (wd ≤ wd - 1)) = false
        rw [decide_eq_false (by omega : ¬ wd ≤ wd - 1), Bool.and_false]
      · refine ⟨.int _, ?_⟩
        show (decide (0 ≤ wd + n) && decide (wd + n ≤ wd - 1)) = false
        rw [decide_eq_false (by omega : ¬ wd + n ≤ wd - 1), Bool.and_false])
    exact ⟨_, rfl, _, _, rfl, rfl, ⟨by decide, by decide⟩, _, _, rfl, rfl, (by show (0 : Int) < 3; decide), l, _, _, _, rfl, rfl, SqL.of upd_same, ez, nxt _ _ ⟨z, rfl, sl, hp, hw⟩⟩
  rintro σ' H11 ⟨z, rfl, s11, hz, wz⟩
  have t11 := t10.trans s11
  refine ⟨_, rfl, _, rfl, _, rfl, R, at', z, ds.map V.int, rfl, t11 _ _ hR3, by rw [List.length_map]; omega, at0, fun l H12 kk hkk s12 hl => ?_⟩
  refine ⟨_, rfl, rfl, fun Q' E' he => ⟨1, .ref l, .int wd, .int 0, rfl, .inr (.inl ⟨rfl, .ref l, .int wd, rfl, hl.elim (fun q => .lst q) (fun q => .tup q), .int _, fun _ _ => ⟨wd, l, _, rfl, rfl, hl, fun u hu => ?_, z, put_mem, wz⟩, he⟩)⟩, fun H13 s13 => ⟨_, rfl, iteF ?_⟩⟩
  · rcases mem_put hu with rfl | q
    · exact hz.same s12
    · obtain ⟨i, _, rfl⟩ := List.mem_map.mp q
      exact .int _
  have t13 := t11.trans (s12.trans s13)
  -- joint
  refine ⟨_, rfl, p, rfl, fun v H14 s14 hv nr => ⟨_, rfl, rfl, fun Q' E' he => ⟨2, v, .int wd, .int 0, rfl, .inr (.inr (.inl ⟨rfl, v, .int wd, rfl, hv, .int _, fun _ c => absurd c nr, he⟩))⟩, fun H15 s15 => ⟨_, rfl, iteF ?_⟩⟩⟩
  have t15 := t13.trans (s14.trans s15)
  refine ⟨_, rfl, _, rfl, p, rfl, fun v H16 s16 hv wv => ⟨rfl, fun Q' E' he => ⟨2, .ref N, v, .int 0, rfl, .inr (.inr (.inl ⟨rfl, .ref N, v, rfl, .lst ((t15.trans s16) _ _ hN3), hv, (fun c => by rw [wv] at c; cases c), he⟩))⟩, fun H17 s17 => ⟨_, rfl, iteF ?_⟩⟩⟩
  have t17 := t15.trans (s16.trans s17)
  refine ⟨_, rfl, _, rfl, _, rfl, N, at', y, ms.map V.int, rfl, t17 _ _ hN3, by rw [List.length_map]; omega, at0, fun l H18 kk hkk s18 hl => ?_⟩
  have t18 := t17.trans s18
  refine ⟨_, rfl, rfl, fun Q' E' he => ⟨2, .ref l, .int wd, .int 0, rfl, .inr (.inr (.inl ⟨rfl, .ref l, .int wd, rfl, hl.elim (fun q => .lst q) (fun q => .tup q), .int _, fun _ _ => ⟨wd, l, _, rfl, wNB, rfl, hl, ?_, fun u hu => ?_, fun i hi => ?_, y, put_mem, wy⟩, he⟩))⟩, fun H19 s19 => ⟨_, rfl, iteF ?_⟩⟩
  · rw [List.length_map] at hkk
    simp only [List.length_append, List.length_cons, List.length_take, List.length_drop, List.length_map]
    omega
  · rcases mem_put hu with rfl | q
    · exact hy.same t18
    · obtain ⟨i, _, rfl⟩ := List.mem_map.mp q
      exact .int _
  · rcases mem_put hi with q | q
    · rw [← q] at wy
      have : ¬ (0 ≤ i) := of_decide_eq_false wy
      omega
    · obtain ⟨j, hj, e⟩ := List.mem_map.mp q
      have := hms j hj
      have e2 : j = i := V.int.inj e
      omega
  have t19 := t18.trans s19
  -- apart
  refine ⟨_, rfl, _, rfl, _, rfl, rfl, fun Q' E' he => ⟨3, y, .int wd, .int m, rfl, .inr (.inr (.inr ⟨rfl, y, .int wd, .int m, rfl, hy.same t19, .int _, .int _, fun _ _ c => noY c, he⟩))⟩, fun H20 s20 => ⟨_, rfl, iteF ?_⟩⟩
  have t20 := t19.trans s20
  refine ⟨_, rfl, _, rfl, p, rfl, fun v H21 s21 hv wv => ⟨_, rfl, _, _, rfl, rfl, rfl, fun Q' E' he => ⟨3, .int n, v, .int (m + 1), rfl, .inr (.inr (.inr ⟨rfl, .int n, v, .int (m + 1), rfl, .int _, hv, .int _, (fun c => by rw [wv] at c; cases c), he⟩))⟩, fun H22 s22 => ⟨_, rfl, iteF ?_⟩⟩⟩
  have t22 := t20.trans (s21.trans s22)
  refine ⟨_, rfl, _, rfl, _, rfl, rfl, fun Q' E' he => ⟨3, .int n, .int wd, y, rfl, .inr (.inr (.inr ⟨rfl, .int n, .int wd, y, rfl, .int _, .int _, hy.same t22, fun _ c => noY c, he⟩))⟩, fun H23 s23 => ⟨_, rfl, iteF ?_⟩⟩
  have t23 := t22.trans s23
  refine ⟨_, rfl, _, _, rfl, rfl, _, rfl, rfl, fun Q' E' he => ⟨3, .int (n + 1), .int wd, .int 0, rfl, .inr (.inr (.inr ⟨rfl, .int (n + 1), .int wd, .int 0, rfl, .int _, .int _, .int _, fun _ _ _ => ⟨n + 1, wd, rfl, rfl, rfl, ⟨by omega, by omega⟩, ⟨w2, wNB⟩⟩, he⟩))⟩, fun H24 s24 => ⟨_, rfl, iteF ?_⟩⟩
  have t24 := t23.trans s24
  -- TooGreat(number).most
  refine ⟨_, rfl, (by show 1 ≤ 8; decide), fun x hx => ⟨x, n, rfl, upd_same, text_short n0 n1, fun d hd ne => ⟨rfl, x, C1, d, f1, _, _, rfl, ?_, upd_same, GI_TooGreat.M, na, rfl, ?_⟩⟩⟩
  · rw [upd_ne ne.symm, upd_same]
  have hd' : H24 d = none := by
    rw [upd_ne ne] at hd
    exact hd
  have t25 := t24.trans (same_upd (o := HO.xd [("most", V.int n)]) (same_upd (o := HO.ext (ExWith x C1 d)) (same_upd (o := HO.ext (ExRaw x C1)) (Same.refl _) hx) hx) hd')
  refine ⟨_, rfl, rfl, _, rfl, iteDn (fun z => absurd rfl z) (fun _ => ?_)⟩
  exact ⟨_, rfl, _, rfl, _, rfl, _, rfl, R, wd, n, m, ds, rfl, t25 _ _ hR3, lds, ⟨w2, w12⟩, inb, ⟨n0, n1⟩, m6, fun H' _ => k H'⟩
end
end My

set_option Elab.async false
set_option linter.all false
set_option maxRecDepth 100000
set_option maxHeartbeats 8000000
namespace My
open PySem L2
/-! ### the end -/
theorem cls_of_mro {K : PySem.W.Frag} {C : Addr} {v : Value} {b : Bool} (h : PySem.W.mroIn K C v = some b) : (PySem.W.clsIn K C).isSome = true := by
  unfold PySem.W.mroIn at h
  obtain ⟨cd, e, _⟩ := Option.bind_eq_some_iff.mp h
  rw [e]
  rfl
theorem kitc {K : PySem.W.Frag} {t : Value} {D : Addr} {b : Bool} (h1 : PySem.W.mroIn K D (.type "object") = some true) (h2 : PySem.W.typeIn K (.ref D) = some (.type "type")) (h3 : PySem.W.subIn K t (.ref D) = some b) : PySem.W.kitCls K t (.ref D) = some b := by
  unfold PySem.W.kitCls
  dsimp only
  rw [if_pos (by rw [cls_of_mro h1, h2]; decide)]
  exact h3
theorem kitn {K : PySem.W.Frag} {C D : Addr} {b : Bool} (h1 : PySem.W.mroIn K D (.type "object") = some true) (h2 : PySem.W.typeIn K (.ref D) = some (.type "type")) (h3 : PySem.W.subIn K (.ref C) (.ref D) = some b) (ne : (Value.ref C == Value.ref D) = false) :
    PySem.W.kitOne K (.ref C) (.ref D) = some b := by
  unfold PySem.W.kitOne
  rw [if_neg (by rw [ne]; decide)]
  exact kitc h1 h2 h3
theorem kit_ve {K : PySem.W.Frag} {C : Addr} (h : PySem.W.subIn K (.ref C) (.type "ValueError") = some true) : PySem.W.kitOne K (.ref C) (.type "ValueError") = some true := by
  unfold PySem.W.kitOne
  rw [if_neg (by intro z; cases beq_iff_eq.mp z)]
  unfold PySem.W.kitCls
  dsimp only
  rw [if_pos (by decide +kernel)]
  exact h
theorem exm_of {K : PySem.W.Frag} {C F : Addr} (h0 : PySem.W.subIn K (.ref F) (.type "BaseException") = some true) (h1 : PySem.W.mroIn K F (.type "object") = some true) (h2 : PySem.W.typeIn K (.ref F) = some (.type "type")) (h3 : PySem.W.subIn K (.ref C) (.ref F) = some true) :
    PySem.W.exmOne K (.ref C) (.ref F) = some true := by
  unfold PySem.W.exmOne
  rw [if_pos (by rw [h0]; decide)]
  exact kitc h1 h2 h3
section
variable {P : Program} {w : World} {K : PySem.W.Frag} {mg : Str → Option Value} {base : Heap} {f : Addr} {fd : FuncData} {dV : Value} {C F0 D1 D2 D3 D4 D5 D6 D7 D8 : Addr}
theorem xcls_mk (ga : PySem.W.findIn K (.ref C) "__getattribute__" = some (some (.builtin "BaseException.__getattribute__"))) (gt : PySem.W.findIn K (.ref C) "__getattr__" = some none) (cl : PySem.W.findIn K (.ref C) "__class__" = some (some (.builtin "object.__class__")))
    (gg : PySem.W.specialIn K (.builtin "object.__class__") "__get__" = some (some (.builtin "getset_descriptor.__get__"))) (tk : PySem.W.takesIn K (.builtin "object.__class__") = some true) (ob : PySem.W.mroIn K C (.type "object") = some true) (be : PySem.W.mroIn K C (.type "BaseException") = some true) : XCls K C :=
  ⟨ga, gt, cl, gg, tk, ob, be, cls_of_mro ob⟩
theorem ok_othersE (F : FunD K "_law_others" "_law_others" s__law_others dV f fd) (ga : PySem.W.findIn K (.ref C) "__getattribute__" = some (some (.builtin "BaseException.__getattribute__"))) (gt : PySem.W.findIn K (.ref C) "__getattr__" = some none) (cl : PySem.W.findIn K (.ref C) "__class__" = some (some (.builtin "object.__class__")))
    (gg : PySem.W.specialIn K (.builtin "object.__class__") "__get__" = some (some (.builtin "getset_descriptor.__get__"))) (tk : PySem.W.takesIn K (.builtin "object.__class__") = some true) (ob : PySem.W.mroIn K C (.type "object") = some true) (be : PySem.W.mroIn K C (.type "BaseException") = some true)
    (g1 : mg "NoMachine" = some (.ref D1)) (o1 : PySem.W.mroIn K D1 (.type "object") = some true) (t1 : PySem.W.typeIn K (.ref D1) = some (.type "type")) (u1 : PySem.W.subIn K (.ref C) (.ref D1) = some false) (e1 : (Value.ref C == Value.ref D1) = false)
    (g2 : mg "NoName" = some (.ref D2)) (o2 : PySem.W.mroIn K D2 (.type "object") = some true) (t2 : PySem.W.typeIn K (.ref D2) = some (.type "type")) (u2 : PySem.W.subIn K (.ref C) (.ref D2) = some false) (e2 : (Value.ref C == Value.ref D2) = false)
    (g3 : mg "NoPower" = some (.ref D3)) (o3 : PySem.W.mroIn K D3 (.type "object") = some true) (t3 : PySem.W.typeIn K (.ref D3) = some (.type "type")) (u3 : PySem.W.subIn K (.ref C) (.ref D3) = some false) (e3 : (Value.ref C == Value.ref D3) = false)
    (g4 : mg "NoRow" = some (.ref D4)) (o4 : PySem.W.mroIn K D4 (.type "object") = some true) (t4 : PySem.W.typeIn K (.ref D4) = some (.type "type")) (u4 : PySem.W.subIn K (.ref C) (.ref D4) = some false) (e4 : (Value.ref C == Value.ref D4) = false)
    (g5 : mg "NoSome" = some (.ref D5)) (o5 : PySem.W.mroIn K D5 (.type "object") = some true) (t5 : PySem.W.typeIn K (.ref D5) = some (.type "type")) (u5 : PySem.W.subIn K (.ref C) (.ref D5) = some false) (e5 : (Value.ref C == Value.ref D5) = false)
    (g6 : mg "NoText" = some (.ref D6)) (o6 : PySem.W.mroIn K D6 (.type "object") = some true) (t6 : PySem.W.typeIn K (.ref D6) = some (.type "type")) (u6 : PySem.W.subIn K (.ref C) (.ref D6) = some false) (e6 : (Value.ref C == Value.ref D6) = false)
    (g7 : mg "TooGreat" = some (.ref D7)) (o7 : PySem.W.mroIn K D7 (.type "object") = some true) (t7 : PySem.W.typeIn K (.ref D7) = some (.type "type")) (u7 : PySem.W.subIn K (.ref C) (.ref D7) = some false) (e7 : (Value.ref C == Value.ref D7) = false)
    (g8 : mg "TooWide" = some (.ref D8)) (o8 : PySem.W.mroIn K D8 (.type "object") = some true) (t8 : PySem.W.typeIn K (.ref D8) = some (.type "type")) (u8 : PySem.W.subIn K (.ref C) (.ref D8) = some false) (e8 : (Value.ref C == Value.ref D8) = false)
    (z_isinstance : mg "isinstance" = none) : FnOkH P w K mg base CX0 1 f fd ["_law_e"] (spOthers C) :=
  ok_others F (xcls_mk ga gt cl gg tk ob be) g1 g2 g3 g4 g5 g6 g7 g8 (kitn o1 t1 u1 e1) (kitn o2 t2 u2 e2) (kitn o3 t3 u3 e3) (kitn o4 t4 u4 e4) (kitn o5 t5 u5 e5) (kitn o6 t6 u6 e6) (kitn o7 t7 u7 e7) (kitn o8 t8 u8 e8) z_isinstance
theorem ok_refusedE (F : FunD K "_law_refused" "_law_refused" s__law_refused dV f fd) (ga : PySem.W.findIn K (.ref C) "__getattribute__" = some (some (.builtin "BaseException.__getattribute__"))) (gt : PySem.W.findIn K (.ref C) "__getattr__" = some none) (cl : PySem.W.findIn K (.ref C) "__class__" = some (some (.builtin "object.__class__")))
    (gg : PySem.W.specialIn K (.builtin "object.__class__") "__get__" = some (some (.builtin "getset_descriptor.__get__"))) (tk : PySem.W.takesIn K (.builtin "object.__class__") = some true) (ob : PySem.W.mroIn K C (.type "object") = some true) (be : PySem.W.mroIn K C (.type "BaseException") = some true)
    (g_FigureError : mg "FigureError" = some (.ref F0)) (g_NoFigures : mg "NoFigures" = some (.ref C)) (h0 : PySem.W.subIn K (.ref F0) (.type "BaseException") = some true) (h1 : PySem.W.mroIn K F0 (.type "object") = some true) (h2 : PySem.W.typeIn K (.ref F0) = some (.type "type")) (h3 : PySem.W.subIn K (.ref C) (.ref F0) = some true)
    (kv : PySem.W.subIn K (.ref C) (.type "ValueError") = some true) (GX__law_asked : DefX P w K mg base "_law_asked" 6 ["_law_which", "_law_one", "_law_two", "_law_three"] [] (spAskedX C))
    (GH__law_others : DefH P w K mg base "_law_others" 1 ["_law_e"] [] (spOthers C)) (z_isinstance : mg "isinstance" = none) (z_ValueError : mg "ValueError" = none) : FnOk P w K mg base CX0 7 f fd ["_law_which", "_law_one", "_law_two", "_law_three"] (spRefusedA C) :=
  ok_refused F (xcls_mk ga gt cl gg tk ob be) g_FigureError g_NoFigures (exm_of h0 h1 h2 h3) (kit_ve kv) GX__law_asked GH__law_others z_isinstance z_ValueError
theorem ok_figAny (F : FunD K "figures" "figures" s_figures dV f fd) (G_need_whole : DefOk P w K mg base "need_whole" 3 ["thing", "least", "called"] [] spNeed) (G_halved : DefOk P w K mg base "halved" 1 ["parts", "middle"] [] (spHalved K)) (z_reversed : mg "reversed" = none) (z_tuple : mg "tuple" = none)
    (GX_need_whole : DefX P w K mg base "need_whole" 3 ["thing", "least", "called"] [] (spNeedX C)) : FnOk P w K mg base (CX1 P w) 4 f fd ["number", "wide"] (spFigAny K C) :=
  fn_or ((ok_figures F G_need_whole G_halved z_reversed z_tuple).lift _) (ok_figuresY F GX_need_whole)
theorem xinit_mk {f0 F1 : Addr} (ex : excInI K C f0 = true) (fn : PySem.W.isFn K (.ref f0) = true) (kp : PySem.W.keepIn K (.ref C) = true) (sa : PySem.W.findIn K (.ref C) "__setattr__" = some (some (.builtin "object.__setattr__"))) (hd : PySem.W.hasDictIn K C = true) (mr : mroIs K C [C, F1] = true)
    (ga : PySem.W.findIn K (.ref C) "__getattribute__" = some (some (.builtin "BaseException.__getattribute__"))) (gt : PySem.W.findIn K (.ref C) "__getattr__" = some none) (cl : PySem.W.findIn K (.ref C) "__class__" = some (some (.builtin "object.__class__")))
    (gg : PySem.W.specialIn K (.builtin "object.__class__") "__get__" = some (some (.builtin "getset_descriptor.__get__"))) (tk : PySem.W.takesIn K (.builtin "object.__class__") = some true) (ob : PySem.W.mroIn K C (.type "object") = some true) (be : PySem.W.mroIn K C (.type "BaseException") = some true) : XInit K C f0 :=
  ⟨ex, fn, kp, sa, hd, ⟨_, mr⟩, xcls_mk ga gt cl gg tk ob be⟩
end
theorem all_mk {l : PySem.W.OpenLaw} {w : World} {K : PySem.W.Frag} {h : Heap} {mg : Str → Option Value} {fa : Addr} (X : K.In h) (G : h.Ns mainGlobals mg) (hfa : mg "law" = some (.ref fa))
    {f_is_whole f_is_whole_from f_is_whole_within f_need_whole f_need_row f_halved f_figures f_merged f_number_of f_joint f_apart f_TooGreat___init__ f__law_cell_at f__law_asked f__law_others f__law_refused f__law_no_number f__law_no_wide f__law_no_row f__law_put f__law_good f_law : Addr} {od_is_whole an_is_whole od_is_whole_from an_is_whole_from od_is_whole_within an_is_whole_within od_need_whole an_need_whole od_need_row an_need_row od_halved an_halved od_figures an_figures od_merged an_merged od_number_of an_number_of od_joint an_joint od_apart an_apart od_TooGreat___init__ an_TooGreat___init__ od__law_cell_at an__law_cell_at od__law_asked an__law_asked od__law_others an__law_others od__law_refused an__law_refused od__law_no_number an__law_no_number od__law_no_wide an__law_no_wide od__law_no_row an__law_no_row od__law_put an__law_put od__law_good an__law_good od_law an_law : Option Addr} {sl_is_whole sl_is_whole_from sl_is_whole_within sl_need_whole sl_need_row sl_halved sl_figures sl_merged sl_number_of sl_joint sl_apart sl_TooGreat___init__ sl__law_cell_at sl__law_asked sl__law_others sl__law_refused sl__law_no_number sl__law_no_wide sl__law_no_row sl__law_put sl__law_good sl_law : Array (Option Value)} {oc_is_whole kV_is_whole dc_is_whole pm_is_whole cd_is_whole ct_is_whole oc_is_whole_from kV_is_whole_from dc_is_whole_from pm_is_whole_from cd_is_whole_from ct_is_whole_from oc_is_whole_within kV_is_whole_within dc_is_whole_within pm_is_whole_within cd_is_whole_within ct_is_whole_within oc_need_whole kV_need_whole dc_need_whole pm_need_whole cd_need_whole ct_need_whole oc_need_row kV_need_row dc_need_row pm_need_row cd_need_row ct_need_row oc_halved kV_halved dc_halved pm_halved cd_halved ct_halved oc_figures kV_figures dc_figures pm_figures cd_figures ct_figures oc_merged kV_merged dc_merged pm_merged cd_merged ct_merged oc_number_of kV_number_of dc_number_of pm_number_of cd_number_of ct_number_of oc_joint kV_joint dc_joint pm_joint cd_joint ct_joint oc_apart kV_apart dc_apart pm_apart cd_apart ct_apart oc_TooGreat___init__ kV_TooGreat___init__ dc_TooGreat___init__ pm_TooGreat___init__ cd_TooGreat___init__ ct_TooGreat___init__ oc__law_cell_at kV__law_cell_at dc__law_cell_at pm__law_cell_at cd__law_cell_at ct__law_cell_at oc__law_asked kV__law_asked dc__law_asked pm__law_asked cd__law_asked ct__law_asked oc__law_others kV__law_others dc__law_others pm__law_others cd__law_others ct__law_others oc__law_refused kV__law_refused dc__law_refused pm__law_refused cd__law_refused ct__law_refused oc__law_no_number kV__law_no_number dc__law_no_number pm__law_no_number cd__law_no_number ct__law_no_number oc__law_no_wide kV__law_no_wide dc__law_no_wide pm__law_no_wide cd__law_no_wide ct__law_no_wide oc__law_no_row kV__law_no_row dc__law_no_row pm__law_no_row cd__law_no_row ct__law_no_row oc__law_put kV__law_put dc__law_put pm__law_put cd__law_put ct__law_put oc__law_good kV__law_good dc__law_good pm__law_good cd__law_good ct__law_good oc_law kV_law dc_law pm_law cd_law ct_law : Value}
    (a_is_whole : PySem.W.nsIn K mainGlobals "is_whole" = some (some (.ref f_is_whole))) (l_is_whole : K.lookup f_is_whole = some ⟨oc_is_whole, od_is_whole, .func (PySem.W.fnOf "is_whole" "is_whole" (defArgs s_is_whole) (defBody s_is_whole) (defScope s_is_whole) .none kV_is_whole dc_is_whole pm_is_whole an_is_whole cd_is_whole ct_is_whole), sl_is_whole⟩) (c_is_whole : PySem.W.codeIn K cd_is_whole "is_whole" = true) (k_is_whole : PySem.W.keepIn K (.ref f_is_whole) = true)
    (a_is_whole_from : PySem.W.nsIn K mainGlobals "is_whole_from" = some (some (.ref f_is_whole_from))) (l_is_whole_from : K.lookup f_is_whole_from = some ⟨oc_is_whole_from, od_is_whole_from, .func (PySem.W.fnOf "is_whole_from" "is_whole_from" (defArgs s_is_whole_from) (defBody s_is_whole_from) (defScope s_is_whole_from) .none kV_is_whole_from dc_is_whole_from pm_is_whole_from an_is_whole_from cd_is_whole_from ct_is_whole_from), sl_is_whole_from⟩) (c_is_whole_from : PySem.W.codeIn K cd_is_whole_from "is_whole_from" = true) (k_is_whole_from : PySem.W.keepIn K (.ref f_is_whole_from) = true)
    (a_is_whole_within : PySem.W.nsIn K mainGlobals "is_whole_within" = some (some (.ref f_is_whole_within))) (l_is_whole_within : K.lookup f_is_whole_within = some ⟨oc_is_whole_within, od_is_whole_within, .func (PySem.W.fnOf "is_whole_within" "is_whole_within" (defArgs s_is_whole_within) (defBody s_is_whole_within) (defScope s_is_whole_within) .none kV_is_whole_within dc_is_whole_within pm_is_whole_within an_is_whole_within cd_is_whole_within ct_is_whole_within), sl_is_whole_within⟩) (c_is_whole_within : PySem.W.codeIn K cd_is_whole_within "is_whole_within" = true) (k_is_whole_within : PySem.W.keepIn K (.ref f_is_whole_within) = true)
    (a_need_whole : PySem.W.nsIn K mainGlobals "need_whole" = some (some (.ref f_need_whole))) (l_need_whole : K.lookup f_need_whole = some ⟨oc_need_whole, od_need_whole, .func (PySem.W.fnOf "need_whole" "need_whole" (defArgs s_need_whole) (defBody s_need_whole) (defScope s_need_whole) .none kV_need_whole dc_need_whole pm_need_whole an_need_whole cd_need_whole ct_need_whole), sl_need_whole⟩) (c_need_whole : PySem.W.codeIn K cd_need_whole "need_whole" = true) (k_need_whole : PySem.W.keepIn K (.ref f_need_whole) = true)
    (a_need_row : PySem.W.nsIn K mainGlobals "need_row" = some (some (.ref f_need_row))) (l_need_row : K.lookup f_need_row = some ⟨oc_need_row, od_need_row, .func (PySem.W.fnOf "need_row" "need_row" (defArgs s_need_row) (defBody s_need_row) (defScope s_need_row) .none kV_need_row dc_need_row pm_need_row an_need_row cd_need_row ct_need_row), sl_need_row⟩) (c_need_row : PySem.W.codeIn K cd_need_row "need_row" = true) (k_need_row : PySem.W.keepIn K (.ref f_need_row) = true)
    (a_halved : PySem.W.nsIn K mainGlobals "halved" = some (some (.ref f_halved))) (l_halved : K.lookup f_halved = some ⟨oc_halved, od_halved, .func (PySem.W.fnOf "halved" "halved" (defArgs s_halved) (defBody s_halved) (defScope s_halved) .none kV_halved dc_halved pm_halved an_halved cd_halved ct_halved), sl_halved⟩) (c_halved : PySem.W.codeIn K cd_halved "halved" = true) (k_halved : PySem.W.keepIn K (.ref f_halved) = true)
    {T_figures tn_figures : Nat} {tc_figures : Value} {td_figures : Option Addr} {tsl_figures : Array (Option Value)} {tk0_figures : Tok}
    (a_figures : PySem.W.nsIn K mainGlobals "figures" = some (some (.ref f_figures))) (l_figures : K.lookup f_figures = some ⟨oc_figures, od_figures, .func (PySem.W.fnOf "figures" "figures" (defArgs s_figures) (defBody s_figures) (defScope s_figures) (.ref T_figures) kV_figures dc_figures pm_figures an_figures cd_figures ct_figures), sl_figures⟩) (c_figures : PySem.W.codeIn K cd_figures "figures" = true) (k_figures : PySem.W.keepIn K (.ref f_figures) = true)
    (t_figures : K.lookup T_figures = some ⟨tc_figures, td_figures, .seq #[Value.int 10 tk0_figures] tn_figures, tsl_figures⟩)
    (a_merged : PySem.W.nsIn K mainGlobals "merged" = some (some (.ref f_merged))) (l_merged : K.lookup f_merged = some ⟨oc_merged, od_merged, .func (PySem.W.fnOf "merged" "merged" (defArgs s_merged) (defBody s_merged) (defScope s_merged) .none kV_merged dc_merged pm_merged an_merged cd_merged ct_merged), sl_merged⟩) (c_merged : PySem.W.codeIn K cd_merged "merged" = true) (k_merged : PySem.W.keepIn K (.ref f_merged) = true)
    {T_number_of tn_number_of : Nat} {tc_number_of : Value} {td_number_of : Option Addr} {tsl_number_of : Array (Option Value)} {tk0_number_of : Tok}
    (a_number_of : PySem.W.nsIn K mainGlobals "number_of" = some (some (.ref f_number_of))) (l_number_of : K.lookup f_number_of = some ⟨oc_number_of, od_number_of, .func (PySem.W.fnOf "number_of" "number_of" (defArgs s_number_of) (defBody s_number_of) (defScope s_number_of) (.ref T_number_of) kV_number_of dc_number_of pm_number_of an_number_of cd_number_of ct_number_of), sl_number_of⟩) (c_number_of : PySem.W.codeIn K cd_number_of "number_of" = true) (k_number_of : PySem.W.keepIn K (.ref f_number_of) = true)
    (t_number_of : K.lookup T_number_of = some ⟨tc_number_of, td_number_of, .seq #[Value.int 10 tk0_number_of] tn_number_of, tsl_number_of⟩)
    (a_joint : PySem.W.nsIn K mainGlobals "joint" = some (some (.ref f_joint))) (l_joint : K.lookup f_joint = some ⟨oc_joint, od_joint, .func (PySem.W.fnOf "joint" "joint" (defArgs s_joint) (defBody s_joint) (defScope s_joint) .none kV_joint dc_joint pm_joint an_joint cd_joint ct_joint), sl_joint⟩) (c_joint : PySem.W.codeIn K cd_joint "joint" = true) (k_joint : PySem.W.keepIn K (.ref f_joint) = true)
    (a_apart : PySem.W.nsIn K mainGlobals "apart" = some (some (.ref f_apart))) (l_apart : K.lookup f_apart = some ⟨oc_apart, od_apart, .func (PySem.W.fnOf "apart" "apart" (defArgs s_apart) (defBody s_apart) (defScope s_apart) .none kV_apart dc_apart pm_apart an_apart cd_apart ct_apart), sl_apart⟩) (c_apart : PySem.W.codeIn K cd_apart "apart" = true) (k_apart : PySem.W.keepIn K (.ref f_apart) = true)
    (a__law_cell_at : PySem.W.nsIn K mainGlobals "_law_cell_at" = some (some (.ref f__law_cell_at))) (l__law_cell_at : K.lookup f__law_cell_at = some ⟨oc__law_cell_at, od__law_cell_at, .func (PySem.W.fnOf "_law_cell_at" "_law_cell_at" (defArgs s__law_cell_at) (defBody s__law_cell_at) (defScope s__law_cell_at) .none kV__law_cell_at dc__law_cell_at pm__law_cell_at an__law_cell_at cd__law_cell_at ct__law_cell_at), sl__law_cell_at⟩) (c__law_cell_at : PySem.W.codeIn K cd__law_cell_at "_law_cell_at" = true) (k__law_cell_at : PySem.W.keepIn K (.ref f__law_cell_at) = true)
    (a__law_asked : PySem.W.nsIn K mainGlobals "_law_asked" = some (some (.ref f__law_asked))) (l__law_asked : K.lookup f__law_asked = some ⟨oc__law_asked, od__law_asked, .func (PySem.W.fnOf "_law_asked" "_law_asked" (defArgs s__law_asked) (defBody s__law_asked) (defScope s__law_asked) .none kV__law_asked dc__law_asked pm__law_asked an__law_asked cd__law_asked ct__law_asked), sl__law_asked⟩) (c__law_asked : PySem.W.codeIn K cd__law_asked "_law_asked" = true) (k__law_asked : PySem.W.keepIn K (.ref f__law_asked) = true)
    (a__law_others : PySem.W.nsIn K mainGlobals "_law_others" = some (some (.ref f__law_others))) (l__law_others : K.lookup f__law_others = some ⟨oc__law_others, od__law_others, .func (PySem.W.fnOf "_law_others" "_law_others" (defArgs s__law_others) (defBody s__law_others) (defScope s__law_others) .none kV__law_others dc__law_others pm__law_others an__law_others cd__law_others ct__law_others), sl__law_others⟩) (c__law_others : PySem.W.codeIn K cd__law_others "_law_others" = true) (k__law_others : PySem.W.keepIn K (.ref f__law_others) = true)
    (a__law_refused : PySem.W.nsIn K mainGlobals "_law_refused" = some (some (.ref f__law_refused))) (l__law_refused : K.lookup f__law_refused = some ⟨oc__law_refused, od__law_refused, .func (PySem.W.fnOf "_law_refused" "_law_refused" (defArgs s__law_refused) (defBody s__law_refused) (defScope s__law_refused) .none kV__law_refused dc__law_refused pm__law_refused an__law_refused cd__law_refused ct__law_refused), sl__law_refused⟩) (c__law_refused : PySem.W.codeIn K cd__law_refused "_law_refused" = true) (k__law_refused : PySem.W.keepIn K (.ref f__law_refused) = true)
    (a__law_no_number : PySem.W.nsIn K mainGlobals "_law_no_number" = some (some (.ref f__law_no_number))) (l__law_no_number : K.lookup f__law_no_number = some ⟨oc__law_no_number, od__law_no_number, .func (PySem.W.fnOf "_law_no_number" "_law_no_number" (defArgs s__law_no_number) (defBody s__law_no_number) (defScope s__law_no_number) .none kV__law_no_number dc__law_no_number pm__law_no_number an__law_no_number cd__law_no_number ct__law_no_number), sl__law_no_number⟩) (c__law_no_number : PySem.W.codeIn K cd__law_no_number "_law_no_number" = true) (k__law_no_number : PySem.W.keepIn K (.ref f__law_no_number) = true)
    (a__law_no_wide : PySem.W.nsIn K mainGlobals "_law_no_wide" = some (some (.ref f__law_no_wide))) (l__law_no_wide : K.lookup f__law_no_wide = some ⟨oc__law_no_wide, od__law_no_wide, .func (PySem.W.fnOf "_law_no_wide" "_law_no_wide" (defArgs s__law_no_wide) (defBody s__law_no_wide) (defScope s__law_no_wide) .none kV__law_no_wide dc__law_no_wide pm__law_no_wide an__law_no_wide cd__law_no_wide ct__law_no_wide), sl__law_no_wide⟩) (c__law_no_wide : PySem.W.codeIn K cd__law_no_wide "_law_no_wide" = true) (k__law_no_wide : PySem.W.keepIn K (.ref f__law_no_wide) = true)
    (a__law_no_row : PySem.W.nsIn K mainGlobals "_law_no_row" = some (some (.ref f__law_no_row))) (l__law_no_row : K.lookup f__law_no_row = some ⟨oc__law_no_row, od__law_no_row, .func (PySem.W.fnOf "_law_no_row" "_law_no_row" (defArgs s__law_no_row) (defBody s__law_no_row) (defScope s__law_no_row) .none kV__law_no_row dc__law_no_row pm__law_no_row an__law_no_row cd__law_no_row ct__law_no_row), sl__law_no_row⟩) (c__law_no_row : PySem.W.codeIn K cd__law_no_row "_law_no_row" = true) (k__law_no_row : PySem.W.keepIn K (.ref f__law_no_row) = true)
    (a__law_put : PySem.W.nsIn K mainGlobals "_law_put" = some (some (.ref f__law_put))) (l__law_put : K.lookup f__law_put = some ⟨oc__law_put, od__law_put, .func (PySem.W.fnOf "_law_put" "_law_put" (defArgs s__law_put) (defBody s__law_put) (defScope s__law_put) .none kV__law_put dc__law_put pm__law_put an__law_put cd__law_put ct__law_put), sl__law_put⟩) (c__law_put : PySem.W.codeIn K cd__law_put "_law_put" = true) (k__law_put : PySem.W.keepIn K (.ref f__law_put) = true)
    (a__law_good : PySem.W.nsIn K mainGlobals "_law_good" = some (some (.ref f__law_good))) (l__law_good : K.lookup f__law_good = some ⟨oc__law_good, od__law_good, .func (PySem.W.fnOf "_law_good" "_law_good" (defArgs s__law_good) (defBody s__law_good) (defScope s__law_good) .none kV__law_good dc__law_good pm__law_good an__law_good cd__law_good ct__law_good), sl__law_good⟩) (c__law_good : PySem.W.codeIn K cd__law_good "_law_good" = true) (k__law_good : PySem.W.keepIn K (.ref f__law_good) = true)
    (a_law : PySem.W.nsIn K mainGlobals "law" = some (some (.ref f_law))) (l_law : K.lookup f_law = some ⟨oc_law, od_law, .func (PySem.W.fnOf "law" "law" (defArgs s_law) (defBody s_law) (defScope s_law) .none kV_law dc_law pm_law an_law cd_law ct_law), sl_law⟩) (c_law : PySem.W.codeIn K cd_law "law" = true) (k_law : PySem.W.keepIn K (.ref f_law) = true)
    (y_len : PySem.W.nsIn K mainGlobals "len" = some none)
    (y_max : PySem.W.nsIn K mainGlobals "max" = some none)
    (y_range : PySem.W.nsIn K mainGlobals "range" = some none)
    (y_int : PySem.W.nsIn K mainGlobals "int" = some none)
    (y_tuple : PySem.W.nsIn K mainGlobals "tuple" = some none)
    (y_list : PySem.W.nsIn K mainGlobals "list" = some none)
    (y_isinstance : PySem.W.nsIn K mainGlobals "isinstance" = some none)
    (y_bool : PySem.W.nsIn K mainGlobals "bool" = some none)
    (y_reversed : PySem.W.nsIn K mainGlobals "reversed" = some none)
    (y_ValueError : PySem.W.nsIn K mainGlobals "ValueError" = some none)
    {C_NoFigures : Addr} (cl_NoFigures : PySem.W.nsIn K mainGlobals "NoFigures" = some (some (.ref C_NoFigures)))
    {C_FigureError : Addr} (cl_FigureError : PySem.W.nsIn K mainGlobals "FigureError" = some (some (.ref C_FigureError)))
    {C_NoMachine : Addr} (cl_NoMachine : PySem.W.nsIn K mainGlobals "NoMachine" = some (some (.ref C_NoMachine)))
    {C_NoName : Addr} (cl_NoName : PySem.W.nsIn K mainGlobals "NoName" = some (some (.ref C_NoName)))
    {C_NoPower : Addr} (cl_NoPower : PySem.W.nsIn K mainGlobals "NoPower" = some (some (.ref C_NoPower)))
    {C_NoRow : Addr} (cl_NoRow : PySem.W.nsIn K mainGlobals "NoRow" = some (some (.ref C_NoRow)))
    {C_NoSome : Addr} (cl_NoSome : PySem.W.nsIn K mainGlobals "NoSome" = some (some (.ref C_NoSome)))
    {C_NoText : Addr} (cl_NoText : PySem.W.nsIn K mainGlobals "NoText" = some (some (.ref C_NoText)))
    {C_TooGreat : Addr} (cl_TooGreat : PySem.W.nsIn K mainGlobals "TooGreat" = some (some (.ref C_TooGreat)))
    {C_TooWide : Addr} (cl_TooWide : PySem.W.nsIn K mainGlobals "TooWide" = some (some (.ref C_TooWide)))
    (a_TooGreat___init__ : PySem.W.findIn K (.ref C_TooGreat) "__init__" = some (some (.ref f_TooGreat___init__))) (l_TooGreat___init__ : K.lookup f_TooGreat___init__ = some ⟨oc_TooGreat___init__, od_TooGreat___init__, .func (PySem.W.fnOf "__init__" "TooGreat.__init__" (defArgs s_TooGreat___init__) (defBody s_TooGreat___init__) (defScope s_TooGreat___init__) .none kV_TooGreat___init__ dc_TooGreat___init__ pm_TooGreat___init__ an_TooGreat___init__ cd_TooGreat___init__ ct_TooGreat___init__), sl_TooGreat___init__⟩) (c_TooGreat___init__ : PySem.W.codeIn K cd_TooGreat___init__ "TooGreat.__init__" = true) (k_TooGreat___init__ : PySem.W.keepIn K (.ref f_TooGreat___init__) = true)
    (q_NoFigures : PySem.W.excIn K C_NoFigures [.type "ValueError", .type "Exception", .type "BaseException", .type "object"] "ValueError.__new__" = true)
    (xga : PySem.W.findIn K (.ref C_NoFigures) "__getattribute__" = some (some (.builtin "BaseException.__getattribute__")))
    (xgt : PySem.W.findIn K (.ref C_NoFigures) "__getattr__" = some none)
    (xcl : PySem.W.findIn K (.ref C_NoFigures) "__class__" = some (some (.builtin "object.__class__")))
    (xgg : PySem.W.specialIn K (.builtin "object.__class__") "__get__" = some (some (.builtin "getset_descriptor.__get__")))
    (xtk : PySem.W.takesIn K (.builtin "object.__class__") = some true)
    (xob : PySem.W.mroIn K C_NoFigures (.type "object") = some true)
    (xbe : PySem.W.mroIn K C_NoFigures (.type "BaseException") = some true)
    (fe0 : PySem.W.subIn K (.ref C_FigureError) (.type "BaseException") = some true)
    (fe1 : PySem.W.mroIn K C_FigureError (.type "object") = some true)
    (fe2 : PySem.W.typeIn K (.ref C_FigureError) = some (.type "type"))
    (fe3 : PySem.W.subIn K (.ref C_NoFigures) (.ref C_FigureError) = some true)
    (kve : PySem.W.subIn K (.ref C_NoFigures) (.type "ValueError") = some true)
    (ob_NoMachine : PySem.W.mroIn K C_NoMachine (.type "object") = some true)
    (ty_NoMachine : PySem.W.typeIn K (.ref C_NoMachine) = some (.type "type"))
    (su_NoMachine : PySem.W.subIn K (.ref C_NoFigures) (.ref C_NoMachine) = some false)
    (ne_NoMachine : (Value.ref C_NoFigures == Value.ref C_NoMachine) = false)
    (ob_NoName : PySem.W.mroIn K C_NoName (.type "object") = some true)
    (ty_NoName : PySem.W.typeIn K (.ref C_NoName) = some (.type "type"))
    (su_NoName : PySem.W.subIn K (.ref C_NoFigures) (.ref C_NoName) = some false)
    (ne_NoName : (Value.ref C_NoFigures == Value.ref C_NoName) = false)
    (ob_NoPower : PySem.W.mroIn K C_NoPower (.type "object") = some true)
    (ty_NoPower : PySem.W.typeIn K (.ref C_NoPower) = some (.type "type"))
    (su_NoPower : PySem.W.subIn K (.ref C_NoFigures) (.ref C_NoPower) = some false)
    (ne_NoPower : (Value.ref C_NoFigures == Value.ref C_NoPower) = false)
    (ob_NoRow : PySem.W.mroIn K C_NoRow (.type "object") = some true)
    (ty_NoRow : PySem.W.typeIn K (.ref C_NoRow) = some (.type "type"))
    (su_NoRow : PySem.W.subIn K (.ref C_NoFigures) (.ref C_NoRow) = some false)
    (ne_NoRow : (Value.ref C_NoFigures == Value.ref C_NoRow) = false)
    (ob_NoSome : PySem.W.mroIn K C_NoSome (.type "object") = some true)
    (ty_NoSome : PySem.W.typeIn K (.ref C_NoSome) = some (.type "type"))
    (su_NoSome : PySem.W.subIn K (.ref C_NoFigures) (.ref C_NoSome) = some false)
    (ne_NoSome : (Value.ref C_NoFigures == Value.ref C_NoSome) = false)
    (ob_NoText : PySem.W.mroIn K C_NoText (.type "object") = some true)
    (ty_NoText : PySem.W.typeIn K (.ref C_NoText) = some (.type "type"))
    (su_NoText : PySem.W.subIn K (.ref C_NoFigures) (.ref C_NoText) = some false)
    (ne_NoText : (Value.ref C_NoFigures == Value.ref C_NoText) = false)
    (ob_TooGreat : PySem.W.mroIn K C_TooGreat (.type "object") = some true)
    (ty_TooGreat : PySem.W.typeIn K (.ref C_TooGreat) = some (.type "type"))
    (su_TooGreat : PySem.W.subIn K (.ref C_NoFigures) (.ref C_TooGreat) = some false)
    (ne_TooGreat : (Value.ref C_NoFigures == Value.ref C_TooGreat) = false)
    (ob_TooWide : PySem.W.mroIn K C_TooWide (.type "object") = some true)
    (ty_TooWide : PySem.W.typeIn K (.ref C_TooWide) = some (.type "type"))
    (su_TooWide : PySem.W.subIn K (.ref C_NoFigures) (.ref C_TooWide) = some false)
    (ne_TooWide : (Value.ref C_NoFigures == Value.ref C_TooWide) = false)
    (i_ex : excInI K C_TooGreat f_TooGreat___init__ = true)
    (i_fn : PySem.W.isFn K (.ref f_TooGreat___init__) = true)
    (i_kp : PySem.W.keepIn K (.ref C_TooGreat) = true)
    (i_sa : PySem.W.findIn K (.ref C_TooGreat) "__setattr__" = some (some (.builtin "object.__setattr__")))
    (i_hd : PySem.W.hasDictIn K C_TooGreat = true)
    (i_mr : mroIs K C_TooGreat [C_TooGreat, C_FigureError] = true)
    (i_ga : PySem.W.findIn K (.ref C_TooGreat) "__getattribute__" = some (some (.builtin "BaseException.__getattribute__")))
    (i_gt : PySem.W.findIn K (.ref C_TooGreat) "__getattr__" = some none)
    (i_cl : PySem.W.findIn K (.ref C_TooGreat) "__class__" = some (some (.builtin "object.__class__")))
    (i_be : PySem.W.mroIn K C_TooGreat (.type "BaseException") = some true)
    (i_na : PySem.W.findIn K (.ref C_TooGreat) "most" = some none)
    (f_ga : PySem.W.specialIn K (.ref C_FigureError) "__getattribute__" = some (some (.builtin "type.__getattribute__")))
    (f_rd : PySem.W.readsIn K C_FigureError (.type "type") = true)
    (f_fc : PySem.W.findCls K (.ref C_FigureError) (.type "type") "__init__" = some (.val (.builtin "ValueError.__init__"))) :
    ∃ fd : FuncData, (∀ (s : Shared) (v : Value), BindsTo s fd ⟨[v], []⟩ [("_law_script", v)]) ∧ ∀ base : Heap, K.In base → base.Ns mainGlobals mg → FnOk l.prog w K mg base CX0 8 fa fd ["_law_script"] (spLaw K) := by
  have e := hfa.symm.trans (PySem.W.mg_of X G a_law)
  cases e
  have F_is_whole := fund_mk (st := s_is_whole) l_is_whole c_is_whole k_is_whole
  have b_is_whole := F_is_whole.binds (ps := ["thing"]) fun _ _ _ _ _ _ us hl => match us, hl with | [_], _ => rfl
  have m_is_whole := PySem.W.mg_of X G a_is_whole
  have F_is_whole_from := fund_mk (st := s_is_whole_from) l_is_whole_from c_is_whole_from k_is_whole_from
  have b_is_whole_from := F_is_whole_from.binds (ps := ["thing", "least"]) fun _ _ _ _ _ _ us hl => match us, hl with | [_, _], _ => rfl
  have m_is_whole_from := PySem.W.mg_of X G a_is_whole_from
  have F_is_whole_within := fund_mk (st := s_is_whole_within) l_is_whole_within c_is_whole_within k_is_whole_within
  have b_is_whole_within := F_is_whole_within.binds (ps := ["thing", "least", "most"]) fun _ _ _ _ _ _ us hl => match us, hl with | [_, _, _], _ => rfl
  have m_is_whole_within := PySem.W.mg_of X G a_is_whole_within
  have F_need_whole := fund_mk (st := s_need_whole) l_need_whole c_need_whole k_need_whole
  have b_need_whole := F_need_whole.binds (ps := ["thing", "least", "called"]) fun _ _ _ _ _ _ us hl => match us, hl with | [_, _, _], _ => rfl
  have m_need_whole := PySem.W.mg_of X G a_need_whole
  have F_need_row := fund_mk (st := s_need_row) l_need_row c_need_row k_need_row
  have b_need_row := F_need_row.binds (ps := ["thing", "called"]) fun _ _ _ _ _ _ us hl => match us, hl with | [_, _], _ => rfl
  have m_need_row := PySem.W.mg_of X G a_need_row
  have F_halved := fund_mk (st := s_halved) l_halved c_halved k_halved
  have b_halved := F_halved.binds (ps := ["parts", "middle"]) fun _ _ _ _ _ _ us hl => match us, hl with | [_, _], _ => rfl
  have m_halved := PySem.W.mg_of X G a_halved
  have F_figures := fund_mk (st := s_figures) l_figures c_figures k_figures
  have b_figures : Binds K _ ["number", "wide"] [] := F_figures.bindsD t_figures rfl 2 rfl fun _ _ _ _ _ _ us hl => match us, hl with | [_, _], _ => ⟨_, rfl, rfl⟩
  have b_figures_d : Binds K _ ["number", "wide"] [Value.int 10 tk0_figures] := F_figures.bindsD t_figures rfl 1 rfl fun _ _ _ _ _ _ us hl => match us, hl with | [_], _ => ⟨_, rfl, rfl⟩
  have m_figures := PySem.W.mg_of X G a_figures
  have F_merged := fund_mk (st := s_merged) l_merged c_merged k_merged
  have b_merged := F_merged.binds (ps := ["parts", "middle"]) fun _ _ _ _ _ _ us hl => match us, hl with | [_, _], _ => rfl
  have m_merged := PySem.W.mg_of X G a_merged
  have F_number_of := fund_mk (st := s_number_of) l_number_of c_number_of k_number_of
  have b_number_of : Binds K _ ["row", "wide"] [] := F_number_of.bindsD t_number_of rfl 2 rfl fun _ _ _ _ _ _ us hl => match us, hl with | [_, _], _ => ⟨_, rfl, rfl⟩
  have b_number_of_d : Binds K _ ["row", "wide"] [Value.int 10 tk0_number_of] := F_number_of.bindsD t_number_of rfl 1 rfl fun _ _ _ _ _ _ us hl => match us, hl with | [_], _ => ⟨_, rfl, rfl⟩
  have m_number_of := PySem.W.mg_of X G a_number_of
  have F_joint := fund_mk (st := s_joint) l_joint c_joint k_joint
  have b_joint := F_joint.binds (ps := ["numbers", "base"]) fun _ _ _ _ _ _ us hl => match us, hl with | [_, _], _ => rfl
  have m_joint := PySem.W.mg_of X G a_joint
  have F_apart := fund_mk (st := s_apart) l_apart c_apart k_apart
  have b_apart := F_apart.binds (ps := ["number", "base", "many"]) fun _ _ _ _ _ _ us hl => match us, hl with | [_, _, _], _ => rfl
  have m_apart := PySem.W.mg_of X G a_apart
  have F_TooGreat___init__ := fund_mk (st := s_TooGreat___init__) l_TooGreat___init__ c_TooGreat___init__ k_TooGreat___init__
  have b_TooGreat___init__ := F_TooGreat___init__.binds (ps := ["self", "most"]) fun _ _ _ _ _ _ us hl => match us, hl with | [_, _], _ => rfl
  have F__law_cell_at := fund_mk (st := s__law_cell_at) l__law_cell_at c__law_cell_at k__law_cell_at
  have b__law_cell_at := F__law_cell_at.binds (ps := ["_law_script", "_law_k"]) fun _ _ _ _ _ _ us hl => match us, hl with | [_, _], _ => rfl
  have m__law_cell_at := PySem.W.mg_of X G a__law_cell_at
  have F__law_asked := fund_mk (st := s__law_asked) l__law_asked c__law_asked k__law_asked
  have b__law_asked := F__law_asked.binds (ps := ["_law_which", "_law_one", "_law_two", "_law_three"]) fun _ _ _ _ _ _ us hl => match us, hl with | [_, _, _, _], _ => rfl
  have m__law_asked := PySem.W.mg_of X G a__law_asked
  have F__law_others := fund_mk (st := s__law_others) l__law_others c__law_others k__law_others
  have b__law_others := F__law_others.binds (ps := ["_law_e"]) fun _ _ _ _ _ _ us hl => match us, hl with | [_], _ => rfl
  have m__law_others := PySem.W.mg_of X G a__law_others
  have F__law_refused := fund_mk (st := s__law_refused) l__law_refused c__law_refused k__law_refused
  have b__law_refused := F__law_refused.binds (ps := ["_law_which", "_law_one", "_law_two", "_law_three"]) fun _ _ _ _ _ _ us hl => match us, hl with | [_, _, _, _], _ => rfl
  have m__law_refused := PySem.W.mg_of X G a__law_refused
  have F__law_no_number := fund_mk (st := s__law_no_number) l__law_no_number c__law_no_number k__law_no_number
  have b__law_no_number := F__law_no_number.binds (ps := ["_law_cell"]) fun _ _ _ _ _ _ us hl => match us, hl with | [_], _ => rfl
  have m__law_no_number := PySem.W.mg_of X G a__law_no_number
  have F__law_no_wide := fund_mk (st := s__law_no_wide) l__law_no_wide c__law_no_wide k__law_no_wide
  have b__law_no_wide := F__law_no_wide.binds (ps := ["_law_cell"]) fun _ _ _ _ _ _ us hl => match us, hl with | [_], _ => rfl
  have m__law_no_wide := PySem.W.mg_of X G a__law_no_wide
  have F__law_no_row := fund_mk (st := s__law_no_row) l__law_no_row c__law_no_row k__law_no_row
  have b__law_no_row := F__law_no_row.binds (ps := ["_law_cell"]) fun _ _ _ _ _ _ us hl => match us, hl with | [_], _ => rfl
  have m__law_no_row := PySem.W.mg_of X G a__law_no_row
  have F__law_put := fund_mk (st := s__law_put) l__law_put c__law_put k__law_put
  have b__law_put := F__law_put.binds (ps := ["_law_row", "_law_at", "_law_thing"]) fun _ _ _ _ _ _ us hl => match us, hl with | [_, _, _], _ => rfl
  have m__law_put := PySem.W.mg_of X G a__law_put
  have F__law_good := fund_mk (st := s__law_good) l__law_good c__law_good k__law_good
  have b__law_good := F__law_good.binds (ps := ["_law_row", "_law_wide", "_law_number", "_law_many"]) fun _ _ _ _ _ _ us hl => match us, hl with | [_, _, _, _], _ => rfl
  have m__law_good := PySem.W.mg_of X G a__law_good
  have F_law := fund_mk (st := s_law) l_law c_law k_law
  have b_law := F_law.binds (ps := ["_law_script"]) fun _ _ _ _ _ _ us hl => match us, hl with | [_], _ => rfl
  have m_law := PySem.W.mg_of X G a_law
  have z_len := PySem.W.mg_none_of X G y_len
  have z_max := PySem.W.mg_none_of X G y_max
  have z_range := PySem.W.mg_none_of X G y_range
  have z_int := PySem.W.mg_none_of X G y_int
  have z_tuple := PySem.W.mg_none_of X G y_tuple
  have z_list := PySem.W.mg_none_of X G y_list
  have z_isinstance := PySem.W.mg_none_of X G y_isinstance
  have z_bool := PySem.W.mg_none_of X G y_bool
  have z_reversed := PySem.W.mg_none_of X G y_reversed
  have z_ValueError := PySem.W.mg_none_of X G y_ValueError
  have g_NoFigures := PySem.W.mg_of X G cl_NoFigures
  have g_FigureError := PySem.W.mg_of X G cl_FigureError
  have g_NoMachine := PySem.W.mg_of X G cl_NoMachine
  have g_NoName := PySem.W.mg_of X G cl_NoName
  have g_NoPower := PySem.W.mg_of X G cl_NoPower
  have g_NoRow := PySem.W.mg_of X G cl_NoRow
  have g_NoSome := PySem.W.mg_of X G cl_NoSome
  have g_NoText := PySem.W.mg_of X G cl_NoText
  have g_TooGreat := PySem.W.mg_of X G cl_TooGreat
  have g_TooWide := PySem.W.mg_of X G cl_TooWide
  refine ⟨PySem.W.fnOf "law" "law" (defArgs s_law) (defBody s_law) (defScope s_law) .none kV_law dc_law pm_law an_law cd_law ct_law, fun s v => .of_eq rfl, fun base _ _ => ?_⟩
  have G_is_whole : DefOk l.prog w K mg base "is_whole" 1 ["thing"] [] (spWhole) := ⟨_, _, [], m_is_whole, k_is_whole, .nil, b_is_whole, ok_is_whole F_is_whole z_isinstance z_int z_bool⟩
  have G_is_whole_from : DefOk l.prog w K mg base "is_whole_from" 2 ["thing", "least"] [] (spFrom) := ⟨_, _, [], m_is_whole_from, k_is_whole_from, .nil, b_is_whole_from, ok_from F_is_whole_from G_is_whole⟩
  have G_is_whole_within : DefOk l.prog w K mg base "is_whole_within" 2 ["thing", "least", "most"] [] (spWithin) := ⟨_, _, [], m_is_whole_within, k_is_whole_within, .nil, b_is_whole_within, ok_within F_is_whole_within G_is_whole⟩
  have G_need_whole : DefOk l.prog w K mg base "need_whole" 3 ["thing", "least", "called"] [] (spNeed) := ⟨_, _, [], m_need_whole, k_need_whole, .nil, b_need_whole, ok_need F_need_whole G_is_whole_from⟩
  have G_need_row : DefOk l.prog w K mg base "need_row" 1 ["thing", "called"] [] (spNeedRow) := ⟨_, _, [], m_need_row, k_need_row, .nil, b_need_row, ok_need_row F_need_row z_isinstance z_tuple z_list⟩
  have G_halved : DefOk l.prog w K mg base "halved" 1 ["parts", "middle"] [] (spHalved K) := ⟨_, _, [], m_halved, k_halved, .nil, b_halved, ok_halved F_halved ⟩
  have G_figures : DefOk l.prog w K mg base "figures" 4 ["number", "wide"] [] (spFigures K) := ⟨_, _, [], m_figures, k_figures, .nil, b_figures, ok_figures F_figures G_need_whole G_halved z_reversed z_tuple⟩
  have G_merged : DefOk l.prog w K mg base "merged" 1 ["parts", "middle"] [] (spMerged K) := ⟨_, _, [], m_merged, k_merged, .nil, b_merged, ok_merged F_merged z_range z_len⟩
  have G_number_of : DefOk l.prog w K mg base "number_of" 4 ["row", "wide"] [] (spNumOf K) := ⟨_, _, [], m_number_of, k_number_of, .nil, b_number_of, ok_number_of F_number_of G_need_whole G_need_row G_is_whole_within G_merged z_list z_len⟩
  have G_joint : DefOk l.prog w K mg base "joint" 5 ["numbers", "base"] [] (spJoint K) := ⟨_, _, [], m_joint, k_joint, .nil, b_joint, ok_joint F_joint G_need_whole G_need_row G_figures G_number_of z_range z_len z_max⟩
  have G_apart : DefOk l.prog w K mg base "apart" 5 ["number", "base", "many"] [] (spApart K) := ⟨_, _, [], m_apart, k_apart, .nil, b_apart, ok_apart F_apart G_need_whole G_figures G_number_of z_range z_tuple⟩
  have G_is_whole : DefOk l.prog w K mg base "is_whole" 1 ["thing"] [] (spWholeG) := ⟨_, _, [], m_is_whole, k_is_whole, .nil, b_is_whole, ok_is_wholeG F_is_whole z_isinstance z_int z_bool⟩
  have G_is_whole_from : DefOk l.prog w K mg base "is_whole_from" 2 ["thing", "least"] [] (spFromG) := ⟨_, _, [], m_is_whole_from, k_is_whole_from, .nil, b_is_whole_from, ok_fromG F_is_whole_from G_is_whole⟩
  have G_is_whole_within : DefOk l.prog w K mg base "is_whole_within" 2 ["thing", "least", "most"] [] (spWithinG) := ⟨_, _, [], m_is_whole_within, k_is_whole_within, .nil, b_is_whole_within, ok_withinG F_is_whole_within G_is_whole⟩
  have GX_need_whole : DefX l.prog w K mg base "need_whole" 3 ["thing", "least", "called"] [] (spNeedX C_NoFigures) := ⟨_, _, [], m_need_whole, k_need_whole, .nil, b_need_whole, ok_needX F_need_whole G_is_whole_from g_NoFigures q_NoFigures⟩
  have GX_need_row : DefX l.prog w K mg base "need_row" 1 ["thing", "called"] [] (spRowX C_NoFigures) := ⟨_, _, [], m_need_row, k_need_row, .nil, b_need_row, ok_need_rowX F_need_row g_NoFigures q_NoFigures z_isinstance z_tuple z_list⟩
  have GX_number_of : DefX l.prog w K mg base "number_of" 4 ["row", "wide"] [] (spNumX C_NoFigures) := ⟨_, _, [], m_number_of, k_number_of, .nil, b_number_of, ok_number_ofX F_number_of GX_need_whole GX_need_row G_is_whole_within g_NoFigures q_NoFigures⟩
  have GX_figures : DefX l.prog w K mg base "figures" 4 ["number", "wide"] [] (spFigAny K C_NoFigures) := ⟨_, _, [], m_figures, k_figures, .nil, b_figures, ok_figAny F_figures G_need_whole G_halved z_reversed z_tuple GX_need_whole⟩
  have GX_joint : DefX l.prog w K mg base "joint" 5 ["numbers", "base"] [] (spJointX C_NoFigures) := ⟨_, _, [], m_joint, k_joint, .nil, b_joint, ok_jointX F_joint GX_need_whole GX_need_row GX_figures⟩
  have GX_figures : DefX l.prog w K mg base "figures" 4 ["number", "wide"] [] (spFigY C_NoFigures) := ⟨_, _, [], m_figures, k_figures, .nil, b_figures, ok_figuresY F_figures GX_need_whole⟩
  have GX_apart : DefX l.prog w K mg base "apart" 5 ["number", "base", "many"] [] (spApartX C_NoFigures) := ⟨_, _, [], m_apart, k_apart, .nil, b_apart, ok_apartX F_apart GX_need_whole GX_figures G_figures g_NoFigures q_NoFigures⟩
  have xi_TooGreat := xinit_mk i_ex i_fn i_kp i_sa i_hd i_mr i_ga i_gt i_cl xgg xtk ob_TooGreat i_be
  have GI_TooGreat : DefI l.prog w K mg base "TooGreat" C_TooGreat f_TooGreat___init__ 1 ["self", "most"] (spMade C_TooGreat) := ⟨g_TooGreat, xi_TooGreat, _, b_TooGreat___init__, ok_made F_TooGreat___init__ xi_TooGreat i_na g_FigureError f_ga f_rd f_fc⟩
  have G__law_cell_at : DefOk l.prog w K mg base "_law_cell_at" 1 ["_law_script", "_law_k"] [] (spCell K) := ⟨_, _, [], m__law_cell_at, k__law_cell_at, .nil, b__law_cell_at, ok_cell F__law_cell_at z_len⟩
  have GX__law_asked : DefX l.prog w K mg base "_law_asked" 6 ["_law_which", "_law_one", "_law_two", "_law_three"] [] (spAskedX C_NoFigures) := ⟨_, _, [], m__law_asked, k__law_asked, .nil, b__law_asked, ok_asked F__law_asked GX_figures GX_number_of GX_joint GX_apart⟩
  have GH__law_others : DefH l.prog w K mg base "_law_others" 1 ["_law_e"] [] (spOthers C_NoFigures) := ⟨_, _, [], m__law_others, k__law_others, .nil, b__law_others, ok_othersE F__law_others xga xgt xcl xgg xtk xob xbe g_NoMachine ob_NoMachine ty_NoMachine su_NoMachine ne_NoMachine g_NoName ob_NoName ty_NoName su_NoName ne_NoName g_NoPower ob_NoPower ty_NoPower su_NoPower ne_NoPower g_NoRow ob_NoRow ty_NoRow su_NoRow ne_NoRow g_NoSome ob_NoSome ty_NoSome su_NoSome ne_NoSome g_NoText ob_NoText ty_NoText su_NoText ne_NoText g_TooGreat ob_TooGreat ty_TooGreat su_TooGreat ne_TooGreat g_TooWide ob_TooWide ty_TooWide su_TooWide ne_TooWide z_isinstance⟩
  have G__law_refused : DefOk l.prog w K mg base "_law_refused" 7 ["_law_which", "_law_one", "_law_two", "_law_three"] [] (spRefusedA C_NoFigures) := ⟨_, _, [], m__law_refused, k__law_refused, .nil, b__law_refused, ok_refusedE F__law_refused xga xgt xcl xgg xtk xob xbe g_FigureError g_NoFigures fe0 fe1 fe2 fe3 kve GX__law_asked GH__law_others z_isinstance z_ValueError⟩
  have G__law_no_number : DefOk l.prog w K mg base "_law_no_number" 1 ["_law_cell"] [] (spNoNum) := ⟨_, _, [], m__law_no_number, k__law_no_number, .nil, b__law_no_number, ok_no_number F__law_no_number ⟩
  have G__law_no_wide : DefOk l.prog w K mg base "_law_no_wide" 2 ["_law_cell"] [] (spNoWide) := ⟨_, _, [], m__law_no_wide, k__law_no_wide, .nil, b__law_no_wide, ok_no_wide F__law_no_wide G__law_no_number⟩
  have G__law_no_row : DefOk l.prog w K mg base "_law_no_row" 1 ["_law_cell"] [] (spNoRow) := ⟨_, _, [], m__law_no_row, k__law_no_row, .nil, b__law_no_row, ok_no_row F__law_no_row ⟩
  have G__law_put : DefOk l.prog w K mg base "_law_put" 1 ["_law_row", "_law_at", "_law_thing"] [] (spPutIn) := ⟨_, _, [], m__law_put, k__law_put, .nil, b__law_put, ok_put F__law_put z_list z_tuple z_len⟩
  have G__law_good : DefOk l.prog w K mg base "_law_good" 6 ["_law_row", "_law_wide", "_law_number", "_law_many"] [] (spGoodL K) := ⟨_, _, [], m__law_good, k__law_good, .nil, b__law_good, ok_good F__law_good G_figures G_joint G_number_of G_apart z_list z_tuple z_range⟩
  exact ok_law F_law G__law_cell_at G__law_no_number G__law_no_wide G__law_no_row G__law_put G__law_refused G__law_good GI_TooGreat i_na
theorem walk {l : PySem.W.OpenLaw} {q : Program} {loose : List Str} {XP : (Str → Option Value) → Heap → Prop} {YP : World → Heap → Prop} {d : DefRec} {K : Params → PySem.W.Frag} (hn : l.most = some 63) (hdf : d.params.defaults = [])
    (hY : ∀ (w : World) (h : Heap), YP w h → (K w.params).In h)
    (F : ∀ (w : World) (mg : Str → Option Value) (fa : Addr) (h : Heap), (K w.params).In h → h.Ns mainGlobals mg → mg d.name = some (.ref fa) →
      ∃ fd : FuncData, (∀ (s : Shared) (u : Value), BindsTo s fd ⟨[u], []⟩ [("_law_script", u)]) ∧ ∀ base : Heap, (K w.params).In base → base.Ns mainGlobals mg → FnOk l.prog w (K w.params) mg base CX0 8 fa fd ["_law_script"] (spLaw (K w.params))) :
    PySem.W.WalkO q loose XP YP l.row.toRowW d [] (fun f vs => PySem.call f vs) :=
  L2.walk_of (n := 63) (k := 8) (x := "_law_script") (CX := fun _ => CX0) (sp := fun w => spLaw (K w.params)) hn (by decide) hdf ⟨rfl, by decide, by decide⟩ hY F (fun _ _ a ns hl _ hS => ⟨a, ns, rfl, hS, hl, fun _ => rfl⟩) fun _ _ _ _ _ z => z
end My
open PySem PySem.W PyProof.Rows
set_option maxRecDepth 100000 in
set_option maxHeartbeats 0 in
theorem PySem.Challenge.cw_figuretell_k05_what_is_refused_holds : PySem.Challenge.rw_figuretell_k05_what_is_refused.Holds := by
  w_on; o_law; k_head; (case hw => w_witness2)
  k_fill
  refine My.walk (l := PySem.Challenge.rw_figuretell_k05_what_is_refused) rfl rfl (fun w h Y => PySem.W.kIn_of Y) ?F
  case F =>
    intro w mg fa h KX G hmg
    refine' My.all_mk KX G hmg ?a_is_whole ?l_is_whole ?c_is_whole ?k_is_whole ?a_is_whole_from ?l_is_whole_from ?c_is_whole_from ?k_is_whole_from ?a_is_whole_within ?l_is_whole_within ?c_is_whole_within ?k_is_whole_within ?a_need_whole ?l_need_whole ?c_need_whole ?k_need_whole ?a_need_row ?l_need_row ?c_need_row ?k_need_row ?a_halved ?l_halved ?c_halved ?k_halved ?a_figures ?l_figures ?c_figures ?k_figures ?t_figures ?a_merged ?l_merged ?c_merged ?k_merged ?a_number_of ?l_number_of ?c_number_of ?k_number_of ?t_number_of ?a_joint ?l_joint ?c_joint ?k_joint ?a_apart ?l_apart ?c_apart ?k_apart ?a__law_cell_at ?l__law_cell_at ?c__law_cell_at ?k__law_cell_at ?a__law_asked ?l__law_asked ?c__law_asked ?k__law_asked ?a__law_others ?l__law_others ?c__law_others ?k__law_others ?a__law_refused ?l__law_refused ?c__law_refused ?k__law_refused ?a__law_no_number ?l__law_no_number ?c__law_no_number ?k__law_no_number ?a__law_no_wide ?l__law_no_wide ?c__law_no_wide ?k__law_no_wide ?a__law_no_row ?l__law_no_row ?c__law_no_row ?k__law_no_row ?a__law_put ?l__law_put ?c__law_put ?k__law_put ?a__law_good ?l__law_good ?c__law_good ?k__law_good ?a_law ?l_law ?c_law ?k_law ?y_len ?y_max ?y_range ?y_int ?y_tuple ?y_list ?y_isinstance ?y_bool ?y_reversed ?y_ValueError ?cl_NoFigures ?cl_FigureError ?cl_NoMachine ?cl_NoName ?cl_NoPower ?cl_NoRow ?cl_NoSome ?cl_NoText ?cl_TooGreat ?cl_TooWide ?a_TooGreat___init__ ?l_TooGreat___init__ ?c_TooGreat___init__ ?k_TooGreat___init__ ?q_NoFigures ?xga ?xgt ?xcl ?xgg ?xtk ?xob ?xbe ?fe0 ?fe1 ?fe2 ?fe3 ?kve ?ob_NoMachine ?ty_NoMachine ?su_NoMachine ?ne_NoMachine ?ob_NoName ?ty_NoName ?su_NoName ?ne_NoName ?ob_NoPower ?ty_NoPower ?su_NoPower ?ne_NoPower ?ob_NoRow ?ty_NoRow ?su_NoRow ?ne_NoRow ?ob_NoSome ?ty_NoSome ?su_NoSome ?ne_NoSome ?ob_NoText ?ty_NoText ?su_NoText ?ne_NoText ?ob_TooGreat ?ty_TooGreat ?su_TooGreat ?ne_TooGreat ?ob_TooWide ?ty_TooWide ?su_TooWide ?ne_TooWide ?i_ex ?i_fn ?i_kp ?i_sa ?i_hd ?i_mr ?i_ga ?i_gt ?i_cl ?i_be ?i_na ?f_ga ?f_rd ?f_fc
    (case a_is_whole => k_is); (case l_is_whole => k_is); (case c_is_whole => k_is); (case k_is_whole => k_is)
    (case a_is_whole_from => k_is); (case l_is_whole_from => k_is); (case c_is_whole_from => k_is); (case k_is_whole_from => k_is)
    (case a_is_whole_within => k_is); (case l_is_whole_within => k_is); (case c_is_whole_within => k_is); (case k_is_whole_within => k_is)
    (case a_need_whole => k_is); (case l_need_whole => k_is); (case c_need_whole => k_is); (case k_need_whole => k_is)
    (case a_need_row => k_is); (case l_need_row => k_is); (case c_need_row => k_is); (case k_need_row => k_is)
    (case a_halved => k_is); (case l_halved => k_is); (case c_halved => k_is); (case k_halved => k_is)
    (case a_figures => k_is); (case l_figures => k_is); (case c_figures => k_is); (case k_figures => k_is); (case t_figures => k_is)
    (case a_merged => k_is); (case l_merged => k_is); (case c_merged => k_is); (case k_merged => k_is)
    (case a_number_of => k_is); (case l_number_of => k_is); (case c_number_of => k_is); (case k_number_of => k_is); (case t_number_of => k_is)
    (case a_joint => k_is); (case l_joint => k_is); (case c_joint => k_is); (case k_joint => k_is)
    (case a_apart => k_is); (case l_apart => k_is); (case c_apart => k_is); (case k_apart => k_is)
    (case a__law_cell_at => k_is); (case l__law_cell_at => k_is); (case c__law_cell_at => k_is); (case k__law_cell_at => k_is)
    (case a__law_asked => k_is); (case l__law_asked => k_is); (case c__law_asked => k_is); (case k__law_asked => k_is)
    (case a__law_others => k_is); (case l__law_others => k_is); (case c__law_others => k_is); (case k__law_others => k_is)
    (case a__law_refused => k_is); (case l__law_refused => k_is); (case c__law_refused => k_is); (case k__law_refused => k_is)
    (case a__law_no_number => k_is); (case l__law_no_number => k_is); (case c__law_no_number => k_is); (case k__law_no_number => k_is)
    (case a__law_no_wide => k_is); (case l__law_no_wide => k_is); (case c__law_no_wide => k_is); (case k__law_no_wide => k_is)
    (case a__law_no_row => k_is); (case l__law_no_row => k_is); (case c__law_no_row => k_is); (case k__law_no_row => k_is)
    (case a__law_put => k_is); (case l__law_put => k_is); (case c__law_put => k_is); (case k__law_put => k_is)
    (case a__law_good => k_is); (case l__law_good => k_is); (case c__law_good => k_is); (case k__law_good => k_is)
    (case a_law => k_is); (case l_law => k_is); (case c_law => k_is); (case k_law => k_is)
    (case y_len => k_is); (case y_max => k_is); (case y_range => k_is); (case y_int => k_is); (case y_tuple => k_is); (case y_list => k_is); (case y_isinstance => k_is); (case y_bool => k_is); (case y_reversed => k_is); (case y_ValueError => k_is)
    (case cl_NoFigures => k_is)
    (case cl_FigureError => k_is)
    (case cl_NoMachine => k_is)
    (case cl_NoName => k_is)
    (case cl_NoPower => k_is)
    (case cl_NoRow => k_is)
    (case cl_NoSome => k_is)
    (case cl_NoText => k_is)
    (case cl_TooGreat => k_is)
    (case cl_TooWide => k_is)
    (case a_TooGreat___init__ => k_is); (case l_TooGreat___init__ => k_is); (case c_TooGreat___init__ => k_is); (case k_TooGreat___init__ => k_is)
    (case q_NoFigures => first | k_is | k_exc | decide | kernel_rfl)
    (case xga => first | k_is | k_exc | decide | kernel_rfl)
    (case xgt => first | k_is | k_exc | decide | kernel_rfl)
    (case xcl => first | k_is | k_exc | decide | kernel_rfl)
    (case xgg => first | k_is | k_exc | decide | kernel_rfl)
    (case xtk => first | k_is | k_exc | decide | kernel_rfl)
    (case xob => first | k_is | k_exc | decide | kernel_rfl)
    (case xbe => first | k_is | k_exc | decide | kernel_rfl)
    (case fe0 => first | k_is | k_exc | decide | kernel_rfl)
    (case fe1 => first | k_is | k_exc | decide | kernel_rfl)
    (case fe2 => first | k_is | k_exc | decide | kernel_rfl)
    (case fe3 => first | k_is | k_exc | decide | kernel_rfl)
    (case kve => first | k_is | k_exc | decide | kernel_rfl)
    (case ob_NoMachine => first | k_is | k_exc | decide | kernel_rfl)
    (case ty_NoMachine => first | k_is | k_exc | decide | kernel_rfl)
    (case su_NoMachine => first | k_is | k_exc | decide | kernel_rfl)
    (case ne_NoMachine => first | k_is | k_exc | decide | kernel_rfl)
    (case ob_NoName => first | k_is | k_exc | decide | kernel_rfl)
    (case ty_NoName => first | k_is | k_exc | decide | kernel_rfl)
    (case su_NoName => first | k_is | k_exc | decide | kernel_rfl)
    (case ne_NoName => first | k_is | k_exc | decide | kernel_rfl)
    (case ob_NoPower => first | k_is | k_exc | decide | kernel_rfl)
    (case ty_NoPower => first | k_is | k_exc | decide | kernel_rfl)
    (case su_NoPower => first | k_is | k_exc | decide | kernel_rfl)
    (case ne_NoPower => first | k_is | k_exc | decide | kernel_rfl)
    (case ob_NoRow => first | k_is | k_exc | decide | kernel_rfl)
    (case ty_NoRow => first | k_is | k_exc | decide | kernel_rfl)
    (case su_NoRow => first | k_is | k_exc | decide | kernel_rfl)
    (case ne_NoRow => first | k_is | k_exc | decide | kernel_rfl)
    (case ob_NoSome => first | k_is | k_exc | decide | kernel_rfl)
    (case ty_NoSome => first | k_is | k_exc | decide | kernel_rfl)
    (case su_NoSome => first | k_is | k_exc | decide | kernel_rfl)
    (case ne_NoSome => first | k_is | k_exc | decide | kernel_rfl)
    (case ob_NoText => first | k_is | k_exc | decide | kernel_rfl)
    (case ty_NoText => first | k_is | k_exc | decide | kernel_rfl)
    (case su_NoText => first | k_is | k_exc | decide | kernel_rfl)
    (case ne_NoText => first | k_is | k_exc | decide | kernel_rfl)
    (case ob_TooGreat => first | k_is | k_exc | decide | kernel_rfl)
    (case ty_TooGreat => first | k_is | k_exc | decide | kernel_rfl)
    (case su_TooGreat => first | k_is | k_exc | decide | kernel_rfl)
    (case ne_TooGreat => first | k_is | k_exc | decide | kernel_rfl)
    (case ob_TooWide => first | k_is | k_exc | decide | kernel_rfl)
    (case ty_TooWide => first | k_is | k_exc | decide | kernel_rfl)
    (case su_TooWide => first | k_is | k_exc | decide | kernel_rfl)
    (case ne_TooWide => first | k_is | k_exc | decide | kernel_rfl)
    (case i_ex => first | k_is | k_exc | decide | kernel_rfl)
    (case i_fn => first | k_is | k_exc | decide | kernel_rfl)
    (case i_kp => first | k_is | k_exc | decide | kernel_rfl)
    (case i_sa => first | k_is | k_exc | decide | kernel_rfl)
    (case i_hd => first | k_is | k_exc | decide | kernel_rfl)
    (case i_mr => first | k_is | k_exc | decide | kernel_rfl)
    (case i_ga => first | k_is | k_exc | decide | kernel_rfl)
    (case i_gt => first | k_is | k_exc | decide | kernel_rfl)
    (case i_cl => first | k_is | k_exc | decide | kernel_rfl)
    (case i_be => first | k_is | k_exc | decide | kernel_rfl)
    (case i_na => first | k_is | k_exc | decide | kernel_rfl)
    (case f_ga => first | k_is | k_exc | decide | kernel_rfl)
    (case f_rd => first | k_is | k_exc | decide | kernel_rfl)
    (case f_fc => first | k_is | k_exc | decide | kernel_rfl)

