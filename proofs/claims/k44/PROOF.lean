import PyProof.Rows.All
import Wide.All
import OpenK.AllK
import Wide.FinOn
import Lean
import PyProof.EqAt
import PyProof.EqKinds
import PyProof.TupleCall
import PyProof.NeKinds
import PyProof.ExcBaseAll.ValueError
import PyProof.ExcClass3
import OpenK.KOwn
import PyProof.Rows.FStr
import KE.KTryMore
import PyProof.ExcAttrAll.ValueError
import KE.KDictList
import PyProof.CompMap
import PyProof.Draws
import PyProof.ListRange
import PyProof.ZipIter
import PyProof.EnumMake
import PySem.Challenge.RW_figuretell_k44_whole_counted
set_option Elab.async false
set_option linter.all false
set_option maxRecDepth 100000
/-! THE HAND LAYER, for ints, bools, texts, own classes, LISTS and tuples (index, slices, in, append, pop ..), calls, loops. Paste it whole ahead of your own text; what your proof does not reach may be deleted. -/
namespace L2
open PySem PySem.Spec PyProof.Rows

/-- a key: an int or a str -/
abbrev Key := Sum Int Str
def keyIs : Key → Value → Bool
  | .inl k, v => Value.isInt k v
  | .inr x, v => Value.isStrOf x v
def keyH (w : World) : Key → Int
  | .inl k => hashInt k
  | .inr x => hashStr w x
theorem keyIs_shape : ∀ {k : Key} {v : Value}, keyIs k v = true → (∃ i t, k = Sum.inl i ∧ v = Value.int i t) ∨ (∃ x t, k = Sum.inr x ∧ v = Value.str x t)
  | .inl i, v, h => by
    obtain ⟨t, e⟩ := Value.isInt_shape (k := i) (v := v) h
    exact .inl ⟨i, t, rfl, e⟩
  | .inr x, v, h => by
    obtain ⟨t, e⟩ := Value.isStrOf_shape (x := x) (v := v) h
    exact .inr ⟨x, t, rfl, e⟩
theorem keyIs_int (i : Int) (t : Tok) : keyIs (.inl i) (.int i t) = true := by simp [keyIs, Value.isInt]
theorem keyIs_str (x : Str) (t : Tok) : keyIs (.inr x) (.str x t) = true := by simp [keyIs, Value.isStrOf]
theorem key_ll (a b : Int) : decide ((Sum.inl a : Key) = Sum.inl b) = (a == b) := by
  by_cases e : a = b
  · subst e; simp
  · have h : ¬ (Sum.inl a : Key) = Sum.inl b := fun q => e (Sum.inl.inj q)
    rw [decide_eq_false h]
    exact (beq_eq_false_iff_ne.mpr e).symm
theorem key_rr (a b : Str) : decide ((Sum.inr a : Key) = Sum.inr b) = decide (a = b) := by
  by_cases e : a = b
  · subst e; simp
  · have h : ¬ (Sum.inr a : Key) = Sum.inr b := fun q => e (Sum.inr.inj q)
    rw [decide_eq_false h, decide_eq_false e]
theorem key_lr (a : Int) (b : Str) : decide ((Sum.inl a : Key) = Sum.inr b) = false := decide_eq_false (fun q => nomatch q)
theorem key_rl (a : Str) (b : Int) : decide ((Sum.inr a : Key) = Sum.inl b) = false := decide_eq_false (fun q => nomatch q)

def mixKind (prog : Program) (w : World) : PySem.KeyKind prog w Key where
  is := keyIs
  hash := keyH w
  inj := fun v a b ha hb => by
    rcases keyIs_shape ha with ⟨i, t, rfl, rfl⟩ | ⟨x, t, rfl, rfl⟩
    · rcases keyIs_shape hb with ⟨j, u, rfl, e⟩ | ⟨y, u, rfl, e⟩
      · injection e with e1 _; rw [e1]
      · exact nomatch e
    · rcases keyIs_shape hb with ⟨j, u, rfl, e⟩ | ⟨y, u, rfl, e⟩
      · exact nomatch e
      · injection e with e1 _; rw [e1]
  byValue := fun k v h => by
    rcases keyIs_shape h with ⟨i, t, rfl, rfl⟩ | ⟨x, t, rfl, rfl⟩ <;> rfl
  pyHash := fun hv h => by
    rcases keyIs_shape hv with ⟨i, t, rfl, rfl⟩ | ⟨x, t, rfl, rfl⟩
    · exact wpAny_pyHash_int h
    · exact wpAny_pyHash_str h
  eqBool := fun hu hv h => by
    rcases keyIs_shape hu with ⟨i, t, rfl, rfl⟩ | ⟨x, t, rfl, rfl⟩
    · rcases keyIs_shape hv with ⟨j, u, rfl, rfl⟩ | ⟨y, u, rfl, rfl⟩
      · rw [key_ll] at h; exact wpAny_eqBool_int h
      · rw [key_lr] at h; exact SeqAt.EqAt.int_str i t y u _ _ _ _ h
    · rcases keyIs_shape hv with ⟨j, u, rfl, rfl⟩ | ⟨y, u, rfl, rfl⟩
      · rw [key_rl] at h; exact SeqAt.EqAt.str_int x t j u _ _ _ _ h
      · rw [key_rr] at h; exact wpAny_eqBool_str h
  «strs» := fun k x t v h => by
    rcases keyIs_shape h with ⟨i, u, rfl, e⟩ | ⟨y, u, rfl, e⟩
    · exact nomatch e
    · injection e with e1 _
      subst e1
      cases v <;> rfl

theorem mixKind_int (prog : Program) (w : World) (i : Int) (t : Tok) : (mixKind prog w).is (.inl i) (.int i t) = true := keyIs_int i t
theorem mixKind_str (prog : Program) (w : World) (x : Str) (t : Tok) : (mixKind prog w).is (.inr x) (.str x t) = true := keyIs_str x t
end L2

namespace L2
open PySem PySem.Spec PyProof.Rows

/-- a value, without the heap -/
inductive V where
  | non | bl (b : Bool) | int (i : Int) | str (x : Str) | byt (b : Array UInt8) | flt (b : UInt64) | ref (a : Addr) | ty (n : String)
  deriving DecidableEq

def RelV : V → Value → Prop
  | .non, u => u = Value.none
  | .bl b, u => u = Value.bool b
  | .int i, u => ∃ t, u = Value.int i t
  | .str x, u => ∃ t, u = Value.str x t
  | .byt b, u => ∃ t, u = Value.bytes b t
  | .flt b, u => ∃ t, u = Value.float b t
  | .ref a, u => u = Value.ref a
  | .ty n, u => u = Value.type n

abbrev Vals : List V → List Value → Prop := Paired RelV
theorem Vals.length {xs : List V} {us : List Value} (r : Vals xs us) : xs.length = us.length := Paired.length r
theorem Vals.get : ∀ {xs : List V} {us : List Value} {i : Nat} {x : V}, Vals xs us → xs[i]? = some x → ∃ u, us[i]? = some u ∧ RelV x u
  | _, _, _, _, .nil, e => by simp at e
  | _, _, 0, _, .cons r _, e => by simp at e; subst e; exact ⟨_, rfl, r⟩
  | _, _, i + 1, x, .cons _ t, e => by
    obtain ⟨u, h1, h2⟩ := Vals.get (i := i) (x := x) t (by simpa using e)
    exact ⟨u, by simpa using h1, h2⟩
theorem Vals.set {x : V} {u : Value} (r : RelV x u) : ∀ {xs : List V} {us : List Value} (i : Nat), Vals xs us → Vals (xs.set i x) (us.set i u)
  | _, _, _, .nil => .nil
  | _, _, 0, .cons _ t => .cons r t
  | _, _, i + 1, .cons q t => .cons q (Vals.set r i t)
theorem Vals.append : ∀ {xs ys : List V} {us ws : List Value}, Vals xs us → Vals ys ws → Vals (xs ++ ys) (us ++ ws)
  | _, _, _, _, .nil, s => s
  | _, _, _, _, .cons r t, s => .cons r (Vals.append t s)
theorem Vals.take : ∀ {xs : List V} {us : List Value} (n : Nat), Vals xs us → Vals (xs.take n) (us.take n)
  | _, _, 0, _ => .nil
  | _, _, _ + 1, .nil => .nil
  | _, _, n + 1, .cons r t => .cons r (Vals.take n t)
theorem Vals.drop : ∀ {xs : List V} {us : List Value} (n : Nat), Vals xs us → Vals (xs.drop n) (us.drop n)
  | _, _, 0, r => r
  | _, _, _ + 1, .nil => .nil
  | _, _, n + 1, .cons _ t => Vals.drop n t
theorem Vals.none_of : ∀ {xs : List V} {us : List Value} {i : Nat}, Vals xs us → xs[i]? = none → us[i]? = none := fun {xs us i} r e => by
  have h1 := r.length
  have h2 : xs.length ≤ i := List.getElem?_eq_none_iff.mp e
  exact List.getElem?_eq_none_iff.mpr (by omega)

def RelO : Option V → Option Value → Prop
  | some v, some u => RelV v u
  | none, none => True
  | _, _ => False
def KV {κ : Type} : List (κ × V) → List (κ × Value) → Prop := Paired fun (p : κ × V) (q : κ × Value) => p.1 = q.1 ∧ RelV p.2 q.2

/-- a key of a dict (00_mix): an int or a text -/
def kV : Key → V
  | .inl i => .int i
  | .inr x => .str x

/-- what stands at a tracked address -/
inductive HO where
  /-- a list -/
  | lst (xs : List V)
  /-- a tuple (never changes) -/
  | tup (xs : List V)
  /-- a dict whose keys are ints and texts; one whose keys are tuples of ints and texts (the empty one is both) -/
  | dK (kvs : List (Key × V)) | dT (kvs : List (List Key × V))
  /-- a set of ints: its members, its size -/
  | set (S : Int → Bool) (n : Nat)
  /-- an instance of the class at C, its dict at dx, its attributes -/
  | ins (C dx : Addr) (fs : List (Str × V))
  /-- the dict of the instance at x -/
  | own (x : Addr)
  /-- the dict of an exception -/
  | xd (fs : List (Str × V))
  /-- a bound method, f of x -/
  | met (f x : Addr)
  /-- a range object lo, lo + 1, .. below hi -/
  | rng (lo hi : Int)
  /-- a thing that is known to the object (the script; a dict while a loop walks it): read, never written while it is so -/
  | frz (o : Obj) (u : HO)
  /-- a code object's table -/
  | tbl (ps : Array Value)
  /-- any other thing, by what is true of its one object (a def of one's own: SetO a S n := HO.ext fun h => ..) -/
  | ext (φ : Heap → Prop)

abbrev Hp := Addr → Option HO
def upd (H : Hp) (a : Addr) (o : HO) : Hp := fun b => if b = a then some o else H b
theorem upd_same {H : Hp} {a : Addr} {o : HO} : upd H a o a = some o := by unfold upd; rw [if_pos rfl]
theorem upd_ne {H : Hp} {a b : Addr} {o : HO} (h : b ≠ a) : upd H a o b = H b := by unfold upd; rw [if_neg h]
/-- two objects of different content stand apart -/
theorem ne_of {H : Hp} {a b : Addr} {o u : HO} (h : H a = some o) (h' : H b = some u) (d : o ≠ u) : a ≠ b := by
  intro e; subst e; rw [h] at h'; exact d (Option.some.inj h')
theorem ne_of_none {H : Hp} {a b : Addr} {o : HO} (h : H a = some o) (h' : H b = none) : a ≠ b := by
  intro e; subst e; rw [h] at h'; cases h'

section
variable (P : Program) (w : World)
def ObjOk (H : Hp) (h : Heap) (a : Addr) : HO → Prop
  | .lst xs => xs.length ≤ sizeLine ∧ ∃ (its : List Value) (n : Nat), Vals xs its ∧ h.get? a = some { cls := .type "list", data := .seq its.toArray n }
  | .tup xs => xs.length ≤ sizeLine ∧ ∃ its : List Value, Vals xs its ∧ IsTup h a its.toArray
  | .dK kvs => kvs.length ≤ sizeLine ∧ (a == sysModules) = false ∧ ∃ vs, KV kvs vs ∧ h.DictOf (mixKind P w) a vs
  | .dT kvs => kvs.length ≤ sizeLine ∧ (a == sysModules) = false ∧ ∃ xs : List (List Key × Addr × Value),
      Paired (fun (p : List Key × V) (q : List Key × Addr × Value) => p.1 = q.1 ∧ H q.2.1 = some (.tup (p.1.map kV)) ∧ RelV p.2 q.2.2) kvs xs ∧
      ∃ o es ep, h.get? a = some o ∧ o.ExactDict ∧ o.data = .dict es ep ∧ es.toList = xs.map (entryOfKey (tupleKind (mixKind P w))) ∧ (xs.map (·.1)).Nodup
  | .set S n => h.SetOf (intKind P w) a S n
  | .ins C dx fs => H dx = some (.own a) ∧ fs.length ≤ 1000 ∧ dx ≠ a ∧ h.get? a = some (PySem.W.instObj C dx) ∧
      ∃ mA, h.Ns1 dx mA ∧ (∀ f, RelO (fs.lookup f) (mA f)) ∧ PySem.Within mA (fs.map (·.1))
  | .own _ => ∃ o, h.get? a = some o
  | .xd fs => ∃ mA, h.Ns1 a mA ∧ ∀ f, RelO (fs.lookup f) (mA f)
  | .rng lo hi => ∃ t u v, h.get? a = some { cls := .type "range", data := .fields #[.int lo t, .int hi u, .int 1 v] }
  | .frz o u => h.get? a = some o ∧ ObjOk H h a u
  | .tbl ps => h.get? a = some { cls := .none, data := .fields ps }
  | .met f x => h.get? a = some (PySem.W.methodObj (.ref f) (.ref x))
  | .ext φ => φ h ∧ (∃ o, h.get? a = some o) ∧ ∀ h1 h2 : Heap, φ h1 → (∀ o, h1.get? a = some o → h2.get? a = some o) → φ h2
/-- the abstract heap is held -/
def HOk (H : Hp) (h : Heap) : Prop := ∀ a o, H a = some o → ObjOk P w H h a o
end

section
variable {P : Program} {w : World} {H H' : Hp} {h h' : Heap} {a : Addr} {o : HO}
theorem ObjOk.lt (x : ObjOk P w H h a o) : a < h.objs.size := by
  cases o with
  | lst xs => obtain ⟨_, _, _, _, e⟩ := x; exact Heap.lt_size e
  | tup xs => obtain ⟨_, _, _, p⟩ := x; exact p.lt
  | dK kvs => obtain ⟨_, _, _, _, o, _, _, e, _⟩ := x; exact Heap.lt_size e
  | dT kvs => obtain ⟨_, _, _, _, o, _, _, e, _⟩ := x; exact Heap.lt_size e
  | set S n => obtain ⟨o, _, _, _, e, _⟩ := x; exact Heap.lt_size e
  | ins C dx fs => obtain ⟨_, _, _, e, _⟩ := x; exact Heap.lt_size e
  | own y => obtain ⟨_, e⟩ := x; exact Heap.lt_size e
  | xd fs => obtain ⟨_, ⟨_, _, _, e, _⟩, _⟩ := x; exact Heap.lt_size e
  | rng lo hi => obtain ⟨_, _, _, e⟩ := x; exact Heap.lt_size e
  | frz ob u => obtain ⟨e, _⟩ := x; exact Heap.lt_size e
  | tbl ps => exact Heap.lt_size (show h.get? a = some _ from x)
  | met f y => exact Heap.lt_size (show h.get? a = some _ from x)
  | ext φ => obtain ⟨_, ⟨_, e⟩, _⟩ := x; exact Heap.lt_size e
theorem Paired.mapP {α β : Type} {F G : α → β → Prop} : ∀ {l₁ : List α} {l₂ : List β}, Paired F l₁ l₂ → (∀ a b, F a b → G a b) → Paired G l₁ l₂
  | _, _, .nil, _ => .nil
  | _, _, .cons r t, f => .cons (f _ _ r) (Paired.mapP t f)
/-- what an object's description leans on: its own object, its own dict, the tuples -/
theorem ObjOk.stay (x : ObjOk P w H h a o) (k : ∀ b u, (b = a ∨ H b = some (.own a)) → h.get? b = some u → h'.get? b = some u)
    (ho : ∀ b, H b = some (.own a) → H' b = some (.own a)) (ht : ∀ b xs, H b = some (.tup xs) → H' b = some (.tup xs)) : ObjOk P w H' h' a o := by
  induction o with
  | lst xs => obtain ⟨z, its, n, r, e⟩ := x; exact ⟨z, its, n, r, k _ _ (.inl rfl) e⟩
  | tup xs => obtain ⟨z, its, r, ob, e, c⟩ := x; exact ⟨z, its, r, ob, k _ _ (.inl rfl) e, c⟩
  | dK kvs => obtain ⟨z, y, vs, r, ob, es, ep, e, c⟩ := x; exact ⟨z, y, vs, r, ob, es, ep, k _ _ (.inl rfl) e, c⟩
  | dT kvs =>
    obtain ⟨z, y, xs, r, ob, es, ep, e, c⟩ := x
    exact ⟨z, y, xs, Paired.mapP r fun p q z => ⟨z.1, ht _ _ z.2.1, z.2.2⟩, ob, es, ep, k _ _ (.inl rfl) e, c⟩
  | set S n => obtain ⟨ob, es, ep, t, e, c⟩ := x; exact ⟨ob, es, ep, t, k _ _ (.inl rfl) e, c⟩
  | ins C dx fs =>
    obtain ⟨d, z, ne, e, mA, ⟨od, es, ep, e2, c⟩, r⟩ := x
    exact ⟨ho _ d, z, ne, k _ _ (.inl rfl) e, mA, ⟨od, es, ep, k _ _ (.inr d) e2, c⟩, r⟩
  | own y => obtain ⟨ob, e⟩ := x; exact ⟨ob, k _ _ (.inl rfl) e⟩
  | xd fs => obtain ⟨mA, ⟨od, es, ep, e, c⟩, r⟩ := x; exact ⟨mA, ⟨od, es, ep, k _ _ (.inl rfl) e, c⟩, r⟩
  | rng lo hi => obtain ⟨t, u, v, e⟩ := x; exact ⟨t, u, v, k _ _ (.inl rfl) e⟩
  | frz ob u ih => obtain ⟨e, q⟩ := x; exact ⟨k _ _ (.inl rfl) e, ih q⟩
  | tbl ps =>
    have e : h.get? a = some { cls := .none, data := .fields ps } := x
    show h'.get? a = some { cls := .none, data := .fields ps }
    exact k a _ (.inl rfl) e
  | met f y =>
    have e : h.get? a = some (PySem.W.methodObj (.ref f) (.ref y)) := x
    show h'.get? a = some (PySem.W.methodObj (.ref f) (.ref y))
    exact k a _ (.inl rfl) e
  | ext φ => obtain ⟨p, ⟨o, e⟩, st⟩ := x; exact ⟨st _ _ p fun o q => k _ _ (.inl rfl) q, ⟨o, k _ _ (.inl rfl) e⟩, st⟩
theorem HOk.lt (x : HOk P w H h) (e : H a = some o) : a < h.objs.size := (x a o e).lt
theorem HOk.fresh (x : HOk P w H h) (e : h.objs.size ≤ a) : H a = none := by
  cases q : H a with
  | none => rfl
  | some u => exact absurd (Nat.lt_of_lt_of_le (x.lt q) e) (Nat.lt_irrefl _)
/-- every object of the heap is kept -/
theorem HOk.kept (x : HOk P w H h) (k : ∀ b u, h.get? b = some u → h'.get? b = some u) : HOk P w H h' := fun a o e =>
  (x a o e).stay (fun b u _ q => k b u q) (fun _ q => q) fun _ _ q => q
/-- a new object is laid and tracked -/
theorem HOk.laid (x : HOk P w H h) (k : ∀ b u, h.get? b = some u → h'.get? b = some u) (hp : h.objs.size ≤ a) (new : ObjOk P w (upd H a o) h' a o) : HOk P w (upd H a o) h' := fun b u e => by
  have hn := x.fresh hp
  by_cases hb : b = a
  · subst hb; rw [upd_same] at e; cases e; exact new
  · rw [upd_ne hb] at e
    exact (x b u e).stay (fun c v _ q => k c v q) (fun c q => by rw [upd_ne (ne_of_none q hn)]; exact q) fun c xs q => by rw [upd_ne (ne_of_none q hn)]; exact q
end

/-- what may be read as u: it is u, or a known u -/
def Rd (H : Hp) (a : Addr) (u : HO) : Prop := H a = some u ∨ ∃ o, H a = some (.frz o u)
theorem Rd.of {H : Hp} {a : Addr} {u : HO} (h : H a = some u) : Rd H a u := .inl h
theorem Rd.ok {P : Program} {w : World} {H : Hp} {h : Heap} {a : Addr} {u : HO} (r : Rd H a u) (x : HOk P w H h) : ObjOk P w H h a u := by
  rcases r with r | ⟨o, r⟩
  · exact x a u r
  · obtain ⟨_, q⟩ := x a _ r
    exact q
/-- what may be written -/
def Mut : Option HO → Prop
  | some (.lst _) => True
  | some (.dK _) => True
  | some (.dT _) => True
  | some (.set _ _) => True
  | some (.ins _ _ _) => True
  | some (.ext _) => True
  | _ => False
section
variable {P : Program} {w : World} {H : Hp} {h h' : Heap} {x e : Addr} {o' : HO}
/-- the object at e is changed: x itself, or the dict of the instance x -/
theorem HOk.write (ok : HOk P w H h) (mu : Mut (H x)) (he : e = x ∨ H e = some (.own x)) (k : ∀ b u, b ≠ e → h.get? b = some u → h'.get? b = some u) (heo : ∃ u, h'.get? e = some u)
    (new : ObjOk P w (upd H x o') h' x o') : HOk P w (upd H x o') h' := fun b u q => by
  have nown : ∀ c y, H c = some (.own y) → c ≠ x := fun c y r z => by subst z; rw [r] at mu; exact mu
  have ntup : ∀ c xs, H c = some (.tup xs) → c ≠ x := fun c xs r z => by subst z; rw [r] at mu; exact mu
  by_cases hb : b = x
  · subst hb; rw [upd_same] at q; cases q; exact new
  · rw [upd_ne hb] at q
    by_cases hbe : b = e
    · have q' : H b = some (.own x) := by
        rcases he with z | z
        · exact absurd (hbe.trans z) hb
        · rw [hbe]; exact z
      rw [q] at q'; cases q'
      obtain ⟨v, hv⟩ := heo
      exact ⟨v, by rw [hbe]; exact hv⟩
    · refine (ok b u q).stay (fun c v hc r => k c v ?_ r) (fun c r => by rw [upd_ne (nown c b r)]; exact r) fun c xs r => by rw [upd_ne (ntup c xs r)]; exact r
      rcases hc with rfl | hc
      · exact hbe
      · rintro rfl
        rcases he with z | z
        · exact nown c b hc z
        · rw [hc] at z; cases z; exact hb rfl
end

/-! ### kept unless tracked; of the frames at fs (the callers') the slots may change (an exception that passes writes there); of the records at ex (iterators) nothing is said -/
structure Un (fs ex : List Addr) (H H' : Hp) (h h' : Heap) : Prop where
  keep : ∀ b o, h.get? b = some o → H b = none → b ∉ fs → b ∉ ex → h'.get? b = some o
  slot : ∀ b o, h.get? b = some o → H b = none → b ∈ fs → b ∉ ex → ∃ sl, h'.get? b = some { o with slots := sl }
  free : ∀ b o, h.get? b = some o → H b = none → b ∉ ex → H' b = none
  there : ∀ b o, h.get? b = some o → b ∉ ex → ∃ o', h'.get? b = some o'
  tups : ∀ b xs, H b = some (.tup xs) → H' b = some (.tup xs)
  frzs : ∀ b o u, H b = some (.frz o u) → H' b = some (.frz o u)
  tbls : ∀ b ps, H b = some (.tbl ps) → ∃ more, H' b = some (.tbl (ps ++ more))
section
variable {fs fs' ex ex' : List Addr} {H H1 H2 : Hp} {h h1 h2 h' : Heap} {a x e : Addr} {o : HO}
theorem Un.any (u : Un fs ex H H1 h h1) {b : Addr} {ob : Obj} (q : h.get? b = some ob) (n : H b = none) (hx : b ∉ ex) : ∃ sl, h1.get? b = some { ob with slots := sl } := by
  by_cases hb : b ∈ fs
  · exact u.slot b ob q n hb hx
  · exact ⟨ob.slots, u.keep b ob q n hb hx⟩
theorem Un.trans (a : Un fs ex H H1 h h1) (b : Un fs ex H1 H2 h1 h2) : Un fs ex H H2 h h2 where
  keep := fun c ob q n hc hx => b.keep c ob (a.keep c ob q n hc hx) (a.free c ob q n hx) hc hx
  slot := fun c ob q n hc hx => by
    obtain ⟨sl, e1⟩ := a.slot c ob q n hc hx
    obtain ⟨sl', e2⟩ := b.slot c _ e1 (a.free c ob q n hx) hc hx
    exact ⟨sl', e2⟩
  free := fun c ob q n hx => by
    obtain ⟨o', e1⟩ := a.there c ob q hx
    exact b.free c o' e1 (a.free c ob q n hx) hx
  there := fun c ob q hx => by
    obtain ⟨o', e1⟩ := a.there c ob q hx
    exact b.there c o' e1 hx
  tups := fun c xs q => b.tups c xs (a.tups c xs q)
  frzs := fun c ob xs q => b.frzs c ob xs (a.frzs c ob xs q)
  tbls := fun c ps q => by
    obtain ⟨m1, e1⟩ := a.tbls c ps q
    obtain ⟨m2, e2⟩ := b.tbls c _ e1
    exact ⟨m1 ++ m2, by rw [e2, Array.append_assoc]⟩
theorem Un.kept (k : ∀ b u, h.get? b = some u → h'.get? b = some u) : Un fs ex H H h h' :=
  ⟨fun b ob q _ _ _ => k b ob q, fun b ob q _ _ _ => ⟨ob.slots, k b ob q⟩, fun _ _ _ n _ => n, fun b ob q _ => ⟨ob, k b ob q⟩, fun _ _ q => q, fun _ _ _ q => q, fun _ ps q => ⟨#[], by rw [q]; simp⟩⟩
theorem Un.refl : Un fs ex H H h h := Un.kept fun _ _ q => q
theorem Un.laid (k : ∀ b u, h.get? b = some u → h'.get? b = some u) (hp : h.objs.size ≤ a) (hn : H a = none) : Un fs ex H (upd H a o) h h' where
  keep := fun b u q _ _ _ => k b u q
  slot := fun b u q _ _ _ => ⟨u.slots, k b u q⟩
  free := fun b u q n _ => by rw [upd_ne (Nat.ne_of_lt (Nat.lt_of_lt_of_le (Heap.lt_size q) hp))]; exact n
  there := fun b u q _ => ⟨u, k b u q⟩
  tups := fun b xs q => by rw [upd_ne (ne_of_none q hn)]; exact q
  frzs := fun b u xs q => by rw [upd_ne (ne_of_none q hn)]; exact q
  tbls := fun b ps q => ⟨#[], by rw [upd_ne (ne_of_none q hn), q]; simp⟩
theorem Un.write (mu : Mut (H x)) (he : e = x ∨ H e = some (.own x)) (k : ∀ b u, b ≠ e → h.get? b = some u → h'.get? b = some u) (heo : ∃ u, h'.get? e = some u) : Un fs ex H (upd H x o) h h' := by
  have hx : ∀ b, H b = none → b ≠ x := fun b n z => by subst z; rw [n] at mu; exact mu
  have hb : ∀ b, H b = none → b ≠ e := fun b n z => by
    subst z
    rcases he with r | r
    · exact hx b n r
    · rw [n] at r; cases r
  have hm : ∀ b u, H b = some u → ¬ Mut (some u) → b ≠ x := fun b u q nm z => by subst z; rw [q] at mu; exact nm mu
  refine ⟨fun b u q n _ _ => k b u (hb b n) q, fun b u q n _ _ => ⟨u.slots, k b u (hb b n) q⟩, fun b u q n _ => by rw [upd_ne (hx b n)]; exact n, fun b u q _ => ?_,
    fun b xs q => by rw [upd_ne (hm b _ q fun z => z)]; exact q, fun b u xs q => by rw [upd_ne (hm b _ q fun z => z)]; exact q, fun b ps q => ⟨#[], by rw [upd_ne (hm b _ q fun z => z), q]; simp⟩⟩
  by_cases hbe : b = e
  · subst hbe; exact heo
  · exact ⟨u, k b u hbe q⟩
theorem Un.mono (u : Un fs ex H H1 h h1) (hs : ∀ b ∈ fs, b ∈ fs') (hx : ∀ b ∈ ex, b ∈ ex') : Un fs' ex' H H1 h h1 :=
  ⟨fun b ob q n hb he => u.keep b ob q n (fun z => hb (hs b z)) fun z => he (hx b z), fun _ _ q n _ he => u.any q n fun z => he (hx _ z), fun b ob q n he => u.free b ob q n fun z => he (hx b z), fun b ob q he => u.there b ob q fun z => he (hx b z), u.tups, u.frzs, u.tbls⟩
end

/-! ### the heap without what is tracked -/
def trk (h : Heap) (H : Hp) : List Addr := (List.range h.objs.size).filter fun a => (H a).isSome
def hidT (h : Heap) (H : Hp) : Heap := PySem.W.hideAll h (trk h H)
theorem hidT_size (h : Heap) (H : Hp) : (hidT h H).objs.size = h.objs.size := PySem.W.hideAll_size _ _
theorem hidT_get {h : Heap} {H : Hp} {b : Addr} {o : Obj} (e : h.get? b = some o) (n : H b = none) : (hidT h H).get? b = some o :=
  PySem.W.hideAll_get _ e fun hm => by
    have q : (H b).isSome = true := (List.mem_filter.mp hm).2
    rw [n] at q; simp at q
theorem of_hidT {h : Heap} {H : Hp} {b : Addr} {o : Obj} (e : (hidT h H).get? b = some o) : h.get? b = some o ∧ H b = none := by
  have e' : h.get? b = some o := PySem.W.of_hideAll (trk h H) e
  refine ⟨e', ?_⟩
  cases q : H b with
  | none => rfl
  | some x =>
    have hm : b ∈ trk h H := List.mem_filter.mpr ⟨List.mem_range.mpr (Heap.lt_size e'), by simp [q]⟩
    have z : (hidT h H).get? b = none := PySem.W.hideAll_none (trk h H) hm
    rw [z] at e; cases e

/-! ### OpenK's ledger, filled with every new object but one -/
def allNews (g h : Heap) (L : Addr) : List (Addr × Obj) := (List.range h.objs.size).filterMap fun a => if a = L ∨ (g.get? a).isSome = true then none else (h.get? a).map fun o => (a, o)
def rest (g h : Heap) (L d : Addr) : List (Addr × Obj) := (allNews g h L).filter fun p => decide (p.1 ≠ d)
end L2

namespace L2
open PySem PySem.Spec PyProof.Rows

/-- the module's facts, over the base: the heap at the law's entry without what is tracked there -/
structure Mod (K : PySem.W.Frag) (mg : Str → Option Value) (base : Heap) : Prop where
  kin : K.In base
  glob : base.Ns mainGlobals mg
  blt : ∃ mb, base.Ns builtinsNs mb ∧ ∀ x : Str, x ≠ "__name__" → mb x = bootBuiltins x
  nolimit : base.NoLimit

/-- the context: a def's body (or a comprehension's block) running. base: fixed through the whole law; s₀, H₀: the entry; outer: the frames whose slots others may change (a def's callers); stack: all frames that run;
   ex: iterators that were made ahead of the entry and are walked here (a comprehension's); fn: the names whose cells were made at the entry (a def: all; a comprehension's block: its own); calm: not within an except suite; pn: pins that every state bears; xe: what is wanted of an exception that leaves the code -/
structure Cx where
  prog : Program
  w : World
  K : PySem.W.Frag
  mg : Str → Option Value
  base : Heap
  A : Around
  N : List Str
  s₀ : Shared
  H₀ : Hp
  env : Env
  outer : List Env
  stack : List Env
  ex : List Addr
  fn : Str → Bool
  calm : Bool
  pn : List (Addr × Obj)
  xe : Value → Shared → Prop
/-- the callers' frames -/
def frs (l : List Env) : List Addr := l.filterMap (·.frame)
abbrev Cx.fs (X : Cx) : List Addr := frs X.outer

def Vis (sc : Scope) (x : Str) : Prop := sc.names.lookup x = some .local ∨ sc.names.lookup x = some .cell ∨ sc.names.lookup x = some .free
def Loc (sc : Scope) (x : Str) : Prop := sc.names.lookup x = some .local ∨ sc.names.lookup x = some .cell
def Look (env : Env) (h : Heap) (m : Str → Option Value) (x : Str) (u : Value) : Prop :=
  (env.kindOf x = some .local ∧ m x = some u) ∨ ((env.kindOf x = some .cell ∨ env.kindOf x = some .free) ∧ ∃ c, env.cells.lookup x = some c ∧ h.IsCell c (some u))

structure Cx.Ok (X : Cx) : Prop where
  mod : Mod X.K X.mg X.base
  kind : X.env.scope.kind = .function
  glob : X.env.globals = mainGlobals
  blt : X.env.builtins = builtinsNs
  above : X.s₀.heap.objs.size ≤ X.env.locals
  inj : ∀ x y c, X.env.cells.lookup x = some c → X.env.cells.lookup y = some c → x = y
  has : ∀ x, (X.env.kindOf x = some .cell ∨ X.env.kindOf x = some .free) → ∃ c, X.env.cells.lookup x = some c
  cab : ∀ x c, X.fn x = true → X.env.cells.lookup x = some c → X.s₀.heap.objs.size ≤ c
  hd : X.calm = true → X.A.handled = none
  frames : X.A.frames = some X.stack
  stk : X.stack = X.outer ∨ (X.stack = X.env :: X.outer ∧ X.env.frame = some X.env.locals)
  exf : ∀ b ∈ X.ex, b ≠ X.env.locals ∧ ∀ x c, X.env.cells.lookup x = some c → c ≠ b
  bs : ∀ b o, X.base.get? b = some o → X.s₀.heap.get? b = some o ∧ X.H₀ b = none
  bsz : X.base.objs.size ≤ X.s₀.heap.objs.size
  noex : ∀ b o, X.base.get? b = some o → b ∉ X.ex
  exfs : ∀ b ∈ X.ex, b ∉ X.fs
  funs : X.s₀.heap.FunFrames X.base X.outer
  frf : ∀ b ∈ X.fs, X.H₀ b = none

structure Inv (X : Cx) (pins : List (Addr × Obj)) (σ : List (Option V)) (H : Hp) (s : Shared) : Prop where
  ok : X.Ok
  os : s.os = X.s₀.os
  bare : AllBare s.gens
  base : Un X.fs X.ex X.H₀ H X.s₀.heap s.heap
  loc : ∃ m, s.heap.Ns X.env.locals m ∧ ∀ (i : Nat) (x : Str) (v : V), X.N[i]? = some x → σ[i]? = some (some v) → Vis X.env.scope x → ∃ u, RelV v u ∧ Look X.env s.heap m x u
  cell : ∀ x c, X.env.cells.lookup x = some c → ∃ v, s.heap.IsCell c v
  free : H X.env.locals = none
  freeC : ∀ x c, X.env.cells.lookup x = some c → H c = none
  pin : ∀ p ∈ X.pn ++ pins, s.heap.get? p.1 = some p.2 ∧ H p.1 = none ∧ p.1 ≠ X.env.locals ∧ p.1 ∉ X.fs ∧ ∀ v, p.2.data ≠ .cell v
  hok : HOk X.prog X.w H s.heap
  len : σ.length = X.N.length

section
variable {X : Cx} {pins : List (Addr × Obj)} {σ : List (Option V)} {H H' : Hp} {s : Shared} {h' : Heap}

theorem Cx.Ok.nofr (ok : X.Ok) {b : Addr} {o : Obj} (e : X.base.get? b = some o) : b ∉ X.fs := fun hb => by
  have := (ok.funs.mem hb).1
  rw [e] at this; cases this
theorem Inv.bs (I : Inv X pins σ H s) : ∀ b o, X.base.get? b = some o → s.heap.get? b = some o ∧ H b = none := fun b o e =>
  ⟨I.base.keep b o (I.ok.bs b o e).1 (I.ok.bs b o e).2 (I.ok.nofr e) (I.ok.noex b o e), I.base.free b o (I.ok.bs b o e).1 (I.ok.bs b o e).2 (I.ok.noex b o e)⟩
theorem Inv.bk (I : Inv X pins σ H s) : ∀ b o, X.base.get? b = some o → s.heap.get? b = some o := fun b o e => (I.bs b o e).1
theorem Inv.mod (I : Inv X pins σ H s) : Mod X.K X.mg X.base := I.ok.mod
theorem Inv.kIn (I : Inv X pins σ H s) : X.K.In s.heap := I.ok.mod.kin.keeps I.bk
theorem Inv.nolimit (I : Inv X pins σ H s) : s.heap.NoLimit := I.ok.mod.nolimit.keeps I.bk
/-- the frame over the base: for OpenK's rules (K.In X.base is I.mod.kin) -/
theorem Inv.fr (I : Inv X pins σ H s) : ∃ m, Fr X.base X.env.locals s.heap m :=
  let ⟨m, hn, _⟩ := I.loc
  ⟨m, hn, I.bk, Nat.le_trans I.ok.bsz I.ok.above⟩
theorem Inv.lt (I : Inv X pins σ H s) : X.env.locals < s.heap.objs.size := let ⟨_, hn, _⟩ := I.loc; hn.lt
theorem Inv.sz (I : Inv X pins σ H s) : X.s₀.heap.objs.size ≤ s.heap.objs.size := Nat.le_trans I.ok.above (Nat.le_of_lt I.lt)
theorem Inv.nofs (I : Inv X pins σ H s) {a : Addr} (h : s.heap.objs.size ≤ a) : a ∉ X.fs := fun hb => by
  obtain ⟨_, o, ho, _⟩ := I.ok.funs.mem hb
  exact absurd (Nat.lt_of_lt_of_le (Heap.lt_size ho) (Nat.le_trans I.sz h)) (Nat.lt_irrefl _)
theorem Inv.cne (I : Inv X pins σ H s) : ∀ x c, X.env.cells.lookup x = some c → c ≠ X.env.locals := fun x c e z => by
  obtain ⟨v, o, ho, hd⟩ := I.cell x c e
  obtain ⟨m, ⟨o', es, ep, ho', hd', _⟩, _⟩ := I.loc
  rw [z, ho'] at ho; cases ho; rw [hd'] at hd; cases hd
theorem Inv.funs (I : Inv X pins σ H s) : s.heap.FunFrames X.base X.outer := by
  have all : ∀ (l : List Env), (∀ b ∈ frs l, b ∈ X.fs) → X.s₀.heap.FunFrames X.base l → s.heap.FunFrames X.base l := by
    intro l
    induction l with
    | nil => intro _ _; trivial
    | cons env r ih =>
      intro hs hl
      obtain ⟨hk, ⟨L, o, hf, hn, ho, hd⟩, hr⟩ := hl
      have hL : L ∈ X.fs := hs L (by unfold frs; rw [List.filterMap_cons, hf]; exact List.mem_cons_self)
      obtain ⟨sl, e⟩ := I.base.slot L o ho (I.ok.frf L hL) hL fun z => I.ok.exfs L z hL
      exact ⟨hk, ⟨L, _, hf, hn, e, hd⟩, ih (fun b hb => hs b (by unfold frs; rw [List.filterMap_cons, hf]; exact List.mem_cons_of_mem _ hb)) hr⟩
  exact all X.outer (fun _ hb => hb) I.ok.funs

/-- the frames that run, for a call -/
theorem Inv.stack (I : Inv X pins σ H s) : s.heap.FunFrames X.base X.stack := by
  rcases I.ok.stk with e | ⟨e, hf⟩
  · rw [e]; exact I.funs
  · rw [e]
    obtain ⟨m, hn, _⟩ := I.loc
    refine .cons (by rw [I.ok.kind]; decide) hf hn ?_ I.funs
    exact Heap.get?_none_of_le (Nat.le_trans I.ok.bsz I.ok.above)
theorem Inv.stkSub (I : Inv X pins σ H s) : ∀ b ∈ frs X.stack, b ∈ X.env.locals :: X.fs := fun b hb => by
  rcases I.ok.stk with e | ⟨e, hf⟩
  · rw [e] at hb; exact List.mem_cons_of_mem _ hb
  · rw [e] at hb
    unfold frs at hb
    rw [List.filterMap_cons, hf] at hb
    exact hb
theorem Inv.stkFree (I : Inv X pins σ H s) : ∀ b ∈ frs X.stack, H b = none := fun b hb => by
  rcases List.mem_cons.mp (I.stkSub b hb) with e | hb
  · rw [e]; exact I.free
  · obtain ⟨_, o, ho, _⟩ := I.ok.funs.mem hb
    exact I.base.free b o ho (I.ok.frf b hb) fun z => I.ok.exfs b z hb

/-- THE STEP: the untracked objects but the frame and the records at ch are kept (the callers' frames up to slots), the frame's map is kept, the new abstract heap is held -/
theorem Inv.step {g' : Array GenState} {t' : Nat} {d' : Drawn} {ch : List Addr} (I : Inv X pins σ H s)
    (hch : ∀ b ∈ ch, (b ∈ X.ex ∨ X.s₀.heap.objs.size ≤ b) ∧ b ≠ X.env.locals ∧ (∀ x c, X.env.cells.lookup x = some c → c ≠ b) ∧ ∀ p ∈ X.pn ++ pins, p.1 ≠ b)
    (keep : ∀ b o, b ≠ X.env.locals → b ∉ X.fs → b ∉ ch → s.heap.get? b = some o → H b = none → h'.get? b = some o)
    (slot : ∀ b o, b ≠ X.env.locals → b ∈ X.fs → b ∉ ch → s.heap.get? b = some o → H b = none → ∃ sl, h'.get? b = some { o with slots := sl }) (free : ∀ b o, b ∉ ch → s.heap.get? b = some o → H b = none → H' b = none)
    (there : ∀ b o, b ∉ ch → s.heap.get? b = some o → ∃ o', h'.get? b = some o')
    (tups : ∀ b xs, H b = some (.tup xs) → H' b = some (.tup xs)) (frzs : ∀ b o u, H b = some (.frz o u) → H' b = some (.frz o u)) (tbls : ∀ b ps, H b = some (.tbl ps) → ∃ more, H' b = some (.tbl (ps ++ more)))
    (ns : ∀ m, s.heap.Ns X.env.locals m → h'.Ns X.env.locals m) (hok : HOk X.prog X.w H' h') (hg : AllBare g') :
    Inv X pins σ H' { s with heap := h', gens := g', drawn := d', toks := t' } := by
  have neL : ∀ b o, X.s₀.heap.get? b = some o → b ≠ X.env.locals := fun b o e => Nat.ne_of_lt (Nat.lt_of_lt_of_le (Heap.lt_size e) I.ok.above)
  have neC : ∀ b o, X.s₀.heap.get? b = some o → b ∉ X.ex → b ∉ ch := fun b o e hx hb => by
    rcases (hch b hb).1 with z | z
    · exact hx z
    · exact absurd (Nat.lt_of_lt_of_le (Heap.lt_size e) z) (Nat.lt_irrefl _)
  have cellK : ∀ x c, X.env.cells.lookup x = some c → ∀ v, s.heap.IsCell c v → h'.IsCell c v := fun x c e v ⟨o, ho, hd⟩ => by
    have nch : c ∉ ch := fun z => (hch c z).2.2.1 x c e rfl
    by_cases hc : c ∈ X.fs
    · obtain ⟨sl, q⟩ := slot c o (I.cne x c e) hc nch ho (I.freeC x c e)
      exact ⟨_, q, hd⟩
    · exact ⟨o, keep c o (I.cne x c e) hc nch ho (I.freeC x c e), hd⟩
  refine ⟨I.ok, I.os, hg, ⟨fun b o e n hb hx => ?_, fun b o e n hb hx => ?_, fun b o e n hx => ?_, fun b o e hx => ?_, fun b xs e => tups b xs (I.base.tups b xs e), fun b o xs e => frzs b o xs (I.base.frzs b o xs e), fun b ps e => ?_⟩, ?_, fun x c e => ?_, ?_, fun x c e => ?_, fun p hp => ?_, hok, I.len⟩
  · exact keep b o (neL b o e) hb (neC b o e hx) (I.base.keep b o e n hb hx) (I.base.free b o e n hx)
  · obtain ⟨sl, e1⟩ := I.base.slot b o e n hb hx
    obtain ⟨sl', e2⟩ := slot b _ (neL b o e) hb (neC b o e hx) e1 (I.base.free b o e n hx)
    exact ⟨sl', e2⟩
  · obtain ⟨o', e1⟩ := I.base.there b o e hx
    exact free b o' (neC b o e hx) e1 (I.base.free b o e n hx)
  · obtain ⟨o', e1⟩ := I.base.there b o e hx
    exact there b o' (neC b o e hx) e1
  · obtain ⟨m1, e1⟩ := I.base.tbls b ps e
    obtain ⟨m2, e2⟩ := tbls b _ e1
    exact ⟨m1 ++ m2, by rw [e2, Array.append_assoc]⟩
  · obtain ⟨m, hn, hl⟩ := I.loc
    refine ⟨m, ns m hn, fun i x v e1 e2 e3 => ?_⟩
    obtain ⟨u, r, l⟩ := hl i x v e1 e2 e3
    refine ⟨u, r, ?_⟩
    rcases l with l | ⟨k, c, e, z⟩
    · exact .inl l
    · exact .inr ⟨k, c, e, cellK x c e _ z⟩
  · obtain ⟨v, z⟩ := I.cell x c e
    exact ⟨v, cellK x c e v z⟩
  · obtain ⟨m, ⟨o, _, _, ho, _⟩, _⟩ := I.loc
    exact free _ o (fun z => (hch _ z).2.1 rfl) ho I.free
  · obtain ⟨v, o, ho, hd⟩ := I.cell x c e
    exact free c o (fun z => (hch c z).2.2.1 x c e rfl) ho (I.freeC x c e)
  · obtain ⟨e, n, ne, nf, d⟩ := I.pin p hp
    have nch : p.1 ∉ ch := fun z => (hch p.1 z).2.2.2 p hp rfl
    exact ⟨keep p.1 p.2 ne nf nch e n, free p.1 p.2 nch e n, ne, nf, d⟩
/-- .. where the frame's own object is kept too -/
theorem Inv.un {t' : Nat} (I : Inv X pins σ H s) (u : Un X.fs [] H H' s.heap h') (hok : HOk X.prog X.w H' h') : Inv X pins σ H' { s with heap := h', toks := t' } := by
  obtain ⟨m, ⟨o, es, ep, ho, r⟩, _⟩ := id I.loc
  obtain ⟨sl, hL⟩ := u.any ho I.free (by simp)
  exact I.step (g' := s.gens) (d' := s.drawn) (ch := []) (fun _ z => nomatch z) (fun b o _ hb _ e n => u.keep b o e n hb (by simp)) (fun b o _ hb _ e n => u.slot b o e n hb (by simp)) (fun b o _ e n => u.free b o e n (by simp)) (fun b o _ e => u.there b o e (by simp)) u.tups u.frzs u.tbls (fun m' hm => by
    obtain ⟨o', es', ep', ho', r'⟩ := hm
    rw [ho] at ho'; cases ho'
    exact ⟨_, es', ep', hL, r'⟩) hok I.bare
/-- behind a call (or a comprehension's block): the slots of this frame may have changed too, the records at ch may have turned -/
theorem Inv.call {g' : Array GenState} {t' : Nat} {d' : Drawn} {ch : List Addr} (I : Inv X pins σ H s) (u : Un (frs X.stack) ch H H' s.heap h') (hok : HOk X.prog X.w H' h') (hg : AllBare g')
    (hch : ∀ b ∈ ch, (b ∈ X.ex ∨ X.s₀.heap.objs.size ≤ b) ∧ b ≠ X.env.locals ∧ (∀ x c, X.env.cells.lookup x = some c → c ≠ b) ∧ ∀ p ∈ X.pn ++ pins, p.1 ≠ b) :
    Inv X pins σ H' { s with heap := h', gens := g', drawn := d', toks := t' } := by
  obtain ⟨m, ⟨o, es, ep, ho, r⟩, _⟩ := id I.loc
  obtain ⟨sl, hL⟩ := u.any ho I.free fun z => (hch _ z).2.1 rfl
  exact I.step (ch := ch) hch (fun b o hL hb hc e n => u.keep b o e n (fun z => (List.mem_cons.mp (I.stkSub b z)).elim hL hb) hc) (fun b o _ _ hc e n => u.any e n hc) (fun b o hc e n => u.free b o e n hc) (fun b o hc e => u.there b o e hc) u.tups u.frzs u.tbls (fun m' hm => by
    obtain ⟨o', es', ep', ho', r'⟩ := hm
    rw [ho] at ho'; cases ho'
    exact ⟨_, es', ep', hL, r'⟩) hok hg
/-- an untracked record of ours (an iterator) has turned -/
theorem Inv.turned {t' : Nat} {it : Addr} (I : Inv X pins σ H s) (k : ∀ b o, b ≠ it → s.heap.get? b = some o → h'.get? b = some o) (hn : H it = none) (hL : it ≠ X.env.locals)
    (h1 : it ∈ X.ex ∨ X.s₀.heap.objs.size ≤ it) (h2 : ∀ x c, X.env.cells.lookup x = some c → c ≠ it) (h3 : ∀ p ∈ X.pn ++ pins, p.1 ≠ it) : Inv X pins σ H { s with heap := h', toks := t' } := by
  have nit : ∀ b u, H b = some u → b ≠ it := fun b u e z => by rw [z, hn] at e; cases e
  refine I.step (g' := s.gens) (d' := s.drawn) (ch := [it]) (fun b hb => ?_) (fun b o _ _ hc e _ => k b o (fun z => hc (by simp [z])) e) (fun b o _ _ hc e _ => ⟨o.slots, k b o (fun z => hc (by simp [z])) e⟩) (fun _ _ _ _ n => n)
    (fun b o hc e => ⟨o, k b o (fun z => hc (by simp [z])) e⟩) (fun _ _ e => e) (fun _ _ _ e => e) (fun b ps e => ⟨#[], by rw [e]; simp⟩) (fun m hm => ?_) (fun b u e => ?_) I.bare
  · have e : b = it := by simpa using hb
    subst e
    exact ⟨h1, hL, h2, h3⟩
  · obtain ⟨o, es, ep, ho, r⟩ := hm
    exact ⟨o, es, ep, k _ o (Ne.symm hL) ho, r⟩
  · refine (I.hok b u e).stay (fun c v hc q => k c v ?_ q) (fun _ q => q) fun _ _ q => q
    rcases hc with z | z
    · rw [z]; exact nit b u e
    · exact nit c _ z
theorem Inv.tok (I : Inv X pins σ H s) (t : Nat) : Inv X pins σ H { s with toks := t } := I.un (h' := s.heap) (t' := t) Un.refl I.hok
/-- all objects kept -/
theorem Inv.kept {t' : Nat} (I : Inv X pins σ H s) (k : ∀ b u, s.heap.get? b = some u → h'.get? b = some u) : Inv X pins σ H { s with heap := h', toks := t' } := I.un (Un.kept k) (I.hok.kept k)
/-- a new object laid and tracked -/
theorem Inv.laid {a : Addr} {o : HO} {t' : Nat} (I : Inv X pins σ H s) (k : ∀ b u, s.heap.get? b = some u → h'.get? b = some u) (hp : s.heap.objs.size ≤ a) (new : ObjOk X.prog X.w (upd H a o) h' a o) :
    Inv X pins σ (upd H a o) { s with heap := h', toks := t' } := I.un (Un.laid k hp (I.hok.fresh hp)) (I.hok.laid k hp new)
/-- an object written -/
theorem Inv.write {x e : Addr} {o : HO} {t' : Nat} (I : Inv X pins σ H s) (mu : Mut (H x)) (he : e = x ∨ H e = some (.own x)) (k : ∀ b u, b ≠ e → s.heap.get? b = some u → h'.get? b = some u) (heo : ∃ u, h'.get? e = some u)
    (new : ObjOk X.prog X.w (upd H x o) h' x o) : Inv X pins σ (upd H x o) { s with heap := h', toks := t' } := I.un (Un.write mu he k heo) (I.hok.write mu he k heo new)
theorem Inv.pins_of {pins' : List (Addr × Obj)} (I : Inv X pins σ H s) (h : ∀ p ∈ pins', s.heap.get? p.1 = some p.2 ∧ H p.1 = none ∧ p.1 ≠ X.env.locals ∧ p.1 ∉ X.fs ∧ ∀ v, p.2.data ≠ .cell v) : Inv X pins' σ H s :=
  ⟨I.ok, I.os, I.bare, I.base, I.loc, I.cell, I.free, I.freeC, fun p hp => (List.mem_append.mp hp).elim (fun z => I.pin p (List.mem_append_left _ z)) (h p), I.hok, I.len⟩

theorem nodup_ix {N : List Str} (hN : N.Nodup) {i j : Nat} {x : Str} (a : N[i]? = some x) (b : N[j]? = some x) : i = j := by
  obtain ⟨h1, e1⟩ := List.getElem?_eq_some_iff.mp a
  obtain ⟨h2, e2⟩ := List.getElem?_eq_some_iff.mp b
  exact (List.getElem_inj hN).mp (e1.trans e2.symm)

/-- a name is stored; what changed -/
theorem store_ok2 {M : Model} {A : Around} {E : Value → Shared → Prop} {i : Nat} {x : Str} {v : V} {u : Value} {Q : Unit → Shared → Prop} (I : Inv X pins σ H s) (hN : X.N.Nodup) (hi : X.N[i]? = some x) (hx : Loc X.env.scope x) (r : RelV v u)
    (h : ∀ s', Inv X pins (σ.set i (some v)) H s' → (∃ a, Heap.SameBut a s.heap s'.heap ∧ (a = X.env.locals ∨ X.env.cells.lookup x = some a)) → Q () s') (hf : X.fn x = true ∨ X.env.scope.names.lookup x = some .local := by first | exact .inl rfl | exact .inr rfl | assumption) : wpAny M A (storeName X.env x u) Q E s := by
  obtain ⟨m, hn, hl⟩ := id I.loc
  have hcls : (X.env.scope.kind == .class || (X.env.scope.kind == .module && X.env.locals != X.env.globals)) = false := by rw [I.ok.kind]; rfl
  have hiσ : i < σ.length := by rw [I.len]; exact (List.getElem?_eq_some_iff.mp hi).1
  have cne := I.cne
  have tracked : ∀ {a : Addr} {h' : Heap}, (∃ o, s.heap.get? a = some o ∧ H a = none) → Heap.SameBut a s.heap h' → HOk X.prog X.w H h' := fun {a h'} ha hs b ob e => by
    obtain ⟨_, _, hfree⟩ := ha
    refine (I.hok b ob e).stay (fun c w' hc q => (hs.2 c ?_).trans q) (fun _ q => q) fun _ _ q => q
    rintro rfl
    rcases hc with rfl | hc
    · rw [hfree] at e; cases e
    · rw [hfree] at hc; cases hc
  rcases hx with hk | hk
  · refine wpAny_storeName_local hk hn (fun h' hn' hs => ?_) hcls
    obtain ⟨oL, _, _, hoL, _⟩ := id hn
    refine h _ ⟨I.ok, I.os, I.bare, ⟨fun b o e n hb hx => ?_, fun b o e n hb hx => ?_, I.base.free, fun b o e hx => ?_, I.base.tups, I.base.frzs, I.base.tbls⟩, ⟨_, hn', fun j y v' e1 e2 e3 => ?_⟩, fun y c e => ?_, I.free, I.freeC, fun p hp => ?_, tracked ⟨oL, hoL, I.free⟩ hs, by simpa using I.len⟩ ⟨_, hs, .inl rfl⟩
    · exact (hs.2 b (Nat.ne_of_lt (Nat.lt_of_lt_of_le (Heap.lt_size e) I.ok.above))).trans (I.base.keep b o e n hb hx)
    · obtain ⟨sl, e1⟩ := I.base.slot b o e n hb hx
      exact ⟨sl, (hs.2 b (Nat.ne_of_lt (Nat.lt_of_lt_of_le (Heap.lt_size e) I.ok.above))).trans e1⟩
    · obtain ⟨o', e1⟩ := I.base.there b o e hx
      exact ⟨o', (hs.2 b (Nat.ne_of_lt (Nat.lt_of_lt_of_le (Heap.lt_size e) I.ok.above))).trans e1⟩
    · by_cases hj : j = i
      · subst hj
        rw [hi] at e1; cases e1
        rw [List.getElem?_set_self hiσ] at e2
        cases e2
        exact ⟨u, r, .inl ⟨hk, by simp⟩⟩
      · rw [List.getElem?_set_ne (Ne.symm hj)] at e2
        obtain ⟨u', r', q⟩ := hl j y v' e1 e2 e3
        refine ⟨u', r', ?_⟩
        rcases q with ⟨k, e⟩ | ⟨k, c, e, z⟩
        · refine .inl ⟨k, ?_⟩
          have : y ≠ x := fun e => hj (nodup_ix hN e1 (e ▸ hi))
          simp [this, e]
        · exact .inr ⟨k, c, e, z.sameBut hs (cne y c e)⟩
    · obtain ⟨w', z⟩ := I.cell y c e
      exact ⟨w', z.sameBut hs (cne y c e)⟩
    · obtain ⟨e, n, ne, nf, d⟩ := I.pin p hp
      exact ⟨(hs.2 p.1 ne).trans e, n, ne, nf, d⟩
  · have hfn : X.fn x = true := by
      rcases hf with z | z
      · exact z
      · rw [z] at hk; cases hk
    obtain ⟨c, hc⟩ := I.ok.has x (.inl hk)
    obtain ⟨w', z⟩ := I.cell x c hc
    refine wpAny_storeName_cell I.ok.kind hk hc z (fun h' hc' hs => ?_)
    obtain ⟨oc, hoc, hocd⟩ := id z
    refine h { s with heap := h' } ⟨I.ok, I.os, I.bare, ⟨fun b o e n hb hx => ?_, fun b o e n hb hx => ?_, I.base.free, fun b o e hx => ?_, I.base.tups, I.base.frzs, I.base.tbls⟩, ⟨m, hn.sameBut hs (Ne.symm (cne x c hc)), fun j y v' e1 e2 e3 => ?_⟩, fun y c' e => ?_, I.free, I.freeC, fun p hp => ?_, tracked ⟨oc, hoc, I.freeC x c hc⟩ hs, by simpa using I.len⟩ ⟨c, hs, .inr hc⟩
    · exact (hs.2 b (Nat.ne_of_lt (Nat.lt_of_lt_of_le (Heap.lt_size e) (I.ok.cab x c hfn hc)))).trans (I.base.keep b o e n hb hx)
    · obtain ⟨sl, e1⟩ := I.base.slot b o e n hb hx
      exact ⟨sl, (hs.2 b (Nat.ne_of_lt (Nat.lt_of_lt_of_le (Heap.lt_size e) (I.ok.cab x c hfn hc)))).trans e1⟩
    · obtain ⟨o', e1⟩ := I.base.there b o e hx
      exact ⟨o', (hs.2 b (Nat.ne_of_lt (Nat.lt_of_lt_of_le (Heap.lt_size e) (I.ok.cab x c hfn hc)))).trans e1⟩
    · by_cases hj : j = i
      · subst hj
        rw [hi] at e1; cases e1
        rw [List.getElem?_set_self hiσ] at e2
        cases e2
        exact ⟨u, r, .inr ⟨.inl hk, c, hc, hc'⟩⟩
      · rw [List.getElem?_set_ne (Ne.symm hj)] at e2
        obtain ⟨u', r', q⟩ := hl j y v' e1 e2 e3
        refine ⟨u', r', ?_⟩
        rcases q with q | ⟨k, c', e, z'⟩
        · exact .inl q
        · refine .inr ⟨k, c', e, z'.sameBut hs ?_⟩
          rintro rfl
          exact hj (nodup_ix hN e1 (I.ok.inj _ _ _ e hc ▸ hi))
    · by_cases hcc : c' = c
      · subst hcc; exact ⟨_, hc'⟩
      · obtain ⟨w2, z2⟩ := I.cell y c' e
        exact ⟨w2, z2.sameBut hs hcc⟩
    · obtain ⟨e, n, ne, nf, d⟩ := I.pin p hp
      refine ⟨(hs.2 p.1 ?_).trans e, n, ne, nf, d⟩
      intro q
      rw [q, hoc] at e
      have q' : oc = p.2 := Option.some.inj e
      exact d w' (by rw [← q']; exact hocd)
theorem store_ok {M : Model} {A : Around} {E : Value → Shared → Prop} {i : Nat} {x : Str} {v : V} {u : Value} {Q : Unit → Shared → Prop} (I : Inv X pins σ H s) (hN : X.N.Nodup) (hi : X.N[i]? = some x) (hx : Loc X.env.scope x) (r : RelV v u)
    (h : ∀ s', Inv X pins (σ.set i (some v)) H s' → Q () s') (hf : X.fn x = true ∨ X.env.scope.names.lookup x = some .local := by first | exact .inl rfl | exact .inr rfl | assumption) : wpAny M A (storeName X.env x u) Q E s :=
  store_ok2 I hN hi hx r (fun s' I' _ => h s' I') hf
/-- behind a call or a block, the state as it is -/
theorem Inv.call' {s' : Shared} {ch : List Addr} (I : Inv X pins σ H s) (ho : s'.os = s.os) (u : Un (frs X.stack) ch H H' s.heap s'.heap) (hok : HOk X.prog X.w H' s'.heap) (hg : AllBare s'.gens)
    (hch : ∀ b ∈ ch, (b ∈ X.ex ∨ X.s₀.heap.objs.size ≤ b) ∧ b ≠ X.env.locals ∧ (∀ x c, X.env.cells.lookup x = some c → c ≠ b) ∧ ∀ p ∈ X.pn ++ pins, p.1 ≠ b) : Inv X pins σ H' s' := by
  obtain ⟨h', g', d', t', o'⟩ := s'
  have e : o' = s.os := ho
  subst e
  exact I.call (g' := g') (t' := t') (d' := d') u hok hg hch
end

/-! ### the judgements -/
/-- an exception: its class, its own dict's address (where it has one), the abstract heap behind it -/
abbrev XK := Value → Option Addr → Hp → Prop
abbrev St := List (Option V)
abbrev VK := V → Hp → Prop
/-- an expression's reading; a test's; an argument list's -/
abbrev TE := St → Hp → VK → Prop
abbrev TT := St → Hp → (Bool → Hp → Prop) → Prop
abbrev TA := St → Hp → (List V → Hp → Prop) → Prop
/-- what is wanted behind a statement -/
structure Ends where
  nx : St → Hp → Prop
  rt : VK
  bk : St → Hp → Prop := fun _ _ => False
  ct : St → Hp → Prop := fun _ _ => False
abbrev TS := Ends → St → Hp → Prop

def EP (X : Cx) (pins : List (Addr × Obj)) (σ : St) (Q : VK) (u : Value) (s' : Shared) : Prop := ∃ v H', Inv X pins σ H' s' ∧ RelV v u ∧ Q v H'
def TP (X : Cx) (pins : List (Addr × Obj)) (σ : St) (Q : Bool → Hp → Prop) (b : Bool) (s' : Shared) : Prop := ∃ H', Inv X pins σ H' s' ∧ Q b H'
def AP (X : Cx) (pins : List (Addr × Obj)) (σ : St) (Q : List V → Hp → Prop) (us : List Value) (s' : Shared) : Prop := ∃ vs H', Inv X pins σ H' s' ∧ Vals vs us ∧ Q vs H'
def SP (X : Cx) (pins : List (Addr × Obj)) (D : Ends) (f : Flow) (s' : Shared) : Prop :=
  match f with
  | .next => ∃ σ' H', Inv X pins σ' H' s' ∧ D.nx σ' H'
  | .brk => ∃ σ' H', Inv X pins σ' H' s' ∧ D.bk σ' H'
  | .cont => ∃ σ' H', Inv X pins σ' H' s' ∧ D.ct σ' H'
  | .ret u => ∃ v σ' H', Inv X pins σ' H' s' ∧ RelV v u ∧ D.rt v H'

def PE (X : Cx) (e : Expr) (t : TE) : Prop :=
  ∀ (pins : List (Addr × Obj)) (s : Shared) (σ : St) (H : Hp) (Q : VK), Inv X pins σ H s → t σ H Q → wpAny (model X.prog X.w) X.A (eval e X.env) (EP X pins σ Q) X.xe s
def PT (X : Cx) (e : Expr) (t : TT) : Prop :=
  ∀ (pins : List (Addr × Obj)) (s : Shared) (σ : St) (H : Hp) (Q : Bool → Hp → Prop), Inv X pins σ H s → t σ H Q → wpAny (model X.prog X.w) X.A (isTrue e X.env (eval e X.env)) (TP X pins σ Q) X.xe s
/-- a test whatever its 'whole' is (and, or) -/
def PW (X : Cx) (e : Expr) (t : TT) : Prop :=
  ∀ (whole : Sem Value) (pins : List (Addr × Obj)) (s : Shared) (σ : St) (H : Hp) (Q : Bool → Hp → Prop), Inv X pins σ H s → t σ H Q → wpAny (model X.prog X.w) X.A (isTrue e X.env whole) (TP X pins σ Q) X.xe s
theorem PW.pt {X : Cx} {e : Expr} {t : TT} (h : PW X e t) : PT X e t := h _
/-- an argument list (no star), from the left -/
def PA (X : Cx) (es : List Expr) (t : TA) : Prop :=
  ∀ (pos : Pos) (pins : List (Addr × Obj)) (s : Shared) (σ : St) (H : Hp) (Q : List V → Hp → Prop), Inv X pins σ H s → t σ H Q → wpAny (model X.prog X.w) X.A (spliced (backTo pos (starEach es X.env))) (AP X pins σ Q) X.xe s
def PS (X : Cx) (st : Stmt) (t : TS) : Prop :=
  ∀ (pins : List (Addr × Obj)) (s : Shared) (σ : St) (H : Hp) (D : Ends), Inv X pins σ H s → t D σ H → wpAny (model X.prog X.w) X.A (exec st X.env) (SP X pins D) X.xe s
def PSs (X : Cx) (st : List Stmt) (t : TS) : Prop :=
  ∀ (pins : List (Addr × Obj)) (s : Shared) (σ : St) (H : Hp) (D : Ends), Inv X pins σ H s → t D σ H → wpAny (model X.prog X.w) X.A (execs st X.env) (SP X pins D) X.xe s
/-- weaken the end -/
theorem thn {α : Type} {t : Sem α} {Q Q' : α → Shared → Prop} {M : Model} {A : Around} {E : Value → Shared → Prop} {s : Shared} (h : wpAny M A t Q E s) (hQ : ∀ a s, Q a s → Q' a s) : wpAny M A t Q' E s := wpAny_mono h hQ fun _ _ x => x
end L2

namespace L2
open PySem PySem.Spec PyProof.Rows
section
variable {X : Cx}

/-! ### names and constants -/
def tVar (i : Nat) : TE := fun σ H Q => ∃ v, σ[i]? = some (some v) ∧ Q v H
def tC (v : V) : TE := fun _ H Q => Q v H
theorem pe_var {i : Nat} {x : Str} {pos : Pos} (hN : X.N[i]? = some x) (hv : Vis X.env.scope x) (hd : (x == ("__debug__" : Str)) = false := by decide) (hcd : (x == ("__classdict__" : Str)) = false := by decide) : PE X (.Name x pos) (tVar i) := by
  intro pins s σ H Q I h
  obtain ⟨v, e, h⟩ := h
  obtain ⟨m, hn, hl⟩ := I.loc
  obtain ⟨u, r, l⟩ := hl i x v hN e hv
  have fin : EP X pins σ Q u s := ⟨v, H, I, r, h⟩
  rcases l with ⟨hk, hm⟩ | ⟨hk, c, hc, hcell⟩
  · exact wpAny_Name (wpAny_loadName_local I.ok.kind hk hn hm fin) hd
  · rcases hk with hk | hk
    · exact wpAny_Name (wpAny_loadName_cell I.ok.kind hk hc hcell fin) hd
    · exact wpAny_Name (wpAny_loadName_free I.ok.kind hk hc hcell fin hcd) hd
theorem pe_int {i j pos} : PE X (.Constant (.int i) j pos) (tC (.int i)) := fun _ _ _ H _ I h => wpAny_Constant_int ⟨.int i, H, I.tok _, ⟨_, rfl⟩, h⟩
theorem pe_bl {b j pos} : PE X (.Constant (.bool b) j pos) (tC (.bl b)) := fun _ _ _ H _ I h => Constant_bool ⟨.bl b, H, I, rfl, h⟩
theorem pe_str {x j pos} : PE X (.Constant (.str x) j pos) (tC (.str x)) := fun _ _ _ H _ I h => Calls.Constant_str ⟨.str x, H, I.tok _, ⟨_, rfl⟩, h⟩

/-- a global name of the def -/
def Gl (X : Cx) (x : Str) : Prop := X.env.kindOf x = some .globalImplicit
theorem ld_glob {E : Value → Shared → Prop} {pins : List (Addr × Obj)} {s : Shared} {σ : St} {H : Hp} {x : Str} {u : Value} {pos : Pos} {Q : Value → Shared → Prop} (I : Inv X pins σ H s) (hg : Gl X x) (hm : X.mg x = some u) (h : Q u s)
    (hd : (x == ("__debug__" : Str)) = false := by decide) : wpAny (model X.prog X.w) X.A (eval (.Name x pos) X.env) Q E s :=
  Calls.Name_function_global I.ok.kind hg (Calls.loadGlobal_global (by rw [I.ok.glob]; exact I.mod.glob.keeps I.bk) hm h) hd
theorem ld_blt {E : Value → Shared → Prop} {pins : List (Addr × Obj)} {s : Shared} {σ : St} {H : Hp} {x : Str} {u : Value} {pos : Pos} {Q : Value → Shared → Prop} (I : Inv X pins σ H s) (hg : Gl X x) (hm : X.mg x = none) (hv : bootBuiltins x = some u) (h : Q u s)
    (hn : x ≠ "__name__" := by decide) (hd : (x == ("__debug__" : Str)) = false := by decide) : wpAny (model X.prog X.w) X.A (eval (.Name x pos) X.env) Q E s := by
  obtain ⟨mb, h1, h2⟩ := I.mod.blt
  exact Calls.Name_function_global I.ok.kind hg (Calls.loadGlobal_builtin (by rw [I.ok.glob]; exact I.mod.glob.keeps I.bk) hm (by rw [I.ok.blt]; exact h1.keeps I.bk) ((h2 x hn).trans hv) h) hd
theorem pe_bltn {x : Str} {v : V} {u : Value} {pos : Pos} (hg : Gl X x) (hm : X.mg x = none) (hv : bootBuiltins x = some u) (r : RelV v u) (hn : x ≠ "__name__" := by decide) (hd : (x == ("__debug__" : Str)) = false := by decide) : PE X (.Name x pos) (tC v) :=
  fun _ _ _ H _ I h => ld_blt I hg hm hv ⟨v, H, I, r, h⟩ hn hd

/-! ### arithmetic -/
/-- two ints -/
def t2I (ta tb : TE) (k : Int → Int → Hp → Prop) : St → Hp → Prop := fun σ H => ta σ H fun x H1 => tb σ H1 fun y H2 => ∃ i j, x = .int i ∧ y = .int j ∧ k i j H2
def tAdd (ta tb : TE) : TE := fun σ H Q => t2I ta tb (fun i j H2 => Q (.int (i + j)) H2) σ H
def tSub (ta tb : TE) : TE := fun σ H Q => t2I ta tb (fun i j H2 => Q (.int (i - j)) H2) σ H
/-- the left factor below 2^64 -/
def tMul (ta tb : TE) : TE := fun σ H Q => t2I ta tb (fun i j H2 => (-(2 ^ 64) < i ∧ i < 2 ^ 64) ∧ Q (.int (i * j)) H2) σ H
variable {a b : Expr} {ta tb : TE} {pos : Pos}
/-! ### comparisons -/
def PC (X : Cx) (op : CmpOp) (a b : Expr) (t : TE) : Prop :=
  ∀ (pins : List (Addr × Obj)) (s : Shared) (σ : St) (H : Hp) (Q : VK), Inv X pins σ H s → t σ H Q →
    wpAny (model X.prog X.w) X.A (eval a X.env) (fun v s₁ => wpAny (model X.prog X.w) X.A (eval b X.env) (fun u s₂ => wpAny (model X.prog X.w) X.A (compareOp op v u) (EP X pins σ Q) X.xe s₂) X.xe s₁) X.xe s
def tCmp (p : Int → Int → Bool) (ta tb : TE) : TE := fun σ H Q => t2I ta tb (fun i j H2 => Q (.bl (p i j)) H2) σ H
abbrev tLt : TE → TE → TE := tCmp fun i j => decide (i < j)
abbrev tLe : TE → TE → TE := tCmp fun i j => decide (i ≤ j)
abbrev tGt : TE → TE → TE := tCmp fun i j => decide (j < i)
abbrev tGe : TE → TE → TE := tCmp fun i j => decide (j ≤ i)
abbrev tEqI : TE → TE → TE := tCmp fun i j => decide (i = j)
abbrev tNeI : TE → TE → TE := tCmp fun i j => !decide (i = j)
/-- is None -/
def tIsN (ta : TE) : TE := fun σ H Q => ta σ H fun x H1 => Q (.bl (decide (x = .non))) H1
def tNotN (ta : TE) : TE := fun σ H Q => ta σ H fun x H1 => Q (.bl (!decide (x = .non))) H1
/-- a comparison as a value, as a test -/
def tB (t : TE) : TT := fun σ H Q => t σ H fun x H1 => ∃ c, x = .bl c ∧ Q c H1
/-- an expression whose value is a bool, as a test -/
theorem pt_val {e : Expr} {t : TE} (h : PE X e t) (he : ∀ whole, isTrue e X.env whole = (do let v ← whole; standAt e.pos; holding [v] (truthy v)) := by intro _; rfl) : PT X e (tB t) := by
  intro pins s σ H Q I hw
  refine isTrue_plain (thn (h pins s σ H _ I hw) fun v s1 ⟨x, H1, I1, r1, q1⟩ => ?_) (he _)
  obtain ⟨d, rfl, q⟩ := q1
  cases r1
  exact wpAny_truthy_bool ⟨H1, I1, q⟩

/-! ### and, or, not -/
variable {tA tB' : TT} {rest : List Expr}
def tAnd (t u : TT) : TT := fun σ H Q => t σ H fun c H1 => if c = true then u σ H1 Q else Q false H1
def tOr (t u : TT) : TT := fun σ H Q => t σ H fun c H1 => if c = true then Q true H1 else u σ H1 Q
def tNot (t : TT) : TT := fun σ H Q => t σ H fun c H1 => Q (!c) H1
theorem pw_and1 (ha : PT X a tA) : PW X (.BoolOp .And [a] pos) tA := by
  intro wh pins s σ H Q I h
  refine isTrue_and (thn (ha pins s σ H Q I h) fun c s1 e => ?_)
  cases c with
  | true => exact isTrue_and_nil e
  | false => exact e
theorem pw_or1 (ha : PT X a tA) : PW X (.BoolOp .Or [a] pos) tA := by
  intro wh pins s σ H Q I h
  refine isTrue_or (thn (ha pins s σ H Q I h) fun c s1 e => ?_)
  cases c with
  | false => exact isTrue_or_nil e
  | true => exact e
theorem pw_and (ha : PT X a tA) (hb : PW X (.BoolOp .And (b :: rest) pos) tB') : PW X (.BoolOp .And (a :: b :: rest) pos) (tAnd tA tB') := by
  intro wh pins s σ H Q I h
  refine isTrue_and (thn (ha pins s σ H _ I h) fun c s1 ⟨H1, I1, q1⟩ => ?_)
  cases c with
  | true => exact hb wh pins s1 σ H1 Q I1 q1
  | false => exact ⟨H1, I1, q1⟩
theorem pw_or (ha : PT X a tA) (hb : PW X (.BoolOp .Or (b :: rest) pos) tB') : PW X (.BoolOp .Or (a :: b :: rest) pos) (tOr tA tB') := by
  intro wh pins s σ H Q I h
  refine isTrue_or (thn (ha pins s σ H _ I h) fun c s1 ⟨H1, I1, q1⟩ => ?_)
  cases c with
  | true => exact ⟨H1, I1, q1⟩
  | false => exact hb wh pins s1 σ H1 Q I1 q1
theorem pt_not (ha : PT X a tA) : PT X (.UnaryOp .Not a pos) (tNot tA) := by
  intro pins s σ H Q I h
  exact isTrue_not (ha pins s σ H (fun c H1 => Q (!c) H1) I h)
/-- .. as values (bools) -/
def tAndV (ta tb : TE) : TE := fun σ H Q => ta σ H fun x H1 => ∃ c, x = .bl c ∧ if c = true then tb σ H1 Q else Q (.bl false) H1
def tOrV (ta tb : TE) : TE := fun σ H Q => ta σ H fun x H1 => ∃ c, x = .bl c ∧ if c = true then Q (.bl true) H1 else tb σ H1 Q
def tNotV (ta : TE) : TE := fun σ H Q => ta σ H fun x H1 => ∃ c, x = .bl c ∧ Q (.bl (!c)) H1
theorem pe_one {op} {t : TE} (h : PE X a t) : PE X (.BoolOp op [a] pos) t := fun pins s σ H Q I hw => BoolOp_one (h pins s σ H Q I hw)
theorem pe_and (ha : PE X a ta) (hb : PE X (.BoolOp .And (b :: rest) pos) tb) : PE X (.BoolOp .And (a :: b :: rest) pos) (tAndV ta tb) := by
  intro pins s σ H Q I h
  refine BoolOp_and (thn (ha pins s σ H _ I h) fun v s1 ⟨x, H1, I1, r1, q1⟩ => ?_)
  obtain ⟨c, rfl, q1⟩ := q1
  cases r1
  refine wpAny_truthy_bool ?_
  cases c with
  | true => exact hb pins s1 σ H1 Q I1 q1
  | false => exact ⟨.bl false, H1, I1, rfl, q1⟩
theorem pe_not (ha : PE X a ta) : PE X (.UnaryOp .Not a pos) (tNotV ta) := by
  intro pins s σ H Q I h
  refine UnaryOp_ (thn (ha pins s σ H _ I h) fun v s1 ⟨x, H1, I1, r1, q1⟩ => ?_)
  obtain ⟨c, rfl, q1⟩ := q1
  cases r1
  exact not_of (wpAny_truthy_bool ⟨.bl (!c), H1, I1, rfl, q1⟩)
/-- a if t else b -/
def tIf (t : TT) (ta tb : TE) : TE := fun σ H Q => t σ H fun c H1 => if c = true then ta σ H1 Q else tb σ H1 Q
end
end L2

namespace L2
open PySem PySem.Spec PyProof.Rows

/-! ### a list, a tuple that is read: tracked, frozen, or an object of the module -/
def SqL (K : PySem.W.Frag) (H : Hp) (a : Addr) (xs : List V) : Prop :=
  Rd H a (.lst xs) ∨
    ∃ (o : Obj) (its : Array Value) (n : Nat), K.lookup a = some o ∧ o.cls = .type "list" ∧ o.dict = none ∧ o.data = .seq its n ∧ its.size ≤ sizeLine ∧ Vals xs its.toList
def SqT (K : PySem.W.Frag) (H : Hp) (a : Addr) (xs : List V) : Prop :=
  Rd H a (.tup xs) ∨
    ∃ (o : Obj) (its : Array Value) (n : Nat), K.lookup a = some o ∧ o.cls = .type "tuple" ∧ o.data = .seq its n ∧ its.size ≤ sizeLine ∧ Vals xs its.toList
def absV : Value → Option V
  | .none => some .non
  | .bool b => some (.bl b)
  | .int i _ => some (.int i)
  | .str x _ => some (.str x)
  | .bytes b _ => some (.byt b)
  | .float b _ => some (.flt b)
  | .ref a => some (.ref a)
  | .type n => some (.ty n)
  | _ => none
theorem RelV.abs {x : V} {u : Value} (r : RelV x u) : absV u = some x := by
  cases x with
  | non => cases r; rfl
  | bl _ => cases r; rfl
  | int _ => obtain ⟨t, rfl⟩ := r; rfl
  | str _ => obtain ⟨t, rfl⟩ := r; rfl
  | byt _ => obtain ⟨t, rfl⟩ := r; rfl
  | flt _ => obtain ⟨t, rfl⟩ := r; rfl
  | ref _ => cases r; rfl
  | ty _ => cases r; rfl
theorem RelV.inj {x y : V} {u : Value} (r : RelV x u) (q : RelV y u) : x = y := Option.some.inj (r.abs.symm.trans q.abs)
theorem Vals.inj : ∀ {xs ys : List V} {us : List Value}, Vals xs us → Vals ys us → xs = ys
  | _, _, _, .nil, .nil => rfl
  | _, _, _, .cons r t, .cons r' t' => by rw [r.inj r', Vals.inj t t']
section
variable {X : Cx} {pins : List (Addr × Obj)} {σ : St} {H : Hp} {s : Shared} {a : Addr} {xs ys : List V}
theorem SqL.of {K : PySem.W.Frag} (h : H a = some (.lst xs)) : SqL K H a xs := .inl (.inl h)
theorem SqT.of {K : PySem.W.Frag} (h : H a = some (.tup xs)) : SqT K H a xs := .inl (.inl h)
theorem Inv.list (I : Inv X pins σ H s) (h : SqL X.K H a xs) : ∃ its : List Value, Vals xs its ∧ PlainL s.heap a its.toArray ∧ xs.length ≤ sizeLine := by
  rcases h with h | ⟨o, its, n, hk, hc, hd, hs, hz, r⟩
  · obtain ⟨z, its, n, r, e⟩ := h.ok I.hok
    exact ⟨its, r, ⟨_, n, e, rfl, rfl, rfl⟩, z⟩
  · refine ⟨its.toList, r, ⟨o, n, I.kIn a o hk, hc, hd, by simpa using hs⟩, ?_⟩
    have e := r.length
    simp only [Array.length_toList] at e
    omega
theorem Inv.tuple (I : Inv X pins σ H s) (h : SqT X.K H a xs) : ∃ its : List Value, Vals xs its ∧ IsTup s.heap a its.toArray ∧ xs.length ≤ sizeLine := by
  rcases h with h | ⟨o, its, n, hk, hc, hs, hz, r⟩
  · obtain ⟨z, its, r, p⟩ := h.ok I.hok
    exact ⟨its, r, p, z⟩
  · refine ⟨its.toList, r, ⟨o, I.kIn a o hk, hc, n, by simpa using hs⟩, ?_⟩
    have e := r.length
    simp only [Array.length_toList] at e
    omega
theorem Inv.list_inj (I : Inv X pins σ H s) (h : SqL X.K H a xs) (h' : SqL X.K H a ys) : xs = ys := by
  obtain ⟨its, r, ⟨o, n, e, _, _, d⟩, _⟩ := I.list h
  obtain ⟨its', r', ⟨o', n', e', _, _, d'⟩, _⟩ := I.list h'
  rw [e] at e'; cases e'
  rw [d] at d'
  injection d' with d1 _
  have : its = its' := by simpa using congrArg Array.toList d1
  subst this
  exact r.inj r'
theorem Inv.tuple_inj (I : Inv X pins σ H s) (h : SqT X.K H a xs) (h' : SqT X.K H a ys) : xs = ys := by
  obtain ⟨its, r, ⟨o, e, _, n, d⟩, _⟩ := I.tuple h
  obtain ⟨its', r', ⟨o', e', _, n', d'⟩, _⟩ := I.tuple h'
  rw [e] at e'; cases e'
  rw [d] at d'
  injection d' with d1 _
  have : its = its' := by simpa using congrArg Array.toList d1
  subst this
  exact r.inj r'
end

/-! ### another wish about exceptions -/
abbrev Cx.wish (X : Cx) (E : Value → Shared → Prop) : Cx := { X with xe := E }
/-- no exception leaves -/
abbrev Cx.nox (X : Cx) : Cx := X.wish fun _ _ => False
theorem Cx.Ok.wish {X : Cx} (ok : X.Ok) (E : Value → Shared → Prop) : (X.wish E).Ok :=
  ⟨ok.mod, ok.kind, ok.glob, ok.blt, ok.above, ok.inj, ok.has, ok.cab, ok.hd, ok.frames, ok.stk, ok.exf, ok.bs, ok.bsz, ok.noex, ok.exfs, ok.funs, ok.frf⟩
theorem Cx.Ok.unwish {X : Cx} {E : Value → Shared → Prop} (ok : (X.wish E).Ok) : X.Ok :=
  ⟨ok.mod, ok.kind, ok.glob, ok.blt, ok.above, ok.inj, ok.has, ok.cab, ok.hd, ok.frames, ok.stk, ok.exf, ok.bs, ok.bsz, ok.noex, ok.exfs, ok.funs, ok.frf⟩
section
variable {X : Cx} {pins : List (Addr × Obj)} {σ : St} {H : Hp} {s : Shared} {E : Value → Shared → Prop}
theorem Inv.wish (I : Inv X pins σ H s) (E : Value → Shared → Prop) : Inv (X.wish E) pins σ H s := ⟨I.ok.wish E, I.os, I.bare, I.base, I.loc, I.cell, I.free, I.freeC, I.pin, I.hok, I.len⟩
theorem Inv.unwish (I : Inv (X.wish E) pins σ H s) : Inv X pins σ H s := ⟨I.ok.unwish, I.os, I.bare, I.base, I.loc, I.cell, I.free, I.freeC, I.pin, I.hok, I.len⟩
theorem SP.unwish {D : Ends} {f : Flow} {s' : Shared} (h : SP (X.wish E) pins D f s') : SP X pins D f s' := by
  cases f with
  | next => obtain ⟨σ', H', I, q⟩ := h; exact ⟨σ', H', I.unwish, q⟩
  | brk => obtain ⟨σ', H', I, q⟩ := h; exact ⟨σ', H', I.unwish, q⟩
  | cont => obtain ⟨σ', H', I, q⟩ := h; exact ⟨σ', H', I.unwish, q⟩
  | ret u => obtain ⟨v, σ', H', I, r, q⟩ := h; exact ⟨v, σ', H', I.unwish, r, q⟩
theorem PE.nox {e : Expr} {t : TE} (h : PE X.nox e t) : PE X e t := fun pins s σ H Q I hw =>
  wpAny_mono (h pins s σ H Q (I.wish _) hw) (fun _ _ ⟨v, H', I', r, q⟩ => ⟨v, H', I'.unwish, r, q⟩) fun _ _ z => False.elim z
theorem PT.nox {e : Expr} {t : TT} (h : PT X.nox e t) : PT X e t := fun pins s σ H Q I hw =>
  wpAny_mono (h pins s σ H Q (I.wish _) hw) (fun _ _ ⟨H', I', q⟩ => ⟨H', I'.unwish, q⟩) fun _ _ z => False.elim z
theorem PSs.nox {st : List Stmt} {t : TS} (h : PSs X.nox st t) : PSs X st t := fun pins s σ H D I hw =>
  wpAny_mono (h pins s σ H D (I.wish _) hw) (fun _ _ q => q.unwish) fun _ _ z => False.elim z
end

/-! ### blocks and small statements -/
section
variable {X : Cx} {st : Stmt} {rest : List Stmt} {t u : TS} {e : Expr} {te : TE} {pos : Pos}
def tNext : TS := fun D σ H => D.nx σ H
def tSeq (t u : TS) : TS := fun D σ H => t { D with nx := u D } σ H
theorem pss_nil : PSs X [] tNext := fun _ _ σ H _ I h => wpAny_execs_nil ⟨σ, H, I, h⟩
theorem pss_cons (h1 : PS X st t) (h2 : PSs X rest u) : PSs X (st :: rest) (tSeq t u) := by
  intro pins s σ H D I h
  refine wpAny_execs_cons (thn (h1 pins s σ H { D with nx := u D } I h) fun f s1 q => ?_)
  cases f with
  | next =>
    obtain ⟨σ', H', I', q⟩ := q
    exact h2 pins s1 σ' H' D I' q
  | ret v => exact q
  | brk => exact q
  | cont => exact q
theorem pss_one (h1 : PS X st t) : PSs X [st] t := by
  intro pins s σ H D I h
  refine wpAny_execs_cons (thn (h1 pins s σ H D I h) fun f s1 q => ?_)
  cases f with
  | next => exact wpAny_execs_nil q
  | ret v => exact q
  | brk => exact q
  | cont => exact q
def tBreak : TS := fun D σ H => D.bk σ H
def tCont : TS := fun D σ H => D.ct σ H
/-- in a def's body nothing is shown -/
theorem Inv.quiet {pins : List (Addr × Obj)} {σ : St} {H : Hp} {s : Shared} (I : Inv X pins σ H s) : interactive X.env = false := by simp [interactive, I.ok.kind]
/-- an expression whose value is dropped -/
def tDrop (te : TE) : TS := fun D σ H => te σ H fun _ H1 => D.nx σ H1
theorem ps_expr (he : PE X e te) (hs : swapsWith e none pos.line X.env = pure false := by rfl) : PS X (.Expr e pos) (tDrop te) := by
  intro pins s σ H D I h
  exact wpAny_Expr_any (thn (he pins s σ H _ I h) fun v s1 ⟨x, H1, I1, r1, q1⟩ => ⟨σ, H1, I1, q1⟩) I.quiet hs
def tRet (te : TE) : TS := fun D σ H => te σ H D.rt
theorem ps_ret (he : PE X e te) : PS X (.Return (some e) pos) (tRet te) := by
  intro pins s σ H D I h
  exact wpAny_Return_some (thn (he pins s σ H _ I h) fun v s1 ⟨x, H1, I1, r1, q1⟩ => ⟨x, σ, H1, I1, r1, q1⟩)
def tRetN : TS := fun D _ H => D.rt .non H
def tIfS (c : TT) (t u : TS) : TS := fun D σ H => c σ H fun b H1 => if b = true then t D σ H1 else u D σ H1
theorem ps_if {c : Expr} {a b : List Stmt} {tc : TT} (hc : PT X c tc) (ha : PSs X a t) (hb : PSs X b u) : PS X (.If c a b pos) (tIfS tc t u) := by
  intro pins s σ H D I h
  refine wpAny_If (thn (hc pins s σ H _ I h) fun d s1 ⟨H1, I1, q1⟩ => ?_)
  cases d with
  | true => exact ha pins s1 σ H1 D I1 q1
  | false => exact hb pins s1 σ H1 D I1 q1
/-- code that the proof never comes to -/
def tNever : TS := fun _ _ _ => False
theorem ps_never : PS X st tNever := fun _ _ _ _ _ _ h => h.elim
end

/-! ### targets -/
abbrev TG := V → St → Hp → (St → Hp → Prop) → Prop
abbrev TGs := List V → St → Hp → (St → Hp → Prop) → Prop
def PG (X : Cx) (target : Expr) (t : TG) : Prop :=
  ∀ (pins : List (Addr × Obj)) (s : Shared) (σ : St) (H : Hp) (v : V) (u : Value) (Q : St → Hp → Prop), Inv X pins σ H s → RelV v u → t v σ H Q →
    wpAny (model X.prog X.w) X.A (assign target X.env u) (fun _ s' => ∃ σ' H', Inv X pins σ' H' s' ∧ Q σ' H') X.xe s
/-- several targets, one after another -/
def PGs (X : Cx) (ts : List Expr) (t : TGs) : Prop :=
  ∀ (pins : List (Addr × Obj)) (s : Shared) (σ : St) (H : Hp) (vs : List V) (us : List Value) (Q : St → Hp → Prop), Inv X pins σ H s → Vals vs us → t vs σ H Q →
    wpAny (model X.prog X.w) X.A (assignInOrder ((assignEach ts X.env).map (·.2)) us) (fun _ s' => ∃ σ' H', Inv X pins σ' H' s' ∧ Q σ' H') X.xe s
/-- o[i] = v, by values -/
abbrev TSet := V → V → V → Hp → (Hp → Prop) → Prop
def PSet (X : Cx) (t : TSet) : Prop :=
  ∀ (pins : List (Addr × Obj)) (s : Shared) (σ : St) (H : Hp) (o i v : V) (ov iv u : Value) (Q : Hp → Prop), Inv X pins σ H s → RelV o ov → RelV i iv → RelV v u → t o i v H Q →
    wpAny (model X.prog X.w) X.A (setItem ov iv u) (fun _ s' => ∃ H', Inv X pins σ H' s' ∧ Q H') X.xe s
/-- a op= b, by values -/
abbrev TIp := V → V → Hp → VK → Prop
def PIp (X : Cx) (op : Operator) (t : TIp) : Prop :=
  ∀ (pins : List (Addr × Obj)) (s : Shared) (σ : St) (H : Hp) (x y : V) (v u : Value) (Q : VK), Inv X pins σ H s → RelV x v → RelV y u → t x y H Q →
    wpAny (model X.prog X.w) X.A (inplaceOp op v u) (EP X pins σ Q) X.xe s
section
variable {X : Cx} {pos : Pos}
def gName (i : Nat) : TG := fun v σ H Q => Q (σ.set i (some v)) H
theorem pg_name {i : Nat} {x : Str} (hN : X.N.Nodup) (hi : X.N[i]? = some x) (hx : Loc X.env.scope x) (hf : X.fn x = true ∨ X.env.scope.names.lookup x = some .local := by first | exact .inl rfl | exact .inr rfl | assumption) : PG X (.Name x pos) (gName i) := by
  intro pins s σ H v u Q I r h
  exact wpAny_assign_Name (store_ok I hN hi hx r (fun s' I' => ⟨_, H, I', h⟩) hf)
def gNil : TGs := fun vs σ H Q => vs = [] ∧ Q σ H
def gCons (t : TG) (u : TGs) : TGs := fun vs σ H Q => ∃ v r, vs = v :: r ∧ t v σ H fun σ' H' => u r σ' H' Q
theorem pgs_nil : PGs X [] gNil := by
  intro pins s σ H vs us Q I r h
  obtain ⟨e, h⟩ := h
  subst e
  cases r
  exact assignInOrder_nil ⟨σ, H, I, h⟩
theorem pgs_cons {e : Expr} {es : List Expr} {t : TG} {u : TGs} (h1 : PG X e t) (h2 : PGs X es u)
    (hs : (assignEach (e :: es) X.env).map (·.2) = assign e X.env :: (assignEach es X.env).map (·.2) := by rfl) : PGs X (e :: es) (gCons t u) := by
  intro pins s σ H vs us Q I r h
  obtain ⟨v, vr, e1, h⟩ := h
  subst e1
  cases r with
  | cons r rr =>
    rw [hs]
    refine assignInOrder_cons (thn (h1 pins s σ H _ _ _ I r h) fun _ s1 ⟨σ1, H1, I1, q1⟩ => ?_)
    exact h2 pins s1 σ1 H1 _ _ Q I1 rr q1
/-- (a, b, ..) = a tuple of that length -/
def gTup (K : PySem.W.Frag) (n : Nat) (t : TGs) : TG := fun v σ H Q => ∃ a xs, v = .ref a ∧ SqT K H a xs ∧ xs.length = n ∧ t xs σ H Q
theorem pg_tup {es : List Expr} {k : Nat} {t : TGs} {n : Nat} (hc : X.calm = true) (h : PGs X es t)
    (hn : (assignEach es X.env).length = n := by rfl) (hst : (assignEach es X.env).findIdx? (·.1) = none := by rfl) : PG X (.Tuple es k pos) (gTup X.K n t) := by
  intro pins s σ H v u Q I r hw
  obtain ⟨a, xs, e1, hq, hl, hw⟩ := hw
  subst e1
  cases r
  obtain ⟨its, rv, ht, hz⟩ := I.tuple hq
  refine assign_Tuple_tuple (I.ok.hd hc) ht (by simp [hn, ← hl, rv.length]) hst fun h' hx => ?_
  have I1 : Inv X pins σ H { s with heap := h' } := I.kept (t' := s.toks) fun b o e => hx b o (Nat.ne_of_lt (Heap.lt_size e)) e
  exact h pins _ σ H xs _ Q I1 (by simpa using rv) hw
/-- o[i] = .. -/
def gSub (to ti : TE) (t : TSet) : TG := fun v σ H Q => to σ H fun o H1 => ti σ H1 fun i H2 => t o i v H2 fun H3 => Q σ H3
theorem pg_sub {o i : Expr} {to ti : TE} {t : TSet} (ho : PE X o to) (hi : PE X i ti) (hs : PSet X t)
    (ha : ∀ v, assign (.Subscript o i pos) X.env v = (do
      let ov ← holding [v] (eval o X.env)
      let iv ← holding [v, ov] (eval i X.env)
      standAt pos
      holding [v, ov, iv] (setItem ov iv v)
      release [v, ov, iv] []) := by intro _; rfl) : PG X (.Subscript o i pos) (gSub to ti t) := by
  intro pins s σ H v u Q I r h
  rw [ha]
  refine wpAny_bind (wpAny_holding (thn (ho pins s σ H _ I h) fun ov s1 ⟨x, H1, I1, r1, q1⟩ => ?_))
  refine wpAny_bind (wpAny_holding (thn (hi pins s1 σ H1 _ I1 q1) fun iv s2 ⟨y, H2, I2, r2, q2⟩ => ?_))
  refine wpAny_bind (wpAny_standAt (wpAny_bind (wpAny_holding (thn (hs pins s2 σ H2 x y v ov iv u _ I2 r1 r2 r q2) fun _ s3 ⟨H3, I3, q3⟩ => ?_))))
  exact wpAny_release ⟨σ, H3, I3, q3⟩
/-- target = value -/
def tAsg (te : TE) (g : TG) : TS := fun D σ H => te σ H fun x H1 => g x σ H1 D.nx
theorem ps_asg {tg e : Expr} {te : TE} {g : TG} (he : PE X e te) (hg : PG X tg g) (hs : swapsWithSole [tg] e pos.line X.env = pure false := by rfl) (hw : swappedStores [tg] e X.env = pure none := by rfl)
    (h1 : (assignEach [tg] X.env).map (·.2) = [assign tg X.env] := by rfl) : PS X (.Assign [tg] e pos) (tAsg te g) := by
  intro pins s σ H D I h
  refine wpAny_Assign_stores (thn (he pins s σ H _ I h) fun v s1 ⟨x, H1, I1, r1, q1⟩ => ?_) hs hw
  rw [h1]
  exact thn (hg pins s1 σ H1 x v _ I1 r1 q1) fun _ s2 q => q
/-- name = value -/
theorem ps_set {i : Nat} {x : Str} {e : Expr} {te : TE} {pos' : Pos} (hN : X.N.Nodup) (hi : X.N[i]? = some x) (hx : Loc X.env.scope x) (he : PE X e te) (hs : swapsWith e (some (.Name x pos')) pos.line X.env = pure false := by rfl) (hf : X.fn x = true ∨ X.env.scope.names.lookup x = some .local := by first | exact .inl rfl | exact .inr rfl | assumption) :
    PS X (.Assign [.Name x pos'] e pos) (tAsg te (gName i)) := by
  intro pins s σ H D I h
  refine wpAny_Assign_Name (thn (he pins s σ H _ I h) fun v s1 ⟨y, H1, I1, r1, q1⟩ => ?_) hs
  exact store_ok I1 hN hi hx r1 (fun s2 I2 => ⟨_, H1, I2, q1⟩) hf
/-- a, b = x, y with plain local names: stored from the right; the pair itself is not tracked (the opening rows as in PyProof/Rows/TupAssign.lean:23) -/
def tPar (i j : Nat) (ta : TA) : TS := fun D σ H => ta σ H fun vs H1 => ∃ v w, vs = [v, w] ∧ D.nx ((σ.set i (some v)).set j (some w)) H1
/-- name op= e -/
def tAug (i : Nat) (te : TE) (ti : TIp) : TS := fun D σ H => ∃ x, σ[i]? = some (some x) ∧ te σ H fun y H1 => ti x y H1 fun z H2 => D.nx (σ.set i (some z)) H2
/-- o[i] op= e -/
def tAugS (to ti te : TE) (tget : V → V → Hp → VK → Prop) (tip : TIp) (tset : TSet) : TS := fun D σ H => to σ H fun o H1 => ti σ H1 fun i H2 => tget o i H2 fun x H3 => te σ H3 fun y H4 => tip x y H4 fun z H5 => tset o i z H5 fun H6 => D.nx σ H6
/-- o[i], by values -/
def PGet (X : Cx) (t : V → V → Hp → VK → Prop) : Prop :=
  ∀ (pins : List (Addr × Obj)) (s : Shared) (σ : St) (H : Hp) (o i : V) (ov iv : Value) (Q : VK), Inv X pins σ H s → RelV o ov → RelV i iv → t o i H Q →
    wpAny (model X.prog X.w) X.A (getItem ov iv) (EP X pins σ Q) X.xe s
/-- ints -/
def ipI (f : Int → Int → Int) : TIp := fun x y H Q => ∃ i j, x = .int i ∧ y = .int j ∧ Q (.int (f i j)) H
end

/-! ### while -/
section
variable {X : Cx} {pos : Pos}
/-- the invariant W with its measure -/
def tWhile (c : TT) (tb : TS) : TS := fun D σ H => ∃ W : Nat → St → Hp → Prop, (∃ m, W m σ H) ∧ ∀ m σ H, W m σ H →
  c σ H fun b H1 => if b = true then ∃ N : St → Hp → Prop, (∀ σ' H', N σ' H' → ∃ m', m' < m ∧ W m' σ' H') ∧ tb { D with nx := N, ct := N, bk := D.nx } σ H1 else D.nx σ H1
theorem ps_while {c : Expr} {body : List Stmt} {tc : TT} {tb : TS} (hp : PassesOwn (model X.prog X.w) X.A X.env X.xe) (hc : PT X c tc) (hb : PSs X body tb) : PS X (.While c body [] pos) (tWhile tc tb) := by
  intro pins s σ H D I h
  obtain ⟨W, ⟨m0, w0⟩, turn⟩ := h
  refine wpAny_While (codeAny_whileLoop (fun n s' => ∃ σ' H', Inv X pins σ' H' s' ∧ W n σ' H') ?_ m0 ⟨σ, H, I, w0⟩)
  rintro n s1 ⟨σ1, H1, I1, w1⟩
  refine wpAny_passesOwn hp (thn (hc pins s1 σ1 H1 _ I1 (turn n σ1 H1 w1)) fun b s2 ⟨H2, I2, q2⟩ => ?_)
  cases b with
  | true =>
    obtain ⟨N, hN, q2⟩ := q2
    rw [if_pos rfl]
    refine wpAny_passesOwn hp (thn (hb pins s2 σ1 H2 _ I2 q2) fun f s3 q3 => ?_)
    cases f with
    | next =>
      obtain ⟨σ3, H3, I3, n3⟩ := q3
      obtain ⟨m', hm, w3⟩ := hN σ3 H3 n3
      exact ⟨m', hm, σ3, H3, I3, w3⟩
    | cont =>
      obtain ⟨σ3, H3, I3, n3⟩ := q3
      obtain ⟨m', hm, w3⟩ := hN σ3 H3 n3
      exact ⟨m', hm, σ3, H3, I3, w3⟩
    | brk => exact q3
    | ret v => exact q3
  | false =>
    rw [if_neg Bool.false_ne_true]
    exact wpAny_execs_nil ⟨σ1, H2, I2, q2⟩
end

/-! ### what a loop or a comprehension walks -/
/-- at turn i: it yields x (the heap may grow), or it stops -/
structure It where
  go : Nat → Hp → Prop
  yld : Nat → Hp → V → Hp → Prop
  stop : Nat → Hp → Prop
/-- the iterator's own objects may turn: they are not the frame's, not pinned, younger than the entry (or a comprehension's own) -/
def FpOk (X : Cx) (pins : List (Addr × Obj)) (H : Hp) (b : Addr) : Prop :=
  H b = none ∧ b ≠ X.env.locals ∧ b ∉ X.fs ∧ (b ∈ X.ex ∨ X.s₀.heap.objs.size ≤ b) ∧ (∀ x c, X.env.cells.lookup x = some c → c ≠ b) ∧ ∀ p ∈ X.pn ++ pins, p.1 ≠ b
theorem Inv.fpOk {X : Cx} {pins : List (Addr × Obj)} {σ : St} {H H' : Hp} {s : Shared} {b : Addr} (I : Inv X pins σ H s) (hb : s.heap.objs.size ≤ b) (hn : H' b = none) : FpOk X pins H' b := by
  refine ⟨hn, Nat.ne_of_gt (Nat.lt_of_lt_of_le I.lt hb), I.nofs hb, .inr (Nat.le_trans I.sz hb), fun x c e z => ?_, fun p hp z => ?_⟩
  · obtain ⟨v, q⟩ := I.cell x c e
    exact absurd (Nat.lt_of_lt_of_le q.lt (by rw [z]; exact hb)) (Nat.lt_irrefl _)
  · exact absurd (Nat.lt_of_lt_of_le (Heap.lt_size (I.pin p hp).1) (by rw [z]; exact hb)) (Nat.lt_irrefl _)
structure Turn (P : Program) (w : World) (K : PySem.W.Frag) (tg : Expr) (J : It) (fp : List Addr) (it : Addr) (tn : Nat → Heap → Prop) : Prop where
  mem : it ∈ fp
  obj : ∀ i h, tn i h → ∀ b ∈ fp, ∃ o, h.get? b = some o ∧ ∀ v, o.data ≠ .cell v
  keep : ∀ i h h', tn i h → (∀ b ∈ fp, ∀ o, h.get? b = some o → h'.get? b = some o) → tn i h'
  item : ∀ (X : Cx), X.prog = P → X.w = w → X.K = K → X.calm = true → ∀ (i : Nat) (pins : List (Addr × Obj)) (s : Shared) (σ : St) (H : Hp) (E : Value → Shared → Prop), Inv X pins σ H s → (∀ b ∈ fp, FpOk X pins H b) → tn i s.heap → J.go i H →
    wpAny (model P w) X.A (pyNext (.ref it)) (fun r s1 => ∃ u, r = some u ∧
      wpAny (model P w) X.A (letOwnedTupleGo tg (.ref it) u) (fun _ s2 => ∃ x H', Inv X pins σ H' s2 ∧ RelV x u ∧ J.yld i H x H' ∧ tn (i + 1) s2.heap ∧ ∀ b ∈ fp, H' b = none) E s1) E s
  done : ∀ (X : Cx), X.prog = P → X.w = w → X.K = K → X.calm = true → ∀ (i : Nat) (pins : List (Addr × Obj)) (s : Shared) (σ : St) (H : Hp) (E : Value → Shared → Prop), Inv X pins σ H s → (∀ b ∈ fp, FpOk X pins H b) → tn i s.heap → J.stop i H →
    wpAny (model P w) X.A (pyNext (.ref it)) (fun r s1 => r = none ∧ Inv X pins σ H s1) E s
  self : ∀ (A : Around) (i : Nat) (s : Shared) (Q : Value → Shared → Prop) (E : Value → Shared → Prop), tn i s.heap → Q (.ref it) s → wpAny (model P w) A (pyIter (.ref it)) Q E s
abbrev TI := St → Hp → (It → Hp → Prop) → Prop
/-- an iterator has come -/
def PIE (X : Cx) (pins : List (Addr × Obj)) (σ : St) (tg : Expr) (R : It → Hp → Prop) (itv : Value) (s2 : Shared) : Prop :=
  ∃ (it : Addr) (fp : List Addr) (tn : Nat → Heap → Prop) (J : It) (H' : Hp), itv = .ref it ∧ Inv X pins σ H' s2 ∧ Turn X.prog X.w X.K tg J fp it tn ∧ tn 0 s2.heap ∧ (∀ b ∈ fp, FpOk X pins H' b) ∧ R J H'
def PI (X : Cx) (tg iter : Expr) (wi : TI) : Prop :=
  ∀ (pins : List (Addr × Obj)) (s : Shared) (σ : St) (H : Hp) (R : It → Hp → Prop), Inv X pins σ H s → wi σ H R →
    wpAny (model X.prog X.w) X.A (eval iter X.env) (fun v s1 => wpAny (model X.prog X.w) X.A (pyIter v) (PIE X pins σ tg R) X.xe s1) X.xe s

/-- the step ahead of the store is nothing for an iterator that keeps no tuple -/
theorem go_of {M : Model} {A : Around} {E : Value → Shared → Prop} {s : Shared} {tg : Expr} {it : Addr} {u : Value} {o : Obj} {n : String} {vs : Array Value} {Q : Unit → Shared → Prop} (ho : s.heap.get? it = some o) (hc : o.cls = .type n) (hd : o.data = .fields vs)
    (hn : ["enumerate", "zip", "dict_itemiterator", "dict_reverseitemiterator", "odict_iterator", "itertools.zip_longest", "itertools.pairwise"].contains n = false) (hQ : Q () s) : wpAny M A (letOwnedTupleGo tg (.ref it) u) Q E s := by
  unfold letOwnedTupleGo
  cases tg <;> first
    | exact wpAny_pure hQ
    | (cases u <;> first
        | exact wpAny_pure hQ
        | (refine wpAny_bind (wpAny_load ho ?_)
           rw [hc, hd]
           show wpAny M A (if (["enumerate", "zip", "dict_itemiterator", "dict_reverseitemiterator", "odict_iterator", "itertools.zip_longest", "itertools.pairwise"].contains n && vs[0]? == some (rawInt _)) = true then _ else _) Q E s
           rw [if_neg (by intro h; rw [hn, Bool.false_and] at h; cases h)]
           exact wpAny_pure hQ))

/-- the list at a, as it stands at each turn (a loop may append to it) -/
def Itl (K : PySem.W.Frag) (a : Addr) : It :=
  ⟨fun i H => ∃ xs x, SqL K H a xs ∧ xs[i]? = some x, fun i H x H' => H' = H ∧ ∀ xs, SqL K H a xs → xs[i]? = some x, fun i H => ∃ xs, SqL K H a xs ∧ xs.length ≤ i⟩
def Itt (K : PySem.W.Frag) (a : Addr) : It :=
  ⟨fun i H => ∃ xs x, SqT K H a xs ∧ xs[i]? = some x, fun i H x H' => H' = H ∧ ∀ xs, SqT K H a xs → xs[i]? = some x, fun i H => ∃ xs, SqT K H a xs ∧ xs.length ≤ i⟩
/-- lo, lo + 1, .. (n of them) -/
def Itr (lo : Int) (n : Nat) : It := ⟨fun i _ => i < n, fun i H x H' => H' = H ∧ x = .int (lo + i), fun i _ => n ≤ i⟩
theorem turn_list {P : Program} {w : World} {K : PySem.W.Frag} {tg : Expr} (a it : Addr) : Turn P w K tg (Itl K a) [it] it (fun i h => h.IsListIter it a i) where
  mem := by simp
  obj := fun i h st b hb => by
    have e : b = it := by simpa using hb
    subst e
    obtain ⟨o, e, c, d⟩ := st
    exact ⟨o, e, fun v z => by rw [d] at z; cases z⟩
  keep := fun i h h' st k => st.at fun o e => k it (by simp) o e
  item := by
    intro X hP hw hK hc i pins s σ H E I hf st hg
    subst hP hw hK
    obtain ⟨xs, x, hq, hx⟩ := hg
    obtain ⟨its, rv, p, hz⟩ := I.list hq
    obtain ⟨u, hu, ru⟩ := rv.get hx
    obtain ⟨f0, f1, f2, f3, f4, f5⟩ := hf it (by simp)
    refine wpAny_pyNext_list_item st p.isList (x := u) (by simpa using hu) fun h' st' sb => ?_
    have I1 : Inv X pins σ H { s with heap := h' } := I.turned (t' := s.toks) (fun b o hb e => (sb.2 b hb).trans e) f0 f1 f3 f4 f5
    obtain ⟨o, e, c, d⟩ := id st'
    exact ⟨u, rfl, go_of (s := { s with heap := h' }) e c d (by decide) ⟨x, H, I1, ru, ⟨rfl, fun ys hy => by rw [I.list_inj hy hq]; exact hx⟩, st', fun b hb => (hf b hb).1⟩⟩
  done := by
    intro X hP hw hK hc i pins s σ H E I hf st hg
    subst hP hw hK
    obtain ⟨xs, hq, hx⟩ := hg
    obtain ⟨its, rv, p, hz⟩ := I.list hq
    obtain ⟨f0, f1, f2, f3, f4, f5⟩ := hf it (by simp)
    have hl := rv.length
    exact wpAny_pyNext_list_end (I.ok.hd hc) st p.isList (by simp; omega) fun h' eb => ⟨rfl, I.turned (t' := s.toks) (fun b o hb e => eb b o hb e) f0 f1 f3 f4 f5⟩
  self := fun _ _ _ _ _ st h => wpAny_pyIter_listiter st h
theorem turn_tuple {P : Program} {w : World} {K : PySem.W.Frag} {tg : Expr} (a it : Addr) : Turn P w K tg (Itt K a) [it] it (fun i h => h.IsTupleIter it a i) where
  mem := by simp
  obj := fun i h st b hb => by
    have e : b = it := by simpa using hb
    subst e
    obtain ⟨o, e, c, d⟩ := st
    exact ⟨o, e, fun v z => by rw [d] at z; cases z⟩
  keep := fun i h h' st k => st.at fun o e => k it (by simp) o e
  item := by
    intro X hP hw hK hc i pins s σ H E I hf st hg
    subst hP hw hK
    obtain ⟨xs, x, hq, hx⟩ := hg
    obtain ⟨its, rv, p, hz⟩ := I.tuple hq
    obtain ⟨u, hu, ru⟩ := rv.get hx
    obtain ⟨f0, f1, f2, f3, f4, f5⟩ := hf it (by simp)
    refine wpAny_pyNext_tuple_item st (show s.heap.IsTuple a its.toArray from p) (x := u) (by simpa using hu) fun h' st' sb => ?_
    have I1 : Inv X pins σ H { s with heap := h' } := I.turned (t' := s.toks) (fun b o hb e => (sb.2 b hb).trans e) f0 f1 f3 f4 f5
    obtain ⟨o, e, c, d⟩ := id st'
    exact ⟨u, rfl, go_of (s := { s with heap := h' }) e c d (by decide) ⟨x, H, I1, ru, ⟨rfl, fun ys hy => by rw [I.tuple_inj hy hq]; exact hx⟩, st', fun b hb => (hf b hb).1⟩⟩
  done := by
    intro X hP hw hK hc i pins s σ H E I hf st hg
    subst hP hw hK
    obtain ⟨xs, hq, hx⟩ := hg
    obtain ⟨its, rv, p, hz⟩ := I.tuple hq
    obtain ⟨f0, f1, f2, f3, f4, f5⟩ := hf it (by simp)
    have hl := rv.length
    exact wpAny_pyNext_tuple_end (I.ok.hd hc) st (show s.heap.IsTuple a its.toArray from p) (by simp; omega) fun h' eb => ⟨rfl, I.turned (t' := s.toks) (fun b o hb e => eb b o hb e) f0 f1 f3 f4 f5⟩
  self := fun _ _ _ _ _ st h => wpAny_pyIter_tupleiter st h
theorem turn_range {P : Program} {w : World} {K : PySem.W.Frag} {tg : Expr} (it : Addr) (lo : Int) (n : Nat) : Turn P w K tg (Itr lo n) [it] it (fun i h => IsRangeIter h it (lo + (i : Nat) * 1) ((n : Int) - (i : Nat)) 1) where
  mem := by simp
  obj := fun i h st b hb => by
    have e : b = it := by simpa using hb
    subst e
    exact ⟨_, st, fun v z => by
      have z' : Data.fields _ = Data.cell v := z
      cases z'⟩
  keep := fun i h h' st k => k it (by simp) _ st
  item := by
    intro X hP hw hK hc i pins s σ H E I hf st hg
    subst hP hw hK
    obtain ⟨f0, f1, f2, f3, f4, f5⟩ := hf it (by simp)
    have W := Walks.range (prog := X.prog) (w := X.w) (I.ok.hd hc) it lo 1 n
    refine W.item i s _ _ hg st fun v h' tk hv st' kk => ?_
    obtain ⟨t, rfl⟩ := hv
    have I1 : Inv X pins σ H { s with heap := h', toks := tk } := I.turned (fun b o hb e => kk b o (by simpa using hb) e) f0 f1 f3 f4 f5
    refine ⟨_, rfl, go_of (s := { s with heap := h', toks := tk }) (n := "range_iterator") st' rfl rfl (by decide) ⟨.int (lo + i), H, I1, ⟨t, ?_⟩, ⟨rfl, rfl⟩, st', fun b hb => (hf b hb).1⟩⟩
    rw [Int.mul_one]
  done := by
    intro X hP hw hK hc i pins s σ H E I hf st hg
    subst hP hw hK
    obtain ⟨f0, f1, f2, f3, f4, f5⟩ := hf it (by simp)
    exact wpAny_pyNext_range_end (I.ok.hd hc) st (by have : n ≤ i := hg; omega) fun h' eb => ⟨rfl, I.turned (t' := s.toks) (fun b o hb e => eb b o hb e) f0 f1 f3 f4 f5⟩
  self := fun _ _ _ _ _ st h => wpAny_pyIter_rangeiter st h
end L2

namespace L2
open PySem PySem.Spec PyProof.Rows
section
variable {X : Cx} {tg : Expr}
def iList (K : PySem.W.Frag) (tl : TE) : TI := fun σ H R => tl σ H fun x H1 => ∃ a, x = .ref a ∧ (∃ xs, SqL K H1 a xs) ∧ R (Itl K a) H1
def iTup (K : PySem.W.Frag) (tl : TE) : TI := fun σ H R => tl σ H fun x H1 => ∃ a, x = .ref a ∧ (∃ xs, SqT K H1 a xs) ∧ R (Itt K a) H1
theorem pi_list {l : Expr} {tl : TE} (hl : PE X l tl) : PI X tg l (iList X.K tl) := by
  intro pins s σ H R I h
  refine thn (hl pins s σ H _ I h) fun v s1 ⟨x, H1, I1, r1, q1⟩ => ?_
  obtain ⟨a, e, ⟨xs, hq⟩, q⟩ := q1
  subst e
  cases r1
  obtain ⟨its, rv, p, hz⟩ := I1.list hq
  refine wpAny_pyIter_list p.isList ?_
  refine ⟨s1.heap.objs.size, [s1.heap.objs.size], _, _, H1, rfl, I1.kept (t' := s1.toks) fun b o e => Heap.get?_push_of_some _ e, turn_list a _, ⟨_, Heap.get?_push_size _ rfl, rfl, rfl⟩, fun b hb => ?_, q⟩
  have e : b = s1.heap.objs.size := by simpa using hb
  subst e
  exact I1.fpOk (Nat.le_refl _) (I1.hok.fresh (Nat.le_refl _))
theorem pi_tup {l : Expr} {tl : TE} (hl : PE X l tl) : PI X tg l (iTup X.K tl) := by
  intro pins s σ H R I h
  refine thn (hl pins s σ H _ I h) fun v s1 ⟨x, H1, I1, r1, q1⟩ => ?_
  obtain ⟨a, e, ⟨xs, hq⟩, q⟩ := q1
  subst e
  cases r1
  obtain ⟨its, rv, p, hz⟩ := I1.tuple hq
  refine wpAny_pyIter_tuple (show s1.heap.IsTuple a its.toArray from p) ?_
  refine ⟨s1.heap.objs.size, [s1.heap.objs.size], _, _, H1, rfl, I1.kept (t' := s1.toks) fun b o e => Heap.get?_push_of_some _ e, turn_tuple a _, ⟨_, Heap.get?_push_size _ rfl, rfl, rfl⟩, fun b hb => ?_, q⟩
  have e : b = s1.heap.objs.size := by simpa using hb
  subst e
  exact I1.fpOk (Nat.le_refl _) (I1.hok.fresh (Nat.le_refl _))
/-- a range object just made, walked -/
theorem range_it {pins : List (Addr × Obj)} {σ : St} {H : Hp} {s : Shared} {R : It → Hp → Prop} {E : Value → Shared → Prop} {lo hi : Int} {t u v : Tok} {tk : Nat} (I : Inv X pins σ H s) (h1 : -(2 ^ 62) ≤ lo) (h2 : lo < 2 ^ 62) (h3 : -(2 ^ 62) ≤ hi) (h4 : hi < 2 ^ 62)
    (q : R (Itr lo (hi - lo).toNat) H) : wpAny (model X.prog X.w) X.A (pyIter (.ref s.heap.objs.size)) (PIE X pins σ tg R) E { s with heap := s.heap.push { cls := .type "range", data := .fields #[.int lo t, .int hi u, .int 1 v] }, toks := tk } := by
  refine wpAny_pyIter_range (IsRange.new ..) (small_one h1 h2 h3 h4) ?_
  have I1 : Inv X pins σ H { s with heap := s.heap.push { cls := .type "range", data := .fields #[.int lo t, .int hi u, .int 1 v] }, toks := tk } := I.kept fun b o e => Heap.get?_push_of_some _ e
  refine ⟨(s.heap.push { cls := .type "range", data := .fields #[.int lo t, .int hi u, .int 1 v] }).objs.size, [(s.heap.push { cls := .type "range", data := .fields #[.int lo t, .int hi u, .int 1 v] }).objs.size], _, _, H, rfl,
    I1.kept (t' := tk) fun b o e => Heap.get?_push_of_some _ e, turn_range _ lo (hi - lo).toNat, ?_, fun b hb => ?_, q⟩
  · have e1 : lo + ((0 : Nat) : Int) * 1 = lo := by simp
    have e2 : (((hi - lo).toNat : Nat) : Int) - ((0 : Nat) : Int) = Builtin.Range.rangeSize lo hi 1 := by rw [rangeSize_one]; split <;> omega
    show IsRangeIter _ _ (lo + ((0 : Nat) : Int) * 1) ((((hi - lo).toNat : Nat) : Int) - ((0 : Nat) : Int)) 1
    rw [e1, e2]
    exact Heap.get?_push_size _ rfl
  · have e : b = (s.heap.push { cls := .type "range", data := .fields #[.int lo t, .int hi u, .int 1 v] }).objs.size := by simpa using hb
    subst e
    exact I1.fpOk (Nat.le_refl _) (I1.hok.fresh (Nat.le_refl _))
def iRng1 (ta : TA) : TI := fun σ H R => ta σ H fun vs H1 => ∃ j : Int, vs = [.int j] ∧ -(2 ^ 62) ≤ j ∧ j < 2 ^ 62 ∧ R (Itr 0 j.toNat) H1
def iRng2 (ta : TA) : TI := fun σ H R => ta σ H fun vs H1 => ∃ i j : Int, vs = [.int i, .int j] ∧ (-(2 ^ 62) ≤ i ∧ i < 2 ^ 62 ∧ -(2 ^ 62) ≤ j ∧ j < 2 ^ 62) ∧ R (Itr i (j - i).toNat) H1
theorem pi_range1 {a : Expr} {ta : TA} {p pos : Pos} (hg : Gl X "range") (hm : X.mg "range" = none) (ha : PA X [a] ta) (hs : starEach [a] X.env = [(false, eval a X.env)] := by rfl) : PI X tg (.Call (.Name "range" p) [a] [] pos) (iRng1 ta) := by
  intro pins s σ H R I h
  refine Call_ (ld_blt I hg hm boot_range (PyProof.Rows.callWith_type1 (thn (ha pos pins s σ H _ I h) fun us s1 ⟨vs, H1, I1, r1, q1⟩ => ?_) hs rfl))
  obtain ⟨j, e, q1, q2, q⟩ := q1
  subst e
  cases r1 with
  | cons r rr =>
    cases rr
    obtain ⟨t, rfl⟩ := r
    exact call_range_1 (range_it I1 (by omega) (by omega) q1 q2 (by simpa using q))
/-! ### for -/
/-- W: the invariant by the turn and a measure; N: what the body is to reach -/
def tFor (wi : TI) (g : TG) (tb : TS) : TS := fun D σ H => wi σ H fun J H1 => ∃ W : Nat → Nat → St → Hp → Prop, (∃ m, W 0 m σ H1) ∧ ∀ i m σ H, W i m σ H →
  (J.stop i H ∧ D.nx σ H) ∨ (J.go i H ∧ ∃ N : St → Hp → Prop, (∀ σ' H', N σ' H' → ∃ m', m' < m ∧ W (i + 1) m' σ' H') ∧ ∀ x H', J.yld i H x H' → g x σ H' fun σ2 H2 => tb { D with nx := N, ct := N, bk := D.nx } σ2 H2)
/-- the records at fp as they stand -/
def pinsAt (fp : List Addr) (h : Heap) : List (Addr × Obj) := fp.filterMap fun b => (h.get? b).map fun o => (b, o)
theorem mem_pinsAt {fp : List Addr} {h : Heap} {b : Addr} {o : Obj} (hb : b ∈ fp) (e : h.get? b = some o) : (b, o) ∈ pinsAt fp h := List.mem_filterMap.mpr ⟨b, hb, by rw [e]; rfl⟩
theorem of_pinsAt {fp : List Addr} {h : Heap} {p : Addr × Obj} (hp : p ∈ pinsAt fp h) : p.1 ∈ fp ∧ h.get? p.1 = some p.2 := by
  obtain ⟨b, hb, e⟩ := List.mem_filterMap.mp hp
  cases q : h.get? b with
  | none => rw [q] at e; cases e
  | some o =>
    rw [q] at e
    have e' : (b, o) = p := Option.some.inj e
    subst e'
    exact ⟨hb, q⟩
theorem Inv.pinned {pins : List (Addr × Obj)} {σ : St} {H : Hp} {s : Shared} {fp : List Addr} (I : Inv X pins σ H s) (hf : ∀ b ∈ fp, FpOk X pins H b) (ho : ∀ b ∈ fp, ∃ o, s.heap.get? b = some o ∧ ∀ v, o.data ≠ .cell v) : Inv X (pins ++ pinsAt fp s.heap) σ H s :=
  I.pins_of fun p hp => (List.mem_append.mp hp).elim (fun z => I.pin p (List.mem_append_right _ z)) fun z => by
    obtain ⟨hb, e⟩ := of_pinsAt z
    obtain ⟨f0, f1, f2, _⟩ := hf p.1 hb
    obtain ⟨o, e', d⟩ := ho p.1 hb
    rw [e] at e'; cases e'
    exact ⟨e, f0, f1, f2, d⟩
theorem Inv.unpinned {pins pl : List (Addr × Obj)} {σ : St} {H : Hp} {s : Shared} (I : Inv X (pins ++ pl) σ H s) : Inv X pins σ H s := I.pins_of fun p hp => I.pin p (List.mem_append_right _ (List.mem_append_left _ hp))
theorem ps_for {iter : Expr} {body : List Stmt} {wi : TI} {g : TG} {tb : TS} {pos : Pos} (hp : PassesOwn (model X.prog X.w) X.A X.env X.xe) (hc : X.calm = true) (hi : PI X tg iter wi) (hg : PG X tg g) (hb : PSs X body tb)
    (hs : ∀ x, foldedSetIterable iter X.env x = pure x := by intro _; rfl) : PS X (.For tg iter body [] pos) (tFor wi g tb) := by
  intro pins s σ H D I h
  refine wpAny_For (thn (hi pins s σ H _ I h) fun v s1 h1 => thn h1 fun itv s2 h2 => ?_) hs
  obtain ⟨it, fp, tn, J, H2, e, I2, T, st2, f2, W, ⟨m0, w0⟩, turn⟩ := h2
  subst e
  -- what stays true of the iterator's objects through the loop
  have stat : ∀ {H' : Hp}, (∀ b ∈ fp, H' b = none) → ∀ b ∈ fp, FpOk X pins H' b := fun hn b hb => ⟨hn b hb, (f2 b hb).2⟩
  refine codeAny_forLoop_any (fun n s' => ∃ i σ' H', Inv X pins σ' H' s' ∧ tn i s'.heap ∧ (∀ b ∈ fp, H' b = none) ∧ W i n σ' H') ?_ m0 ⟨0, σ, H2, I2, st2, fun b hb => (f2 b hb).1, w0⟩
  rintro n s3 ⟨i, σ3, H3, I3, st3, fr3, w3⟩
  rcases turn i n σ3 H3 w3 with ⟨stop, qn⟩ | ⟨go, N, hN, step⟩
  · refine wpAny_passesOwn hp (thn (T.done X rfl rfl rfl hc i pins s3 σ3 H3 X.xe I3 (stat fr3) st3 stop) fun r s4 ⟨hr, I4⟩ => ?_)
    subst hr
    exact wpAny_execs_nil ⟨σ3, H3, I4, qn⟩
  · refine wpAny_passesOwn hp (thn (T.item X rfl rfl rfl hc i pins s3 σ3 H3 X.xe I3 (stat fr3) st3 go) fun r s4 ⟨u, hr, h4⟩ => ?_)
    subst hr
    refine wpAny_passesOwn hp (thn h4 fun _ s5 ⟨x, H5, I5, r5, y5, st5, fr5⟩ => ?_)
    have I5' := I5.pinned (stat fr5) (T.obj _ _ st5)
    refine wpAny_passesOwn hp (thn (hg _ s5 σ3 H5 x u _ I5' r5 (step x H5 y5)) fun _ s6 ⟨σ6, H6, I6, q6⟩ => ?_)
    refine wpAny_passesOwn hp (thn (hb _ s6 σ6 H6 _ I6 q6) fun f s7 q7 => ?_)
    have again : ∀ {σ7 : St} {H7 : Hp}, Inv X (pins ++ pinsAt fp s5.heap) σ7 H7 s7 → N σ7 H7 → ∃ m, m < n ∧ ∃ i σ' H', Inv X pins σ' H' s7 ∧ tn i s7.heap ∧ (∀ b ∈ fp, H' b = none) ∧ W i m σ' H' := fun {σ7 H7} I7 n7 => by
      obtain ⟨m', hm, w7⟩ := hN σ7 H7 n7
      refine ⟨m', hm, i + 1, σ7, H7, I7.unpinned, T.keep _ _ _ st5 fun b hb o e => (I7.pin (b, o) (List.mem_append_right _ (List.mem_append_right _ (mem_pinsAt hb e)))).1, fun b hb => ?_, w7⟩
      obtain ⟨o, e, d⟩ := T.obj _ _ st5 b hb
      exact (I7.pin (b, o) (List.mem_append_right _ (List.mem_append_right _ (mem_pinsAt hb e)))).2.1
    cases f with
    | next => obtain ⟨σ7, H7, I7, n7⟩ := q7; exact again I7 n7
    | cont => obtain ⟨σ7, H7, I7, n7⟩ := q7; exact again I7 n7
    | brk => obtain ⟨σ7, H7, I7, q7⟩ := q7; exact ⟨σ7, H7, I7.unpinned, q7⟩
    | ret v => obtain ⟨x7, σ7, H7, I7, r7, q7⟩ := q7; exact ⟨x7, σ7, H7, I7.unpinned, r7, q7⟩
end

/-! ### the forms one uses -/
/-- over a list that the body leaves as it is -/
theorem for_list {K : PySem.W.Frag} {a : Addr} {xs : List V} {g : TG} {tb : TS} {D : Ends} {σ : St} {H : Hp} (Pv : Nat → St → Hp → Prop) (h0 : Pv 0 σ H) (hl : ∀ i σ H, i ≤ xs.length → Pv i σ H → SqL K H a xs)
    (hs : ∀ i x σ H, xs[i]? = some x → Pv i σ H → g x σ H fun σ2 H2 => tb { D with nx := Pv (i + 1), ct := Pv (i + 1), bk := D.nx } σ2 H2) (hd : ∀ σ H, Pv xs.length σ H → D.nx σ H) :
    ∃ W : Nat → Nat → St → Hp → Prop, (∃ m, W 0 m σ H) ∧ ∀ i m σ H, W i m σ H →
      ((Itl K a).stop i H ∧ D.nx σ H) ∨ ((Itl K a).go i H ∧ ∃ N : St → Hp → Prop, (∀ σ' H', N σ' H' → ∃ m', m' < m ∧ W (i + 1) m' σ' H') ∧ ∀ x H', (Itl K a).yld i H x H' → g x σ H' fun σ2 H2 => tb { D with nx := N, ct := N, bk := D.nx } σ2 H2) := by
  refine ⟨fun i m σ H => m = xs.length - i ∧ i ≤ xs.length ∧ Pv i σ H, ⟨xs.length, by simp, Nat.zero_le _, h0⟩, ?_⟩
  rintro i m σ H ⟨rfl, hi, p⟩
  have q := hl i σ H hi p
  by_cases hlt : i < xs.length
  · refine .inr ⟨⟨xs, xs[i], q, by simp [hlt]⟩, Pv (i + 1), fun σ' H' p' => ⟨xs.length - (i + 1), by omega, rfl, hlt, p'⟩, fun x H' y => ?_⟩
    obtain ⟨e, y⟩ := y
    subst e
    exact hs i x σ _ (y xs q) p
  · have e : i = xs.length := by omega
    subst e
    exact .inl ⟨⟨xs, q, Nat.le_refl _⟩, hd σ H p⟩
theorem for_tup {K : PySem.W.Frag} {a : Addr} {xs : List V} {g : TG} {tb : TS} {D : Ends} {σ : St} {H : Hp} (Pv : Nat → St → Hp → Prop) (h0 : Pv 0 σ H) (hl : ∀ i σ H, i ≤ xs.length → Pv i σ H → SqT K H a xs)
    (hs : ∀ i x σ H, xs[i]? = some x → Pv i σ H → g x σ H fun σ2 H2 => tb { D with nx := Pv (i + 1), ct := Pv (i + 1), bk := D.nx } σ2 H2) (hd : ∀ σ H, Pv xs.length σ H → D.nx σ H) :
    ∃ W : Nat → Nat → St → Hp → Prop, (∃ m, W 0 m σ H) ∧ ∀ i m σ H, W i m σ H →
      ((Itt K a).stop i H ∧ D.nx σ H) ∨ ((Itt K a).go i H ∧ ∃ N : St → Hp → Prop, (∀ σ' H', N σ' H' → ∃ m', m' < m ∧ W (i + 1) m' σ' H') ∧ ∀ x H', (Itt K a).yld i H x H' → g x σ H' fun σ2 H2 => tb { D with nx := N, ct := N, bk := D.nx } σ2 H2) := by
  refine ⟨fun i m σ H => m = xs.length - i ∧ i ≤ xs.length ∧ Pv i σ H, ⟨xs.length, by simp, Nat.zero_le _, h0⟩, ?_⟩
  rintro i m σ H ⟨rfl, hi, p⟩
  have q := hl i σ H hi p
  by_cases hlt : i < xs.length
  · refine .inr ⟨⟨xs, xs[i], q, by simp [hlt]⟩, Pv (i + 1), fun σ' H' p' => ⟨xs.length - (i + 1), by omega, rfl, hlt, p'⟩, fun x H' y => ?_⟩
    obtain ⟨e, y⟩ := y
    subst e
    exact hs i x σ _ (y xs q) p
  · have e : i = xs.length := by omega
    subst e
    exact .inl ⟨⟨xs, q, Nat.le_refl _⟩, hd σ H p⟩
theorem for_range {lo : Int} {n : Nat} {g : TG} {tb : TS} {D : Ends} {σ : St} {H : Hp} (Pv : Nat → St → Hp → Prop) (h0 : Pv 0 σ H)
    (hs : ∀ i σ H, i < n → Pv i σ H → g (.int (lo + i)) σ H fun σ2 H2 => tb { D with nx := Pv (i + 1), ct := Pv (i + 1), bk := D.nx } σ2 H2) (hd : ∀ σ H, Pv n σ H → D.nx σ H) :
    ∃ W : Nat → Nat → St → Hp → Prop, (∃ m, W 0 m σ H) ∧ ∀ i m σ H, W i m σ H →
      ((Itr lo n).stop i H ∧ D.nx σ H) ∨ ((Itr lo n).go i H ∧ ∃ N : St → Hp → Prop, (∀ σ' H', N σ' H' → ∃ m', m' < m ∧ W (i + 1) m' σ' H') ∧ ∀ x H', (Itr lo n).yld i H x H' → g x σ H' fun σ2 H2 => tb { D with nx := N, ct := N, bk := D.nx } σ2 H2) := by
  refine ⟨fun i m σ H => m = n - i ∧ i ≤ n ∧ Pv i σ H, ⟨n, by simp, Nat.zero_le _, h0⟩, ?_⟩
  rintro i m σ H ⟨rfl, hi, p⟩
  by_cases hlt : i < n
  · refine .inr ⟨hlt, Pv (i + 1), fun σ' H' p' => ⟨n - (i + 1), by omega, rfl, hlt, p'⟩, fun x H' y => ?_⟩
    obtain ⟨e, y⟩ := y
    subst e y
    exact hs i σ _ hlt p
  · have e : i = n := by omega
    subst e
    exact .inl ⟨Nat.le_refl _, hd σ H p⟩
end L2

namespace L2
open PySem PySem.Spec PyProof.Rows

abbrev R2 := V → V → Hp → VK → Prop
/-- a two-place operation on values: f is binaryOp op, inplaceOp op or compareOp op -/
def OpR (X : Cx) (f : Value → Value → Sem Value) (r : R2) : Prop :=
  ∀ (pins : List (Addr × Obj)) (s : Shared) (σ : St) (H : Hp) (x y : V) (v u : Value) (Q : VK), Inv X pins σ H s → RelV x v → RelV y u → r x y H Q →
    wpAny (model X.prog X.w) X.A (f v u) (EP X pins σ Q) X.xe s
/-- a one-place operation -/
def UnR (X : Cx) (f : Value → Sem Value) (r : V → Hp → VK → Prop) : Prop :=
  ∀ (pins : List (Addr × Obj)) (s : Shared) (σ : St) (H : Hp) (x : V) (v : Value) (Q : VK), Inv X pins σ H s → RelV x v → r x H Q →
    wpAny (model X.prog X.w) X.A (f v) (EP X pins σ Q) X.xe s
/-- a call of a value that is known (a builtin, a type) with values -/
def CallR (X : Cx) (f : Value) (r : List V → Hp → VK → Prop) : Prop :=
  ∀ (pins : List (Addr × Obj)) (s : Shared) (σ : St) (H : Hp) (xs : List V) (us : List Value) (Q : VK), Inv X pins σ H s → Vals xs us → r xs H Q →
    wpAny (model X.prog X.w) X.A (call f us) (EP X pins σ Q) X.xe s
/-- a value's truth -/
def TruR (X : Cx) (r : V → Hp → (Bool → Hp → Prop) → Prop) : Prop :=
  ∀ (pins : List (Addr × Obj)) (s : Shared) (σ : St) (H : Hp) (x : V) (v : Value) (Q : Bool → Hp → Prop), Inv X pins σ H s → RelV x v → r x H Q →
    wpAny (model X.prog X.w) X.A (truthy v) (TP X pins σ Q) X.xe s

def tOp (r : R2) (ta tb : TE) : TE := fun σ H Q => ta σ H fun x H1 => tb σ H1 fun y H2 => r x y H2 Q
def tUn (r : V → Hp → VK → Prop) (ta : TE) : TE := fun σ H Q => ta σ H fun x H1 => r x H1 Q
/-- ints in, under C, and a value out -/
def rI (C : Int → Int → Prop) (g : Int → Int → V) : R2 := fun x y H Q => ∃ i j, x = .int i ∧ y = .int j ∧ C i j ∧ Q (g i j) H
def rI0 (g : Int → Int → V) : R2 := fun x y H Q => ∃ i j, x = .int i ∧ y = .int j ∧ Q (g i j) H
def rU (g : Int → V) : V → Hp → VK → Prop := fun x H Q => ∃ i, x = .int i ∧ Q (g i) H

section
variable {X : Cx} {a b c : Expr} {ta tb tc : TE} {pos : Pos}

theorem binT (ha : PE X a ta) (hb : PE X b tb) {pins : List (Addr × Obj)} {s : Shared} {σ : St} {H : Hp} {R : V → V → Hp → Prop} (I : Inv X pins σ H s)
    (h : ta σ H fun x H1 => tb σ H1 fun y H2 => R x y H2) {Q : Value → Shared → Prop} {f : Value → Value → Sem Value}
    (hf : ∀ v u s2 x y H2, Inv X pins σ H2 s2 → RelV x v → RelV y u → R x y H2 → wpAny (model X.prog X.w) X.A (f v u) Q X.xe s2) :
    wpAny (model X.prog X.w) X.A (eval a X.env) (fun v s₁ => wpAny (model X.prog X.w) X.A (eval b X.env) (fun u s₂ => wpAny (model X.prog X.w) X.A (f v u) Q X.xe s₂) X.xe s₁) X.xe s := by
  refine thn (ha pins s σ H _ I h) fun v s1 ⟨x, H1, I1, r1, q1⟩ => ?_
  refine thn (hb pins s1 σ H1 _ I1 q1) fun u s2 ⟨y, H2, I2, r2, q2⟩ => ?_
  exact hf v u s2 x y H2 I2 r1 r2 q2

theorem pe_op {op : Operator} {r : R2} (ho : OpR X (binaryOp op) r) (ha : PE X a ta) (hb : PE X b tb) : PE X (.BinOp a op b pos) (tOp r ta tb) := by
  intro pins s σ H Q I h
  exact wpAny_BinOp (binT ha hb I h fun v u s2 x y H2 I2 rx ry q => ho pins s2 σ H2 x y v u Q I2 rx ry q)
theorem pe_un {op : UnaryOp} {r : V → Hp → VK → Prop} (ho : UnR X (unaryOp op) r) (ha : PE X a ta) : PE X (.UnaryOp op a pos) (tUn r ta) := by
  intro pins s σ H Q I h
  exact UnaryOp_ (thn (ha pins s σ H _ I h) fun v s1 ⟨x, H1, I1, r1, q1⟩ => ho pins s1 σ H1 x v Q I1 r1 q1)
/-! ### ints -/
theorem opI {f : Value → Value → Sem Value} {C : Int → Int → Prop} {g : Int → Int → Int}
    (rule : ∀ (i j : Int) (t u : Tok) (s : Shared) (Q : Value → Shared → Prop) (E : Value → Shared → Prop), C i j → Q (.int (g i j) s.toks) { s with toks := s.toks + 1 } → wpAny (model X.prog X.w) X.A (f (.int i t) (.int j u)) Q E s) :
    OpR X f (rI C fun i j => .int (g i j)) := by
  intro pins s σ H x y v u Q I rx ry h
  obtain ⟨i, j, rfl, rfl, hc, q⟩ := h
  obtain ⟨t, rfl⟩ := rx
  obtain ⟨t', rfl⟩ := ry
  exact rule i j t t' s _ _ hc ⟨.int (g i j), H, I.tok _, ⟨_, rfl⟩, q⟩
theorem opI0 {f : Value → Value → Sem Value} {g : Int → Int → Int}
    (rule : ∀ (i j : Int) (t u : Tok) (s : Shared) (Q : Value → Shared → Prop) (E : Value → Shared → Prop), Q (.int (g i j) s.toks) { s with toks := s.toks + 1 } → wpAny (model X.prog X.w) X.A (f (.int i t) (.int j u)) Q E s) :
    OpR X f (rI0 fun i j => .int (g i j)) := by
  intro pins s σ H x y v u Q I rx ry h
  obtain ⟨i, j, rfl, rfl, q⟩ := h
  obtain ⟨t, rfl⟩ := rx
  obtain ⟨t', rfl⟩ := ry
  exact rule i j t t' s _ _ ⟨.int (g i j), H, I.tok _, ⟨_, rfl⟩, q⟩
theorem opB0 {f : Value → Value → Sem Value} {g : Int → Int → Bool}
    (rule : ∀ (i j : Int) (t u : Tok) (s : Shared) (Q : Value → Shared → Prop) (E : Value → Shared → Prop), Q (.bool (g i j)) s → wpAny (model X.prog X.w) X.A (f (.int i t) (.int j u)) Q E s) :
    OpR X f (rI0 fun i j => .bl (g i j)) := by
  intro pins s σ H x y v u Q I rx ry h
  obtain ⟨i, j, rfl, rfl, q⟩ := h
  obtain ⟨t, rfl⟩ := rx
  obtain ⟨t', rfl⟩ := ry
  exact rule i j t t' s _ _ ⟨.bl (g i j), H, I, rfl, q⟩

def CDiv (i j : Int) : Prop := 0 < j ∧ j < 1073741824
def CDivN (i j : Int) : Prop := j ≠ 0 ∧ j.natAbs < 1073741824
def CPow (i j : Int) : Prop := 0 ≤ j ∧ j ≤ 1000000 ∧ i.natAbs < 2 ^ 64
def CMul (i j : Int) : Prop := (-(2 ^ 64) < i ∧ i < 2 ^ 64) ∨ (-(2 ^ 64) < j ∧ j < 2 ^ 64)
theorem CMul.ok {i j : Int} (h : CMul i j) : IntMulOk i j := by
  rcases h with ⟨h1, h2⟩ | ⟨h1, h2⟩
  · exact .of_left (intBits_le_64 h1 h2)
  · exact .of_right (intBits_le_64 h1 h2)
theorem op_add : OpR X (binaryOp .Add) (rI0 fun i j => .int (i + j)) := opI0 fun _ _ _ _ _ _ _ q => add_int q
theorem op_sub : OpR X (binaryOp .Sub) (rI0 fun i j => .int (i - j)) := opI0 fun _ _ _ _ _ _ _ q => sub_int q
theorem op_mul : OpR X (binaryOp .Mult) (rI CMul fun i j => .int (i * j)) := opI fun _ _ _ _ _ _ _ hc q => mul_int q hc.ok
/-- // by a positive divisor -/
theorem op_fdiv : OpR X (binaryOp .FloorDiv) (rI CDiv fun i j => .int (i / j)) := opI fun i j _ _ _ _ _ hc q => by
  have h1 : (0 : Int) < j := hc.1
  have h2 : j < 1073741824 := hc.2
  exact floordiv_int (by omega) (by rw [Int.fdiv_eq_ediv_of_nonneg i (by omega)]; exact q) (.inl (PyProof.noPylong_small (by omega)))
/-- % by a positive divisor of any size -/
theorem op_mod : OpR X (binaryOp .Mod) (rI (fun _ j => 0 < j) fun i j => .int (i % j)) := opI fun i j _ _ _ _ _ hc q => by
  have h1 : (0 : Int) < j := hc
  exact mod_int' (by omega) (by rw [Int.fmod_eq_emod_of_nonneg i (by omega)]; exact q)
theorem op_pow : OpR X (binaryOp .Pow) (rI CPow fun i j => .int (i ^ j.toNat)) := opI fun _ _ _ _ _ _ _ hc q => pow_int_small hc.1 hc.2.1 hc.2.2 q
theorem unI {f : Value → Sem Value} {g : Int → Int}
    (rule : ∀ (i : Int) (t : Tok) (s : Shared) (Q : Value → Shared → Prop) (E : Value → Shared → Prop), Q (.int (g i) s.toks) { s with toks := s.toks + 1 } → wpAny (model X.prog X.w) X.A (f (.int i t)) Q E s) :
    UnR X f (rU fun i => .int (g i)) := by
  intro pins s σ H x v Q I rx h
  obtain ⟨i, rfl, q⟩ := h
  obtain ⟨t, rfl⟩ := rx
  exact rule i t s _ _ ⟨.int (g i), H, I.tok _, ⟨_, rfl⟩, q⟩
theorem un_neg : UnR X (unaryOp .USub) (rU fun i => .int (-i)) := unI fun _ _ _ _ _ q => neg_int q
/-! ### bools among ints: n += (a < b) -/
end

/-! ### comparisons -/
/-- the scalars that == tells apart as data does -/
def scal : V → V → Bool
  | .non, .non => true | .non, .int _ => true | .int _, .non => true | .non, .bl _ => true | .bl _, .non => true | .non, .str _ => true | .str _, .non => true
  | .int _, .int _ => true | .bl _, .bl _ => true | .str _, .str _ => true | .byt _, .byt _ => true
  | .int _, .str _ => true | .str _, .int _ => true | .bl _, .str _ => true | .str _, .bl _ => true
  | _, _ => false
def rEq : R2 := fun x y H Q => scal x y = true ∧ Q (.bl (decide (x = y))) H
def rNe : R2 := fun x y H Q => scal x y = true ∧ Q (.bl (!decide (x = y))) H

theorem dec_int {i j : Int} : decide (V.int i = V.int j) = (i == j) := by
  rw [Bool.eq_iff_iff]
  simp
theorem dec_bl {i j : Bool} : decide (V.bl i = V.bl j) = (i == j) := by
  rw [Bool.eq_iff_iff]
  simp
theorem dec_str {i j : Str} : decide (V.str i = V.str j) = (i == j) := by
  rw [Bool.eq_iff_iff]
  simp
theorem dec_byt {i j : Array UInt8} : decide (V.byt i = V.byt j) = (i.toList == j.toList) := by
  rw [Bool.eq_iff_iff]
  cases i
  cases j
  simp

section
variable {X : Cx} {a b c : Expr} {ta tb tc : TE} {pos : Pos}
theorem fin_bl {pins : List (Addr × Obj)} {σ : St} {H : Hp} {s : Shared} {Q : VK} {k k' : Bool} (I : Inv X pins σ H s) (q : Q (.bl k) H) (e : k = k') : EP X pins σ Q (.bool k') s := by
  subst e
  exact ⟨.bl k, H, I, rfl, q⟩
theorem op_eq : OpR X (compareOp .Eq) rEq := by
  intro pins s σ H x y v u Q I rx ry h
  obtain ⟨hs, q⟩ := h
  cases x with
  | non =>
    cases rx
    cases y with
    | non => cases ry; exact PySem.EqNone.eq_none_none (fin_bl I q (by simp))
    | bl j => cases ry; exact PySem.EqNone.eq_none_bool (fin_bl I q (by simp))
    | int j => obtain ⟨t', rfl⟩ := ry; exact PySem.EqNone.eq_none_int (fin_bl I q (by simp))
    | str j => obtain ⟨t', rfl⟩ := ry; exact PySem.EqNone.eq_none_str (fin_bl I q (by simp))
    | _ => exact absurd (show false = true from hs) Bool.false_ne_true
  | bl i =>
    cases rx
    cases y with
    | non => cases ry; exact PySem.EqNone.eq_bool_none (fin_bl I q (by simp))
    | bl j => cases ry; exact eq_bool (fin_bl I q dec_bl)
    | str j => obtain ⟨t', rfl⟩ := ry; exact PySem.EqMixed.eq_bool_str (fin_bl I q (by simp))
    | _ => exact absurd (show false = true from hs) Bool.false_ne_true
  | int i =>
    obtain ⟨t, rfl⟩ := rx
    cases y with
    | non => cases ry; exact PySem.EqNone.eq_int_none (fin_bl I q (by simp))
    | int j => obtain ⟨t', rfl⟩ := ry; exact eq_int (fin_bl I q dec_int)
    | str j => obtain ⟨t', rfl⟩ := ry; exact PySem.EqMixed.eq_int_str (fin_bl I q (by simp))
    | _ => exact absurd (show false = true from hs) Bool.false_ne_true
  | str i =>
    obtain ⟨t, rfl⟩ := rx
    cases y with
    | non => cases ry; exact PySem.EqNone.eq_str_none (fin_bl I q (by simp))
    | bl j => cases ry; exact PySem.EqMixed.eq_str_bool (fin_bl I q (by simp))
    | int j => obtain ⟨t', rfl⟩ := ry; exact PySem.EqMixed.eq_str_int (fin_bl I q (by simp))
    | str j => obtain ⟨t', rfl⟩ := ry; exact eq_str (fin_bl I q dec_str)
    | _ => exact absurd (show false = true from hs) Bool.false_ne_true
  | byt i =>
    obtain ⟨t, rfl⟩ := rx
    cases y with
    | byt j => obtain ⟨t', rfl⟩ := ry; exact PySem.W.eq_bytes (fin_bl I q dec_byt)
    | _ => exact absurd (show false = true from hs) Bool.false_ne_true
  | _ => cases y <;> exact absurd (show false = true from hs) Bool.false_ne_true
theorem op_ne : OpR X (compareOp .NotEq) rNe := by
  intro pins s σ H x y v u Q I rx ry h
  obtain ⟨hs, q⟩ := h
  cases x with
  | non =>
    cases rx
    cases y with
    | non => cases ry; exact PySem.EqNone.ne_none_none (fin_bl I q (by simp))
    | bl j => cases ry; exact PySem.EqNone.ne_none_bool (fin_bl I q (by simp))
    | int j => obtain ⟨t', rfl⟩ := ry; exact PySem.EqNone.ne_none_int (fin_bl I q (by simp))
    | str j => obtain ⟨t', rfl⟩ := ry; exact PySem.EqNone.ne_none_str (fin_bl I q (by simp))
    | _ => exact absurd (show false = true from hs) Bool.false_ne_true
  | bl i =>
    cases rx
    cases y with
    | non => cases ry; exact PySem.EqNone.ne_bool_none (fin_bl I q (by simp))
    | bl j => cases ry; exact ne_bool (fin_bl I q (congrArg not dec_bl))
    | str j => obtain ⟨t', rfl⟩ := ry; exact PySem.EqMixed.ne_bool_str (fin_bl I q (by simp))
    | _ => exact absurd (show false = true from hs) Bool.false_ne_true
  | int i =>
    obtain ⟨t, rfl⟩ := rx
    cases y with
    | non => cases ry; exact PySem.EqNone.ne_int_none (fin_bl I q (by simp))
    | int j => obtain ⟨t', rfl⟩ := ry; exact ne_int (fin_bl I q (congrArg not dec_int))
    | str j => obtain ⟨t', rfl⟩ := ry; exact PySem.EqMixed.ne_int_str (fin_bl I q (by simp))
    | _ => exact absurd (show false = true from hs) Bool.false_ne_true
  | str i =>
    obtain ⟨t, rfl⟩ := rx
    cases y with
    | non => cases ry; exact PySem.EqNone.ne_str_none (fin_bl I q (by simp))
    | bl j => cases ry; exact PySem.EqMixed.ne_str_bool (fin_bl I q (by simp))
    | int j => obtain ⟨t', rfl⟩ := ry; exact PySem.EqMixed.ne_str_int (fin_bl I q (by simp))
    | str j => obtain ⟨t', rfl⟩ := ry; exact ne_str (fin_bl I q (congrArg not dec_str))
    | _ => exact absurd (show false = true from hs) Bool.false_ne_true
  | byt i =>
    obtain ⟨t, rfl⟩ := rx
    cases y with
    | byt j => obtain ⟨t', rfl⟩ := ry; exact PySem.W.ne_bytes (fin_bl I q (congrArg not dec_byt))
    | _ => exact absurd (show false = true from hs) Bool.false_ne_true
  | _ => cases y <;> exact absurd (show false = true from hs) Bool.false_ne_true

theorem op_lt : OpR X (compareOp .Lt) (rI0 fun i j => .bl (decide (i < j))) := opB0 fun _ _ _ _ _ _ _ q => lt_int q
theorem op_le : OpR X (compareOp .LtE) (rI0 fun i j => .bl (decide (i ≤ j))) := opB0 fun _ _ _ _ _ _ _ q => le_int q
theorem op_gt : OpR X (compareOp .Gt) (rI0 fun i j => .bl (decide (j < i))) := opB0 fun _ _ _ _ _ _ _ q => gt_int q
theorem op_ge : OpR X (compareOp .GtE) (rI0 fun i j => .bl (decide (j ≤ i))) := opB0 fun _ _ _ _ _ _ _ q => ge_int q
/-- is, is not of two objects that are tracked lists or instances -/
def isObj : HO → Bool
  | .lst _ => true
  | .ins _ _ _ => true
  | _ => false
/-- two rules for one operation: by cases -/
theorem OpR.or {f : Value → Value → Sem Value} {r r' : R2} (h : OpR X f r) (h' : OpR X f r') : OpR X f (fun x y H Q => r x y H Q ∨ r' x y H Q) := by
  intro pins s σ H x y v u Q I rx ry q
  rcases q with q | q
  · exact h pins s σ H x y v u Q I rx ry q
  · exact h' pins s σ H x y v u Q I rx ry q

theorem nomark (b : Expr) {op : CmpOp} (h : op ≠ .In := by decide) (h2 : op ≠ .NotIn := by decide) : behindInMarks op b = false := by
  have e1 : (op == CmpOp.In) = false := by cases op <;> first | rfl | exact absurd rfl h
  have e2 : (op == CmpOp.NotIn) = false := by cases op <;> first | rfl | exact absurd rfl h2
  cases b <;> simp [behindInMarks, e1, e2]
/-- a comparison as a value; hm: nomark b, or (for in, not in) by with_unfolding_all rfl -/
theorem pe_cmpR {op : CmpOp} {r : R2} (ho : OpR X (compareOp op) r) (ha : PE X a ta) (hb : PE X b tb) (hm : behindInMarks op b = false) : PE X (.Compare a [op] [b] pos) (tOp r ta tb) := by
  intro pins s σ H Q I h
  exact wpAny_Compare1 (binT ha hb I h fun v u s2 x y H2 I2 rx ry q => ho pins s2 σ H2 x y v u Q I2 rx ry q) hm
/-- a reading of a value as a test -/
def tTest (t : TE) : TT := fun σ H Q => t σ H fun x H' => ∃ k, x = .bl k ∧ Q k H'
theorem pt_cmpR {op : CmpOp} {r : R2} (ho : OpR X (compareOp op) r) (ha : PE X a ta) (hb : PE X b tb) (hm : behindInMarks op b = false) : PT X (.Compare a [op] [b] pos) (tTest (tOp r ta tb)) := by
  intro pins s σ H Q I h
  refine wpAny_isTrue_Compare1 (thn (ha pins s σ H _ I h) fun v s1 ⟨x, H1, I1, r1, q1⟩ => thn (hb pins s1 σ H1 _ I1 q1) fun u s2 ⟨y, H2, I2, r2, q2⟩ =>
    thn (ho pins s2 σ H2 x y v u _ I2 r1 r2 q2) fun c s3 ⟨z, H3, I3, r3, k, e, q3⟩ => ?_) hm
  subst e
  cases r3
  exact wpAny_truthy_bool ⟨H3, I3, q3⟩
/-- a op1 b op2 c -/
def tChain (r r' : R2) (ta tb tc : TE) : TE := fun σ H Q => ta σ H fun x H1 => tb σ H1 fun y H2 => r x y H2 fun z H3 => ∃ k, z = .bl k ∧
  (if k = true then tc σ H3 fun w' H4 => r' y w' H4 Q else Q (.bl false) H3)
/-! ### truth -/
/-- a value's truth by the abstract heap -/
def TruV (K : PySem.W.Frag) (x : V) (H : Hp) (k : Bool) : Prop :=
  match x with
  | .non => k = false
  | .bl b => k = b
  | .int i => k = (i != 0)
  | .str y => y.length ≤ sizeLine ∧ k = ((y.length : Int) != 0)
  | .byt y => y.size ≤ sizeLine ∧ k = ((y.size : Int) != 0)
  | .ref p => (∃ xs, SqL K H p xs ∧ k = !xs.isEmpty) ∨ (∃ xs, SqT K H p xs ∧ k = !xs.isEmpty) ∨ ∃ kvs, H p = some (.dK kvs) ∧ k = !kvs.isEmpty
  | _ => False
theorem isEmpty_kv {κ : Type} {kvs : List (κ × V)} {vs : List (κ × Value)} (r : KV kvs vs) : (!vs.isEmpty) = !kvs.isEmpty := by
  cases r <;> rfl
theorem isEmpty_of {xs : List V} {its : List Value} (r : Vals xs its) : (!its.toArray.isEmpty) = !xs.isEmpty := by
  cases r <;> simp
theorem line63 : (sizeLine : Nat) < 2 ^ 63 := by rw [sizeLine_eq]; decide
theorem tru_ok : TruR X (fun x H Q => ∃ k, TruV X.K x H k ∧ Q k H) := by
  intro pins s σ H x v Q I rx h
  obtain ⟨k, e, q⟩ := h
  have hl := line63
  have hs : sizeLine = 16777216 := sizeLine_eq
  cases x with
  | non =>
    cases rx
    have e' : k = false := e
    subst e'
    exact truthy_none ⟨H, I, q⟩
  | bl b =>
    cases rx
    have e' : k = b := e
    subst e'
    exact wpAny_truthy_bool ⟨H, I, q⟩
  | int i =>
    obtain ⟨t, rfl⟩ := rx
    have e' : k = (i != 0) := e
    subst e'
    exact PySem.P.truthy_int ⟨H, I, q⟩
  | str y =>
    obtain ⟨t, rfl⟩ := rx
    obtain ⟨hy, e'⟩ : y.length ≤ sizeLine ∧ k = ((y.length : Int) != 0) := e
    subst e'
    exact PySem.P.truthy_str (by omega) ⟨H, I.tok _, q⟩
  | byt y =>
    obtain ⟨t, rfl⟩ := rx
    obtain ⟨hy, e'⟩ : y.size ≤ sizeLine ∧ k = ((y.size : Int) != 0) := e
    subst e'
    exact PySem.W.truthy_bytes (by omega) ⟨H, I.tok _, q⟩
  | ref p =>
    cases rx
    have e' : (∃ xs, SqL X.K H p xs ∧ k = !xs.isEmpty) ∨ (∃ xs, SqT X.K H p xs ∧ k = !xs.isEmpty) ∨ ∃ kvs, H p = some (.dK kvs) ∧ k = !kvs.isEmpty := e
    rcases e' with ⟨xs, hx, e'⟩ | ⟨xs, hx, e'⟩ | ⟨kvs, hx, e'⟩
    · subst e'
      obtain ⟨its, r, pl, hz⟩ := I.list hx
      have hlen := r.length
      exact wpAny_truthy_list pl.isList (by simp only [List.size_toArray]; omega) ⟨H, I.tok _, by rw [isEmpty_of r]; exact q⟩
    · subst e'
      obtain ⟨its, r, pl, hz⟩ := I.tuple hx
      have hlen := r.length
      exact truthy_tuple pl (by simp only [List.size_toArray]; omega) ⟨H, I.tok _, by rw [isEmpty_of r]; exact q⟩
    · subst e'
      obtain ⟨hz, hS, vs, r, m⟩ : kvs.length ≤ sizeLine ∧ (p == sysModules) = false ∧ ∃ vs, KV kvs vs ∧ s.heap.DictOf (mixKind X.prog X.w) p vs := I.hok p _ hx
      have hlen : kvs.length = vs.length := Paired.length r
      exact wpAny_truthy_dict hS m (by omega) ⟨H, I.tok _, by rw [isEmpty_kv r]; exact q⟩
  | _ => exact (show False from e).elim
/-- any expression whose test is its value's truth (a name, a call, a subscript, a field ..: he by fun _ => rfl) -/
theorem pt_truth (ha : PE X a ta) (he : ∀ whole, isTrue a X.env whole = (do let v ← whole; standAt a.pos; holding [v] (truthy v))) :
    PT X a (fun σ H Q => ta σ H fun x H' => ∃ k, TruV X.K x H' k ∧ Q k H') := by
  intro pins s σ H Q I h
  exact isTrue_plain (thn (ha pins s σ H _ I h) fun v s1 ⟨x, H1, I1, r1, q1⟩ => tru_ok pins s1 σ H1 x v Q I1 r1 q1) (he _)

/-! ### strs and bytes -/
def PlainIxT (b : Expr) : Prop := ∀ o i, subscripted b false o i = operate [o, i] (getItem o i)
/-! ### scalar builtins, by CallR -/
theorem vals1 {x : V} {us : List Value} (r : Vals [x] us) : ∃ u, us = [u] ∧ RelV x u := by
  cases r with
  | cons r1 r2 => cases r2; exact ⟨_, rfl, r1⟩
theorem vals2 {x y : V} {us : List Value} (r : Vals [x, y] us) : ∃ u w', us = [u, w'] ∧ RelV x u ∧ RelV y w' := by
  cases r with
  | cons r1 r2 =>
    cases r2 with
    | cons r3 r4 => cases r4; exact ⟨_, _, rfl, r1, r3⟩
theorem call_min2 (hc : X.calm = true) : CallR X (.builtin "min") (fun xs H Q => ∃ i j, xs = [.int i, .int j] ∧ Q (.int (if j < i then j else i)) H) := by
  intro pins s σ H xs us Q I r h
  obtain ⟨i, j, rfl, q⟩ := h
  obtain ⟨u, w', rfl, ⟨t, rfl⟩, ⟨t', rfl⟩⟩ := vals2 r
  refine min_two_ints (I.ok.hd hc) fun h' tk k => ⟨_, H, I.kept k, ?_, q⟩
  by_cases hj : j < i
  · rw [if_pos hj, if_pos hj]; exact ⟨_, rfl⟩
  · rw [if_neg hj, if_neg hj]; exact ⟨_, rfl⟩
theorem call_int1 : CallR X (.type "int") (fun xs H Q => (∃ i, xs = [.int i] ∧ Q (.int i) H) ∨ ∃ k, xs = [.bl k] ∧ Q (.int (if k then 1 else 0)) H) := by
  intro pins s σ H xs us Q I r h
  rcases h with ⟨i, rfl, q⟩ | ⟨k, rfl, q⟩
  · obtain ⟨u, rfl, t, rfl⟩ := vals1 r
    exact call_int_int ⟨.int i, H, I, ⟨_, rfl⟩, q⟩
  · obtain ⟨u, rfl, r1⟩ := vals1 r
    cases r1
    exact call_int_bool ⟨.int (if k then 1 else 0), H, I.tok _, ⟨_, rfl⟩, q⟩
/-- len of a str, a bytes, a list, a tuple -/
def LenV (K : PySem.W.Frag) (x : V) (H : Hp) (n : Nat) : Prop :=
  match x with
  | .str y => y.length ≤ sizeLine ∧ n = y.length
  | .byt y => y.size ≤ sizeLine ∧ n = y.size
  | .ref p => (∃ xs, SqL K H p xs ∧ n = xs.length) ∨ ∃ xs, SqT K H p xs ∧ n = xs.length
  | _ => False
end
end L2

namespace L2
open PySem PySem.Spec PyProof.Rows

/-! ### an instance, its attributes a map -/
structure ObjM (h : Heap) (x dx C : Addr) (mA : Str → Option Value) : Prop where
  obj : h.get? x = some (PySem.W.instObj C dx)
  ns : h.Ns1 dx mA
  ne : dx ≠ x

theorem lookIn_ns {h : Heap} {dx : Addr} {mA : Str → Option Value} (n : h.Ns1 dx mA) : ∃ od, h.get? dx = some od ∧ ∀ name, PySem.W.lookIn name od = some (mA name) := by
  obtain ⟨o, es, ep, ho, hd, hk, _, hm⟩ := n
  refine ⟨o, ho, fun name => ?_⟩
  have e := hm name
  unfold nsFind findBy at e
  rw [← Array.find?_toList] at e
  unfold PySem.W.lookIn
  rw [hd]
  dsimp only
  split
  · rename_i y q
    rw [q] at e
    exact congrArg some e
  · rename_i q
    rw [q] at e
    have a : es.toList.any (·.refKey) = false := by
      rw [List.any_eq_false]
      intro y hy
      obtain ⟨z, t, hkey⟩ := hk y (Array.mem_toList_iff.mp hy)
      simp [DictEntry.refKey, hkey]
    have a' : ¬ es.toList.any (·.refKey) = true := by rw [a]; exact Bool.false_ne_true
    rw [if_neg a']
    exact congrArg some e

theorem ObjM.look {h : Heap} {x dx C : Addr} {mA : Str → Option Value} (I : ObjM h x dx C mA) : ∃ od, PySem.W.InstAt h x (PySem.W.instObj C dx) C (some od) ∧ ∀ name, PySem.W.lookIn name od = some (mA name) :=
  let ⟨od, ho, hl⟩ := lookIn_ns I.ns
  ⟨od, ⟨I.obj, rfl, rfl, ho⟩, hl⟩

section
variable {prog : Program} {w : World} {A : Around} {E : Value → Shared → Prop} {s : Shared} {K : PySem.W.Frag} {x dx C f : Addr} {mA : Str → Option Value} {name : Str} {v : Value}

end

/-! ### the attributes as a list of pairs -/
def putF (f : Str) (v : V) : List (Str × V) → List (Str × V)
  | [] => [(f, v)]
  | (g, x) :: r => if g = f then (g, v) :: r else (g, x) :: putF f v r
theorem RelO.none_of {o : Option Value} (r : RelO none o) : o = none := by
  cases o with
  | none => rfl
  | some u => exact (show False from r).elim
section
variable {P : Program} {w : World} {H H' : Hp} {h h' : Heap} {a C dx : Addr} {fs fs' : List (Str × V)}
theorem ins_get (hok : HOk P w H h) (e : H a = some (.ins C dx fs)) : ∃ mA, ObjM h a dx C mA ∧ (∀ f, RelO (fs.lookup f) (mA f)) ∧ PySem.Within mA (fs.map (·.1)) ∧ fs.length ≤ 1000 ∧ H dx = some (.own a) := by
  obtain ⟨d, z, ne, ob, mA, n, r, q⟩ := (show ObjOk P w H h a (.ins C dx fs) from hok a _ e)
  exact ⟨mA, ⟨ob, n, ne⟩, r, q, z, d⟩
end

/-! ### what of the text a class must have -/
structure Cls (K : PySem.W.Frag) (C : Addr) : Prop where
  pg : PySem.W.plainGet K C Str.empty = true
  hd : PySem.W.hasDictIn K C = true
  po : PySem.W.plainOver K C = true
  sa : PySem.W.findIn K (.ref C) "__setattr__" = some (some (.builtin "object.__setattr__"))
theorem Cls.get {K : PySem.W.Frag} {C : Addr} (c : Cls K C) (f : Str) : PySem.W.plainGet K C f = true := c.pg
/-- no class of it has the name -/
def NoAttr (K : PySem.W.Frag) (C : Addr) (f : Str) : Prop := PySem.W.findIn K (.ref C) f = some none
/-- a constant of the class -/
structure Con (K : PySem.W.Frag) (C : Addr) (f : Str) (v : V) (u : Value) : Prop where
  at_ : PySem.W.findIn K (.ref C) f = some (some u)
  rel : RelV v u
  get : PySem.W.specialIn K u "__get__" = some none
  cp : PySem.W.copiedNames.contains f = false
/-- a method: a plain def of the class or of one above it -/
structure Meth (K : PySem.W.Frag) (C : Addr) (m : Str) (f : Addr) : Prop where
  at_ : PySem.W.findIn K (.ref C) m = some (some (.ref f))
  fn : PySem.W.isFn K (.ref f) = true
  kp : PySem.W.keepIn K (.ref f) = true

section
variable {X : Cx} {pins : List (Addr × Obj)} {σ : St} {H : Hp} {s : Shared} {a C dx : Addr} {fs : List (Str × V)} {f : Str} {v : V} {A : Around} {E : Value → Shared → Prop}

/-- a new instance, tracked, without attributes -/
theorem Inv.made (I : Inv X pins σ H s) : Inv X pins σ (upd (upd H s.heap.objs.size (.own (s.heap.objs.size + 1))) (s.heap.objs.size + 1) (.ins C s.heap.objs.size []))
    { s with heap := (s.heap.push PySem.W.emptyDict).push (PySem.W.instObj C s.heap.objs.size) } := by
  have e1 : (s.heap.push PySem.W.emptyDict).get? s.heap.objs.size = some PySem.W.emptyDict := Heap.get?_push_size s.heap rfl
  have e2 : ((s.heap.push PySem.W.emptyDict).push (PySem.W.instObj C s.heap.objs.size)).get? (s.heap.objs.size + 1) = some (PySem.W.instObj C s.heap.objs.size) := by
    have := Heap.get?_push_size (s.heap.push PySem.W.emptyDict) (o := PySem.W.instObj C s.heap.objs.size) rfl
    rwa [Heap.size_push] at this
  have e3 : (s.heap.push PySem.W.emptyDict).Ns s.heap.objs.size (fun _ => none) := ⟨PySem.W.emptyDict, #[], _, e1, rfl, (fun e he => absurd he (by simp)), fun _ => rfl⟩
  have I1 := I.laid (a := s.heap.objs.size) (o := .own (s.heap.objs.size + 1)) (h' := s.heap.push PySem.W.emptyDict) (t' := s.toks) (fun b u q => Heap.get?_push_of_some _ q) (Nat.le_refl _) ⟨_, e1⟩
  refine I1.laid (a := s.heap.objs.size + 1) (o := .ins C s.heap.objs.size []) (t' := s.toks) (fun b u q => Heap.get?_push_of_some _ q) (Nat.le_of_eq (Heap.size_push _ _)) ?_
  have ne : s.heap.objs.size ≠ s.heap.objs.size + 1 := Nat.ne_of_lt (Nat.lt_succ_self _)
  refine ⟨by rw [upd_ne ne, upd_same], Nat.zero_le _, ne, e2, fun _ => none, (Heap.Ns1.of_empty e3).at fun o q => Heap.get?_push_of_some _ q, fun _ => True.intro, fun y hy => absurd rfl hy⟩

end

/-! ### readings and rules -/
/-- e.f, an attribute of the instance -/
def tFld (K : PySem.W.Frag) (ta : TE) (f : Str) : TE := fun σ H Q => ta σ H fun x H1 => ∃ a C dx fs v, x = .ref a ∧ H1 a = some (.ins C dx fs) ∧ Cls K C ∧ NoAttr K C f ∧ fs.lookup f = some v ∧ Q v H1
/-- e.f, a constant of the class -/
def tCon (K : PySem.W.Frag) (ta : TE) (f : Str) : TE := fun σ H Q => ta σ H fun x H1 => ∃ a C dx fs v u, x = .ref a ∧ H1 a = some (.ins C dx fs) ∧ Cls K C ∧ Con K C f v u ∧ fs.lookup f = none ∧ Q v H1
/-- e.f = value -/
def sFld (K : PySem.W.Frag) (ta tv : TE) (f : Str) : TS := fun D σ H => tv σ H fun y H1 => ta σ H1 fun x H2 => ∃ a C dx fs, x = .ref a ∧ H2 a = some (.ins C dx fs) ∧ Cls K C ∧ NoAttr K C f ∧ fs.length < 1000 ∧
  D.nx σ (upd H2 a (.ins C dx (putF f y fs)))
/-- an augmented operator on two values -/
def InOp (X : Cx) (op : Operator) (rd : V → V → Hp → VK → Prop) : Prop :=
  ∀ (pins : List (Addr × Obj)) (s : Shared) (σ : St) (H : Hp) (x y : V) (u v : Value) (Q : VK), Inv X pins σ H s → RelV x u → RelV y v → rd x y H Q → wpAny (model X.prog X.w) X.A (inplaceOp op u v) (EP X pins σ Q) X.xe s
/-- e.f op= value -/
def sFldAug (K : PySem.W.Frag) (ta tv : TE) (rd : V → V → Hp → VK → Prop) (f : Str) : TS := fun D σ H => ta σ H fun x H1 => ∃ a C dx fs v, x = .ref a ∧ H1 a = some (.ins C dx fs) ∧ Cls K C ∧ NoAttr K C f ∧ fs.lookup f = some v ∧
  tv σ H1 fun y H2 => rd v y H2 fun z H3 => ∃ dx' fs', H3 a = some (.ins C dx' fs') ∧ fs'.length < 1000 ∧ D.nx σ (upd H3 a (.ins C dx' (putF f z fs')))

section
variable {X : Cx} {o e value : Expr} {f : Str} {pos pos' tpos : Pos} {ta tv : TE}
def rAdd : V → V → Hp → VK → Prop := fun x y H Q => ∃ i j, x = .int i ∧ y = .int j ∧ Q (.int (i + j)) H
def rSub : V → V → Hp → VK → Prop := fun x y H Q => ∃ i j, x = .int i ∧ y = .int j ∧ Q (.int (i - j)) H
end

/-! ### isinstance -/
section
variable {X : Cx} {pins : List (Addr × Obj)} {σ : St} {H : Hp} {s : Shared} {A : Around} {E : Value → Shared → Prop} {Q : Value → Shared → Prop} {c : Value} {b : Bool}
/-- the type of a value, as the fragment's deciders take it; for an instance its class -/
inductive TyOf (K : PySem.W.Frag) (H : Hp) : V → Value → Prop where
  | non : TyOf K H .non (.type "NoneType")
  | bl (x : Bool) : TyOf K H (.bl x) (.type "bool")
  | int (i : Int) : TyOf K H (.int i) (.type "int")
  | str (x : Str) : TyOf K H (.str x) (.type "str")
  | flt (x : UInt64) : TyOf K H (.flt x) (.type "float")
  | lst {a : Addr} {xs : List V} (e : H a = some (.lst xs)) : TyOf K H (.ref a) (.type "list")
  | frz {a : Addr} {o : Obj} {xs : List V} (e : H a = some (.frz o (.lst xs))) : TyOf K H (.ref a) (.type "list")
  | tup {a : Addr} {xs : List V} (e : H a = some (.tup xs)) : TyOf K H (.ref a) (.type "tuple")
  | dK {a : Addr} {kvs : List (Key × V)} (e : H a = some (.dK kvs)) : TyOf K H (.ref a) (.type "dict")
  | dT {a : Addr} {kvs : List (List Key × V)} (e : H a = some (.dT kvs)) : TyOf K H (.ref a) (.type "dict")
  | ins {a C dx : Addr} {fs : List (Str × V)} (e : H a = some (.ins C dx fs)) (cl : Cls K C) (ha : PySem.W.findIn K (.ref C) "__class__" = some (some (.builtin "object.__class__")))
      (hn : PySem.W.specialIn K (.builtin "object.__class__") "__get__" = some (some (.builtin "getset_descriptor.__get__"))) (htk : PySem.W.takesIn K (.builtin "object.__class__") = some true)
      (hm : PySem.W.mroIn K C (.type "object") = some true) : TyOf K H (.ref a) (.ref C)
/-- isinstance(x, c) for one class c, a built-in or an own one: kitOne's answer -/
theorem isinst_ok {x : V} {u t : Value} (I : Inv X pins σ H s) (rx : RelV x u) (ty : TyOf X.K H x t) (e : PySem.W.kitOne X.K t c = some b) (h : ∀ tk, Q (.bool b) { s with toks := tk }) :
    wpAny (model X.prog X.w) A (call (.builtin "isinstance") [u, c]) Q E s := by
  cases ty with
  | non => cases (show u = Value.none from rx); exact PySem.W.kia_one PySem.W.kitx_none I.kIn True.intro e (fun z => nomatch z) h
  | bl y => cases (show u = Value.bool y from rx); exact PySem.W.kia_one PySem.W.kitx_bool I.kIn True.intro e (fun z => nomatch z) h
  | int i => obtain ⟨t, q⟩ := (show ∃ t, u = Value.int i t from rx); cases q; exact PySem.W.kia_one PySem.W.kitx_int I.kIn True.intro e (fun z => nomatch z) h
  | str y => obtain ⟨t, q⟩ := (show ∃ t, u = Value.str y t from rx); cases q; exact PySem.W.kia_one PySem.W.kitx_str I.kIn True.intro e (fun z => nomatch z) h
  | flt y => obtain ⟨t, q⟩ := (show ∃ t, u = Value.float y t from rx); cases q; exact PySem.W.kia_one PySem.W.kitx_float I.kIn True.intro e (fun z => nomatch z) h
  | @lst a xs ea =>
    cases (show u = Value.ref a from rx)
    obtain ⟨_, _, n, _, h1⟩ := (show ObjOk X.prog X.w H s.heap a (.lst xs) from I.hok a _ ea)
    exact PySem.W.kia_one PySem.W.kitx_list I.kIn ⟨_, h1, rfl⟩ e (fun z => nomatch z) h
  | @frz a ob xs ea =>
    cases (show u = Value.ref a from rx)
    obtain ⟨_, _, _, n, _, h1⟩ := (show ObjOk X.prog X.w H s.heap a (.frz ob (.lst xs)) from I.hok a _ ea)
    exact PySem.W.kia_one PySem.W.kitx_list I.kIn ⟨_, h1, rfl⟩ e (fun z => nomatch z) h
  | @tup a xs ea =>
    cases (show u = Value.ref a from rx)
    obtain ⟨_, _, _, p⟩ := (show ObjOk X.prog X.w H s.heap a (.tup xs) from I.hok a _ ea)
    obtain ⟨o, h1, h2, _⟩ := p
    exact PySem.W.kia_one PySem.W.kitx_tuple I.kIn ⟨o, h1, h2⟩ e (fun z => nomatch z) h
  | @dK a kvs ea =>
    cases (show u = Value.ref a from rx)
    obtain ⟨_, _, vs, _, p⟩ := (show ObjOk X.prog X.w H s.heap a (.dK kvs) from I.hok a _ ea)
    obtain ⟨o, es, ep, h1, h2, _⟩ := p
    exact PySem.W.kia_one PySem.W.kitx_dict I.kIn ⟨o, h1, h2.1⟩ e (fun z => nomatch z) h
  | @dT a kvs ea =>
    cases (show u = Value.ref a from rx)
    obtain ⟨_, _, xs, _, o, es, ep, h1, h2, _⟩ := (show ObjOk X.prog X.w H s.heap a (.dT kvs) from I.hok a _ ea)
    exact PySem.W.kia_one PySem.W.kitx_dict I.kIn ⟨o, h1, h2.1⟩ e (fun z => nomatch z) h
  | @ins a C dx fs ea cl ha hn htk hm =>
    cases (show u = Value.ref a from rx)
    obtain ⟨mA, O, _⟩ := ins_get I.hok ea
    obtain ⟨od, J, _⟩ := O.look
    exact PySem.W.kia_one (PySem.W.kitx_own (cl.get _) cl.hd ha hn htk hm) I.kIn J e (fun z => nomatch z) h
end
end L2

namespace L2
open PySem PySem.Spec PyProof.Rows

/-! ### room -/
structure Room (k : Nat) (A : Around) : Prop where
  hd : A.handled = none
  dp : A.depth + 3 * k + 5 < recursionLimit
  un : A.units + 16 * k + 200 < cLine
theorem Room.mono {j k : Nat} {A : Around} (r : Room k A) (h : j ≤ k) : Room j A := ⟨r.hd, by have := r.dp; omega, by have := r.un; omega⟩
theorem Room.deeper {k : Nat} {A : Around} (r : Room (k + 1) A) (env : Env) : Room k (A.deeper env) :=
  ⟨r.hd, by have := r.dp; show A.depth + 1 + 3 * k + 5 < _; omega, by have := r.un; show A.units + 3 + 16 * k + 200 < _; omega⟩
theorem Room.in1 {k : Nat} {A : Around} (r : Room (k + 1) A) : Room k A.in1 :=
  ⟨r.hd, by have := r.dp; show A.depth + 3 * k + 5 < _; omega, by have := r.un; show A.units + 1 + 16 * k + 200 < _; omega⟩
theorem make_depth {A : Around} {C : Addr} {us : List Value} {kw : List (Str × Value)} : (A.under (.builtin "type.__call__" ⟨.ref C :: us, kw⟩)).depth = A.depth + 1 := by
  first | rfl | simp [Around.under, Code.weight, Code.isCreation, Code.isGuard, Code.isCaller, Code.frames, Code.isFrame, guardIds]
theorem make_units {A : Around} {C : Addr} {us : List Value} {kw : List (Str × Value)} : (A.under (.builtin "type.__call__" ⟨.ref C :: us, kw⟩)).units = A.units + 1 := by
  first | rfl | simp [Around.under, Code.cUnits, Code.frames, Code.isFrame]
theorem Room.make {k : Nat} {A : Around} (r : Room (k + 1) A) (C : Addr) (us : List Value) (kw : List (Str × Value)) : Room k (A.under (.builtin "type.__call__" ⟨.ref C :: us, kw⟩)) :=
  ⟨r.hd, by have := r.dp; rw [make_depth]; omega, by have := r.un; rw [make_units]; omega⟩
theorem Room.depth {k : Nat} {A : Around} (r : Room k A) : A.depth < recursionLimit := by have := r.dp; omega
theorem Room.units {k : Nat} {A : Around} (r : Room k A) : A.units + 64 < cLine := by have := r.un; omega
/-! ### argument lists and displays -/
def tNil : TA := fun _ H Q => Q [] H
def tCons (ta : TE) (tr : TA) : TA := fun σ H Q => ta σ H fun x H1 => tr σ H1 fun xs H2 => Q (x :: xs) H2
section
variable {X : Cx} {e : Expr} {es : List Expr} {te : TE} {t : TA} {pos : Pos}
theorem pa_nil : PA X [] tNil := fun _ _ _ _ H Q I h => Calls.spliced_nil ⟨[], H, I, .nil, h⟩
theorem pa_cons (ha : PE X e te) (hr : PA X es t) (hs : starEach (e :: es) X.env = (false, eval e X.env) :: starEach es X.env := by rfl) : PA X (e :: es) (tCons te t) := by
  intro pos pins s σ H Q I h
  rw [hs]
  show wpAny _ _ (spliced ((false, eval e X.env) :: backTo pos (starEach es X.env))) _ _ s
  refine Calls.spliced_cons (thn (ha pins s σ H _ I h) fun u s1 ⟨x, H1, I1, r1, q1⟩ => ?_)
  exact thn (hr pos pins s1 σ H1 _ I1 q1) fun us s2 ⟨xs, H2, I2, r2, q2⟩ => ⟨x :: xs, H2, I2, .cons r1 r2, q2⟩

/-- a tuple, a list of written items -/
def tTup (t : TA) : TE := fun σ H Q => t σ H fun xs H1 => xs.length ≤ sizeLine ∧ ∀ p, H1 p = none → Q (.ref p) (upd H1 p (.tup xs))
def tLst (t : TA) : TE := fun σ H Q => t σ H fun xs H1 => xs.length ≤ sizeLine ∧ ∀ p, H1 p = none → Q (.ref p) (upd H1 p (.lst xs))
theorem pe_tup {x1} (h : PA X es t) : PE X (.Tuple es x1 pos) (tTup t) := by
  intro pins s σ H Q I hq
  refine wpAny_Tuple_spliced (thn (h pos pins s σ H _ I hq) fun us s1 ⟨xs, H1, I1, r, z, q⟩ => ⟨by rw [← r.length]; exact z, ?_⟩)
  have hf : H1 s1.heap.objs.size = none := I1.hok.fresh (Nat.le_refl _)
  refine ⟨.ref s1.heap.objs.size, upd H1 s1.heap.objs.size (.tup xs), I1.laid (t' := s1.toks) (fun b u e => Heap.get?_push_of_some _ e) (Nat.le_refl _) ?_, rfl, q _ hf⟩
  exact ⟨z, us, r, ⟨_, Heap.get?_push_size _ rfl, rfl, _, rfl⟩⟩
theorem pe_lst (h : PA X es t) : PE X (.List es pos) (tLst t) := by
  intro pins s σ H Q I hq
  refine wpAny_List_spliced (thn (h pos pins s σ H _ I hq) fun us s1 ⟨xs, H1, I1, r, z, q⟩ => ⟨by rw [← r.length]; exact z, ?_⟩)
  have hf : H1 s1.heap.objs.size = none := I1.hok.fresh (Nat.le_refl _)
  refine ⟨.ref s1.heap.objs.size, upd H1 s1.heap.objs.size (.lst xs), I1.laid (t' := s1.toks) (fun b u e => Heap.get?_push_of_some _ e) (Nat.le_refl _) ?_, rfl, q _ hf⟩
  exact ⟨z, us, 0, r, Heap.get?_push_size _ rfl⟩
end

/-! ### what a def promises -/
/-- a def's promise: the bound arguments in the parameters' order, the heap, the wanted end, the wanted exception -/
abbrev Sp := List V → Hp → VK → XK → Prop
/-- how an exception lies behind a call (file 08 gives it): the callers' frames, abstract heap and state ahead of the call, the wish, the exception, the state -/
abbrev CXT := List Env → Hp → Shared → XK → Value → Shared → Prop

/-- the state at a call -/
structure Env0 (P : Program) (w : World) (K : PySem.W.Frag) (mg : Str → Option Value) (base : Heap) (A : Around) (outer : List Env) (s : Shared) (H : Hp) : Prop where
  frames : A.frames = some outer
  mod : Mod K mg base
  bs : ∀ b o, base.get? b = some o → s.heap.get? b = some o ∧ H b = none
  bsz : base.objs.size ≤ s.heap.objs.size
  funs : s.heap.FunFrames base outer
  frf : ∀ b ∈ frs outer, H b = none
  hok : HOk P w H s.heap
  bare : AllBare s.gens
/-- a call's end -/
def CE (outer : List Env) (P : Program) (w : World) (H : Hp) (s : Shared) (Q : VK) (u : Value) (s' : Shared) : Prop :=
  ∃ v H', s'.os = s.os ∧ AllBare s'.gens ∧ Un (frs outer) [] H H' s.heap s'.heap ∧ HOk P w H' s'.heap ∧ RelV v u ∧ Q v H'
def CR (CX : CXT) (outer : List Env) (P : Program) (w : World) (H : Hp) (s : Shared) (Q : VK) (E : XK) (r : Result) (s' : Shared) : Prop :=
  match r with
  | .ok (.ret u) => CE outer P w H s Q u s'
  | .ok _ => False
  | .error e => CX outer H s E e s'
structure FnOk (P : Program) (w : World) (K : PySem.W.Frag) (mg : Str → Option Value) (base : Heap) (CX : CXT) (k : Nat) (f : Addr) (fd : FuncData) (ps : List Str) (sp : Sp) : Prop where
  len : ∀ vs H Q E, sp vs H Q E → vs.length = ps.length
  run : ∀ (A : Around) (outer : List Env) (s : Shared) (H : Hp) (args : Args) (us : List Value) (vs : List V) (Q : VK) (E : XK), Room k A → Env0 P w K mg base A outer s H → BindsTo s fd args (ps.zip us) → Vals vs us → sp vs H Q E →
    codeAny (model P w) A (.call (.ref f) args) (CR CX outer P w H s Q E) s
theorem FnOk.mono {P : Program} {w : World} {K : PySem.W.Frag} {mg : Str → Option Value} {base : Heap} {CX : CXT} {j k : Nat} {f : Addr} {fd : FuncData} {ps : List Str} {sp : Sp} (F : FnOk P w K mg base CX j f fd ps sp) (h : j ≤ k) :
    FnOk P w K mg base CX k f fd ps sp := ⟨F.len, fun A outer s H args us vs Q E hr => F.run A outer s H args us vs Q E (hr.mono h)⟩
theorem Env0.make {P : Program} {w : World} {K : PySem.W.Frag} {mg : Str → Option Value} {base : Heap} {A : Around} {outer : List Env} {s : Shared} {H : Hp} (e : Env0 P w K mg base A outer s H) (C : Addr) (us : List Value) (kw : List (Str × Value)) :
    Env0 P w K mg base (A.under (.builtin "type.__call__" ⟨.ref C :: us, kw⟩)) outer s H := ⟨by first | exact e.frames | (simpa [Around.under, Code.envs, Code.isFrame, pushEnvs] using e.frames), e.mod, e.bs, e.bsz, e.funs, e.frf, e.hok, e.bare⟩
theorem Env0.in1 {P : Program} {w : World} {K : PySem.W.Frag} {mg : Str → Option Value} {base : Heap} {A : Around} {outer : List Env} {s : Shared} {H : Hp} (e : Env0 P w K mg base A outer s H) :
    Env0 P w K mg base A.in1 outer s H := ⟨e.frames, e.mod, e.bs, e.bsz, e.funs, e.frf, e.hok, e.bare⟩

section
variable {X : Cx} {pins : List (Addr × Obj)} {σ : St} {H : Hp} {s s' : Shared}
/-- from a body: what a callee wants -/
theorem Inv.env0 (I : Inv X pins σ H s) : Env0 X.prog X.w X.K X.mg X.base X.A X.stack s H :=
  ⟨I.ok.frames, I.ok.mod, I.bs, Nat.le_trans I.ok.bsz I.sz, I.stack, I.stkFree, I.hok, I.bare⟩
/-- behind a call -/
theorem Inv.after {Q : VK} {u : Value} (I : Inv X pins σ H s) (h : CE X.stack X.prog X.w H s Q u s') : EP X pins σ Q u s' := by
  obtain ⟨v, H', os, bare, un, hok, r, q⟩ := h
  obtain ⟨hh, g, d, t, os'⟩ := s'
  obtain rfl : os' = s.os := os
  exact ⟨v, H', I.call (h' := hh) (g' := g) (d' := d) (t' := t) (ch := []) un hok bare (fun b z => absurd z (by simp)), r, q⟩
end

/-! ### calls -/
/-- f(..): the written arguments, then the defaults dvs; E: what is wanted of an exception -/
def tCall (sp : Sp) (dvs : List V) (E : XK) (t : TA) : TE := fun σ H Q => t σ H fun vs H1 => sp (vs ++ dvs) H1 Q E
/-- o.m(..) of an instance of the class at C -/
def tMeth (C : Addr) (m : Str) (sp : Sp) (dvs : List V) (E : XK) (ta : TE) (t : TA) : TE := fun σ H Q => ta σ H fun x H1 => ∃ a dx fs, x = .ref a ∧ H1 a = some (.ins C dx fs) ∧ fs.lookup m = none ∧
  t σ H1 fun vs H2 => sp (x :: (vs ++ dvs)) H2 Q E
/-- C(..): a new instance and its dict, then __init__ -/
def tMake (C : Addr) (sp : Sp) (dvs : List V) (E : XK) (t : TA) : TE := fun σ H Q => t σ H fun vs H1 => ∀ x dx, H1 x = none → H1 dx = none → dx ≠ x →
  sp (.ref x :: (vs ++ dvs)) (upd (upd H1 dx (.own x)) x (.ins C dx [])) (fun v H2 => v = .non ∧ Q (.ref x) H2) E

/-- how the parameters are bound: us the positional arguments, kw the keywords' values by name, ds the defaults that fill up -/
def Binds (K : PySem.W.Frag) (fd : FuncData) (ps : List Str) (ds : List Value) : Prop :=
  ∀ (s : Shared) (us : List Value), K.In s.heap → (us ++ ds).length = ps.length → BindsTo s fd ⟨us, []⟩ (ps.zip (us ++ ds))
/-- every parameter is given -/
theorem Binds.all {K : PySem.W.Frag} {fd : FuncData} {ps : List Str} (h : ∀ us : List Value, us.length = ps.length → bindArgs fd ⟨us, []⟩ = pure (ps.zip us)) : Binds K fd ps [] := fun s us _ hl => by
  rw [List.append_nil] at hl ⊢
  exact .of_eq (h us hl)

/-- an exception of a callee reaches what this body wants of exceptions -/
def Passes (CX : CXT) (X : Cx) (E : XK) : Prop := ∀ (pins : List (Addr × Obj)) (σ : St) (H : Hp) (s : Shared) (e : Value) (s' : Shared), Inv X pins σ H s → CX X.stack H s E e s' → X.xe e s'

section
variable {X : Cx} {CX : CXT} {k : Nat} {f C : Addr} {fd : FuncData} {ps : List Str} {sp : Sp} {dvs : List V} {ds : List Value} {E : XK} {x m : Str} {p pos apos : Pos} {e o : Expr} {es : List Expr} {ta : TE} {t : TA}

/-- the callee runs -/
theorem run_fn {pins : List (Addr × Obj)} {σ : St} {H : Hp} {s : Shared} {Q : VK} {us : List Value} {vs : List V} (F : FnOk X.prog X.w X.K X.mg X.base CX k f fd ps sp) (hr : Room k X.A) (hb : Binds X.K fd ps ds) (hd : Vals dvs ds) (hx : Passes CX X E)
    (I : Inv X pins σ H s) (r : Vals vs us) (h : sp (vs ++ dvs) H Q E) : wpAny (model X.prog X.w) X.A (call (.ref f) us) (EP X pins σ Q) X.xe s := by
  have r2 : Vals (vs ++ dvs) (us ++ ds) := r.append hd
  have hl : (us ++ ds).length = ps.length := by rw [← r2.length]; exact F.len _ _ _ _ h
  refine wpAny_call (codeAny_mono (F.run X.A X.stack s H ⟨us, []⟩ (us ++ ds) (vs ++ dvs) Q E hr I.env0 (hb s us I.kIn hl) r2 h) fun r s' hq => ?_)
  cases r with
  | error e => exact hx pins σ H s e s' I hq
  | ok fl =>
    cases fl with
    | ret u => exact I.after hq
    | next => exact False.elim hq
    | brk => exact False.elim hq
    | cont => exact False.elim hq

theorem pe_call (F : FnOk X.prog X.w X.K X.mg X.base CX k f fd ps sp) (hr : Room k X.A) (hg : Gl X x) (hm : X.mg x = some (.ref f)) (hk : PySem.W.keepIn X.K (.ref f) = true) (hb : Binds X.K fd ps ds) (hd : Vals dvs ds) (hx : Passes CX X E)
    (ha : PA X (e :: es) t) (hdb : (x == ("__debug__" : Str)) = false := by decide) (he : starEach (e :: es) X.env = (false, eval e X.env) :: starEach es X.env := by rfl) (hpl : (backTo pos (starEach es X.env)).any (·.1) = false := by rfl) :
    PE X (.Call (.Name x p) (e :: es) [] pos) (tCall sp dvs E t) := by
  intro pins s σ H Q I h
  refine wpAny_Call_Name_kw (ld_glob I hg hm ?_ hdb)
  refine PySem.W.callWith_K (h₀ := X.base) I.ok.mod.kin hk (thn (ha pos pins s σ H _ I h) fun us s1 ⟨vs, H1, I1, r, q⟩ => ⟨I1.kIn, ?_⟩) he hpl
  exact run_fn F hr hb hd hx I1 r q
/-- what a class must have to be made -/
structure Mk (K : PySem.W.Frag) (C f : Addr) : Prop where
  makes : PySem.W.makesIn K C = true
  init : PySem.W.findIn K (.ref C) "__init__" = some (some (.ref f))
  fn : PySem.W.isFn K (.ref f) = true
  kp : PySem.W.keepIn K (.ref C) = true

end

/-! ### keywords -/
/-- the values of the keywords, from the left -/
def PK (X : Cx) (kws : List Keyword) (t : TA) : Prop :=
  ∀ (pos : Pos) (pins : List (Addr × Obj)) (s : Shared) (σ : St) (H : Hp) (Q : List V → Hp → Prop), Inv X pins σ H s → t σ H Q → wpAny (model X.prog X.w) X.A (evalAll ((backToKw pos (keywordEach kws X.env)).map (·.2))) (AP X pins σ Q) X.xe s
section
variable {X : Cx} {CX : CXT} {k : Nat} {f C : Addr} {fd : FuncData} {ps ks : List Str} {sp : Sp} {E : XK} {x m : Str} {p pos apos kpos : Pos} {e o : Expr} {es : List Expr} {kws : List Keyword} {te ta : TE} {t tk : TA} {nm : Option Str}
/-- how a call with keywords binds: g puts the positional values us and the keywords' values ws (names ks) in the parameters' order, defaults among them -/
structure KBinds (K : PySem.W.Frag) (fd : FuncData) (ps ks : List Str) (g : List Value → List Value → List Value) (gV : List V → List V → List V) : Prop where
  to : ∀ (s : Shared) (us ws : List Value), K.In s.heap → (g us ws).length = ps.length → BindsTo s fd ⟨us, ks.zip ws⟩ (ps.zip (g us ws))
  rel : ∀ {vs : List V} {us : List Value} {zs : List V} {ws : List Value}, Vals vs us → Vals zs ws → Vals (gV vs zs) (g us ws)
def tCallK (sp : Sp) (gV : List V → List V → List V) (E : XK) (t tk : TA) : TE := fun σ H Q => t σ H fun vs H1 => tk σ H1 fun zs H2 => sp (gV vs zs) H2 Q E
variable {g : List Value → List Value → List Value} {gV : List V → List V → List V}
end

/-! ### a def's body keeps its promise -/
/-- names: the parameters first -/
structure FnScope (N P : List Str) (sc : Scope) : Prop where
  kind : sc.kind = .function
  co : sc.isCoroutine = false
  gen : sc.isGenerator = false
  nd : N.Nodup
  pre : N.take P.length = P
  par : ∀ x ∈ P, sc.names.lookup x = some .local ∨ sc.names.lookup x = some .cell
  nofree : ∀ y ∈ sc.names, y.2 ≠ .free

theorem bindL_out {kindOf : Str → Option NameKind} {x : Str} : ∀ {binds : List (Str × Value)} {m : Str → Option Value}, (∀ v, (x, v) ∉ binds) → bindL kindOf binds m x = m x
  | [], _, _ => rfl
  | (n, v) :: r, m, h => by
    unfold bindL
    rw [bindL_out fun w hw => h w (List.mem_cons_of_mem _ hw)]
    split
    · have : x ≠ n := by rintro rfl; exact h v List.mem_cons_self
      simp [this]
    · rfl
theorem bindC_out {kindOf : Str → Option NameKind} {x : Str} : ∀ {binds : List (Str × Value)} {m : Str → Option Value}, (∀ v, (x, v) ∉ binds) → bindC kindOf binds m x = m x
  | [], _, _ => rfl
  | (n, v) :: r, m, h => by
    unfold bindC
    rw [bindC_out fun w hw => h w (List.mem_cons_of_mem _ hw)]
    split
    · rfl
    · have : x ≠ n := by rintro rfl; exact h v List.mem_cons_self
      simp [this]
theorem bindL_get {kindOf : Str → Option NameKind} {x : Str} {v : Value} : ∀ {P : List Str} {vs : List Value} {i : Nat} {m : Str → Option Value}, P.Nodup → P[i]? = some x → vs[i]? = some v → kindOf x = some .local →
    bindL kindOf (P.zip vs) m x = some v
  | [], _, _, _, _, h, _, _ => by simp at h
  | _ :: _, [], _, _, _, _, h, _ => by simp at h
  | p :: P, w :: vs, 0, m, nd, h1, h2, hk => by
    simp at h1 h2; subst h1; subst h2
    show bindL kindOf ((p, w) :: P.zip vs) m p = _
    unfold bindL
    rw [bindL_out fun v hv => (List.nodup_cons.mp nd).1 (List.of_mem_zip hv).1, if_pos hk]
    simp
  | p :: P, w :: vs, i + 1, m, nd, h1, h2, hk => by
    show bindL kindOf ((p, w) :: P.zip vs) m x = _
    unfold bindL
    exact bindL_get (i := i) (List.nodup_cons.mp nd).2 (by simpa using h1) (by simpa using h2) hk
theorem bindC_get {kindOf : Str → Option NameKind} {x : Str} {v : Value} : ∀ {P : List Str} {vs : List Value} {i : Nat} {m : Str → Option Value}, P.Nodup → P[i]? = some x → vs[i]? = some v → kindOf x ≠ some .local →
    bindC kindOf (P.zip vs) m x = some v
  | [], _, _, _, _, h, _, _ => by simp at h
  | _ :: _, [], _, _, _, _, h, _ => by simp at h
  | p :: P, w :: vs, 0, m, nd, h1, h2, hk => by
    simp at h1 h2; subst h1; subst h2
    show bindC kindOf ((p, w) :: P.zip vs) m p = _
    unfold bindC
    rw [bindC_out fun v hv => (List.nodup_cons.mp nd).1 (List.of_mem_zip hv).1, if_neg hk]
    simp
  | p :: P, w :: vs, i + 1, m, nd, h1, h2, hk => by
    show bindC kindOf ((p, w) :: P.zip vs) m x = _
    unfold bindC
    exact bindC_get (i := i) (List.nodup_cons.mp nd).2 (by simpa using h1) (by simpa using h2) hk

/-- the names' values at the entry -/
def start (N : List Str) (vs : List V) : St := vs.map some ++ List.replicate (N.length - vs.length) none

/-- the context of a def's body, at its entry; an exception leaves the frame, then lies as CX says -/
def cxOf (CX : CXT) (P : Program) (w : World) (K : PySem.W.Frag) (mg : Str → Option Value) (base : Heap) (N : List Str) (qual : Str) (scope : Scope) (f : Addr) (cd : Value) (A : Around) (outer : List Env) (s : Shared) (H : Hp) (E : XK) : Cx where
  prog := P
  w := w
  K := K
  mg := mg
  base := base
  A := A.deeper (envOfC qual scope s.heap.objs.size f cd)
  N := N
  s₀ := s
  H₀ := H
  env := envOfC qual scope s.heap.objs.size f cd
  outer := outer
  stack := envOfC qual scope s.heap.objs.size f cd :: outer
  ex := []
  calm := true
  fn := fun _ => true
  pn := []
  xe := fun e s' => wpAny (model P w) (A.deeper (envOfC qual scope s.heap.objs.size f cd)) (leaving (envOfC qual scope s.heap.objs.size f cd) e) (fun _ s'' => CX outer H s E e s'') (fun e' s'' => CX outer H s E e' s'') s'

theorem cell_has {sc : Scope} {n : Nat} {x : Str} (h : sc.names.lookup x = some .cell) : ∃ c, (cellsFrom n sc.names []).lookup x = some c := by
  have q := PySem.W.cellsFrom_some sc.names n [] (.inl h)
  exact Option.isSome_iff_exists.mp q

theorem inv_start {CX : CXT} {P : Program} {w : World} {K : PySem.W.Frag} {mg : Str → Option Value} {base : Heap} {N ps : List Str} {qual : Str} {scope : Scope} {f : Addr} {cd : Value} {A : Around} {outer : List Env} {s s1 : Shared} {H : Hp} {E : XK} {us : List Value} {vs : List V}
    (S : FnScope N ps scope) (hd : A.handled = none) (e0 : Env0 P w K mg base A outer s H) (hl : vs.length = ps.length) (r : Vals vs us)
    (x : InCallC s s.heap.objs.size (bindL (envOfC qual scope s.heap.objs.size f cd).kindOf (ps.zip us) fun _ => none) (cellsFrom (s.heap.objs.size + 1) scope.names []) (bindC (envOfC qual scope s.heap.objs.size f cd).kindOf (ps.zip us) fun _ => none) s1) :
    Inv (cxOf CX P w K mg base N qual scope f cd A outer s H E) [] (start N vs) H s1 := by
  have hpl : ps.length ≤ N.length := by have := congrArg List.length S.pre; rw [List.length_take] at this; omega
  obtain ⟨h1, tk, rfl, hk⟩ := x.done
  have noA : ∀ b : Addr, b ∉ (cxOf CX P w K mg base N qual scope f cd A outer s H E).ex := fun b z => absurd (show b ∈ ([] : List Addr) from z) (by simp)
  refine ⟨⟨e0.mod, S.kind, rfl, rfl, Nat.le_refl _, fun y z c h1 h2 => ?_, fun y hy => ?_, fun y c _ h => ?_, fun _ => hd, Around.frames_deeper e0.frames, .inr ⟨rfl, rfl⟩, fun b z => absurd z (noA b), e0.bs, e0.bsz, fun b _ _ => noA b, fun b z => absurd z (noA b), e0.funs, e0.frf⟩,
    rfl, e0.bare, Un.kept hk, ⟨_, x.toInCall.ns, fun i y v h1 h2 h3 => ?_⟩, fun y c h => ⟨_, x.cell y c h⟩, e0.hok.fresh (Nat.le_refl _), fun y c h => ?_, fun p hp => absurd (show p ∈ ([] : List (Addr × Obj)) from hp) (by simp), e0.hok.kept hk, ?_⟩
  · exact name_of_addr x.apart (PySem.mem_of_lookup h1) (PySem.mem_of_lookup h2)
  · have hy : scope.names.lookup y = some .cell ∨ scope.names.lookup y = some .free := hy
    rcases hy with hy | hy
    · exact cell_has hy
    · exact absurd rfl (S.nofree _ (PySem.mem_of_lookup hy))
  · exact Nat.le_of_lt (x.above y c (PySem.mem_of_lookup h))
  · have hi : i < vs.length := by
      unfold start at h2
      by_cases hi : i < vs.length
      · exact hi
      · rw [List.getElem?_append_right (by simpa using hi)] at h2
        rw [List.getElem?_replicate] at h2
        split at h2 <;> cases h2
    have ha : vs[i]? = some v := by
      unfold start at h2
      rw [List.getElem?_append_left (by simpa using hi), List.getElem?_map] at h2
      cases e : vs[i]? with
      | none => rw [e] at h2; cases h2
      | some a => rw [e] at h2; cases h2; rfl
    obtain ⟨u, hu, rv⟩ := r.get ha
    have hp : ps[i]? = some y := by
      rw [← S.pre, List.getElem?_take_of_lt (by omega)]; exact h1
    have ndP : ps.Nodup := by rw [← S.pre]; exact S.nd.sublist (List.take_sublist _ _)
    refine ⟨u, rv, ?_⟩
    rcases S.par y (List.mem_of_getElem? hp) with k | k
    · exact .inl ⟨k, bindL_get ndP hp hu k⟩
    · obtain ⟨c, e⟩ := cell_has (n := s.heap.objs.size + 1) k
      refine .inr ⟨.inl k, c, e, ?_⟩
      have q := x.cell y c e
      rw [bindC_get ndP hp hu (by show scope.names.lookup y ≠ _; rw [k]; decide)] at q
      exact q
  · exact e0.hok.fresh (Nat.le_of_lt (x.above y c (PySem.mem_of_lookup h)))
  · unfold start
    show _ = N.length
    rw [List.length_append, List.length_map, List.length_replicate]
    omega

/-- THE RULE: a def (or a method) of the text, by its body. The body's reading t is chosen for each entry; it is run at the parameters' values -/
theorem fn_of {CX : CXT} {P : Program} {w : World} {K : PySem.W.Frag} {mg : Str → Option Value} {base : Heap} {k : Nat} {f : Addr} {name qual : Str} {params : Arguments} {body : List Stmt} {scope : Scope} {dV kV doc pm cdv ct oc : Value} {an od : Option Addr}
    {osl : Array (Option Value)} {N ps : List Str} {sp : Sp} (lk : K.lookup f = some ⟨oc, od, .func (PySem.W.fnOf name qual params body scope dV kV doc pm an cdv ct), osl⟩) (hcd : PySem.W.codeIn K cdv qual = true) (S : FnScope N ps scope)
    (len : ∀ vs H Q E, sp vs H Q E → vs.length = ps.length)
    (hbody : ∀ (A : Around) (outer : List Env) (s : Shared) (H : Hp) (vs : List V) (Q : VK) (E : XK), Room k (A.deeper (envOfC qual scope s.heap.objs.size f cdv)) → sp vs H Q E →
      ∃ t, PSs (cxOf CX P w K mg base N qual scope f cdv A outer s H E) body t ∧ t { nx := fun _ H' => Q .non H', rt := Q } (start N vs) H) :
    FnOk P w K mg base CX (k + 1) f (PySem.W.fnOf name qual params body scope dV kV doc pm an cdv ct) ps sp := by
  refine ⟨len, fun A outer s H args us vs Q E hr e0 hb r hsp => ?_⟩
  have hl := len _ _ _ _ hsp
  have KX : K.In s.heap := e0.mod.kin.keeps fun b o e => (e0.bs b o e).1
  have lim : s.heap.NoLimit := e0.mod.nolimit.keeps fun b o e => (e0.bs b o e).1
  have hkind : ∀ y ∈ ps.zip us, scope.names.lookup y.1 = some .local ∨ (scope.names.lookup y.1 = some .cell ∧ ((cellsFrom (s.heap.objs.size + 1) scope.names []).lookup y.1).isSome = true) := fun ⟨n, v⟩ hy => by
    rcases S.par n (List.of_mem_zip hy).1 with q | q
    · exact .inl q
    · exact .inr ⟨q, PySem.W.cellsFrom_some _ _ _ (.inl q)⟩
  refine codeAny_call_function hr.depth (KX _ _ lk) rfl S.co S.gen rfl (PySem.W.codeRec_of KX hcd) (hb _ _ _ _ ?_)
  refine wpAny_newFunctionEnv_cells S.kind hkind fun env he s1 x => ?_
  subst he
  refine ⟨lim.keeps x.toInCall.keep, codeAny_func ?_⟩
  obtain ⟨t, ht, hq⟩ := hbody A outer s H vs Q E (hr.deeper _) hsp
  have I : Inv (cxOf CX P w K mg base N qual scope f cdv A outer s H E) [] (start N vs) H s1 := inv_start S hr.hd e0 hl r x
  refine wpAny_mono (ht [] s1 (start N vs) H _ I hq) (fun fl s' hs => ?_) fun e s' hs => hs
  have fin : ∀ {σ' : St} {H' : Hp} {v : V} {u : Value}, Inv (cxOf CX P w K mg base N qual scope f cdv A outer s H E) [] σ' H' s' → RelV v u → Q v H' → CE outer P w H s Q u s' :=
    fun {σ' H' v u} J rv q => ⟨v, H', J.os, J.bare, J.base, J.hok, rv, q⟩
  cases fl with
  | ret u =>
    obtain ⟨v, σ', H', J, rv, q⟩ := hs
    exact fin J rv q
  | next =>
    obtain ⟨σ', H', J, q⟩ := hs
    exact fin (v := V.non) (u := Value.none) J rfl q
  | brk =>
    obtain ⟨_, _, _, q⟩ := hs
    exact False.elim q
  | cont =>
    obtain ⟨_, _, _, q⟩ := hs
    exact False.elim q
end L2

namespace L2
open PySem PySem.Spec PyProof.Rows
section
variable {X : Cx} {x : Str} {p pos : Pos} {e : Expr} {es : List Expr} {t : TA} {id T : String} {r : List V → Hp → VK → Prop}

def tCB (r : List V → Hp → VK → Prop) (t : TA) : TE := fun σ H Q => t σ H fun vs H1 => r vs H1 Q
/-- f(e, ..), f a built-in function -/
theorem pe_callB (hc : CallR X (.builtin id) r) (hg : Gl X x) (hm : X.mg x = none) (hv : bootBuiltins x = some (.builtin id)) (ha : PA X (e :: es) t) (hn : x ≠ "__name__" := by decide) (hdb : (x == ("__debug__" : Str)) = false := by decide)
    (he : starEach (e :: es) X.env = (false, eval e X.env) :: starEach es X.env := by rfl) (hpl : (backTo pos (starEach es X.env)).any (·.1) = false := by rfl) : PE X (.Call (.Name x p) (e :: es) [] pos) (tCB r t) := by
  intro pins s σ H Q I h
  refine wpAny_Call_Name_kw (ld_blt I hg hm hv ?_ hn hdb)
  exact PyProof.Rows.callWith_builtin1 (thn (ha pos pins s σ H _ I h) fun us s1 ⟨vs, H1, I1, r1, q1⟩ => hc pins s1 σ H1 vs us Q I1 r1 q1) he hpl
/-- T(e, ..), T a built-in type -/
theorem pe_callTy (hc : CallR X (.type T) r) (hg : Gl X x) (hm : X.mg x = none) (hv : bootBuiltins x = some (.type T)) (ha : PA X (e :: es) t) (hn : x ≠ "__name__" := by decide) (hdb : (x == ("__debug__" : Str)) = false := by decide)
    (he : starEach (e :: es) X.env = (false, eval e X.env) :: starEach es X.env := by rfl) (hpl : (backTo pos (starEach es X.env)).any (·.1) = false := by rfl) : PE X (.Call (.Name x p) (e :: es) [] pos) (tCB r t) := by
  intro pins s σ H Q I h
  refine wpAny_Call_Name_kw (ld_blt I hg hm hv ?_ hn hdb)
  exact PyProof.Rows.callWith_type1 (thn (ha pos pins s σ H _ I h) fun us s1 ⟨vs, H1, I1, r1, q1⟩ => hc pins s1 σ H1 vs us Q I1 r1 q1) he hpl
end
end L2

namespace HT
open PySem PyProof.Rows

/-- t < u of tuples of ints -/
def lexLt : List Int → List Int → Bool
  | [], [] => false
  | [], _ :: _ => true
  | _ :: _, [] => false
  | x :: xs, y :: ys => if x = y then lexLt xs ys else decide (x < y)
section
open PySem.SeqAt
open PySem.AutoSeq1 (wpAny_loadPart')
open PySem.MeetsSeq PySem.MeetsSeq2 PySem.MeetsSeq3

end

section
variable {prog : Program} {w : World} {A : Around} {E : Value → Shared → Prop} {s : Shared}

/-! ### t[a:b], not the whole -/
/-- a slice's bound as a place among n (d where it is left out) -/
def sIx (n d : Nat) : Option Int → Nat
  | none => d
  | some v => if v < 0 then (v + (n : Int)).toNat else min v.toNat n
theorem sIx_none (n d : Nat) : sIx n d none = d := rfl
theorem sIx_nat (n d k : Nat) : sIx n d (some (k : Int)) = min k n := by
  show (if (k : Int) < 0 then ((k : Int) + (n : Int)).toNat else min (k : Int).toNat n) = min k n
  rw [if_neg (by omega), Int.toNat_natCast]
theorem sIx_le (n d : Nat) (hd : d ≤ n) (o : Option Int) : sIx n d o ≤ n := by
  cases o with
  | none => exact hd
  | some v =>
    show (if v < 0 then (v + (n : Int)).toNat else min v.toNat n) ≤ n
    by_cases hv : v < 0
    · rw [if_pos hv]; omega
    · rw [if_neg hv]; exact Nat.min_le_right _ _
theorem clip_eq (v : Int) (n d : Nat) : (if v < 0 then max (v + (n : Int)) 0 else min v (n : Int)) = ((sIx n d (some v) : Nat) : Int) := by
  show (if v < 0 then max (v + (n : Int)) 0 else min v (n : Int)) = (((if v < 0 then (v + (n : Int)).toNat else min v.toNat n) : Nat) : Int)
  by_cases hv : v < 0
  · simp only [if_pos hv]; omega
  · simp only [if_neg hv]; omega
theorem adjust_gen (lo hi : Option Int) (n : Nat) : Builtin.Slice.sliceAdjust lo hi 1 (n : Int) = (((sIx n 0 lo : Nat) : Int), ((sIx n n hi : Nat) : Int)) := by
  have h1 : ¬ ((1 : Int) < 0) := by omega
  unfold Builtin.Slice.sliceAdjust
  simp only [h1, if_false]
  refine Prod.ext ?_ ?_
  · cases lo with
    | none => rfl
    | some v => exact clip_eq v n 0
  · cases hi with
    | none => rfl
    | some v => exact clip_eq v n n
theorem places_gen (i j : Nat) : Builtin.Slice.slicePlaces (i : Int) (j : Int) 1 = j - i := by
  unfold Builtin.Slice.slicePlaces
  have h1 : (1 : Int) > 0 := by omega
  simp only [h1, if_true, Int.ediv_one]
  split <;> omega
theorem slicePart_ {v : Value} {o : Option Int} {Q : Option Int → Shared → Prop} (p : IsPart v o) (h : Q o s) : wpAny (model prog w) A (Builtin.Slice.slicePartIndex v) Q E s := by
  cases p with
  | none => exact slicePart_none h
  | int i t => exact slicePart_int h
theorem sliceApplied_gen {sl : Addr} {vl vu : Value} {lo hi : Option Int} {n : Nat} {Q : Int × Int × Nat → Shared → Prop} (hs : s.heap.IsSliceOf sl vl vu .none) (pl : IsPart vl lo) (pu : IsPart vu hi)
    (h : Q (((sIx n 0 lo : Nat) : Int), 1, sIx n n hi - sIx n 0 lo) s) : wpAny (model prog w) A (Builtin.Slice.sliceApplied (.ref sl) (pure (n : Int))) Q E s := by
  obtain ⟨os, hos, hcs, hds⟩ := id hs
  unfold Builtin.Slice.sliceApplied Builtin.Slice.sliceFields
  refine wpAny_bind (wpAny_bind (wpAny_field hos hds (x := vl) rfl (wpAny_bind (wpAny_field hos hds (x := vu) rfl (wpAny_bind (wpAny_field hos hds (x := .none) rfl (wpAny_pure ?_)))))))
  refine wpAny_bind (slicePart_none ?_)
  show wpAny _ _ (if ((1 : Int) == 0) = true then _ else _) _ _ s
  rw [if_neg (by decide)]
  refine wpAny_bind (slicePart_ pl (wpAny_bind (slicePart_ pu (wpAny_bind (wpAny_pure ?_)))))
  show wpAny _ _ (match Builtin.Slice.sliceAdjust lo hi 1 (n : Int) with | (lo, hi) => pure (lo, (1 : Int), Builtin.Slice.slicePlaces lo hi 1)) _ _ s
  rw [adjust_gen lo hi n]
  show wpAny _ _ (pure (((sIx n 0 lo : Nat) : Int), (1 : Int), Builtin.Slice.slicePlaces ((sIx n 0 lo : Nat) : Int) ((sIx n n hi : Nat) : Int) 1)) _ _ s
  rw [places_gen]
  exact wpAny_pure h
theorem pick_gen (xs : Array Value) (i k : Nat) : ((List.range k).filterMap fun (m : Nat) => xs[((i : Int) + (m : Int) * 1).toNat]?).toArray = ((xs.toList.drop i).take k).toArray := by
  have e : (fun (m : Nat) => xs[((i : Int) + (m : Int) * 1).toNat]?) = fun m => xs[i + m]? := by
    funext m
    have : ((i : Int) + (m : Int) * 1).toNat = i + m := by omega
    rw [this]
  rw [e]
  have := pick_run xs i k
  rw [List.filterMap_map] at this
  have e2 : ((fun x => xs[x]?) ∘ fun x => i + x) = fun m => xs[i + m]? := rfl
  rw [e2] at this
  rw [this]

theorem getItem_tuple_cut {t sl : Addr} {items : Array Value} {vl vu : Value} {lo hi : Option Int} {Q : Value → Shared → Prop} (ht : IsTup s.heap t items) (hs : s.heap.IsSliceOf sl vl vu .none) (pl : IsPart vl lo) (pu : IsPart vu hi)
    (hw : ¬ (sIx items.size 0 lo = 0 ∧ sIx items.size items.size hi = items.size))
    (h : Q (.ref s.heap.objs.size) { s with heap := s.heap.push { cls := .type "tuple", data := .seq ((items.toList.drop (sIx items.size 0 lo)).take (sIx items.size items.size hi - sIx items.size 0 lo)).toArray } })
    (hsz : items.size ≤ sizeLine) : wpAny (model prog w) A (getItem (.ref t) (.ref sl)) Q E s := by
  have htake : sizeOk (.seq ((items.toList.drop (sIx items.size 0 lo)).take (sIx items.size items.size hi - sIx items.size 0 lo)).toArray) := by
    show ((items.toList.drop (sIx items.size 0 lo)).take (sIx items.size items.size hi - sIx items.size 0 lo)).toArray.size ≤ sizeLine
    rw [List.size_toArray, List.length_take, List.length_drop, Array.length_toList]
    omega
  have hj : sIx items.size items.size hi ≤ items.size := sIx_le _ _ (Nat.le_refl _) hi
  obtain ⟨os, hos, hcs, hds⟩ := id hs
  have hTs : s.TypeIs (.ref sl) "slice" := ⟨os, hos, hcs⟩
  unfold getItem
  try with_reducible refine wpAny_holding ?_
  first | refine wpAny_bind (wpAny_pure ?_) | skip
  refine wpAny_bind (wpAny_sequenceKey ht.typeIs (by decide) ?_)
  refine wpAny_bind (wpAny_callSpecial?_slot (name := Str.ofString "__getitem__") ht.typeIs PyProof.Rows.slot_tuple_getitem
    (wpAny_call_entry PyProof.Rows.slot_tuple_getitem ht.typeIs entry_tuple_getitem ?_ (args_tuple_getitem _ _)))
  show wpAny _ _ (Builtin.Tuple.tupleItemsOf (.ref t) >>= _) _ _ s
  refine wpAny_bind (tupleItemsOf_ ht ?_)
  refine wpAny_bind (wpAny_typeOf hTs ?_)
  rw [if_pos (by decide)]
  refine wpAny_bind (sliceApplied_gen hs pl pu ?_)
  have hno : ¬ ((((sIx items.size 0 lo : Nat) : Int) == 0 && (1 : Int) == 1 && (sIx items.size items.size hi - sIx items.size 0 lo) == items.size) = true) := by
    intro q
    rw [Bool.and_eq_true, Bool.and_eq_true] at q
    have q1 : ((sIx items.size 0 lo : Nat) : Int) = 0 := eq_of_beq q.1.1
    have q2 : sIx items.size items.size hi - sIx items.size 0 lo = items.size := eq_of_beq q.2
    exact hw ⟨by omega, by omega⟩
  show wpAny _ _ (if (((sIx items.size 0 lo : Nat) : Int) == 0 && (1 : Int) == 1 && (sIx items.size items.size hi - sIx items.size 0 lo) == items.size) = true then _ else _) _ _ s
  rw [if_neg hno, pick_gen]
  first
    | exact wpAny_bind (m := Builtin.Tuple.tupleExact _) (wpAny_newObj_type (wpAny_pure ⟨_, rfl, wpAny_pure h⟩) htake)
    | exact wpAny_bind (m := Builtin.Tuple.tupleExact _) (wpAny_newObj_type (wpAny_bind (wpAny_pure (wpAny_pure ⟨_, rfl, wpAny_pure h⟩))) htake)
    | exact wpAny_bind (wpAny_bind (m := Builtin.Tuple.tupleExact _) (wpAny_newObj_type (wpAny_pure (wpAny_pure ⟨_, rfl, wpAny_pure h⟩)) htake))
    | exact wpAny_bind (wpAny_bind (m := Builtin.Tuple.tupleExact _) (wpAny_newObj_type (wpAny_pure ⟨_, rfl, wpAny_pure h⟩) htake))
end
end HT

namespace L2
open PySem PySem.Spec PyProof.Rows

/-! ### the parts of a slice -/
abbrev TO := St → Hp → (Option Int → Hp → Prop) → Prop
/-- a slice's part (left out, or an int) -/
def PO (X : Cx) (e : Option Expr) (t : TO) : Prop :=
  ∀ (pins : List (Addr × Obj)) (s : Shared) (σ : St) (H : Hp) (Q : Option Int → Hp → Prop), Inv X pins σ H s → t σ H Q →
    wpAny (model X.prog X.w) X.A (evalPart e X.env) (fun u s' => ∃ o H', Inv X pins σ H' s' ∧ IsPart u o ∧ Q o H') X.xe s
def tNoPart : TO := fun _ H Q => Q none H
def tPart (t : TE) : TO := fun σ H Q => t σ H fun x H1 => ∃ i, x = .int i ∧ Q (some i) H1

section
variable {X : Cx} {e : Expr} {te : TE} {lo hi : Option Expr} {tl th : TO} {pos p2 : Pos}

theorem po_none : PO X none tNoPart := by
  intro pins s σ H Q I h
  rw [evalPart_none]
  exact wpAny_pure ⟨none, H, I, .none, h⟩
theorem po_some (h : PE X e te) : PO X (some e) (tPart te) := by
  intro pins s σ H Q I hw
  rw [evalPart_some]
  refine thn (h pins s σ H _ I hw) fun u s1 ⟨x, H1, I1, r1, q1⟩ => ?_
  obtain ⟨i, rfl, q⟩ := q1
  obtain ⟨t, rfl⟩ := r1
  exact ⟨some i, H1, I1, .int i t, q⟩

/-- what a slice of a value is, by values: the slice object stands at sl -/
def SlR (X : Cx) (r : V → Option Int → Option Int → Hp → VK → Prop) : Prop :=
  ∀ (pins : List (Addr × Obj)) (s : Shared) (σ : St) (H : Hp) (x : V) (v vl vu : Value) (lo hi : Option Int) (sl : Addr) (Q : VK), Inv X pins σ H s → RelV x v → s.heap.IsSliceOf sl vl vu .none → IsPart vl lo → IsPart vu hi → r x lo hi H Q →
    ∃ T id, typeLookup (.type T) "__getitem__" = pure (some (.builtin id)) ∧ s.TypeIs v T ∧ wpAny (model X.prog X.w) X.A (getItem v (.ref sl)) (EP X pins σ Q) X.xe s
theorem SlR.or {r r' : V → Option Int → Option Int → Hp → VK → Prop} (h : SlR X r) (h' : SlR X r') : SlR X (fun x lo hi H Q => r x lo hi H Q ∨ r' x lo hi H Q) := by
  intro pins s σ H x v vl vu lo hi sl Q I rx hs pl pu q
  rcases q with q | q
  · exact h pins s σ H x v vl vu lo hi sl Q I rx hs pl pu q
  · exact h' pins s σ H x v vl vu lo hi sl Q I rx hs pl pu q
def tSl (r : V → Option Int → Option Int → Hp → VK → Prop) (te : TE) (tl th : TO) : TE := fun σ H Q => te σ H fun x H1 => tl σ H1 fun l H2 => th σ H2 fun u H3 => r x l u H3 Q
/-- a[lo:hi], any a -/
theorem pe_slice {r : V → Option Int → Option Int → Hp → VK → Prop} (hr : SlR X r) (he : PE X e te) (hl : PO X lo tl) (hu : PO X hi th) : PE X (.Subscript e (.Slice lo hi none p2) pos) (tSl r te tl th) := by
  intro pins s σ H Q I h
  refine Subscript_ (thn (he pins s σ H _ I h) fun v s1 ⟨x, H1, I1, r1, q1⟩ => ?_)
  refine wpAny_Slice (thn (hl pins s1 σ H1 _ I1 q1) fun vl s2 ⟨l, H2, I2, pl, q2⟩ => thn (hu pins s2 σ H2 _ I2 q2) fun vu s3 ⟨u, H3, I3, pu, q3⟩ => ?_)
  rw [evalPart_none]
  refine wpAny_pure ?_
  have I4 : Inv X pins σ H3 { s3 with heap := s3.heap.push { cls := .type "slice", data := .fields #[vl, vu, .none] } } := I3.kept (t' := s3.toks) fun b ob q => Heap.get?_push_of_some _ q
  obtain ⟨T, id, hT, ht, hg⟩ := hr pins { s3 with heap := s3.heap.push { cls := .type "slice", data := .fields #[vl, vu, .none] } } σ H3 x v vl vu l u s3.heap.objs.size Q I4 r1 (Heap.IsSliceOf.new ..) pl pu q3
  show wpAny (model X.prog X.w) X.A (subscriptTail e (.Slice lo hi none p2) v (.ref s3.heap.objs.size)) (EP X pins σ Q) X.xe { s3 with heap := s3.heap.push { cls := .type "slice", data := .fields #[vl, vu, .none] } }
  exact tail_any (ops := [.ref s3.heap.objs.size, v]) ht hT hg (by with_unfolding_all rfl)

/-- the items of xs[lo:hi] -/
def cutV (xs : List V) (lo hi : Option Int) : List V := (xs.drop (HT.sIx xs.length 0 lo)).take (HT.sIx xs.length xs.length hi - HT.sIx xs.length 0 lo)
theorem cutV_length (xs : List V) (lo hi : Option Int) : (cutV xs lo hi).length ≤ xs.length := by
  unfold cutV
  rw [List.length_take, List.length_drop]
  omega
/-- t[lo:hi], not the whole of it (the whole would be t itself) -/
def rSlT (K : PySem.W.Frag) : V → Option Int → Option Int → Hp → VK → Prop := fun x lo hi H Q => ∃ a xs, x = .ref a ∧ SqT K H a xs ∧
  ¬ (HT.sIx xs.length 0 lo = 0 ∧ HT.sIx xs.length xs.length hi = xs.length) ∧ ∀ p, H p = none → Q (.ref p) (upd H p (.tup (cutV xs lo hi)))
theorem sl_tup : SlR X (rSlT X.K) := by
  intro pins s σ H x v vl vu lo hi sl Q I rx hs pl pu h
  obtain ⟨a, xs, rfl, hx, hw, q⟩ := h
  cases rx
  obtain ⟨its, r, ht, hz⟩ := I.tuple hx
  have hlen : its.toArray.size = xs.length := by rw [List.size_toArray]; exact r.length.symm
  refine ⟨"tuple", _, PyProof.Rows.slot_tuple_getitem.lookup, ht.typeIs, ?_⟩
  refine HT.getItem_tuple_cut ht hs pl pu (by rw [hlen]; exact hw) ?_ (by rw [hlen]; exact hz)
  rw [hlen]
  refine ⟨.ref s.heap.objs.size, _, I.laid (t' := s.toks) (o := .tup (cutV xs lo hi)) (fun b ob q => Heap.get?_push_of_some _ q) (Nat.le_refl _) ?_, rfl, q _ (I.hok.fresh (Nat.le_refl _))⟩
  exact ⟨Nat.le_trans (cutV_length xs lo hi) hz, _, (r.drop (HT.sIx xs.length 0 lo)).take (HT.sIx xs.length xs.length hi - HT.sIx xs.length 0 lo), IsTup.new _ _⟩

/-! ### t < u, t + u -/
def rLtT (K : PySem.W.Frag) : R2 := fun x y H Q => ∃ a b ns ms, x = .ref a ∧ y = .ref b ∧ SqT K H a (ns.map V.int) ∧ SqT K H b (ms.map V.int) ∧ Q (.bl (HT.lexLt ns ms)) H
/-- t + u, t not empty: u empty gives t itself -/
def rCatT (K : PySem.W.Frag) : R2 := fun x y H Q => ∃ a b xs ys, x = .ref a ∧ y = .ref b ∧ SqT K H a xs ∧ SqT K H b ys ∧ xs ≠ [] ∧ xs.length + ys.length ≤ sizeLine ∧
  (ys = [] → Q (.ref a) H) ∧ (ys ≠ [] → ∀ p, H p = none → Q (.ref p) (upd H p (.tup (xs ++ ys))))
end
end L2

namespace L2
open PySem PySem.Spec PyProof.Rows

/-! ### places -/
/-- the place that an index of any sign means -/
def ixN (n : Nat) (i : Int) : Option Nat := if 0 ≤ i then (if i < n then some i.toNat else none) else if -(n : Int) ≤ i then some (i + n).toNat else none
def atI {α : Type} (xs : List α) (i : Int) : Option α := (ixN xs.length i).bind fun j => xs[j]?
theorem ixN_seq {n : Nat} {i : Int} {j : Nat} (h : ixN n i = some j) : seqIndex? i n = some j ∧ j < n ∧ -(n : Int) ≤ i ∧ i < n := by
  unfold ixN at h
  by_cases h0 : 0 ≤ i
  · rw [if_pos h0] at h
    by_cases h1 : i < n
    · rw [if_pos h1] at h
      have e : i.toNat = j := Option.some.inj h
      exact ⟨by rw [seqIndex_of h0 h1, e], by omega, by omega, h1⟩
    · rw [if_neg h1] at h; cases h
  · rw [if_neg h0] at h
    by_cases h1 : -(n : Int) ≤ i
    · rw [if_pos h1] at h
      have e : (i + n).toNat = j := Option.some.inj h
      exact ⟨by rw [seqIndex_neg (by omega) h1, e], by omega, h1, by omega⟩
    · rw [if_neg h1] at h; cases h
theorem atI_get {α : Type} {xs : List α} {i : Int} {v : α} (h : atI xs i = some v) : ∃ j, seqIndex? i xs.length = some j ∧ xs[j]? = some v ∧ j < xs.length ∧ -(xs.length : Int) ≤ i ∧ i < xs.length := by
  unfold atI at h
  cases e : ixN xs.length i with
  | none => rw [e] at h; cases h
  | some j =>
    rw [e] at h
    obtain ⟨h1, h2, h3, h4⟩ := ixN_seq e
    exact ⟨j, h1, h, h2, h3, h4⟩
theorem atI_nat {α : Type} {xs : List α} {j : Nat} {v : α} (h : xs[j]? = some v) : atI xs (j : Int) = some v := by
  have hj : j < xs.length := (List.getElem?_eq_some_iff.mp h).1
  have e : ixN xs.length (j : Int) = some j := by
    unfold ixN
    rw [if_pos (by omega), if_pos (by omega)]; simp
  unfold atI; rw [e]; exact h
theorem atI_last {α : Type} (xs : List α) (v : α) : atI (xs ++ [v]) (-1) = some v := by
  have hl : (xs ++ [v]).length = xs.length + 1 := by simp
  have e : ixN (xs ++ [v]).length (-1) = some xs.length := by
    unfold ixN
    rw [hl, if_neg (by decide), if_pos (by omega)]
    congr 1
    omega
  unfold atI
  rw [e]
  show (xs ++ [v])[xs.length]? = some v
  simp

/-! ### what may be subscripted -/
/-- what stands as an index of a plain subscript -/
def PlainIx (b : Expr) : Prop := ∀ o i, subscripted b false o i = operate [o, i] (getItem o i)
/-- a subscript by values -/
def IxR (X : Cx) (r : R2) : Prop :=
  ∀ (value slice : Expr) (pins : List (Addr × Obj)) (s : Shared) (σ : St) (H : Hp) (x y : V) (v u : Value) (Q : VK), Inv X pins σ H s → RelV x v → RelV y u → r x y H Q →
    subscripted slice false v u = operate [v, u] (getItem v u) → wpAny (model X.prog X.w) X.A (subscriptTail value slice v u) (EP X pins σ Q) X.xe s
/-- a call of a builtin's method by values: the receiver, the arguments -/
def MtR (X : Cx) (id : String) (r : V → List V → Hp → VK → Prop) : Prop :=
  ∀ (pins : List (Addr × Obj)) (s : Shared) (σ : St) (H : Hp) (x : V) (xs : List V) (v : Value) (us : List Value) (Q : VK), Inv X pins σ H s → RelV x v → Vals xs us → r x xs H Q →
    wpAny (model X.prog X.w) X.A (call (.builtin id) (v :: us)) (EP X pins σ Q) X.xe s
section
variable {X : Cx} {a b : Expr} {ta tb : TE} {pos : Pos}
theorem IxR.or {r r' : R2} (h : IxR X r) (h' : IxR X r') : IxR X (fun x y H Q => r x y H Q ∨ r' x y H Q) := by
  intro value slice pins s σ H x y v u Q I rx ry q hs
  rcases q with q | q
  · exact h value slice pins s σ H x y v u Q I rx ry q hs
  · exact h' value slice pins s σ H x y v u Q I rx ry q hs
theorem MtR.or {id : String} {r r' : V → List V → Hp → VK → Prop} (h : MtR X id r) (h' : MtR X id r') : MtR X id (fun x xs H Q => r x xs H Q ∨ r' x xs H Q) := by
  intro pins s σ H x xs v us Q I rx rs q
  rcases q with q | q
  · exact h pins s σ H x xs v us Q I rx rs q
  · exact h' pins s σ H x xs v us Q I rx rs q
/-- a[b] -/
theorem pe_ix {r : R2} (hr : IxR X r) (ha : PE X a ta) (hb : PE X b tb) (hs : PlainIx b) : PE X (.Subscript a b pos) (tOp r ta tb) := by
  intro pins s σ H Q I h
  exact Subscript_ (binT ha hb I h fun v u s2 x y H2 I2 rx ry q => hr a b pins s2 σ H2 x y v u Q I2 rx ry q (hs _ _))

def rIxL (K : PySem.W.Frag) : R2 := fun x y H Q => ∃ p xs i v, x = .ref p ∧ y = .int i ∧ SqL K H p xs ∧ atI xs i = some v ∧ Q v H
def rIxT (K : PySem.W.Frag) : R2 := fun x y H Q => ∃ p xs i v, x = .ref p ∧ y = .int i ∧ SqT K H p xs ∧ atI xs i = some v ∧ Q v H
def rIxS : R2 := fun x y H Q => ∃ z i c, x = .str z ∧ y = .int i ∧ z.length ≤ sizeLine ∧ atI z.cps.toList i = some c ∧ Q (.str ⟨#[c]⟩) H
theorem ix_list : IxR X (rIxL X.K) := by
  intro value slice pins s σ H x y v u Q I rx ry h hs
  obtain ⟨p, xs, i, z, rfl, rfl, hq, he, q⟩ := h
  cases rx
  obtain ⟨t, rfl⟩ := ry
  obtain ⟨its, r, pl, hz⟩ := I.list hq
  obtain ⟨j, h1, h2, h3, h4, h5⟩ := atI_get he
  obtain ⟨w, ew, rw'⟩ := r.get h2
  have hl := r.length
  have hn := line63
  have fin : EP X pins σ Q w s := ⟨z, H, I, rw', q⟩
  by_cases h0 : 0 ≤ i
  · have hj : i.toNat = j := by
      rw [seqIndex_of h0 h5] at h1
      exact Option.some.inj h1
    exact item_listR pl.isList h0 (by omega) (by rw [hj]; simpa using ew) fin hs
  · have hj : (i + (its.toArray.size : Int)).toNat = j := by
      rw [seqIndex_neg (by omega) h4] at h1
      rw [List.size_toArray, ← hl]
      exact Option.some.inj h1
    exact subscriptTail_builtinR (x := w) pl.isList.typeIs slot_list_getitem.lookup
      (wpAny_getItem_list_neg (Q := fun r s' => r = w ∧ EP X pins σ Q r s') pl.isList (by omega) (by rw [List.size_toArray] <;> omega) (by omega) (by rw [hj]; simpa using ew) ⟨rfl, fin⟩) hs
theorem ix_tup : IxR X (rIxT X.K) := by
  intro value slice pins s σ H x y v u Q I rx ry h hs
  obtain ⟨p, xs, i, z, rfl, rfl, hq, he, q⟩ := h
  cases rx
  obtain ⟨t, rfl⟩ := ry
  obtain ⟨its, r, pl, hz⟩ := I.tuple hq
  obtain ⟨j, h1, h2, h3, h4, h5⟩ := atI_get he
  obtain ⟨w, ew, rw'⟩ := r.get h2
  have hl := r.length
  have hn := line63
  have fin : EP X pins σ Q w s := ⟨z, H, I, rw', q⟩
  exact subscriptTail_builtinR (x := w) pl.typeIs slot_tuple_getitem.lookup
    (getItem_tuple (j := j) (Q := fun r s' => r = w ∧ EP X pins σ Q r s') pl (by omega) (by omega) (by rw [List.size_toArray, ← hl]; exact h1) (by simpa using ew) ⟨rfl, fin⟩) hs
/-- list, tuple or str -/
def rIx (K : PySem.W.Frag) : R2 := fun x y H Q => rIxL K x y H Q ∨ rIxT K x y H Q ∨ rIxS x y H Q
/-! ### xs[i] = v, any sign -/
/-- the list's object behind a store -/
theorem mapSeq_set (its : List Value) (n j : Nat) (u : Value) : Obj.mapSeq (·.setIfInBounds j u) { cls := .type "list", data := .seq its.toArray n } = { cls := .type "list", data := .seq (its.set j u).toArray n } := by
  simp [Obj.mapSeq]
theorem Inv.lst {pins : List (Addr × Obj)} {σ : St} {H : Hp} {s : Shared} {p : Addr} {xs : List V} (I : Inv X pins σ H s) (h : H p = some (.lst xs)) :
    ∃ (its : List Value) (n : Nat), Vals xs its ∧ s.heap.get? p = some { cls := .type "list", data := .seq its.toArray n } ∧ xs.length ≤ sizeLine := by
  obtain ⟨z, its, n, r, e⟩ := I.hok p _ h
  exact ⟨its, n, r, e, z⟩
/-- the list at p is written by an update of its object -/
theorem Inv.lstUpd {pins : List (Addr × Obj)} {σ : St} {H : Hp} {s : Shared} {p : Addr} {xs ys : List V} {its its' : List Value} {n n' : Nat} {f : Obj → Obj} (I : Inv X pins σ H s) (h : H p = some (.lst xs))
    (ho : s.heap.get? p = some { cls := .type "list", data := .seq its.toArray n }) (hf : f { cls := .type "list", data := .seq its.toArray n } = { cls := .type "list", data := .seq its'.toArray n' }) (r : Vals ys its') (hz : ys.length ≤ sizeLine) (t : Nat) :
    Inv X pins σ (upd H p (.lst ys)) { s with heap := s.heap.update p f, toks := t } := by
  have e : (s.heap.update p f).get? p = some { cls := .type "list", data := .seq its'.toArray n' } := by
    rw [Heap.get?_update_self f ho (by rw [hf] <;> rfl), hf]
  refine I.write (x := p) (e := p) (by rw [h]; trivial) (.inl rfl) (fun b u hb q => (Heap.get?_update_other _ _ (Ne.symm hb)).trans q) ⟨_, e⟩ ?_
  exact ⟨hz, its', n', r, e⟩
def rSetL : V → V → V → Hp → (Hp → Prop) → Prop := fun o i v H Q => ∃ p xs k j, o = .ref p ∧ i = .int k ∧ H p = some (.lst xs) ∧ ixN xs.length k = some j ∧ Q (upd H p (.lst (xs.set j v)))
theorem set_list : PSet X rSetL := by
  intro pins s σ H o i v ov iv u Q I ro ri rv h
  obtain ⟨p, xs, k, j, rfl, rfl, hp, hj, q⟩ := h
  cases ro
  obtain ⟨t, rfl⟩ := ri
  obtain ⟨its, n, r, ho, hz⟩ := I.lst hp
  obtain ⟨h1, h2, h3, h4⟩ := ixN_seq hj
  have hl := r.length
  have hn := line63
  have I' : Inv X pins σ (upd H p (.lst (xs.set j v))) { s with heap := s.heap.update p (Obj.mapSeq (·.setIfInBounds j u)) } :=
    I.lstUpd hp ho (mapSeq_set its n j u) (r.set rv j) (by rw [List.length_set]; exact hz) s.toks
  by_cases h0 : 0 ≤ k
  · have hk : k.toNat = j := by
      rw [seqIndex_of h0 h4] at h1
      exact Option.some.inj h1
    exact PySem.W.ki_setAt ho h0 (by omega) (by rw [List.size_toArray, ← hl]; exact h4) (by rw [hk]; exact ⟨_, I', q⟩)
  · have hk : (k + (its.toArray.size : Int)).toNat = j := by
      rw [seqIndex_neg (by omega) h3] at h1
      rw [List.size_toArray, ← hl]
      exact Option.some.inj h1
    exact PySem.W.ki_setBack ho (by omega) (by rw [List.size_toArray, ← hl]; exact h3) (by omega) (by rw [hk]; exact ⟨_, I', q⟩)

/-! ### slices -/
theorem slice_bounds (lo hi : Option Int) (n : Nat) : (sliceBounds lo hi none n).1 = ((HT.sIx n 0 lo : Nat) : Int) ∧ (sliceBounds lo hi none n).2.1 = ((HT.sIx n n hi : Nat) : Int) ∧ (sliceBounds lo hi none n).2.2 = 1 := by
  refine ⟨?_, ?_, rfl⟩
  · cases lo with
    | none => simp [sliceBounds, HT.sIx]
    | some i =>
      simp only [sliceBounds, HT.sIx, Option.getD_none, show (1 : Int) > 0 by decide, if_true]
      by_cases h : i < 0
      · simp only [h, if_true] <;> omega
      · simp only [h, if_false] <;> omega
  · cases hi with
    | none => simp [sliceBounds, HT.sIx]
    | some i =>
      simp only [sliceBounds, HT.sIx, Option.getD_none, show (1 : Int) > 0 by decide, if_true]
      by_cases h : i < 0
      · simp only [h, if_true] <;> omega
      · simp only [h, if_false] <;> omega
theorem slicePick_cut (its : List Value) (lo hi : Option Int) : slicePick its.toArray lo hi none = ((its.drop (HT.sIx its.length 0 lo)).take (HT.sIx its.length its.length hi - HT.sIx its.length 0 lo)).toArray := by
  obtain ⟨h1, h2, h3⟩ := slice_bounds lo hi its.toArray.size
  unfold slicePick
  rw [h1, h2, h3]
  simp only [sliceRange_one, pick_run, List.size_toArray] <;> rfl
/-- xs[lo:hi] of a list: a new list -/
def rSlL (K : PySem.W.Frag) : V → Option Int → Option Int → Hp → VK → Prop := fun x lo hi H Q => ∃ a xs, x = .ref a ∧ SqL K H a xs ∧ ∀ p, H p = none → Q (.ref p) (upd H p (.lst (cutV xs lo hi)))
theorem sl_list : SlR X (rSlL X.K) := by
  intro pins s σ H x v vl vu lo hi sl Q I rx hs pl pu h
  obtain ⟨a, xs, rfl, hx, q⟩ := h
  cases rx
  obtain ⟨its, r, ht, hz⟩ := I.list hx
  have hlen := r.length
  refine ⟨"list", _, slot_list_getitem.lookup, ht.isList.typeIs, ?_⟩
  refine wpAny_getItem_list_slice ht.isList hs pl pu .none (by simp) ?_ (by rw [List.size_toArray] <;> omega)
  rw [slicePick_cut, ← hlen]
  refine ⟨.ref s.heap.objs.size, _, I.laid (t' := s.toks) (o := .lst (cutV xs lo hi)) (fun b ob q => Heap.get?_push_of_some _ q) (Nat.le_refl _) ?_, rfl, q _ (I.hok.fresh (Nat.le_refl _))⟩
  exact ⟨Nat.le_trans (cutV_length xs lo hi) hz, _, 0, (r.drop (HT.sIx xs.length 0 lo)).take (HT.sIx xs.length xs.length hi - HT.sIx xs.length 0 lo), Heap.get?_push_size _ rfl⟩

/-! ### in, not in: flat items -/
def flatV : V → Bool
  | .non => true
  | .bl _ => true
  | .int _ => true
  | .str _ => true
  | _ => false
/-- == of flat values -/
def eqV : V → V → Bool
  | .non, .non => true
  | .bl a, .bl b => a == b
  | .bl a, .int b => (if a then 1 else 0) == b
  | .int a, .bl b => a == (if b then 1 else 0)
  | .int a, .int b => a == b
  | .str a, .str b => a == b
  | _, _ => false
/-- the items' answers, read off the values (a value's own answer does not lean on its token) -/
def eqU (x : V) (u : Value) : Bool := match u with
  | .none => eqV .non x
  | .bool b => eqV (.bl b) x
  | .int i _ => eqV (.int i) x
  | .str z _ => eqV (.str z) x
  | _ => false
def inV (x : V) (xs : List V) : Bool := xs.any fun y => eqV y x
/-- x in a list or tuple of flat items -/
def rIn (K : PySem.W.Frag) (neg : Bool) : R2 := fun x y H Q => ∃ p xs, y = .ref p ∧ (SqL K H p xs ∨ SqT K H p xs) ∧ flatV x = true ∧ xs.all flatV = true ∧ Q (.bl (if neg then !inV x xs else inV x xs)) H
/-! ### len, list(x), tuple(x) of any list or tuple that is read -/
theorem call_len_seq : CallR X (.builtin "len") (fun xs H Q => ∃ p ys, xs = [.ref p] ∧ (SqL X.K H p ys ∨ SqT X.K H p ys) ∧ Q (.int ys.length) H) := by
  intro pins s σ H xs us Q I r h
  obtain ⟨p, ys, rfl, hq, q⟩ := h
  obtain ⟨u, rfl, rx⟩ := vals1 r
  cases rx
  have hn := line63
  rcases hq with hq | hq
  · obtain ⟨its, r', pl, hz⟩ := I.list hq
    have hlen := r'.length
    exact Calls.call_len_list pl.isList (by simp only [List.size_toArray] <;> omega) ⟨.int ys.length, H, I.tok _, ⟨s.toks + 1, by rw [List.size_toArray, hlen]⟩, q⟩
  · obtain ⟨its, r', pl, hz⟩ := I.tuple hq
    have hlen := r'.length
    exact len_tuple pl (by simp only [List.size_toArray] <;> omega) ⟨.int ys.length, H, I.tok _, ⟨s.toks + 1, by rw [List.size_toArray, hlen]⟩, q⟩
theorem CallR.or {f : Value} {r r' : List V → Hp → VK → Prop} (h : CallR X f r) (h' : CallR X f r') : CallR X f (fun xs H Q => r xs H Q ∨ r' xs H Q) := by
  intro pins s σ H xs us Q I rs q
  rcases q with q | q
  · exact h pins s σ H xs us Q I rs q
  · exact h' pins s σ H xs us Q I rs q
theorem call_tuple_of : CallR X (.type "tuple") (fun xs H Q => ∃ p ys, xs = [.ref p] ∧ ((SqL X.K H p ys ∧ ∀ l, H l = none → Q (.ref l) (upd H l (.tup ys))) ∨ (SqT X.K H p ys ∧ Q (.ref p) H))) := by
  intro pins s σ H xs us Q I r h
  obtain ⟨p, ys, rfl, h⟩ := h
  obtain ⟨u, rfl, rx⟩ := vals1 r
  cases rx
  rcases h with ⟨hq, q⟩ | ⟨hq, q⟩
  · obtain ⟨its, r', pl, hz⟩ := I.list hq
    have hlen := r'.length
    refine call_tuple_list pl.isList (fun h' kp => ?_) (by simp only [List.size_toArray] <;> omega)
    have I1 : Inv X pins σ H { s with heap := h' } := I.kept (t' := s.toks) kp
    have I2 : Inv X pins σ (upd H h'.objs.size (.tup ys)) { s with heap := h'.push { cls := .type "tuple", data := .seq its.toArray } } :=
      I1.laid (t' := s.toks) (fun b o e => Heap.get?_push_of_some _ e) (Nat.le_refl _) (show ObjOk X.prog X.w _ _ _ (.tup ys) from ⟨hz, its, r', IsTup.new _ _⟩)
    exact ⟨.ref h'.objs.size, _, I2, rfl, q _ (I1.hok.fresh (Nat.le_refl _))⟩
  · obtain ⟨its, r', pl, hz⟩ := I.tuple hq
    exact call_tuple_same pl ⟨.ref p, H, I, rfl, q⟩

/-! ### the call of a builtin's method: o.m(..) -/
/-- the value is of that builtin type -/
def tyV (K : PySem.W.Frag) (T : String) (x : V) (H : Hp) : Prop := match x with
  | .str _ => T = "str"
  | .int _ => T = "int"
  | .ref p => (T = "list" ∧ ∃ xs, SqL K H p xs) ∨ (T = "tuple" ∧ ∃ o, K.lookup p = some o ∧ o.cls = .type "tuple" ∧ o.dict = none) ∨
      (T = "dict" ∧ ((∃ kvs, H p = some (.dK kvs)) ∨ ∃ kvs, H p = some (.dT kvs))) ∨ (T = "set" ∧ ∃ S n, H p = some (.set S n))
  | _ => False
theorem tyV_is {pins : List (Addr × Obj)} {σ : St} {H : Hp} {s : Shared} {T : String} {x : V} {v : Value} (I : Inv X pins σ H s) (r : RelV x v) (ty : tyV X.K T x H) :
    s.TypeIs v T ∧ ∀ a, v = .ref a → ∃ ob, s.heap.get? a = some ob ∧ ob.dict = none := by
  cases x with
  | str z =>
    obtain ⟨t, rfl⟩ := r
    cases (show T = "str" from ty)
    exact ⟨typeIs_str s z t, fun _ e => nomatch e⟩
  | int i =>
    obtain ⟨t, rfl⟩ := r
    cases (show T = "int" from ty)
    exact ⟨typeIs_int s i t, fun _ e => nomatch e⟩
  | ref p =>
    cases r
    rcases ty with ⟨rfl, xs, hq⟩ | ⟨rfl, o, hk, hc, hd⟩ | ⟨rfl, hk⟩ | ⟨rfl, S, n, hk⟩
    · obtain ⟨its, _, pl, _⟩ := I.list hq
      refine ⟨pl.isList.typeIs, fun a e => ?_⟩
      cases e
      obtain ⟨o, n, e, c, hd, _⟩ := pl
      exact ⟨o, e, hd⟩
    · refine ⟨⟨o, I.kIn p o hk, hc⟩, fun a e => ?_⟩
      cases e
      exact ⟨o, I.kIn _ o hk, hd⟩
    · have z : ∃ o, s.heap.get? p = some o ∧ o.ExactDict := by
        rcases hk with ⟨kvs, hk⟩ | ⟨kvs, hk⟩
        · obtain ⟨_, _, _, _, o, _, _, e, ex, _⟩ := I.hok p _ hk
          exact ⟨o, e, ex⟩
        · obtain ⟨_, _, _, _, o, _, _, e, ex, _⟩ := I.hok p _ hk
          exact ⟨o, e, ex⟩
      obtain ⟨o, e, ex⟩ := z
      refine ⟨⟨o, e, ex.1⟩, fun a e2 => ?_⟩
      cases e2
      exact ⟨o, e, ex.2.1⟩
    · obtain ⟨o, _, _, _, e, ex, _⟩ := I.hok p _ hk
      refine ⟨⟨o, e, ex.1⟩, fun a e2 => ?_⟩
      cases e2
      exact ⟨o, e, ex.2.1⟩
  | _ => exact False.elim ty
def tBM0 (K : PySem.W.Frag) (T : String) (r : V → List V → Hp → VK → Prop) (to : TE) : TE := fun σ H Q => to σ H fun x H1 => tyV K T x H1 ∧ r x [] H1 Q
def tBM (K : PySem.W.Frag) (T : String) (r : V → List V → Hp → VK → Prop) (to : TE) (t : TA) : TE := fun σ H Q => to σ H fun x H1 => tyV K T x H1 ∧ t σ H1 fun xs H2 => r x xs H2 Q
variable {o e : Expr} {es : List Expr} {to : TE} {t : TA} {name : Str} {apos cpos : Pos} {T id : String} {r : V → List V → Hp → VK → Prop}
theorem pe_bm0 (pa : PlainAttrs T) (slot : Slot T name id) (hty : typeOf (.builtin id) = pure (.type "method_descriptor")) (hm : MtR X id r) (ho : PE X o to)
    (hbase : attributeBase o name X.env (eval o X.env) = eval o X.env := by rfl) (hline : (apos.endLine == cpos.line) = true := by rfl) : PE X (.Call (.Attribute o name apos) [] [] cpos) (tBM0 X.K T r to) := by
  intro pins s σ H Q I h
  refine wpAny_Call_method0_late hbase hline (thn (ho pins s σ H _ I h) fun v s1 ⟨x, H1, I1, r1, ty, q1⟩ => ?_)
  obtain ⟨h1, h2⟩ := tyV_is I1 r1 ty
  exact ⟨T, id, pa, slot, hty, h1, h2, Calls.callWith_builtin rfl (PySem.evalArgs_none (hm pins s1 σ H1 x [] v [] Q I1 r1 .nil q1))⟩
theorem pe_bm (pa : PlainAttrs T) (slot : Slot T name id) (hty : typeOf (.builtin id) = pure (.type "method_descriptor")) (hm : MtR X id r) (ho : PE X o to) (ha : PA X (e :: es) t)
    (hbase : attributeBase o name X.env (eval o X.env) = eval o X.env := by rfl)
    (hfew : ((backTo cpos (starEach (e :: es) X.env)).all (fun x => !x.1) && (backToKw cpos (keywordEach [] X.env)).all (fun x => x.1.isSome)
      && decide ((e :: es).length + ([] : List Keyword).length + (if ([] : List Keyword).isEmpty then 0 else 1) < 30)) = true := by rfl)
    (hline : (apos.endLine == cpos.line) = true := by rfl) (hs : starEach (e :: es) X.env = (false, eval e X.env) :: starEach es X.env := by rfl) (hplain : (backTo cpos (starEach es X.env)).any (·.1) = false := by rfl) :
    PE X (.Call (.Attribute o name apos) (e :: es) [] cpos) (tBM X.K T r to t) := by
  intro pins s σ H Q I h
  refine wpAny_Call_method_late hbase hfew hline rfl (thn (ho pins s σ H _ I h) fun v s1 ⟨x, H1, I1, r1, ty, q1⟩ => ?_)
  obtain ⟨h1, h2⟩ := tyV_is I1 r1 ty
  refine ⟨T, id, pa, slot, hty, h1, h2, ?_⟩
  have hA := ha cpos pins s1 σ H1 _ I1 q1
  rw [hs] at hA ⊢
  refine Calls.callWith_builtin (by show (false || (backTo cpos (starEach es X.env)).any (·.1)) = false; rw [hplain] <;> rfl) (Calls.evalArgs_plain ?_)
  exact thn hA fun us s2 ⟨vs, H2, I2, r2, q2⟩ => hm pins s2 σ H2 x vs v us Q I2 r1 r2 q2
/- xs.append(e), list.index on a module's tuple .. are MtR facts of 06m -/
end
end L2

namespace L2
open PySem PySem.Spec PyProof.Rows

def MtM (X : Cx) (id : String) (r : V → List V → Hp → VK → Prop) : Prop :=
  ∀ (pins : List (Addr × Obj)) (s : Shared) (σ : St) (H : Hp) (x : V) (xs : List V) (v : Value) (us : List Value) (Q : VK), Inv X pins σ H s → RelV x v → Vals xs us → r x xs H Q →
    wpAny (model X.prog X.w) X.A (call (.builtin id) (v :: us)) (EP X pins σ Q) X.xe s

/-! ### lists of values -/
theorem Vals.one : ∀ {x : V} {us : List Value}, Vals [x] us → ∃ u, us = [u] ∧ RelV x u
  | _, _, .cons r .nil => ⟨_, rfl, r⟩
theorem Vals.two : ∀ {x y : V} {us : List Value}, Vals [x, y] us → ∃ u v, us = [u, v] ∧ RelV x u ∧ RelV y v
  | _, _, _, .cons r (.cons q .nil) => ⟨_, _, rfl, r, q⟩
theorem Vals.zero : ∀ {us : List Value}, Vals [] us → us = []
  | _, .nil => rfl
theorem Vals.dropLast {xs : List V} {us : List Value} (h : Vals xs us) : Vals xs.dropLast us.dropLast := by
  induction h with
  | nil => exact .nil
  | cons r t ih =>
    cases t with
    | nil => exact .nil
    | cons q t' => exact .cons r ih
theorem Vals.eraseIdx : ∀ {xs : List V} {us : List Value} (i : Nat), Vals xs us → Vals (xs.eraseIdx i) (us.eraseIdx i)
  | _, _, _, .nil => .nil
  | _, _, 0, .cons _ t => t
  | _, _, i + 1, .cons r t => .cons r (Vals.eraseIdx i t)
theorem Vals.reverse {xs : List V} {us : List Value} (h : Vals xs us) : Vals xs.reverse us.reverse := by
  induction h with
  | nil => exact .nil
  | cons r t ih => rw [List.reverse_cons, List.reverse_cons]; exact Vals.append ih (.cons r .nil)
theorem Vals.rep {xs : List V} {us : List Value} (h : Vals xs us) : ∀ k : Nat, Vals (List.replicate k xs).flatten (List.replicate k us).flatten
  | 0 => .nil
  | k + 1 => by
    rw [List.replicate_succ, List.replicate_succ, List.flatten_cons, List.flatten_cons]
    exact Vals.append h (Vals.rep h k)
theorem erase_last {α : Type} (l : List α) : l.eraseIdx (l.length - 1) = l.dropLast := by
  induction l with
  | nil => rfl
  | cons a r ih =>
    cases r with
    | nil => rfl
    | cons b r =>
      have e : (a :: b :: r).length - 1 = ((b :: r).length - 1) + 1 := by
        have h1 : (a :: b :: r).length = r.length + 2 := rfl
        have h2 : (b :: r).length = r.length + 1 := rfl
        omega
      rw [e, List.eraseIdx_cons_succ, ih]
      all_goals rfl
theorem foldl_rep (its : List Value) : ∀ (k : Nat) (acc : List Value),
    List.foldl (fun x1 x2 => x1 ++ x2) acc.toArray (List.replicate k its.toArray) = (acc ++ (List.replicate k its).flatten).toArray
  | 0, acc => by simp
  | k + 1, acc => by
    have e : acc.toArray ++ its.toArray = (acc ++ its).toArray := by simp
    have e2 : (acc ++ its) ++ (List.replicate k its).flatten = acc ++ (List.replicate (k + 1) its).flatten := by
      rw [List.replicate_succ, List.flatten_cons, List.append_assoc]
    rw [← e2, ← foldl_rep its k (acc ++ its), ← e, List.replicate_succ, List.foldl_cons]

section
variable {X : Cx} {pins : List (Addr × Obj)} {σ : St} {H : Hp} {s : Shared} {l b : Addr} {xs ys zs : List V}

/-! ### the two steps: a tracked list is rewritten, a new list is laid -/
theorem Inv.lset {its its' : List Value} {n : Nat} {f : Array Value → Array Value} {t' : Nat} (I : Inv X pins σ H s) (hH : H l = some (.lst xs))
    (e : s.heap.get? l = some { cls := .type "list", data := .seq its.toArray n }) (hf : f its.toArray = its'.toArray) (hv : Vals ys its') (hz : ys.length ≤ sizeLine) :
    Inv X pins σ (upd H l (.lst ys)) { s with heap := s.heap.update l (Obj.mapSeq f), toks := t' } := by
  have q := PySem.IsL.update e f
  rw [hf] at q
  refine I.write (x := l) (e := l) (by rw [hH]; exact trivial) (.inl rfl) (fun b' u hb hu => (Heap.get?_update_other s.heap (Obj.mapSeq f) (Ne.symm hb)).trans hu) ⟨_, q⟩ ?_
  exact ⟨hz, its', _, hv, q⟩
theorem Inv.lnew {its : List Value} {t' : Nat} (I : Inv X pins σ H s) (hv : Vals ys its) (hz : ys.length ≤ sizeLine) :
    Inv X pins σ (upd H s.heap.objs.size (.lst ys)) { s with heap := s.heap.push { cls := .type "list", data := .seq its.toArray }, toks := t' } :=
  I.laid (fun _ _ q => Heap.get?_push_of_some _ q) (Nat.le_refl _) ⟨hz, its, 0, hv, Heap.get?_push_size _ rfl⟩
theorem Inv.fresh (I : Inv X pins σ H s) : H s.heap.objs.size = none := I.hok.fresh (Nat.le_refl _)
theorem Inv.lstM (I : Inv X pins σ H s) (hH : H l = some (.lst xs)) : xs.length ≤ sizeLine ∧ ∃ (its : List Value) (n : Nat), Vals xs its ∧ xs.length = its.length ∧ s.heap.get? l = some { cls := .type "list", data := .seq its.toArray n } := by
  obtain ⟨z, its, n, r, e⟩ := I.hok l _ hH
  exact ⟨z, its, n, r, r.length, e⟩

theorem notLongL {n : Nat} (h : n ≤ sizeLine) : Builtin.List.listTooLong n = false := by
  unfold Builtin.List.listTooLong
  exact decide_eq_false (by omega)
end

section
variable {X : Cx}

/-! ### methods -/
def rAppend : V → List V → Hp → VK → Prop := fun x vs H Q => ∃ l xs y, x = .ref l ∧ vs = [y] ∧ H l = some (.lst xs) ∧ xs.length < sizeLine ∧ Q .non (upd H l (.lst (xs ++ [y])))
theorem mt_append : MtM X "list.append" rAppend := by
  intro pins s σ H x vs v us Q I rx rv h
  obtain ⟨l, xs, y, rfl, rfl, hH, hz, q⟩ := h
  cases rx
  obtain ⟨u, rfl, ru⟩ := rv.one
  obtain ⟨z, its, n, r, hl, e⟩ := I.lstM hH
  refine call_meets F.slot_list_append ⟨_, e, rfl⟩ F.entry_list_append (F.args_list_append_2 _ _) (PySem.list_append l its.toArray n u (by rw [List.size_toArray]; omega)) ⟨e, ?_⟩
  refine ⟨.non, _, I.lset (its' := its ++ [u]) hH e (by simp) (r.append (.cons ru .nil)) ?_, rfl, q⟩
  rw [List.length_append, List.length_singleton]
  omega

def rExtend : V → List V → Hp → VK → Prop := fun x vs H Q => ∃ l b xs zs, x = .ref l ∧ vs = [.ref b] ∧ H l = some (.lst xs) ∧ H b = some (.lst zs) ∧ xs.length + zs.length ≤ sizeLine ∧ Q .non (upd H l (.lst (xs ++ zs)))
def rPop : V → List V → Hp → VK → Prop := fun x vs H Q => ∃ l xs y, x = .ref l ∧ vs = [] ∧ H l = some (.lst xs) ∧ xs[xs.length - 1]? = some y ∧ Q y (upd H l (.lst xs.dropLast))
theorem mt_pop : MtM X "list.pop" rPop := by
  intro pins s σ H x vs v us Q I rx rv h
  obtain ⟨l, xs, y, rfl, rfl, hH, hy, q⟩ := h
  cases rx
  have hus := rv.zero
  subst hus
  obtain ⟨z, its, n, r, hl, e⟩ := I.lstM hH
  obtain ⟨u, hu, ru⟩ := r.get hy
  have hy' : its.toArray[its.toArray.size - 1]? = some u := by
    show its.toArray[its.length - 1]? = some u
    rw [← Array.getElem?_toList, ← hl]
    exact hu
  refine call_meets F.slot_list_pop ⟨_, e, rfl⟩ F.entry_list_pop (F.args_list_pop_1 _) (MeetsSeq.list_pop_last l its.toArray n u hy' (by rw [List.size_toArray]; omega)) ⟨e, ?_⟩
  refine ⟨y, _, I.lset (its' := its.dropLast) hH e ?_ r.dropLast ?_, ru, q⟩
  · show its.toArray.eraseIdxIfInBounds (its.toArray.size - 1) = its.dropLast.toArray
    rw [List.size_toArray, List.eraseIdxIfInBounds_toArray, erase_last]
  · rw [List.length_dropLast]
    omega

def rPopAt : V → List V → Hp → VK → Prop := fun x vs H Q => ∃ l xs i k y, x = .ref l ∧ vs = [.int i] ∧ H l = some (.lst xs) ∧ -(2 ^ 63) ≤ i ∧ i < 2 ^ 63 ∧ seqIndex? i xs.length = some k ∧ xs[k]? = some y ∧ Q y (upd H l (.lst (xs.eraseIdx k)))
def rReverse : V → List V → Hp → VK → Prop := fun x vs H Q => ∃ l xs, x = .ref l ∧ vs = [] ∧ H l = some (.lst xs) ∧ Q .non (upd H l (.lst xs.reverse))
def rClear : V → List V → Hp → VK → Prop := fun x vs H Q => ∃ l xs, x = .ref l ∧ vs = [] ∧ H l = some (.lst xs) ∧ Q .non (upd H l (.lst []))
/-! ### list + list, list += list, list * int -/
def rCat : R2 := fun x y H Q => ∃ l b xs zs, x = .ref l ∧ y = .ref b ∧ H l = some (.lst xs) ∧ H b = some (.lst zs) ∧ xs.length + zs.length ≤ sizeLine ∧ ∀ p, H p = none → Q (.ref p) (upd H p (.lst (xs ++ zs)))
theorem op_cat : OpR X (binaryOp .Add) rCat := by
  intro pins s σ H x y v u Q I rx ry h
  obtain ⟨l, b, xs, zs, rfl, rfl, hH, hB, hz, q⟩ := h
  cases rx
  cases ry
  obtain ⟨z, its, n, r, hl, e⟩ := I.lstM hH
  obtain ⟨z2, its2, n2, r2, hl2, e2⟩ := I.lstM hB
  refine PySem.P.add_list e e2 ?_ (by rw [List.size_toArray, List.size_toArray]; omega)
  have ea : its.toArray ++ its2.toArray = (its ++ its2).toArray := by simp
  rw [ea]
  exact ⟨.ref _, _, I.lnew (t' := s.toks) (r.append r2) (by rw [List.length_append]; omega), rfl, q _ I.fresh⟩
/-- a list times an int (a negative one is nothing) -/
def rRep : R2 := fun x y H Q => ∃ l k xs, x = .ref l ∧ y = .int k ∧ H l = some (.lst xs) ∧ -(2 ^ 63) ≤ k ∧ k < 2 ^ 63 ∧ xs.length * k.toNat ≤ sizeLine ∧
  ∀ p, H p = none → Q (.ref p) (upd H p (.lst (List.replicate k.toNat xs).flatten))
theorem len_rep {α : Type} (xs : List α) (k : Nat) : (List.replicate k xs).flatten.length = k * xs.length := by
  induction k with
  | zero => simp
  | succ k ih => rw [List.replicate_succ, List.flatten_cons, List.length_append, ih, Nat.succ_mul, Nat.add_comm]
theorem op_rep : OpR X (binaryOp .Mult) rRep := by
  intro pins s σ H x y v u Q I rx ry h
  obtain ⟨l, k, xs, rfl, rfl, hH, h1, h2, hz, q⟩ := h
  cases rx
  obtain ⟨t, rfl⟩ := ry
  obtain ⟨z, its, n, r, hl, e⟩ := I.lstM hH
  have hlen : its.toArray.size * k.toNat ≤ sizeLine := by rw [List.size_toArray, ← hl]; exact hz
  have hcap : ¬ its.toArray.size * k.toNat > (2 ^ 63 - 1) / 8 := by
    have : (sizeLine : Nat) ≤ (2 ^ 63 - 1) / 8 := by decide
    omega
  have hfit : ¬ (!Builtin.List.listFitsIndex k) = true := by
    rw [fitsIndex_both h1 h2]
    exact Bool.false_ne_true
  have hlong : ¬ Builtin.List.listTooLong (its.toArray.size * k.toNat) = true := by
    rw [notLongL hlen]
    exact Bool.false_ne_true
  have hnew : List.foldl (fun x1 x2 => x1 ++ x2) #[] (List.replicate (if its.toArray.isEmpty = true then 0 else k.toNat) its.toArray) = (List.replicate k.toNat its).flatten.toArray := by
    have f0 : ∀ m : Nat, List.foldl (fun x1 x2 => x1 ++ x2) #[] (List.replicate m its.toArray) = (List.replicate m its).flatten.toArray := fun m => by
      have := foldl_rep its m []
      rw [List.nil_append] at this
      exact this
    rw [f0]
    cases its with
    | nil => simp
    | cons a r' => rw [if_neg (by simp)]
  refine wpAny_binaryOp_repeat_ref (T := "list") (U := "int") (by decide) ⟨_, e, rfl⟩ (fun s' => typeIs_int s' k t) noFill_list_mul F.fills_int_mul F.slot_int_rmul repeat_list F.slot_int_index.lookup
    (call_meets F.slot_int_rmul (typeIs_int s k t) F.entry_int_rmul (F.args_int_rmul_2 _ _) (int___rmul___int_list k t l its.toArray n)
      ⟨e, rfl, ⟨_, e, rfl⟩, call_meets F.slot_list_mul ⟨_, e, rfl⟩ F.entry_list_mul (F.args_list_mul_2 _ _) (AutoListH.list___mul___list_int_3 l its.toArray n k t hfit hcap hlong) ⟨e, ?_⟩⟩)
  rw [hnew]
  exact ⟨.ref _, _, I.lnew (t' := s.toks) (r.rep k.toNat) (by rw [len_rep, Nat.mul_comm]; exact hz), rfl, q _ I.fresh⟩

/-! ### del xs[i] -/
end

/-! ### xs[a:b] = ys -/
section
variable {prog : Program} {w : World} {A : Around} {E : Value → Shared → Prop} {s : Shared}
end

section
variable {X : Cx}
end
end L2

namespace Att
open PySem PySem.W PySem.Calls PyProof.Rows

/-! ### the script -/
theorem ints_of_wellAll {P : Params} {h : Heap} : ∀ (ns : List Int) (vs : List Value), WellAll P h vs (ns.map WData.int) → IntsAre vs ns := by
  intro ns
  induction ns with
  | nil =>
    intro vs w
    rw [List.map_nil] at w
    cases w
    exact .nil
  | cons n ns ih =>
    intro vs w
    rw [List.map_cons] at w
    cases w with
    | cons a b =>
      cases a
      exact .cons _ _ (ih _ b)

theorem script_of {l : OpenLaw} {n : Nat} (hn : l.most = some n) {P : Params} {h : Heap} {args : List WData} {vals : List Value}
    (hpre : l.row.toRowW.claim.pre args = true) (hwl : WellAll P h vals args) :
    ∃ a vs ns, vals = [Value.ref a] ∧ args = [WData.list (ns.map WData.int)] ∧ h.get? a = some { cls := .type "list", data := .seq vs.toArray } ∧ IntsAre vs ns ∧ ns.length ≤ n := by
  have hsh : WShape.hasAll [] args [.list .int] = true := (pre_splitW hpre).1
  have hc : l.pre.holds [] { args := args } = true := (pre_splitW hpre).2
  obtain ⟨d, r, rfl, h1, h2⟩ := hasAllW_cons hsh
  obtain rfl := hasAllW_nil h2
  obtain ⟨xs, rfl, h3⟩ := hasW_list h1
  obtain ⟨ns, rfl⟩ := items_int h3
  have hlen : ns.length ≤ n := by
    unfold OpenLaw.pre at hc
    have h4 : (WTm.not (.lt (.lit (.int (n : Int))) (.len (.arg 0)))).holds [] { args := [.list (ns.map .int)] } = true := by
      have h4 := (holds_andW hc).1
      rw [hn] at h4
      exact h4
    have h5 := condW_of h4 (w_not (w_lt w_lit (w_len_list (w_arg rfl))))
    rw [List.length_map] at h5
    refine Nat.le_of_not_lt fun q => ?_
    have q' : (n : Int) < ((ns.length : Nat) : Int) := by omega
    first
      | (rw [decide_eq_true q'] at h5; exact absurd h5 (by decide))
      | (simp at h5; omega)
  cases hwl with
  | cons w1 w2 =>
    cases w2
    cases w1 with
    | list ho hall => exact ⟨_, _, ns, rfl, rfl, ho, ints_of_wellAll ns _ hall, hlen⟩

theorem post_true (l : OpenLaw) (args : List WData) : l.row.toRowW.claim.post args (.bool true) args = true :=
  postW_of (r := l.row.toRowW) (X := (true == true))
    (show WShape.has [] (.bool true) .bool = true by first | rfl | decide | simp [WShape.has, WShape.arms, WShape.armsAll])
    (show (WTm.eq .res (.lit (.bool true))).value [] { args := args, res := some (.bool true), after := args } = some (.bool (true == true)) from w_eq_bool (w_res rfl) w_lit) rfl

/-! ### the attachment: holds_open's last premise (the goal 'hc' behind k_head) from a wpAny of the law's body -/
/-- the same from a codeAny of the CALL (for a layer whose function contracts speak of calls) -/
theorem attach_call {l : OpenLaw} {n : Nat} {q : Program} {loose : List Str} {XP : (Str → Option Value) → Heap → Prop} {YP : World → Heap → Prop} {d : DefRec}
    (hn : l.most = some n) (hdf : d.params.defaults = [])
    (call : ∀ (w : World) (s₀ s₁ : Shared) (mg mb : Str → Option Value) (fa : Addr) (o : Obj) (pm cd doc : Value) (a : Addr) (vs : List Value) (ns : List Int),
      Ground q loose [] XP w s₀ mg mb s₁.heap → YP w s₁.heap →
      s₁.heap.get? fa = some o → o.data = .func (docDef d.name d.params d.body d.scope pm cd doc) → s₁.heap.CodeRec cd d.name → mg d.name = some (.ref fa) →
      s₁.heap.get? a = some { cls := .type "list", data := .seq vs.toArray } → IntsAre vs ns → ns.length ≤ n → s₁.gens = #[] →
      codeAny (model l.prog w) callerA (.call (.ref fa) ⟨[.ref a], []⟩) (fun r s' => r = .ok (.ret (.bool true)) ∧ OldK s₁.heap s'.heap ∧ s'.os = s₁.os ∧ AllBare s'.gens) s₁) :
    WalkO q loose XP YP l.row.toRowW d [] (fun f vs => PySem.call f vs) := by
  intro w s₀ s₁ mg mb G Y fa o pm cd doc dV kV ho hd hcd hD hmg hg args vals as hpre hlay hrd hwl hlo
  obtain rfl : dV = .none := Dflts.none hD hdf
  obtain rfl : kV = .none := Dflts.noKw hD
  obtain ⟨a, vs, ns, rfl, rfl, hobj, hints, hlen⟩ := script_of hn hpre hwl
  refine enter_call (codeAny_mono (call w s₀ s₁ mg mb fa o pm cd doc a vs ns G Y ho (fd_plain hd) hcd hmg hobj hints hlen hg) fun r s' hq => ?_)
  obtain ⟨rfl, h2, h3, h4⟩ := hq
  exact ⟨.inl ⟨.bool true, .bool true, [], rfl, fun _ => rfl, .bool true, post_true l _, fun _ => ⟨List.Pairwise.nil, fun _ hm => (nomatch hm)⟩⟩, h2, h3, h4⟩

/-! ### rules over ANY heap (no ledger) from facts about the written part K: the library's own take a ledger (News) for what they write -/
section
variable {prog : Program} {w : World} {A : Around} {E : Value → Shared → Prop} {s : Shared} {K : Frag}

/-! the whole heap as the ledger: makes every rule that writes through a ledger a rule over any heap -/
def noObjs (h : Heap) : Heap := { h with objs := #[] }
def ledger (h : Heap) (L d : Addr) : List (Addr × Obj) := (List.range h.objs.size).filterMap fun a => if a = L ∨ a = d then none else (h.get? a).map fun o => (a, o)
end
end Att

namespace L2
open PySem PySem.Spec PyProof.Rows

theorem vals_ints : ∀ {vs : List Value} {ns : List Int}, IntsAre vs ns → Vals (ns.map V.int) vs
  | _, _, .nil => .nil
  | _, _, .cons n t h => .cons ⟨t, rfl⟩ (vals_ints h)

/-- nothing is tracked but the script, known to the object (or it is an object of the module) -/
def Only (H : Hp) : Prop := ∀ b, H b = none ∨ ∃ o xs, H b = some (.frz o (.lst xs))

/-- THE HEAD: the law's promise, at the heap behind the top. F, the promise of the law's def, may use that base is part of the heap (so K.In base, base.Ns mainGlobals mg stand in Mod) -/
theorem law_call {P : Program} {w : World} {K : PySem.W.Frag} {mg mb : Str → Option Value} {CX : CXT} {k : Nat} {fa a : Addr} {fd : FuncData} {x : Str} {sp : Sp} {s₁ : Shared} {vs : List Value} {ns : List Int}
    (KX : K.In s₁.heap) (hns : s₁.heap.Ns mainGlobals mg) (hb : s₁.heap.Ns builtinsNs mb) (hbb : ∀ x : Str, x ≠ "__name__" → mb x = bootBuiltins x) (hlim : s₁.heap.NoLimit) (hg : s₁.gens = #[])
    (ha : s₁.heap.get? a = some { cls := .type "list", data := .seq vs.toArray }) (hi : IntsAre vs ns) (hl : ns.length ≤ sizeLine) (hr : Room k callerA)
    (F : ∀ base : Heap, K.In base → base.Ns mainGlobals mg → FnOk P w K mg base CX k fa fd [x] sp) (hbind : ∀ (s : Shared) (u : Value), BindsTo s fd ⟨[u], []⟩ [(x, u)])
    (hsp : ∀ H : Hp, Only H → SqL K H a (ns.map V.int) → sp [.ref a] H (fun v _ => v = .bl true) fun _ _ _ => False)
    (hCX : ∀ H e s', CX [] H s₁ (fun _ _ _ => False) e s' → False) :
    codeAny (model P w) callerA (.call (.ref fa) ⟨[.ref a], []⟩) (fun r s' => r = .ok (.ret (.bool true)) ∧ OldK s₁.heap s'.heap ∧ s'.os = s₁.os ∧ AllBare s'.gens) s₁ := by
  have rv := vals_ints hi
  have lenV := hi.length
  -- from an abstract heap in which nothing but the script may be tracked
  have core : ∀ H : Hp, Only H → SqL K H a (ns.map V.int) → HOk P w H s₁.heap → (∀ b, H b ≠ none → b = a) → (H a ≠ none → K.lookup a = none) →
      codeAny (model P w) callerA (.call (.ref fa) ⟨[.ref a], []⟩) (fun r s' => r = .ok (.ret (.bool true)) ∧ OldK s₁.heap s'.heap ∧ s'.os = s₁.os ∧ AllBare s'.gens) s₁ := by
    intro H hO hS hok hA hK
    have base_of : ∀ {b : Addr} {o : Obj}, s₁.heap.get? b = some o → H b = none → (hidT s₁.heap H).get? b = some o := fun e n => hidT_get e n
    have noA : ∀ {b : Addr} {o : Obj} {es : Array DictEntry} {ep : Nat}, s₁.heap.get? b = some o → o.data = .dict es ep → H b = none := fun {b o es ep} e d => by
      cases q : H b with
      | none => rfl
      | some u =>
        have e' : b = a := hA b (by rw [q]; simp)
        subst e'
        rw [ha] at e; cases e
        have d' : Data.seq vs.toArray _ = Data.dict es ep := d
        cases d'
    have nsK : ∀ {b : Addr} {m : Str → Option Value}, s₁.heap.Ns b m → (hidT s₁.heap H).Ns b m := fun {b m} ⟨o, es, ep, e, d, r⟩ => ⟨o, es, ep, base_of e (noA e d), d, r⟩
    have hKb : K.In (hidT s₁.heap H) := fun b o e => base_of (KX b o e) (by
      cases q : H b with
      | none => rfl
      | some u =>
        have e' : b = a := hA b (by rw [q]; simp)
        subst e'
        rw [hK (by rw [q]; simp)] at e; cases e)
    have hM : Mod K mg (hidT s₁.heap H) := ⟨hKb, nsK hns, ⟨mb, nsK hb, hbb⟩, let ⟨mc, h1, h2⟩ := hlim; ⟨mc, nsK h1, h2⟩⟩
    have e0 : Env0 P w K mg (hidT s₁.heap H) callerA [] s₁ H := ⟨rfl, hM, fun b o e => of_hidT e, Nat.le_of_eq (hidT_size _ _), trivial, fun b hb => absurd (show b ∈ ([] : List Addr) from hb) (by simp), hok, .of_eq hg⟩
    refine codeAny_mono ((F _ hKb (nsK hns)).run callerA [] s₁ H ⟨[.ref a], []⟩ [.ref a] [.ref a] _ _ hr e0 (hbind s₁ (.ref a)) (.cons rfl .nil) (hsp H hO hS)) fun r s' h => ?_
    cases r with
    | error e => exact (hCX H e s' h).elim
    | ok fl =>
      cases fl with
      | next => exact False.elim h
      | brk => exact False.elim h
      | cont => exact False.elim h
      | ret u =>
        obtain ⟨v, H', os, bare, un, hok', r', q⟩ := h
        have q' : v = .bl true := q
        subst q'
        obtain rfl : u = Value.bool true := r'
        refine ⟨rfl, OldK.of_keep fun b o e => ?_, os, bare⟩
        cases q : H b with
        | none => exact un.keep b o e q (by intro z; exact absurd (show b ∈ ([] : List Addr) from z) (by simp)) (by simp)
        | some u =>
          rcases hO b with z | ⟨ob, xs, z⟩
          · rw [q] at z; cases z
          · have z2 := un.frzs b ob _ z
            obtain ⟨e1, _⟩ := hok b _ z
            obtain ⟨e2, _⟩ := hok' b _ z2
            rw [e] at e1; cases e1
            exact e2
  cases hk : K.lookup a with
  | some o =>
    -- the script is one of the module's own objects
    have e := KX a o hk
    rw [ha] at e
    cases e
    refine core (fun _ => none) (fun _ => .inl rfl) (.inr ⟨_, vs.toArray, _, hk, rfl, rfl, rfl, by rw [List.size_toArray, lenV]; exact hl, by simpa using rv⟩) (fun b u z => by have z' : (none : Option HO) = some u := z; cases z') (fun b z => absurd rfl z) fun z => absurd rfl z
  | none =>
    refine core (fun b => if b = a then some (.frz { cls := .type "list", data := .seq vs.toArray } (.lst (ns.map V.int))) else none) (fun b => ?_) (.inl (.inr ⟨{ cls := .type "list", data := .seq vs.toArray }, if_pos rfl⟩)) (fun b u z => ?_) (fun b z => ?_) fun _ => hk
    · by_cases hb : b = a
      · exact .inr ⟨_, _, if_pos hb⟩
      · exact .inl (if_neg hb)
    · by_cases hb : b = a
      · have z' := (if_pos hb).symm.trans z
        cases z'
        subst hb
        exact ⟨ha, by rw [List.length_map]; exact hl, vs, _, rv, ha⟩
      · have z' := (if_neg hb).symm.trans z
        cases z'
    · by_cases hb : b = a
      · exact hb
      · exact absurd (if_neg hb) z
end L2

namespace L2
open PySem PySem.Spec PyProof.Rows

abbrev KOf {K : PySem.W.Frag} {h : Heap} (_ : K.In h) : PySem.W.Frag := K

/-- the goal that k_head leaves (case hc), from the law's promise. F gives the function object fd (K's own) once, then the promise over every base -/
theorem walk_of {l : PySem.W.OpenLaw} {n k : Nat} {q : Program} {loose : List Str} {XP : (Str → Option Value) → Heap → Prop} {YP : World → Heap → Prop} {d : DefRec} {K : Params → PySem.W.Frag} {CX : World → CXT} {sp : World → Sp} {x : Str}
    (hn : l.most = some n) (hn2 : n ≤ sizeLine) (hdf : d.params.defaults = []) (hr : Room k callerA)
    (hY : ∀ (w : World) (h : Heap), YP w h → (K w.params).In h)
    (F : ∀ (w : World) (mg : Str → Option Value) (fa : Addr) (h : Heap), (K w.params).In h → h.Ns mainGlobals mg → mg d.name = some (.ref fa) →
      ∃ fd : FuncData, (∀ (s : Shared) (u : Value), BindsTo s fd ⟨[u], []⟩ [(x, u)]) ∧
        ∀ base : Heap, (K w.params).In base → base.Ns mainGlobals mg → FnOk l.prog w (K w.params) mg base (CX w) k fa fd [x] (sp w))
    (hsp : ∀ (w : World) (H : Hp) (a : Addr) (ns : List Int), ns.length ≤ n → Only H → SqL (K w.params) H a (ns.map V.int) → sp w [.ref a] H (fun v _ => v = .bl true) fun _ _ _ => False)
    (hCX : ∀ (w : World) (H : Hp) (s : Shared) (e : Value) (s' : Shared), CX w [] H s (fun _ _ _ => False) e s' → False) :
    PySem.W.WalkO q loose XP YP l.row.toRowW d [] (fun f vs => PySem.call f vs) := by
  refine Att.attach_call hn hdf fun w s₀ s₁ mg mb fa o pm cd doc a vs ns G Y ho hd hcd hmg hobj hints hlen hg => ?_
  have KX := hY w _ Y
  obtain ⟨fd, hb, hF⟩ := F w mg fa _ KX G.T.g hmg
  exact law_call KX G.T.g G.T.b G.T.builtins G.T.nolimit hg hobj hints (Nat.le_trans hlen hn2) hr hF hb (fun H hO hS => hsp w H a ns hlen hO hS) fun H e s' => hCX w H s₁ e s'
end L2


/-! SHORT WORDS over the layer: a def of the text, its body, what a loop and a test want. -/
namespace L2
open PySem PySem.Spec PyProof.Rows

/-! ### the text by places -/
/-- the j-th statement of a class's body -/
def inClass (s : Stmt) (j : Nat) : Stmt := match s with
  | .ClassDef _ _ _ body _ _ _ _ _ _ _ => body.getD j (.Pass ⟨0, 0, 0, 0⟩)
  | _ => .Pass ⟨0, 0, 0, 0⟩
def defArgs (s : Stmt) : Arguments := match s with
  | .FunctionDef _ a _ _ _ _ _ _ _ _ => a
  | _ => { posonlyargs := [], args := [], vararg := none, kwonlyargs := [], kw_defaults := [], kwarg := none, defaults := [] }
def defBody (s : Stmt) : List Stmt := match s with
  | .FunctionDef _ _ b _ _ _ _ _ _ _ => b
  | _ => []
def defScope (s : Stmt) : Scope := match s with
  | .FunctionDef _ _ _ _ _ _ sc _ _ _ => sc
  | _ => { kind := .function, names := [], isGenerator := false, isCoroutine := false }

/-! ### no exception leaves a def -/
abbrev CX0 : CXT := fun _ _ _ _ _ _ => False
abbrev E0 : XK := fun _ _ _ => False
/-! ### a def (or method) of the text as it stands behind the top -/
structure Fun (K : PySem.W.Frag) (x qual : Str) (st : Stmt) (f : Addr) (fd : FuncData) : Prop where
  ex : ∃ (oc : Value) (od : Option Addr) (kV doc pm : Value) (an : Option Addr) (cdv ct : Value) (osl : Array (Option Value)),
    fd = PySem.W.fnOf x qual (defArgs st) (defBody st) (defScope st) .none kV doc pm an cdv ct ∧ K.lookup f = some ⟨oc, od, .func fd, osl⟩ ∧ PySem.W.codeIn K cdv qual = true
  kp : PySem.W.keepIn K (.ref f) = true
section
variable {P : Program} {w : World} {K : PySem.W.Frag} {mg : Str → Option Value} {base : Heap}
/-- THE RULE for a def: its body as a term of rules, and the reading of that term -/
theorem Fun.ok {x qual : Str} {st : Stmt} {f : Addr} {fd : FuncData} {N ps : List Str} {k : Nat} {sp : Sp} (F : Fun K x qual st f fd) (S : FnScope N ps (defScope st)) (len : ∀ vs H Q E, sp vs H Q E → vs.length = ps.length)
    (hbody : ∀ (cdv : Value) (A : Around) (outer : List Env) (s : Shared) (H : Hp) (vs : List V) (Q : VK) (E : XK), Room k (A.deeper (envOfC qual (defScope st) s.heap.objs.size f cdv)) → sp vs H Q E →
      ∃ t, PSs (cxOf CX0 P w K mg base N qual (defScope st) f cdv A outer s H E).nox (defBody st) t ∧ t { nx := fun _ H' => Q .non H', rt := Q } (start N vs) H) : FnOk P w K mg base CX0 (k + 1) f fd ps sp := by
  obtain ⟨oc, od, kV, doc, pm, an, cdv, ct, osl, rfl, lk, hcd⟩ := F.ex
  refine fn_of lk hcd S len fun A outer s H vs Q E hr hsp => ?_
  obtain ⟨t, h, q⟩ := hbody cdv A outer s H vs Q E hr hsp
  exact ⟨t, h.nox, q⟩
/-- how its arguments bind (no defaults): h is «fun _ _ _ _ _ _ us hl => match us, hl with | [_, _], _ => rfl», one _ a parameter -/
theorem Fun.binds {x qual : Str} {st : Stmt} {f : Addr} {fd : FuncData} {ps : List Str} (F : Fun K x qual st f fd)
    (h : ∀ (kV doc pm : Value) (an : Option Addr) (cdv ct : Value) (us : List Value), us.length = ps.length → bindArgs (PySem.W.fnOf x qual (defArgs st) (defBody st) (defScope st) .none kV doc pm an cdv ct) ⟨us, []⟩ = pure (ps.zip us)) : Binds K fd ps [] := by
  obtain ⟨oc, od, kV, doc, pm, an, cdv, ct, osl, rfl, lk, hcd⟩ := F.ex
  exact .all (h kV doc pm an cdv ct)
end
theorem hu_of {A : Around} {k : Nat} (hr : Room k A) : A.units + 1 < cLine := Nat.lt_of_le_of_lt (Nat.add_le_add_left (by decide : 1 ≤ 64) _) hr.units
theorem small1000 {n : Nat} (h : n ≤ 1000) : n < sizeLine := Nat.lt_of_le_of_lt h (by decide)

/-! ### expressions in short: the name that stands in the i-th slot -/
section
variable {X : Cx}
theorem pv (i : Nat) {x : Str} {pos : Pos} (hN : X.N[i]? = some x := by rfl) (hv : Vis X.env.scope x := by first | exact Or.inl rfl | exact Or.inr (Or.inl rfl) | exact Or.inr (Or.inr rfl)) (hd : (x == ("__debug__" : Str)) = false := by decide)
    (hcd : (x == ("__classdict__" : Str)) = false := by decide) : PE X (.Name x pos) (tVar i) := pe_var hN hv hd hcd
end

/-! ### tests -/
theorem iteF {A B : Prop} (h : B) : if false = true then A else B := by
  rw [if_neg Bool.false_ne_true]
  exact h
theorem iteT {A B : Prop} (h : A) : if true = true then A else B := by
  rw [if_pos rfl]
  exact h
theorem ite2 {c A B : Prop} [Decidable c] (h1 : c → A) (h2 : ¬ c → B) : if c then A else B := by
  by_cases h : c
  · rw [if_pos h]
    exact h1 h
  · rw [if_neg h]
    exact h2 h
theorem iteNS {c A B : Prop} [Decidable c] (hc : c) (h : B) : if (!decide c) = true then A else B := by
  rw [decide_eq_true hc]
  exact iteF h

/-! ### heaps -/
/-- all that was tracked is as it was -/
def Same (H H' : Hp) : Prop := ∀ b o, H b = some o → H' b = some o
theorem Same.refl (H : Hp) : Same H H := fun _ _ h => h
theorem Same.trans {H H1 H2 : Hp} (a : Same H H1) (b : Same H1 H2) : Same H H2 := fun c o h => b c o (a c o h)
theorem Same.free {H H' : Hp} (e : Same H H') {l : Addr} (h : H' l = Option.none) : H l = Option.none := by
  cases q : H l with
  | none => rfl
  | some o =>
    rw [e l o q] at h
    cases h
theorem Same.seq {K : PySem.W.Frag} {H H' : Hp} {a : Addr} {xs : List V} (e : Same H H') (h : SqL K H a xs) : SqL K H' a xs := by
  rcases h with (h | ⟨o, h⟩) | h
  · exact .inl (.inl (e _ _ h))
  · exact .inl (.inr ⟨o, e _ _ h⟩)
  · exact .inr h

end L2

set_option Elab.async false
set_option linter.all false
set_option maxRecDepth 100000
/-! My own words over the hand layer: comprehensions, isinstance, a list unpacked, lists compared -/
namespace L2
open PySem PySem.Spec PyProof.Rows

/-! ### the closure of a comprehension's block -/
def closList (cells : List (Str × Addr)) : List (Str × NameKind) → List (Str × Addr) → List (Str × Addr)
  | [], cs => cs
  | (n, k) :: r, cs => closList cells r (if k == .free then (n, (cells.lookup n).getD 0) :: cs else cs)

theorem closureFor_eq {scope : Scope} {env : Env} (h : ∀ y ∈ scope.names, y.2 = .free → ∃ c, env.cells.lookup y.1 = some c) :
    closureFor scope env = pure (closList env.cells scope.names []) := by
  have all : ∀ (ns : List (Str × NameKind)) (cs : List (Str × Addr)), (∀ y ∈ ns, y.2 = .free → ∃ c, env.cells.lookup y.1 = some c) →
      (forIn ns cs (fun (x : Str × NameKind) (r : List (Str × Addr)) => (match x with
        | (name, kind) => if (kind == NameKind.free) = true then (do let c ← cellOf env name; pure (ForInStep.yield ((name, c) :: r))) else pure (ForInStep.yield r) : Sem (ForInStep (List (Str × Addr))))) : Sem (List (Str × Addr)))
      = pure (closList env.cells ns cs) := by
    intro ns
    induction ns with
    | nil => intro cs _; rfl
    | cons y r ih =>
      intro cs hy
      obtain ⟨n, k⟩ := y
      rw [List.forIn_cons]
      by_cases hk : k = .free
      · subst hk
        obtain ⟨c, e⟩ := hy (n, .free) List.mem_cons_self rfl
        have e' : env.cells.lookup n = some c := e
        have e1 : cellOf env n = pure c := by unfold cellOf; rw [e']
        simp only [beq_self_eq_true, if_true, e1, pure_bind]
        rw [ih _ fun z hz => hy z (List.mem_cons_of_mem _ hz)]
        simp only [closList, beq_self_eq_true, if_true, e', Option.getD_some]
      · have hb : (k == NameKind.free) = false := by simpa using hk
        simp only [hb, Bool.false_eq_true, if_false, pure_bind]
        rw [ih _ fun z hz => hy z (List.mem_cons_of_mem _ hz)]
        simp only [closList, hb, Bool.false_eq_true, if_false]
  unfold closureFor
  have q := all scope.names [] h
  simp only [bind_pure]
  exact q

theorem closList_some (cells : List (Str × Addr)) {x : Str} {c : Addr} : ∀ (ns : List (Str × NameKind)) (cs : List (Str × Addr)), (closList cells ns cs).lookup x = some c →
    ((x, NameKind.free) ∈ ns ∧ (cells.lookup x).getD 0 = c) ∨ cs.lookup x = some c
  | [], _, h => .inr h
  | (n, k) :: r, cs, h => by
    rcases closList_some cells r _ h with ⟨h1, h2⟩ | h1
    · exact .inl ⟨List.mem_cons_of_mem _ h1, h2⟩
    · by_cases hk : k = .free
      · subst hk
        simp only [beq_self_eq_true, if_true] at h1
        by_cases hx : x = n
        · subst hx
          simp only [List.lookup_cons, beq_self_eq_true] at h1
          exact .inl ⟨List.mem_cons_self, Option.some.inj h1⟩
        · have hb : (x == n) = false := by simpa using hx
          simp only [List.lookup_cons, hb] at h1
          exact .inr h1
      · have hb : (k == NameKind.free) = false := by simpa using hk
        simp only [hb, Bool.false_eq_true, if_false] at h1
        exact .inr h1
theorem closList_has (cells : List (Str × Addr)) {x : Str} {c : Addr} (e : cells.lookup x = some c) : ∀ (ns : List (Str × NameKind)) (cs : List (Str × Addr)), ((x, NameKind.free) ∈ ns ∨ cs.lookup x = some c) →
    (closList cells ns cs).lookup x = some c
  | [], _, h => by
    rcases h with h | h
    · cases h
    · exact h
  | (n, k) :: r, cs, h => by
    refine closList_has cells e r _ ?_
    rcases h with h | h
    · rcases List.mem_cons.mp h with z | z
      · cases z
        right
        simp only [beq_self_eq_true, if_true, List.lookup_cons, e, Option.getD_some]
      · exact .inl z
    · right
      by_cases hk : (k == NameKind.free) = true
      · rw [if_pos hk]
        by_cases hx : x = n
        · subst hx
          simp only [List.lookup_cons, beq_self_eq_true, e, Option.getD_some]
        · have hb : (x == n) = false := by simpa using hx
          simp only [List.lookup_cons, hb]
          exact h
      · rw [if_neg hk]
        exact h
theorem relabel_free {env : Env} : ∀ {names : List (Str × NameKind)} {x : Str}, names.lookup x = some .free →
    (names.map fun (n, k) => if (k == NameKind.free && env.scope.kind == .function && env.kindOf n == some .cell) then (n, NameKind.cell) else (n, k)).lookup x = some .cell ∨
    (names.map fun (n, k) => if (k == NameKind.free && env.scope.kind == .function && env.kindOf n == some .cell) then (n, NameKind.cell) else (n, k)).lookup x = some .free
  | [], _, h => by simp at h
  | (n, k) :: r, x, h => by
    have ih := @relabel_free env r x
    show List.lookup x ((if (k == NameKind.free && env.scope.kind == .function && env.kindOf n == some .cell) = true then (n, NameKind.cell) else (n, k)) :: _) = _ ∨
      List.lookup x ((if (k == NameKind.free && env.scope.kind == .function && env.kindOf n == some .cell) = true then (n, NameKind.cell) else (n, k)) :: _) = _
    cases hx : x == n with
    | true =>
      simp only [List.lookup_cons, hx] at h
      cases h
      by_cases hc : (NameKind.free == NameKind.free && env.scope.kind == .function && env.kindOf n == some .cell) = true
      · rw [if_pos hc]; simp only [List.lookup_cons, hx]; first | exact .inl trivial | exact .inl rfl
      · rw [if_neg hc]; simp only [List.lookup_cons, hx]; first | exact .inr trivial | exact .inr rfl
    | false =>
      simp only [List.lookup_cons, hx] at h
      by_cases hc : (k == NameKind.free && env.scope.kind == .function && env.kindOf n == some .cell) = true
      · rw [if_pos hc]; simp only [List.lookup_cons, hx]; exact ih h
      · rw [if_neg hc]; simp only [List.lookup_cons, hx]; exact ih h
/-- what is a cell or free behind the change of names was free -/
theorem relabel_back {env : Env} : ∀ {names : List (Str × NameKind)} {x : Str} {k' : NameKind}, k' = .cell ∨ k' = .free → (∀ y ∈ names, y.2 ≠ .cell) →
    (names.map fun (n, k) => if (k == NameKind.free && env.scope.kind == .function && env.kindOf n == some .cell) then (n, NameKind.cell) else (n, k)).lookup x = some k' → (x, NameKind.free) ∈ names
  | [], _, _, _, _, h => by simp at h
  | (n, k) :: r, x, k', hk', hn, h => by
    have ih := @relabel_back env r x k' hk' (fun y hy => hn y (List.mem_cons_of_mem _ hy))
    have h' : List.lookup x ((if (k == NameKind.free && env.scope.kind == .function && env.kindOf n == some .cell) = true then (n, NameKind.cell) else (n, k)) :: (r.map fun (n, k) => if (k == NameKind.free && env.scope.kind == .function && env.kindOf n == some .cell) then (n, NameKind.cell) else (n, k))) = some k' := h
    have hkc : k ≠ .cell := hn (n, k) List.mem_cons_self
    cases hx : x == n with
    | true =>
      have hxn : x = n := by simpa using hx
      subst hxn
      by_cases hc : (k == NameKind.free && env.scope.kind == .function && env.kindOf x == some .cell) = true
      · have hk : k = .free := by
          simp only [Bool.and_eq_true, beq_iff_eq] at hc
          exact hc.1.1
        subst hk
        exact List.mem_cons_self
      · rw [if_neg hc] at h'
        simp only [List.lookup_cons, beq_self_eq_true] at h'
        have hk : k = k' := Option.some.inj h'
        rcases hk' with z | z
        · exact absurd (hk.trans z) hkc
        · rw [hk, z]; exact List.mem_cons_self
    | false =>
      refine List.mem_cons_of_mem _ (ih ?_)
      by_cases hc : (k == NameKind.free && env.scope.kind == .function && env.kindOf n == some .cell) = true
      · rw [if_pos hc] at h'
        simpa only [List.lookup_cons, hx] using h'
      · rw [if_neg hc] at h'
        simpa only [List.lookup_cons, hx] using h'

/-! ### the block -/
def blockSt (ix : List (Option Nat)) (σ : St) : St := ix.map fun o => match o with
  | none => none
  | some i => (σ[i]?).join
/-- the block's names N: its own at none, the frame's i-th at some i -/
structure BlkScope (NX : List Str) (scX : Scope) (N : List Str) (ix : List (Option Nat)) (sc : Scope) : Prop where
  kind : sc.kind = .function
  nd : N.Nodup
  nocell : ∀ y ∈ sc.names, y.2 ≠ .cell
  locs : ∀ y ∈ sc.names, y.2 = .local → sc.names.lookup y.1 = some .local
  free : ∀ y ∈ sc.names, y.2 = .free → scX.names.lookup y.1 = some .cell ∨ scX.names.lookup y.1 = some .free
  len : ix.length = N.length
  at_ : ∀ p ∈ N.zip ix, ∀ i, p.2 = some i → NX[i]? = some p.1 ∧ sc.names.lookup p.1 = some .free

def cxComp (X : Cx) (N : List Str) (scope : Scope) (fp : List Addr) (s : Shared) (H : Hp) (C : Addr) : Cx :=
  { prog := X.prog, w := X.w, K := X.K, mg := X.mg, base := X.base, A := X.A, N := N, s₀ := s, H₀ := H, env := compEnvC scope (closList X.env.cells scope.names []) C X.env, outer := X.stack, stack := X.stack, ex := fp, fn := fun _ => false, calm := X.calm, pn := X.pn, xe := fun _ _ => False }

theorem mem_lookup_free {names : List (Str × NameKind)} {x : Str} (h : names.lookup x = some .free) : (x, NameKind.free) ∈ names := PySem.mem_of_lookup h

section
variable {X : Cx} {pins : List (Addr × Obj)} {σ : St} {H : Hp} {s : Shared} {N : List Str} {ix : List (Option Nat)} {scope : Scope} {fp : List Addr}

theorem BlkScope.clos (S : BlkScope X.N X.env.scope N ix scope) (ok : X.Ok) : ∀ y ∈ scope.names, y.2 = .free → ∃ c, X.env.cells.lookup y.1 = some c := fun y hy hf => ok.has y.1 (S.free y hy hf)

/-- the state at the block's entry: the list at D, the block's names at C -/
theorem inv_block {D C : Addr} {h' : Heap} {tk : Nat} {m : Str → Option Value} (I : Inv X pins σ H s) (S : BlkScope X.N X.env.scope N ix scope) (hf : ∀ b ∈ fp, FpOk X pins H b)
    (hfo : ∀ b ∈ fp, ∃ o, s.heap.get? b = some o ∧ ∀ v, o.data ≠ .cell v)
    (hD : s.heap.objs.size ≤ D) (hC : s.heap.objs.size ≤ C) (hDC : D ≠ C) (hk : ∀ b o, s.heap.get? b = some o → h'.get? b = some o) (hns : h'.Ns C m)
    (hl : ∃ n, h'.get? D = some { cls := .type "list", data := .seq ([] : List Value).toArray n }) :
    Inv (cxComp X N scope fp s H C) pins (blockSt ix σ) (upd H D (.lst [])) { s with heap := h', toks := tk } := by
  have fresh : ∀ {a : Addr}, s.heap.objs.size ≤ a → H a = none := fun h => I.hok.fresh h
  have cl_of : ∀ x c, (closList X.env.cells scope.names []).lookup x = some c → X.env.cells.lookup x = some c := fun x c e => by
    rcases closList_some _ _ _ e with ⟨h1, h2⟩ | h1
    · obtain ⟨c', e'⟩ := S.clos I.ok _ h1 rfl
      have e'' : X.env.cells.lookup x = some c' := e'
      rw [e''] at h2
      rw [e'']
      exact congrArg some h2
    · simp at h1
  have ltO : ∀ {b : Addr} {o : Obj}, s.heap.get? b = some o → b < s.heap.objs.size := fun e => Heap.lt_size e
  have neC : ∀ {b : Addr} {o : Obj}, s.heap.get? b = some o → b ≠ C := fun e => Nat.ne_of_lt (Nat.lt_of_lt_of_le (ltO e) hC)
  have neD : ∀ {b : Addr} {o : Obj}, s.heap.get? b = some o → b ≠ D := fun e => Nat.ne_of_lt (Nat.lt_of_lt_of_le (ltO e) hD)
  have cellG : ∀ x c, X.env.cells.lookup x = some c → ∃ o, s.heap.get? c = some o := fun x c e => by
    obtain ⟨v, o, ho, _⟩ := I.cell x c e
    exact ⟨o, ho⟩
  refine ⟨⟨I.ok.mod, ?_, I.ok.glob, I.ok.blt, hC, fun x y c e1 e2 => I.ok.inj x y c (cl_of x c e1) (cl_of y c e2), fun x hx => ?_, fun x c h _ => ?_, I.ok.hd, I.ok.frames, .inl rfl, fun b hb => ?_, I.bs, Nat.le_trans I.ok.bsz I.sz, fun b o e hb => ?_, fun b hb hb2 => ?_, I.stack, I.stkFree⟩,
    rfl, I.bare, Un.laid hk hD (fresh hD), ⟨m, hns, fun j x v e1 e2 e3 => ?_⟩, fun x c e => ?_, ?_, fun x c e => ?_, fun p hp => ?_, I.hok.laid hk hD ?_, ?_⟩
  · exact S.kind
  · have hx' : (x, NameKind.free) ∈ scope.names := by
      rcases hx with hx | hx
      · exact relabel_back (.inl rfl) S.nocell hx
      · exact relabel_back (.inr rfl) S.nocell hx
    obtain ⟨c, e⟩ := S.clos I.ok _ hx' rfl
    exact ⟨c, closList_has _ e _ _ (.inl hx')⟩
  · exact absurd (show false = true from h) Bool.false_ne_true
  · obtain ⟨f0, f1, f2, f3, f4, f5⟩ := hf b hb
    obtain ⟨o, e, _⟩ := hfo b hb
    exact ⟨neC e, fun x c ec => f4 x c (cl_of x c ec)⟩
  · obtain ⟨f0, f1, f2, f3, f4, f5⟩ := hf b hb
    rcases f3 with z | z
    · exact I.ok.noex b o e z
    · exact absurd (Nat.lt_of_lt_of_le (Heap.lt_size (I.ok.bs b o e).1) z) (Nat.lt_irrefl _)
  · obtain ⟨f0, f1, f2, f3, f4, f5⟩ := hf b hb
    rcases List.mem_cons.mp (I.stkSub b hb2) with z | z
    · exact f1 z
    · exact f2 z
  · -- a name's value
    obtain ⟨mX, hnX, hlX⟩ := id I.loc
    have hj : (blockSt ix σ)[j]? = some (some v) := e2
    unfold blockSt at hj
    rw [List.getElem?_map] at hj
    cases ej : ix[j]? with
    | none => rw [ej] at hj; cases hj
    | some o =>
      rw [ej] at hj
      cases o with
      | none => cases hj
      | some i =>
        have hj' : (σ[i]?).join = some v := Option.some.inj hj
        have hz : (x, some i) ∈ N.zip ix := List.mem_iff_getElem?.mpr ⟨j, by rw [List.getElem?_zip_eq_some]; exact ⟨e1, ej⟩⟩
        obtain ⟨hNi, hfr⟩ := S.at_ _ hz i rfl
        have hmem := mem_lookup_free hfr
        have hσ : σ[i]? = some (some v) := by
          cases q : σ[i]? with
          | none => rw [q] at hj'; cases hj'
          | some w' =>
            rw [q] at hj'
            have q' : w' = some v := hj'
            rw [q']
        have hvx : X.env.scope.names.lookup x = some .cell ∨ X.env.scope.names.lookup x = some .free := S.free _ hmem rfl
        obtain ⟨u, r, lk⟩ := hlX i x v hNi hσ (.inr hvx)
        refine ⟨u, r, .inr ⟨?_, ?_⟩⟩
        · exact relabel_free hfr
        · rcases lk with ⟨k, _⟩ | ⟨k, c, ec, ci⟩
          · have k' : X.env.scope.names.lookup x = some .local := k
            rcases hvx with z | z
            · rw [z] at k'; cases k'
            · rw [z] at k'; cases k'
          · obtain ⟨oc, hoc, hocd⟩ := ci
            exact ⟨c, closList_has _ ec _ _ (.inl hmem), oc, hk c oc hoc, hocd⟩
  · obtain ⟨v, o, ho, hd⟩ := I.cell x c (cl_of x c e)
    exact ⟨v, o, hk c o ho, hd⟩
  · show upd H D (.lst []) C = none
    rw [upd_ne (Ne.symm hDC)]
    exact fresh hC
  · obtain ⟨o, ho⟩ := cellG x c (cl_of x c e)
    rw [upd_ne (neD ho)]
    exact I.freeC x c (cl_of x c e)
  · obtain ⟨e, n, ne, nf, d⟩ := I.pin p hp
    refine ⟨hk _ _ e, by rw [upd_ne (neD e)]; exact n, neC e, fun z => ?_, d⟩
    rcases List.mem_cons.mp (I.stkSub p.1 z) with q | q
    · exact ne q
    · exact nf q
  · obtain ⟨n, hl⟩ := hl
    exact ⟨Nat.zero_le _, [], n, .nil, hl⟩
  · show (blockSt ix σ).length = N.length
    unfold blockSt
    rw [List.length_map]
    exact S.len
end
end L2

set_option Elab.async false
set_option linter.all false
set_option maxRecDepth 100000
namespace L2
open PySem PySem.Spec PyProof.Rows

/-! ### the comprehension's loop -/
theorem compLoop_by {prog : Program} {w : World} {A : Around} {R : Result → Shared → Prop} {s : Shared} {elt target iter : Expr} {scope : Scope} {pos : Pos} {it acc : Value} {env : Env} (I : Nat → Shared → Prop)
    (turn : ∀ n s, I n s → wpAny (model prog w) A (pyNext it) (fun r s₁ => match r with
      | none => R (.ok .next) s₁
      | some v => wpAny (model prog w) A (letOwnedTupleGo target it v) (fun _ s₁' => wpAny (model prog w) A (assign target env v) (fun _ s₂ => wpAny (model prog w) A (eval elt env) (fun x s₃ =>
          wpAny (model prog w) A (call (.builtin "list.append") [acc, x]) (fun _ s₄ => ∃ m, m < n ∧ I m s₄) (fun _ _ => False) s₃)
          (fun _ _ => False) s₂) (fun _ _ => False) s₁') (fun _ _ => False) s₁) (fun _ _ => False) s)
    (n : Nat) (h : I n s) :
    codeAny (model prog w) A (.compLoop (.ListComp elt [⟨target, iter, [], 0⟩] scope pos) 0 it acc env) R s := by
  refine codeAny_loop rfl I (fun n s hI => ?_) n h
  show wpAny _ _ ((compTurn (.ListComp elt [⟨target, iter, [], 0⟩] scope pos) 0 it acc env).onRaise (fun x => do noteFrame x env; theTreesLotGoes x)) _ _ s
  refine wpAny_noted ?_
  rw [compTurn_list1]
  refine wpAny_bind (wpAny_standAt (wpAny_bind (wpAny_mono (turn n s hI) (fun r s₁ h₁ => ?_) fun _ _ h' => h'.elim)))
  cases r with
  | none => exact wpAny_pure h₁
  | some v =>
    refine wpAny_bind (wpAny_mono h₁ (fun _ s₁' h₁' => ?_) fun _ _ h' => h'.elim)
    exact wpAny_bind (wpAny_mono h₁' (fun _ s₂ h₂ => wpAny_bind (wpAny_bind (wpAny_mono h₂ (fun x s₃ h₃ => wpAny_bind (wpAny_mono h₃
      (fun _ s₄ h₄ => wpAny_pure (wpAny_pure ⟨rfl, h₄⟩)) fun _ _ h' => h'.elim)) fun _ _ h' => h'.elim))) fun _ _ h' => h'.elim)

/-- what a comprehension's reading asks behind the source: W the invariant by turn and measure -/
def CompW (J : It) (ix : List (Option Nat)) (g : TG) (te : TE) (σ : St) (H : Hp) (Qd : Addr → Hp → Prop) : Prop :=
  ∀ D, H D = none → ∃ W : Nat → Nat → St → Hp → Prop, (∃ m, W 0 m (blockSt ix σ) (upd H D (.lst []))) ∧ ∀ i m σ' H', W i m σ' H' →
    (J.stop i H' ∧ Qd D H') ∨ (J.go i H' ∧ ∀ x H2, J.yld i H' x H2 → g x σ' H2 fun σ3 H3 => te σ3 H3 fun y H4 => ∃ ys, H4 D = some (.lst ys) ∧ ys.length < sizeLine ∧ ∃ m', m' < m ∧ W (i + 1) m' σ3 (upd H4 D (.lst (ys ++ [y]))))

section
variable {X : Cx} {pins : List (Addr × Obj)} {σ : St} {H : Hp} {s : Shared} {N : List Str} {ix : List (Option Nat)} {scope : Scope} {fp : List Addr} {tg elt iter : Expr} {pos spos : Pos} {J : It} {it : Addr} {tn : Nat → Heap → Prop} {g : TG} {te : TE} {wi : TI}

theorem comp_run {Qd : Addr → Hp → Prop} {RR : Value → Addr → Result → Shared → Prop} {E : Value → Shared → Prop} (I : Inv X pins σ H s) (hc : X.calm = true) (S : BlkScope X.N X.env.scope N ix scope) (T : Turn X.prog X.w X.K tg J fp it tn) (st : tn 0 s.heap) (f2 : ∀ b ∈ fp, FpOk X pins H b)
    (hg : ∀ C, PG (cxComp X N scope fp s H C) tg g) (he : ∀ C, PE (cxComp X N scope fp s H C) elt te) (hW : CompW J ix g te σ H Qd)
    (hR : ∀ D C s' H' m, Inv X pins σ H' s' → s'.heap.Ns C m → FpOk X pins H' C → Qd D H' → RR (.ref D) C (.ok .next) s') :
    wpAny (model X.prog X.w) X.A (newList []) (fun acc s₃ => wpAny (model X.prog X.w) X.A (newFunctionEnv scope X.env.globals (closList X.env.cells scope.names []) [] X.env.qual none .none (some X.env)) (fun cenv s₄ =>
      codeAny (model X.prog X.w) X.A (.compStart (.ListComp elt [⟨tg, iter, [], 0⟩] scope pos) 0 (.ref it) acc { cenv with scope := relabel scope X.env }) (RR acc cenv.locals) s₄) E s₃) E s := by
  refine wpAny_newObj_type (wpAny_newFunctionEnv S.nocell (by intro y hy; simp at hy) (fun h₁ hns₁ hsb₁ => ?_) S.kind)
  dsimp only at hns₁ hsb₁ ⊢
  generalize hH2 : s.heap.push { cls := .type "list", dict := none, data := .seq ([] : List Value).toArray } = H2 at hns₁ hsb₁ ⊢
  have hC : H2.objs.size = s.heap.objs.size + 1 := by rw [← hH2, Heap.size_push]
  have hDC : s.heap.objs.size ≠ H2.objs.size := by rw [hC]; exact Nat.ne_of_lt (Nat.lt_succ_self _)
  have hCle : s.heap.objs.size ≤ H2.objs.size := by rw [hC]; exact Nat.le_succ _
  have below : ∀ b, b < s.heap.objs.size → b ≠ H2.objs.size := fun b hb => by rw [hC]; exact Nat.ne_of_lt (Nat.lt_succ_of_lt hb)
  have old : ∀ b o, s.heap.get? b = some o → h₁.get? b = some o := fun b o e => hsb₁.extBut b o (below b (Heap.lt_size e)) (Heap.get?_push_of_some _ (hH2 ▸ Heap.get?_push_of_some _ e))
  have hacc : ∃ n, h₁.get? s.heap.objs.size = some { cls := .type "list", data := .seq ([] : List Value).toArray n } := ⟨_, hsb₁.extBut _ _ hDC (Heap.get?_push_of_some _ (hH2 ▸ Heap.get?_push_size _ rfl))⟩
  have st1 : tn 0 h₁ := T.keep _ _ _ st fun b _ o e => old b o e
  have fo : ∀ b ∈ fp, ∃ o, s.heap.get? b = some o ∧ ∀ v, o.data ≠ .cell v := T.obj _ _ st
  have I0 : Inv (cxComp X N scope fp s H H2.objs.size) pins (blockSt ix σ) (upd H s.heap.objs.size (.lst [])) { s with heap := h₁, toks := s.toks + ([] : List (Str × Value)).length } :=
    inv_block I S f2 fo (Nat.le_refl _) hCle hDC old hns₁ hacc
  have freshD : H s.heap.objs.size = none := I.hok.fresh (Nat.le_refl _)
  obtain ⟨W, ⟨m0, w0⟩, turn⟩ := hW s.heap.objs.size freshD
  have cl_ne : ∀ b ∈ fp, b ≠ H2.objs.size := fun b hb => by
    obtain ⟨o, e, _⟩ := fo b hb
    exact below b (Heap.lt_size e)
  have stat : ∀ {H' : Hp}, (∀ b ∈ fp, H' b = none) → ∀ b ∈ fp, FpOk (cxComp X N scope fp s H H2.objs.size) pins H' b := fun hn b hb => by
    obtain ⟨f0, f1, f3, f4, f5, f6⟩ := f2 b hb
    exact ⟨hn b hb, cl_ne b hb, I0.ok.exfs b hb, .inl hb, (I0.ok.exf b hb).2, f6⟩
  have fr0 : ∀ b ∈ fp, (upd H s.heap.objs.size (.lst [])) b = none := fun b hb => by
    obtain ⟨o, e, _⟩ := fo b hb
    rw [upd_ne (Nat.ne_of_lt (Heap.lt_size e))]
    exact (f2 b hb).1
  have loop : codeAny (model X.prog X.w) X.A (.compLoop (.ListComp elt [⟨tg, iter, [], 0⟩] scope pos) 0 (.ref it) (.ref s.heap.objs.size) (compEnvC scope (closList X.env.cells scope.names []) H2.objs.size X.env))
      (RR (.ref s.heap.objs.size) H2.objs.size) { s with heap := h₁, toks := s.toks + ([] : List (Str × Value)).length } := by
    refine compLoop_by (fun n s' => ∃ i σ' H', Inv (cxComp X N scope fp s H H2.objs.size) pins σ' H' s' ∧ tn i s'.heap ∧ (∀ b ∈ fp, H' b = none) ∧ W i n σ' H') ?_ m0 ⟨0, _, _, I0, st1, fr0, w0⟩
    rintro n s3 ⟨i, σ3, H3, I3, st3, fr3, w3⟩
    rcases turn i n σ3 H3 w3 with ⟨stop, qn⟩ | ⟨go, step⟩
    · refine thn (T.done (cxComp X N scope fp s H H2.objs.size) rfl rfl rfl hc i pins s3 σ3 H3 _ I3 (stat fr3) st3 stop) fun r s4 ⟨hr, I4⟩ => ?_
      subst hr
      obtain ⟨m4, hn4, _⟩ := id I4.loc
      refine hR _ _ s4 H3 m4 ?_ hn4 (I.fpOk hCle I4.free) qn
      exact I.call' (ch := fp) I4.os I4.base I4.hok I4.bare fun b hb => by
        obtain ⟨f0, f1, f3, f4, f5, f6⟩ := f2 b hb
        exact ⟨f4, f1, f5, f6⟩
    · refine thn (T.item (cxComp X N scope fp s H H2.objs.size) rfl rfl rfl hc i pins s3 σ3 H3 _ I3 (stat fr3) st3 go) fun r s4 ⟨u, hr, h4⟩ => ?_
      subst hr
      refine thn h4 fun _ s5 ⟨x, H5, I5, r5, y5, st5, fr5⟩ => ?_
      have I5' := I5.pinned (stat fr5) (T.obj _ _ st5)
      refine thn (hg _ _ s5 σ3 H5 x u _ I5' r5 (step x H5 y5)) fun _ s6 ⟨σ6, H6, I6, q6⟩ => ?_
      refine thn (he _ _ s6 σ6 H6 _ I6 q6) fun yv s7 ⟨y, H7, I7, r7, ys, hD7, hz7, m', hm, w7⟩ => ?_
      refine thn (mt_append (X := cxComp X N scope fp s H H2.objs.size) _ s7 σ6 H7 (.ref s.heap.objs.size) [y] (.ref s.heap.objs.size) [yv] (fun _ H8 => W (i + 1) m' σ6 H8) I7 rfl (.cons r7 .nil) ⟨_, ys, y, rfl, rfl, hD7, hz7, w7⟩) fun _ s8 ⟨_, H8, I8, _, w8⟩ => ?_
      refine ⟨m', hm, i + 1, σ6, H8, I8.unpinned, T.keep _ _ _ st5 fun b hb o e => (I8.pin (b, o) (List.mem_append_right _ (List.mem_append_right _ (mem_pinsAt hb e)))).1, fun b hb => ?_, w8⟩
      obtain ⟨o, e, d⟩ := T.obj _ _ st5 b hb
      exact (I8.pin (b, o) (List.mem_append_right _ (List.mem_append_right _ (mem_pinsAt hb e)))).2.1
  exact codeAny_compStart_list loop (T.self _ _ _ _ _ st1 loop)

/-- [elt for x in iter] -/
def tComp (ix : List (Option Nat)) (wi : TI) (g : TG) (te : TE) : TE := fun σ H Q => wi σ H fun J H1 => CompW J ix g te σ H1 fun D H' => Q (.ref D) H'
theorem pe_comp (hc : X.calm = true) (S : BlkScope X.N X.env.scope N ix scope) (hi : PI X tg iter wi) (hg : ∀ fp s H C, PG (cxComp X N scope fp s H C) tg g) (he : ∀ fp s H C, PE (cxComp X N scope fp s H C) elt te)
    (hs : ∀ x, foldedSetIterable iter X.env x = pure x := by intro _; rfl) : PE X (.ListComp elt [⟨tg, iter, [], 0⟩] scope pos) (tComp ix wi g te) := by
  intro pins s σ H Q I h
  rw [eval_ListComp]
  refine wpAny_comprehension_free (use := none) rfl hs (closureFor_eq (S.clos I.ok)) S.kind S.locs (thn (hi pins s σ H _ I h) fun v s1 h1 => thn h1 fun itv s2 h2 => ?_)
  obtain ⟨it, fp, tn, J, H2, e, I2, T, st2, f2, hW⟩ := h2
  subst e
  refine comp_run (RR := fun acc C => compPost (model X.prog X.w) X.A X.xe none (EP X pins σ Q) acc C) I2 hc S T st2 f2 (hg _ _ _) (he _ _ _) hW ?_
  intro D C s' H' m I' hn fC q
  exact ⟨m, hn, fun h' sb => ⟨.ref D, H', I'.turned (t' := s'.toks) (fun b o hb e => (sb.2 b hb).trans e) fC.1 fC.2.1 fC.2.2.2.1 fC.2.2.2.2.1 fC.2.2.2.2.2, rfl, q⟩⟩
end

/-! ### the forms one uses -/
theorem comp_range {lo : Int} {n : Nat} {ix : List (Option Nat)} {te : TE} {σ : St} {H : Hp} {Qd : Addr → Hp → Prop} (Pv : Addr → Nat → List V → Hp → Prop)
    (h0 : ∀ D, H D = none → Pv D 0 [] (upd H D (.lst [])))
    (hs : ∀ D i ys H' (Q' : VK), H D = none → i < n → H' D = some (.lst ys) → Pv D i ys H' → (∀ y H4, H4 D = some (.lst ys) → ys.length < sizeLine → Pv D (i + 1) (ys ++ [y]) (upd H4 D (.lst (ys ++ [y]))) → Q' y H4) →
      te ((blockSt ix σ).set 0 (some (.int (lo + i)))) H' Q')
    (hd : ∀ D ys H', H D = none → H' D = some (.lst ys) → Pv D n ys H' → Qd D H') : CompW (Itr lo n) ix (gName 0) te σ H Qd := by
  intro D hD
  refine ⟨fun i m σ' H' => m = n - i ∧ i ≤ n ∧ (σ' = blockSt ix σ ∨ ∃ t, σ' = (blockSt ix σ).set 0 t) ∧ ∃ ys, H' D = some (.lst ys) ∧ Pv D i ys H', ⟨n, by simp, Nat.zero_le _, .inl rfl, [], upd_same, h0 D hD⟩, ?_⟩
  rintro i m σ' H' ⟨rfl, hi, hσ, ys, hy, p⟩
  by_cases hlt : i < n
  · refine .inr ⟨hlt, fun x H2 y => ?_⟩
    obtain ⟨e1, e2⟩ := y
    subst e1
    subst e2
    have es : σ'.set 0 (some (V.int (lo + i))) = (blockSt ix σ).set 0 (some (V.int (lo + i))) := by
      rcases hσ with z | ⟨t, z⟩
      · rw [z]
      · rw [z, List.set_set]
    show te (σ'.set 0 (some (V.int (lo + i)))) _ _
    rw [es]
    refine hs D i ys _ _ hD hlt hy p fun y H4 h4 hz p4 => ⟨ys, h4, hz, n - (i + 1), by omega, rfl, hlt, .inr ⟨_, rfl⟩, ys ++ [y], upd_same, p4⟩
  · have e : i = n := by omega
    subst e
    exact .inl ⟨Nat.le_refl _, hd D ys H' hD hy p⟩
/-! ### isinstance -/
section
variable {X : Cx}
def rIsi (K : PySem.W.Frag) : List V → Hp → VK → Prop := fun xs H Q => ∃ x n t b, xs = [x, .ty n] ∧ TyOf K H x t ∧ PySem.W.kitOne K t (.type n) = some b ∧ Q (.bl b) H
theorem call_isi : CallR X (.builtin "isinstance") (rIsi X.K) := by
  intro pins s σ H xs us Q I r h
  obtain ⟨x, n, t, b, rfl, ty, e, q⟩ := h
  obtain ⟨u, v, rfl, ru, rv⟩ := r.two
  cases (show v = Value.type n from rv)
  exact isinst_ok I ru ty e fun tk => ⟨.bl b, H, I.tok tk, rfl, q⟩
end

/-! ### a list unpacked -/
section
variable {prog : Program} {w : World} {A : Around} {E : Value → Shared → Prop} {s : Shared}
end
section
variable {X : Cx} {pos : Pos}
def gLst (K : PySem.W.Frag) (n : Nat) (t : TGs) : TG := fun v σ H Q => ∃ a xs, v = .ref a ∧ SqL K H a xs ∧ xs.length = n ∧ t xs σ H Q
/-! ### two lists of flat things compared -/
def eqVs : List V → List V → Bool
  | [], [] => true
  | x :: xs, y :: ys => eqV x y && eqVs xs ys
  | _, _ => false
def rEqL (K : PySem.W.Frag) : R2 := fun x y H Q => ∃ a b xs ys, x = .ref a ∧ y = .ref b ∧ SqL K H a xs ∧ SqL K H b ys ∧ xs.all flatV = true ∧ ys.all flatV = true ∧ Q (.bl (eqVs xs ys)) H
end
end L2

set_option Elab.async false
set_option linter.all false
set_option maxRecDepth 100000
namespace HT
open PySem PySem.Spec PyProof.Rows
section
variable {prog : Program} {w : World} {A : Around} {E : Value → Shared → Prop} {s : Shared}
/-- a tuple's slice that takes the whole of it is the tuple itself -/
theorem getItem_tuple_whole {t sl : Addr} {items : Array Value} {vl vu : Value} {lo hi : Option Int} {Q : Value → Shared → Prop} (ht : IsTup s.heap t items) (hs : s.heap.IsSliceOf sl vl vu .none) (pl : IsPart vl lo) (pu : IsPart vu hi)
    (hw : sIx items.size 0 lo = 0 ∧ sIx items.size items.size hi = items.size) (h : Q (.ref t) s) : wpAny (model prog w) A (getItem (.ref t) (.ref sl)) Q E s := by
  obtain ⟨os, hos, hcs, hds⟩ := id hs
  have hTs : s.TypeIs (.ref sl) "slice" := ⟨os, hos, hcs⟩
  unfold getItem
  try with_reducible refine wpAny_holding ?_
  first | refine wpAny_bind (wpAny_pure ?_) | skip
  refine wpAny_bind (wpAny_sequenceKey ht.typeIs (by decide) ?_)
  refine wpAny_bind (wpAny_callSpecial?_slot (name := Str.ofString "__getitem__") ht.typeIs PyProof.Rows.slot_tuple_getitem
    (wpAny_call_entry PyProof.Rows.slot_tuple_getitem ht.typeIs entry_tuple_getitem ?_ (args_tuple_getitem _ _)))
  show wpAny _ _ (Builtin.Tuple.tupleItemsOf (.ref t) >>= _) _ _ s
  refine wpAny_bind (tupleItemsOf_ ht ?_)
  refine wpAny_bind (wpAny_typeOf hTs ?_)
  rw [if_pos (by decide)]
  refine wpAny_bind (sliceApplied_gen hs pl pu ?_)
  have hyes : ((((sIx items.size 0 lo : Nat) : Int) == 0 && (1 : Int) == 1 && (sIx items.size items.size hi - sIx items.size 0 lo) == items.size) = true) := by
    rw [hw.1, hw.2]; simp
  show wpAny _ _ (if (((sIx items.size 0 lo : Nat) : Int) == 0 && (1 : Int) == 1 && (sIx items.size items.size hi - sIx items.size 0 lo) == items.size) = true then _ else _) _ _ s
  rw [if_pos hyes]
  unfold Builtin.Tuple.tupleIsExact
  refine wpAny_bind (wpAny_bind (wpAny_typeOf ht.typeIs (wpAny_pure ?_)))
  rw [if_pos (by decide)]
  first
    | exact wpAny_bind (wpAny_rule (wpAny_pure ⟨_, rfl, wpAny_pure h⟩))
    | exact wpAny_bind (wpAny_rule (wpAny_bind (wpAny_pure (wpAny_pure ⟨_, rfl, wpAny_pure h⟩))))
    | exact wpAny_bind (wpAny_bind (wpAny_rule (wpAny_pure ⟨_, rfl, wpAny_pure h⟩)))
end
end HT
namespace L2
open PySem PySem.Spec PyProof.Rows
section
variable {X : Cx}
def rSlTW (K : PySem.W.Frag) : V → Option Int → Option Int → Hp → VK → Prop := fun x lo hi H Q => ∃ a xs, x = .ref a ∧ SqT K H a xs ∧
  (HT.sIx xs.length 0 lo = 0 ∧ HT.sIx xs.length xs.length hi = xs.length) ∧ Q (.ref a) H
theorem sl_tupW : SlR X (rSlTW X.K) := by
  intro pins s σ H x v vl vu lo hi sl Q I rx hs pl pu h
  obtain ⟨a, xs, rfl, hx, hw, q⟩ := h
  cases rx
  obtain ⟨its, r, ht, hz⟩ := I.tuple hx
  have hlen : its.toArray.size = xs.length := by rw [List.size_toArray]; exact r.length.symm
  refine ⟨"tuple", _, PyProof.Rows.slot_tuple_getitem.lookup, ht.typeIs, ?_⟩
  exact HT.getItem_tuple_whole ht hs pl pu (by rw [hlen]; exact hw) ⟨.ref a, H, I, rfl, q⟩
/-- a[lo:hi] of a list or a tuple: somewhere stands what was cut out, all else is as it was -/
def rSl (K : PySem.W.Frag) : V → Option Int → Option Int → Hp → VK → Prop := fun x lo hi H Q => ∃ a xs, x = .ref a ∧
  ((SqL K H a xs ∧ ∀ p, H p = none → Q (.ref p) (upd H p (.lst (cutV xs lo hi)))) ∨
   (SqT K H a xs ∧ (cutV xs lo hi = xs → Q (.ref a) H) ∧ ∀ p, H p = none → Q (.ref p) (upd H p (.tup (cutV xs lo hi)))))
theorem cutV_whole {xs : List V} {lo hi : Option Int} (h : HT.sIx xs.length 0 lo = 0 ∧ HT.sIx xs.length xs.length hi = xs.length) : cutV xs lo hi = xs := by
  unfold cutV
  rw [h.1, h.2]
  simp
theorem sl_seq : SlR X (rSl X.K) := by
  intro pins s σ H x v vl vu lo hi sl Q I rx hs pl pu h
  obtain ⟨a, xs, rfl, h⟩ := h
  rcases h with ⟨hx, q⟩ | ⟨hx, q1, q2⟩
  · exact sl_list pins s σ H _ v vl vu lo hi sl Q I rx hs pl pu ⟨a, xs, rfl, hx, q⟩
  · by_cases hw : HT.sIx xs.length 0 lo = 0 ∧ HT.sIx xs.length xs.length hi = xs.length
    · exact sl_tupW pins s σ H _ v vl vu lo hi sl Q I rx hs pl pu ⟨a, xs, rfl, hx, hw, q1 (cutV_whole hw)⟩
    · exact sl_tup pins s σ H _ v vl vu lo hi sl Q I rx hs pl pu ⟨a, xs, rfl, hx, hw, q2⟩
end

/-! ### a def of the text, with or without defaults -/
structure FunD (K : PySem.W.Frag) (x qual : Str) (st : Stmt) (dV : Value) (f : Addr) (fd : FuncData) : Prop where
  ex : ∃ (oc : Value) (od : Option Addr) (kV doc pm : Value) (an : Option Addr) (cdv ct : Value) (osl : Array (Option Value)),
    fd = PySem.W.fnOf x qual (defArgs st) (defBody st) (defScope st) dV kV doc pm an cdv ct ∧ K.lookup f = some ⟨oc, od, .func fd, osl⟩ ∧ PySem.W.codeIn K cdv qual = true
  kp : PySem.W.keepIn K (.ref f) = true
section
variable {P : Program} {w : World} {K : PySem.W.Frag} {mg : Str → Option Value} {base : Heap}
theorem FunD.ok {x qual : Str} {st : Stmt} {dV : Value} {f : Addr} {fd : FuncData} {N ps : List Str} {k : Nat} {sp : Sp} (F : FunD K x qual st dV f fd) (S : FnScope N ps (defScope st)) (len : ∀ vs H Q E, sp vs H Q E → vs.length = ps.length)
    (hbody : ∀ (cdv : Value) (A : Around) (outer : List Env) (s : Shared) (H : Hp) (vs : List V) (Q : VK) (E : XK), Room k (A.deeper (envOfC qual (defScope st) s.heap.objs.size f cdv)) → sp vs H Q E →
      ∃ t, PSs (cxOf CX0 P w K mg base N qual (defScope st) f cdv A outer s H E).nox (defBody st) t ∧ t { nx := fun _ H' => Q .non H', rt := Q } (start N vs) H) : FnOk P w K mg base CX0 (k + 1) f fd ps sp := by
  obtain ⟨oc, od, kV, doc, pm, an, cdv, ct, osl, rfl, lk, hcd⟩ := F.ex
  refine fn_of lk hcd S len fun A outer s H vs Q E hr hsp => ?_
  obtain ⟨t, h, q⟩ := hbody cdv A outer s H vs Q E hr hsp
  exact ⟨t, h.nox, q⟩
theorem FunD.binds {x qual : Str} {st : Stmt} {f : Addr} {fd : FuncData} {ps : List Str} (F : FunD K x qual st .none f fd)
    (h : ∀ (kV doc pm : Value) (an : Option Addr) (cdv ct : Value) (us : List Value), us.length = ps.length → bindArgs (PySem.W.fnOf x qual (defArgs st) (defBody st) (defScope st) .none kV doc pm an cdv ct) ⟨us, []⟩ = pure (ps.zip us)) : Binds K fd ps [] := by
  obtain ⟨oc, od, kV, doc, pm, an, cdv, ct, osl, rfl, lk, hcd⟩ := F.ex
  exact .all (h kV doc pm an cdv ct)
/-- .. where it has defaults, the last of them ds -/
theorem FunD.bindsD {x qual : Str} {st : Stmt} {f T : Addr} {fd : FuncData} {ps : List Str} {ds : List Value} {o : Obj} {items : Array Value} {n : Nat} (F : FunD K x qual st (.ref T) f fd) (ho : K.lookup T = some o) (hs : o.data = .seq items n) (m : Nat) (hm : m + ds.length = ps.length)
    (h : ∀ (kV doc pm : Value) (an : Option Addr) (cdv ct : Value) (us : List Value), us.length = m → ∃ k : Option (Array Value) → Sem (List (Str × Value)),
      bindArgs (PySem.W.fnOf x qual (defArgs st) (defBody st) (defScope st) (.ref T) kV doc pm an cdv ct) ⟨us, []⟩ = seqItems? (.ref T) >>= k ∧ k (some items) = pure (ps.zip (us ++ ds))) : Binds K fd ps ds := by
  obtain ⟨oc, od, kV, doc, pm, an, cdv, ct, osl, rfl, lk, hcd⟩ := F.ex
  intro s us X hl
  obtain ⟨k, h1, h2⟩ := h kV doc pm an cdv ct us (by rw [List.length_append] at hl; omega)
  exact BindsTo.of_defaults (fd := PySem.W.fnOf x qual (defArgs st) (defBody st) (defScope st) (.ref T) kV doc pm an cdv ct) rfl (X _ _ ho) hs h1 h2
theorem fund_mk {x qual : Str} {st : Stmt} {f : Addr} {oc : Value} {od an : Option Addr} {osl : Array (Option Value)} {dV kV doc pm cdv ct : Value} (l : K.lookup f = some ⟨oc, od, .func (PySem.W.fnOf x qual (defArgs st) (defBody st) (defScope st) dV kV doc pm an cdv ct), osl⟩)
    (c : PySem.W.codeIn K cdv qual = true) (k : PySem.W.keepIn K (.ref f) = true) : FunD K x qual st dV f (PySem.W.fnOf x qual (defArgs st) (defBody st) (defScope st) dV kV doc pm an cdv ct) := ⟨⟨oc, od, kV, doc, pm, an, cdv, ct, osl, rfl, l, c⟩, k⟩

/-- a def as its callers see it: dvs are the defaults that fill up -/
structure DefOk (P : Program) (w : World) (K : PySem.W.Frag) (mg : Str → Option Value) (base : Heap) (x : Str) (k : Nat) (ps : List Str) (dvs : List V) (sp : Sp) : Prop where
  ex : ∃ (f : Addr) (fd : FuncData) (ds : List Value), mg x = some (.ref f) ∧ PySem.W.keepIn K (.ref f) = true ∧ Vals dvs ds ∧ Binds K fd ps ds ∧ FnOk P w K mg base CX0 k f fd ps sp
end
section
variable {X : Cx} {x : Str} {j k : Nat} {ps : List Str} {dvs : List V} {sp : Sp} {p pos : Pos} {e : Expr} {es : List Expr} {t : TA}
theorem pe_cd (G : DefOk X.prog X.w X.K X.mg X.base x k ps dvs sp) (hr : Room j X.A) (ha : PA X (e :: es) t) (hx : ∀ e s, X.xe e s = False := by intro _ _; rfl) (hkj : k ≤ j := by decide) (hg : Gl X x := by rfl) (hdb : (x == ("__debug__" : Str)) = false := by decide)
    (he : starEach (e :: es) X.env = (false, eval e X.env) :: starEach es X.env := by rfl) (hpl : (backTo pos (starEach es X.env)).any (·.1) = false := by rfl) :
    PE X (.Call (.Name x p) (e :: es) [] pos) (tCall sp dvs E0 t) := by
  obtain ⟨f, fd, ds, hm, hk, hd, hb, F⟩ := G.ex
  exact pe_call F (hr.mono hkj) hg hm hk hb hd (fun _ _ _ _ _ _ _ h => h.elim) ha hdb he hpl
end

/-! ### kinds of built-in classes -/
theorem kit_int_int (K : PySem.W.Frag) : PySem.W.kitOne K (.type "int") (.type "int") = some true := by with_unfolding_all rfl
theorem kit_int_bool (K : PySem.W.Frag) : PySem.W.kitOne K (.type "int") (.type "bool") = some false := by with_unfolding_all rfl
/-! ### small facts -/
theorem same_new {H : Hp} {p : Addr} (h : H p = none) (o : HO) : Same H (upd H p o) := fun b u q => by rw [upd_ne (ne_of_none q h)]; exact q
theorem small {n : Nat} (h : n ≤ 1000) : n ≤ sizeLine := Nat.le_of_lt (small1000 h)
theorem Same.tup {K : PySem.W.Frag} {H H' : Hp} {a : Addr} {xs : List V} (e : Same H H') (h : SqT K H a xs) : SqT K H' a xs := by
  rcases h with (h | ⟨o, h⟩) | h
  · exact .inl (.inl (e _ _ h))
  · exact .inl (.inr ⟨o, e _ _ h⟩)
  · exact .inr h

/-! ### the built-in names -/
theorem bt_len : bootBuiltins "len" = some (.builtin "len") := by decide +kernel
theorem bt_min : bootBuiltins "min" = some (.builtin "min") := by decide +kernel
theorem bt_isinstance : bootBuiltins "isinstance" = some (.builtin "isinstance") := by decide +kernel
theorem bt_int : bootBuiltins "int" = some (.type "int") := by decide +kernel
theorem bt_bool : bootBuiltins "bool" = some (.type "bool") := by decide +kernel
theorem bt_tuple : bootBuiltins "tuple" = some (.type "tuple") := by decide +kernel
theorem bt_list : bootBuiltins "list" = some (.type "list") := by decide +kernel
theorem bt_reversed : bootBuiltins "reversed" = some (.type "reversed") := by decide +kernel
end L2

set_option Elab.async false
set_option linter.all false
set_option maxRecDepth 100000
namespace L2
open PySem PySem.Spec PyProof.Rows

/-! ### great ints -/
def BIG : Int := 2 ^ 4000
theorem big_bits {k : Int} (h0 : 0 ≤ k) (h : k < BIG) : k.natAbs.log2 < 4000 := by
  rcases Nat.eq_zero_or_pos k.natAbs with z | hp
  · rw [z]; decide +kernel
  · refine (Nat.log2_lt (by omega)).mpr ?_
    have e : BIG = ((2 ^ 4000 : Nat) : Int) := by unfold BIG; norm_cast
    rw [e] at h
    omega
def CMulB (i j : Int) : Prop := (0 ≤ i ∧ i < BIG) ∧ (0 ≤ j ∧ j < BIG)
theorem CMulB.ok {i j : Int} (h : CMulB i j) : IntMulOk i j := by
  have one : ∀ {k : Int}, 0 ≤ k → k < BIG → Builtin.Int.intBits k ≤ 2 ^ 20 := fun {k} h0 h1 => by
    unfold Builtin.Int.intBits
    have := big_bits h0 h1
    split <;> omega
  exact .of_bits (one h.1.1 h.1.2) (one h.2.1 h.2.2)
def CDivB (i j : Int) : Prop := 0 < j ∧ j < BIG
section
variable {X : Cx}
theorem op_mulB : OpR X (binaryOp .Mult) (rI CMulB fun i j => .int (i * j)) := opI fun _ _ _ _ _ _ _ hc q => PyProof.Rows.mul_int q hc.ok
theorem op_fdivB : OpR X (binaryOp .FloorDiv) (rI CDivB fun i j => .int (i / j)) := opI fun i j _ _ _ _ _ hc q => by
  have h1 : (0 : Int) < j := hc.1
  have h2 : j < BIG := hc.2
  have h3 := big_bits (Int.le_of_lt h1) h2
  exact floordiv_int (by omega) (by rw [Int.fdiv_eq_ediv_of_nonneg i (by omega)]; exact q) (.inl (PyProof.noPylong_of_log2 (by omega)))
end

/-! ### for x in reversed(a list) -/
def Itv (K : PySem.W.Frag) (a : Addr) (n : Nat) : It :=
  ⟨fun i H => i < n ∧ ∃ xs, SqL K H a xs ∧ xs.length = n, fun i H x H' => H' = H ∧ ∀ xs, SqL K H a xs → xs[n - 1 - i]? = some x, fun i H => i = n⟩
theorem turn_rev {P : Program} {w : World} {K : PySem.W.Frag} {tg : Expr} (a it : Addr) (n : Nat) : Turn P w K tg (Itv K a n) [it] it (fun i h => i ≤ n ∧ PySem.Heap.IsRevIter h it a ((n : Int) - 1 - (i : Int))) where
  mem := by simp
  obj := fun i h st b hb => by
    have e : b = it := by simpa using hb
    subst e
    obtain ⟨_, o, e, c, d⟩ := st
    exact ⟨o, e, fun v z => by rw [d] at z; cases z⟩
  keep := fun i h h' st k => ⟨st.1, st.2.at fun o e => k it (by simp) o e⟩
  item := by
    intro X hP hw hK hc i pins s σ H E I hf st hg
    subst hP hw hK
    obtain ⟨hi, xs, hq, hn⟩ := hg
    obtain ⟨its, rv, p, hz⟩ := I.list hq
    have hj : n - 1 - i < xs.length := by omega
    obtain ⟨u, hu, ru⟩ := rv.get (i := n - 1 - i) (x := xs[n - 1 - i]) (by simp [hj])
    obtain ⟨f0, f1, f2, f3, f4, f5⟩ := hf it (by simp)
    have e : (n : Int) - 1 - (i : Int) = ((n - 1 - i : Nat) : Int) := by omega
    have st2 := st.2
    rw [e] at st2
    refine wpAny_pyNext_rev_item st2 p.isList (x := u) (by simpa using hu) fun h' st' sb => ?_
    have I1 : Inv X pins σ H { s with heap := h' } := I.turned (t' := s.toks) (fun b o hb e => (sb.2 b hb).trans e) f0 f1 f3 f4 f5
    obtain ⟨o, eo, c, d⟩ := id st'
    refine ⟨u, rfl, go_of (s := { s with heap := h' }) eo c d (by decide) ⟨xs[n - 1 - i], H, I1, ru, ⟨rfl, fun ys hy => by rw [I.list_inj hy hq]; simp [hj]⟩, ⟨by omega, ?_⟩, fun b hb => (hf b hb).1⟩⟩
    have e2 : (n : Int) - 1 - ((i + 1 : Nat) : Int) = ((n - 1 - i : Nat) : Int) - 1 := by omega
    rw [e2]
    exact st'
  done := by
    intro X hP hw hK hc i pins s σ H E I hf st hg
    subst hP hw hK
    have hg' : i = n := hg
    obtain ⟨f0, f1, f2, f3, f4, f5⟩ := hf it (by simp)
    have e : (n : Int) - 1 - (i : Int) = -1 := by omega
    have st2 := st.2
    rw [e] at st2
    exact wpAny_pyNext_rev_end (I.ok.hd hc) st2 fun h' eb => ⟨rfl, I.turned (t' := s.toks) (fun b o hb e => eb b o hb e) f0 f1 f3 f4 f5⟩
  self := fun _ _ _ _ _ st h => wpAny_pyIter_revIter st.2 h
section
variable {X : Cx} {tg : Expr}
def iRev (K : PySem.W.Frag) (ta : TA) : TI := fun σ H R => ta σ H fun vs H1 => ∃ a xs, vs = [.ref a] ∧ SqL K H1 a xs ∧ R (Itv K a xs.length) H1
theorem pi_rev {a : Expr} {ta : TA} {p pos : Pos} (hg : Gl X "reversed") (hm : X.mg "reversed" = none) (ha : PA X [a] ta) (hs : starEach [a] X.env = [(false, eval a X.env)] := by rfl) : PI X tg (.Call (.Name "reversed" p) [a] [] pos) (iRev X.K ta) := by
  intro pins s σ H R I h
  refine Call_ (ld_blt I hg hm bt_reversed (PyProof.Rows.callWith_type1 (thn (ha pos pins s σ H _ I h) fun us s1 ⟨vs, H1, I1, r1, q1⟩ => ?_) hs rfl))
  obtain ⟨l, xs, e, hq, q⟩ := q1
  subst e
  cases r1 with
  | cons r rr =>
    cases rr
    cases r
    obtain ⟨its, rv, pl, hz⟩ := I1.list hq
    have hlen := rv.length
    refine call_reversed_list pl.isList ?_
    have I2 : Inv X pins σ H1 { s1 with heap := s1.heap.push (revObj l ((its.toArray.size : Int) - 1)) } := I1.kept (t' := s1.toks) fun b o e => Heap.get?_push_of_some _ e
    have hit : PySem.Heap.IsRevIter (s1.heap.push (revObj l ((its.toArray.size : Int) - 1))) s1.heap.objs.size l ((xs.length : Int) - 1 - ((0 : Nat) : Int)) := by
      refine ⟨_, Heap.get?_push_size _ rfl, rfl, ?_⟩
      have e : ((its.toArray.size : Int) - 1) = (xs.length : Int) - 1 - ((0 : Nat) : Int) := by rw [List.size_toArray]; omega
      rw [← e]
      rfl
    refine wpAny_pyIter_revIter hit ?_
    refine ⟨s1.heap.objs.size, [s1.heap.objs.size], _, _, H1, rfl, I2, turn_rev l _ xs.length, ⟨Nat.zero_le _, hit⟩, fun b hb => ?_, q⟩
    have e : b = s1.heap.objs.size := by simpa using hb
    subst e
    exact I1.fpOk (Nat.le_refl _) (I1.hok.fresh (Nat.le_refl _))
end
theorem for_rev {K : PySem.W.Frag} {a : Addr} {xs : List V} {g : TG} {tb : TS} {D : Ends} {σ : St} {H : Hp} (Pv : Nat → St → Hp → Prop) (h0 : Pv 0 σ H) (hl : ∀ i σ H, i ≤ xs.length → Pv i σ H → SqL K H a xs)
    (hs : ∀ i x σ H, i < xs.length → xs[xs.length - 1 - i]? = some x → Pv i σ H → g x σ H fun σ2 H2 => tb { D with nx := Pv (i + 1), ct := Pv (i + 1), bk := D.nx } σ2 H2) (hd : ∀ σ H, Pv xs.length σ H → D.nx σ H) :
    ∃ W : Nat → Nat → St → Hp → Prop, (∃ m, W 0 m σ H) ∧ ∀ i m σ H, W i m σ H →
      ((Itv K a xs.length).stop i H ∧ D.nx σ H) ∨ ((Itv K a xs.length).go i H ∧ ∃ N : St → Hp → Prop, (∀ σ' H', N σ' H' → ∃ m', m' < m ∧ W (i + 1) m' σ' H') ∧ ∀ x H', (Itv K a xs.length).yld i H x H' → g x σ H' fun σ2 H2 => tb { D with nx := N, ct := N, bk := D.nx } σ2 H2) := by
  refine ⟨fun i m σ H => m = xs.length - i ∧ i ≤ xs.length ∧ Pv i σ H, ⟨xs.length, by simp, Nat.zero_le _, h0⟩, ?_⟩
  rintro i m σ H ⟨rfl, hi, p⟩
  have q := hl i σ H hi p
  by_cases hlt : i < xs.length
  · refine .inr ⟨⟨hlt, xs, q, rfl⟩, Pv (i + 1), fun σ' H' p' => ⟨xs.length - (i + 1), by omega, rfl, hlt, p'⟩, fun x H' y => ?_⟩
    obtain ⟨e, y⟩ := y
    subst e
    exact hs i x σ _ hlt (y xs q) p
  · have e : i = xs.length := by omega
    subst e
    exact .inl ⟨rfl, hd σ H p⟩
/-- while, where the test's reading is followed by hand -/
theorem while_W {c : TT} {tb : TS} {D : Ends} {σ : St} {H : Hp} (Pv : Nat → St → Hp → Prop) (h0 : ∃ m, Pv m σ H)
    (hs : ∀ m σ H, Pv m σ H → c σ H fun b H1 => if b = true then ∃ N : St → Hp → Prop, (∀ σ' H', N σ' H' → ∃ m', m' < m ∧ Pv m' σ' H') ∧ tb { D with nx := N, ct := N, bk := D.nx } σ H1 else D.nx σ H1) : tWhile c tb D σ H := ⟨Pv, h0, hs⟩
end L2

set_option Elab.async false
set_option linter.all false
set_option maxRecDepth 100000
namespace L2
open PySem PySem.Spec PyProof.Rows

/-! ### isinstance by several classes -/
section
variable {X : Cx} {pins : List (Addr × Obj)} {σ : St} {H : Hp} {s : Shared}
def rIsiT (K : PySem.W.Frag) : List V → Hp → VK → Prop := fun xs H Q => ∃ (x : V) (p : Addr) (ts : List String) (t : Value) (b : Bool), xs = [x, .ref p] ∧ H p = some (.tup (ts.map V.ty)) ∧ TyOf K H x t ∧ PySem.W.kitAny K t (ts.map Value.type) = some b ∧ Q (.bl b) H
end

/-! ### range(0, n, 2) -/
def Its (lo c : Int) (n : Nat) : It := ⟨fun i _ => i < n, fun i H x H' => H' = H ∧ x = .int (lo + i * c), fun i _ => n ≤ i⟩
section
variable {X : Cx} {tg : Expr}
def iRng2s (ta : TA) : TI := fun σ H R => ta σ H fun vs H1 => ∃ j : Int, vs = [.int 0, .int j, .int 2] ∧ (0 ≤ j ∧ j < 2 ^ 60) ∧ R (Its 0 2 ((j + 1) / 2).toNat) H1
end
/-! ### two lists, two tuples of flat things: ==, != -/
section
variable {X : Cx}
def rNeL (K : PySem.W.Frag) : R2 := fun x y H Q => ∃ a b xs ys, x = .ref a ∧ y = .ref b ∧ SqL K H a xs ∧ SqL K H b ys ∧ xs.all flatV = true ∧ ys.all flatV = true ∧ Q (.bl (!eqVs xs ys)) H
def rEqT (K : PySem.W.Frag) (neg : Bool) : R2 := fun x y H Q => ∃ a b xs ys, x = .ref a ∧ y = .ref b ∧ SqT K H a xs ∧ SqT K H b ys ∧ xs.all flatV = true ∧ ys.all flatV = true ∧ Q (.bl (if neg then !eqVs xs ys else eqVs xs ys)) H
/-! ### xs.insert(i, y), 0 ≤ i -/
def rInsert : V → List V → Hp → VK → Prop := fun x vs H Q => ∃ l xs i y, x = .ref l ∧ vs = [.int i, y] ∧ H l = some (.lst xs) ∧ (0 ≤ i ∧ i < 2 ^ 60) ∧ xs.length < sizeLine ∧ Q .non (upd H l (.lst (xs.take i.toNat ++ y :: xs.drop i.toNat)))
end
end L2

set_option Elab.async false
set_option linter.all false
set_option maxRecDepth 100000
/-! max(a list, default=d); a[lo:hi:step] of a tuple -/
namespace PySem
section
variable {prog : Program} {w : World} {A : Around} {R : Result → Shared → Prop} {I : Addr} {fp wr : List Addr} {n : Nat} {P : Nat → Value → Prop} {St : Nat → Heap → Prop}
end
section
variable {prog : Program} {w : World} {A : Around} {E : Value → Shared → Prop} {s : Shared}
end
end PySem
namespace L2
open PySem PySem.Spec PyProof.Rows
section
variable {X : Cx}
/-- max(a list of ints, default=d): d where there is none, else one of them above none of the others -/
def rMaxD (K : PySem.W.Frag) : List V → List V → Hp → VK → Prop := fun xs zs H Q => ∃ (a : Addr) (ns : List Int) (d : V), xs = [.ref a] ∧ zs = [d] ∧ SqL K H a (ns.map V.int) ∧ (ns = [] → Q d H) ∧ ∀ M, M ∈ ns → (∀ z ∈ ns, z ≤ M) → Q (.int M) H
variable {p pos kpos : Pos} {e d : Expr} {ta : TA} {td : TE}
def tMaxD (K : PySem.W.Frag) (ta : TA) (td : TE) : TE := fun σ H Q => ta σ H fun xs H1 => td σ H1 fun z H2 => rMaxD K xs [z] H2 Q
end

/-! ### a[lo:hi:step] of a tuple -/
def strideV (xs : List V) (lo hi : Option Int) (st : Int) : List V :=
  (List.range (Builtin.Slice.slicePlaces (Builtin.Slice.sliceAdjust lo hi st xs.length).1 (Builtin.Slice.sliceAdjust lo hi st xs.length).2 st)).filterMap fun (m : Nat) => xs[((Builtin.Slice.sliceAdjust lo hi st xs.length).1 + (m : Int) * st).toNat]?
theorem Vals.pick {xs : List V} {us : List Value} (r : Vals xs us) (f : Nat → Nat) : ∀ ks : List Nat, Vals (ks.filterMap fun m => xs[f m]?) (ks.filterMap fun m => us[f m]?)
  | [] => .nil
  | k :: ks => by
    have ih := Vals.pick r f ks
    cases e : xs[f k]? with
    | none =>
      have e2 := r.none_of e
      rw [List.filterMap_cons_none (f := fun m => xs[f m]?) e, List.filterMap_cons_none (f := fun m => us[f m]?) e2]
      exact ih
    | some x =>
      obtain ⟨u, e2, ru⟩ := r.get e
      rw [List.filterMap_cons_some (f := fun m => xs[f m]?) e, List.filterMap_cons_some (f := fun m => us[f m]?) e2]
      exact .cons ru ih
section
variable {prog : Program} {w : World} {A : Around} {E : Value → Shared → Prop} {s : Shared}
end
section
variable {X : Cx} {e : Expr} {te : TE} {lo hi : Option Expr} {st : Expr} {tl th ts : TO} {pos p2 : Pos}
def SlR3 (X : Cx) (r : V → Option Int → Option Int → Option Int → Hp → VK → Prop) : Prop :=
  ∀ (pins : List (Addr × Obj)) (s : Shared) (σ : St) (H : Hp) (x : V) (v vl vu vs : Value) (lo hi st : Option Int) (sl : Addr) (Q : VK), Inv X pins σ H s → RelV x v → s.heap.IsSliceOf sl vl vu vs → IsPart vl lo → IsPart vu hi → IsPart vs st → r x lo hi st H Q →
    ∃ T id, typeLookup (.type T) "__getitem__" = pure (some (.builtin id)) ∧ s.TypeIs v T ∧ wpAny (model X.prog X.w) X.A (getItem v (.ref sl)) (EP X pins σ Q) X.xe s
def tSl3 (r : V → Option Int → Option Int → Option Int → Hp → VK → Prop) (te : TE) (tl th ts : TO) : TE := fun σ H Q => te σ H fun x H1 => tl σ H1 fun l H2 => th σ H2 fun u H3 => ts σ H3 fun c H4 => r x l u c H4 Q
theorem pe_slice3 {r : V → Option Int → Option Int → Option Int → Hp → VK → Prop} (hr : SlR3 X r) (he : PE X e te) (hl : PO X lo tl) (hu : PO X hi th) (hs : PO X (some st) ts) : PE X (.Subscript e (.Slice lo hi (some st) p2) pos) (tSl3 r te tl th ts) := by
  intro pins s σ H Q I h
  refine Subscript_ (thn (he pins s σ H _ I h) fun v s1 ⟨x, H1, I1, r1, q1⟩ => ?_)
  refine wpAny_Slice (thn (hl pins s1 σ H1 _ I1 q1) fun vl s2 ⟨l, H2, I2, pl, q2⟩ => thn (hu pins s2 σ H2 _ I2 q2) fun vu s3 ⟨u, H3, I3, pu, q3⟩ => thn (hs pins s3 σ H3 _ I3 q3) fun vc s4 ⟨c, H4, I4, pc, q4⟩ => ?_)
  have I5 : Inv X pins σ H4 { s4 with heap := s4.heap.push { cls := .type "slice", data := .fields #[vl, vu, vc] } } := I4.kept (t' := s4.toks) fun b ob q => Heap.get?_push_of_some _ q
  obtain ⟨T, id, hT, ht, hg⟩ := hr pins { s4 with heap := s4.heap.push { cls := .type "slice", data := .fields #[vl, vu, vc] } } σ H4 x v vl vu vc l u c s4.heap.objs.size Q I5 r1 (Heap.IsSliceOf.new ..) pl pu pc q4
  show wpAny (model X.prog X.w) X.A (subscriptTail e (.Slice lo hi (some st) p2) v (.ref s4.heap.objs.size)) (EP X pins σ Q) X.xe { s4 with heap := s4.heap.push { cls := .type "slice", data := .fields #[vl, vu, vc] } }
  exact tail_any (ops := [v, .ref s4.heap.objs.size]) ht hT hg (by with_unfolding_all rfl)
/-- the places are none that the whole hasn't, or it is the whole itself -/
def rSl3T (K : PySem.W.Frag) : V → Option Int → Option Int → Option Int → Hp → VK → Prop := fun x lo hi st H Q => ∃ a xs c, x = .ref a ∧ st = some c ∧ SqT K H a xs ∧ c ≠ 0 ∧ (strideV xs lo hi c).length ≤ sizeLine ∧
  (c = 1 → (Builtin.Slice.sliceAdjust lo hi c xs.length).1 = 0 → Builtin.Slice.slicePlaces (Builtin.Slice.sliceAdjust lo hi c xs.length).1 (Builtin.Slice.sliceAdjust lo hi c xs.length).2 c = xs.length → Q (.ref a) H) ∧ ∀ p, H p = none → Q (.ref p) (upd H p (.tup (strideV xs lo hi c)))
end

/-! ### what is walked is a list or a tuple -/
section
variable {X : Cx} {tg : Expr}
def iSeq (K : PySem.W.Frag) (tl : TE) : TI := fun σ H R => tl σ H fun x H1 => ∃ a, x = .ref a ∧ (((∃ xs, SqL K H1 a xs) ∧ R (Itl K a) H1) ∨ ((∃ xs, SqT K H1 a xs) ∧ R (Itt K a) H1))
end
theorem comp_tup {K : PySem.W.Frag} {a : Addr} {xs : List V} {ix : List (Option Nat)} {te : TE} {σ : St} {H : Hp} {Qd : Addr → Hp → Prop} (Pv : Addr → Nat → List V → Hp → Prop)
    (h0 : ∀ D, H D = none → Pv D 0 [] (upd H D (.lst [])))
    (hl : ∀ D i ys H', i ≤ xs.length → Pv D i ys H' → SqT K H' a xs)
    (hs : ∀ D i x ys H' (Q' : VK), H D = none → xs[i]? = some x → H' D = some (.lst ys) → Pv D i ys H' → (∀ y H4, H4 D = some (.lst ys) → ys.length < sizeLine → Pv D (i + 1) (ys ++ [y]) (upd H4 D (.lst (ys ++ [y]))) → Q' y H4) →
      te ((blockSt ix σ).set 0 (some x)) H' Q')
    (hd : ∀ D ys H', H D = none → H' D = some (.lst ys) → Pv D xs.length ys H' → Qd D H') : CompW (Itt K a) ix (gName 0) te σ H Qd := by
  intro D hD
  refine ⟨fun i m σ' H' => m = xs.length - i ∧ i ≤ xs.length ∧ (σ' = blockSt ix σ ∨ ∃ t, σ' = (blockSt ix σ).set 0 t) ∧ ∃ ys, H' D = some (.lst ys) ∧ Pv D i ys H', ⟨xs.length, by simp, Nat.zero_le _, .inl rfl, [], upd_same, h0 D hD⟩, ?_⟩
  rintro i m σ' H' ⟨rfl, hi, hσ, ys, hy, p⟩
  have q := hl D i ys H' hi p
  by_cases hlt : i < xs.length
  · refine .inr ⟨⟨xs, xs[i], q, by simp [hlt]⟩, fun x H2 y => ?_⟩
    obtain ⟨e1, e2⟩ := y
    subst e1
    have ex := e2 xs q
    have es : σ'.set 0 (some x) = (blockSt ix σ).set 0 (some x) := by
      rcases hσ with z | ⟨t, z⟩
      · rw [z]
      · rw [z, List.set_set]
    show te (σ'.set 0 (some x)) _ _
    rw [es]
    refine hs D i x ys _ _ hD ex hy p fun y H4 h4 hz p4 => ⟨ys, h4, hz, xs.length - (i + 1), by omega, rfl, hlt, .inr ⟨_, rfl⟩, ys ++ [y], upd_same, p4⟩
  · have e : i = xs.length := by omega
    subst e
    exact .inl ⟨⟨xs, q, Nat.le_refl _⟩, hd D ys H' hD hy p⟩
/-! ### rules in a comprehension's block: K is named -/
section
variable {X : Cx}
def rLen (K : PySem.W.Frag) : List V → Hp → VK → Prop := fun xs H Q => ∃ p ys, xs = [.ref p] ∧ (SqL K H p ys ∨ SqT K H p ys) ∧ Q (.int ys.length) H
theorem ix_listK (K : PySem.W.Frag) (h : X.K = K := by rfl) : IxR X (rIxL K) := by subst h; exact ix_list
theorem ix_tupK (K : PySem.W.Frag) (h : X.K = K := by rfl) : IxR X (rIxT K) := by subst h; exact ix_tup
end
end L2

set_option Elab.async false
set_option linter.all false
set_option maxRecDepth 100000
namespace L2
open PySem PySem.Spec PyProof.Rows
/-! ### lists of pairs as tables -/
section
variable {κ : Type} [DecidableEq κ]
def valV (kvs : List (κ × V)) (k : κ) : Option V := (kvs.find? fun kv => decide (kv.1 = k)).map (·.2)
/-- in its place, or at the end -/
def putK (kvs : List (κ × V)) (k : κ) (v : V) : List (κ × V) :=
  if (kvs.any fun kv => decide (kv.1 = k)) = true then kvs.map (fun kv => if kv.1 = k then (kv.1, v) else kv) else kvs ++ [(k, v)]
def dropK (kvs : List (κ × V)) (k : κ) : List (κ × V) := kvs.filter fun kv => decide (kv.1 ≠ k)

theorem valV_pos {p : κ × V} {r : List (κ × V)} {k : κ} (e : p.1 = k) : valV (p :: r) k = some p.2 := by simp [valV, List.find?_cons, e]
theorem valV_neg {p : κ × V} {r : List (κ × V)} {k : κ} (e : ¬ p.1 = k) : valV (p :: r) k = valV r k := by simp [valV, List.find?_cons, e]
theorem valV_any (k : κ) : ∀ kvs : List (κ × V), (kvs.any fun kv => decide (kv.1 = k)) = (valV kvs k).isSome
  | [] => rfl
  | p :: r => by
    rw [List.any_cons]
    by_cases e : p.1 = k
    · simp only [valV_pos e, decide_eq_true e, Bool.true_or, Option.isSome_some]
    · rw [valV_neg e, decide_eq_false e, Bool.false_or]; exact valV_any k r
theorem length_putK (kvs : List (κ × V)) (k : κ) (v : V) : (putK kvs k v).length ≤ kvs.length + 1 := by
  unfold putK
  split
  · rw [List.length_map]; omega
  · rw [List.length_append, List.length_cons, List.length_nil]; omega
theorem RelO.isSome_eq {o : Option V} {u : Option Value} (r : RelO o u) : o.isSome = u.isSome := by
  cases o with
  | none => cases u with
    | none => rfl
    | some _ => exact (show False from r).elim
  | some _ => cases u with
    | none => exact (show False from r).elim
    | some _ => rfl
theorem RelO.getD {o : Option V} {u : Option Value} {d : V} {d' : Value} (r : RelO o u) (rd : RelV d d') : RelV (o.getD d) (u.getD d') := by
  cases o with
  | none => cases u with
    | none => exact rd
    | some _ => exact (show False from r).elim
  | some _ => cases u with
    | none => exact (show False from r).elim
    | some _ => exact r

/-- raw tables of the same keys -/
theorem KV.val {kvs : List (κ × V)} {vs : List (κ × Value)} (r : KV kvs vs) (k : κ) : RelO (valV kvs k) (valueAt vs k) := by
  unfold KV at r
  induction r with
  | nil => exact True.intro
  | @cons p q ps qs h t ih =>
    obtain ⟨h1, h2⟩ := h
    by_cases e : p.1 = k
    · have e' : q.1 = k := h1.symm.trans e
      have b : valueAt (q :: qs) k = some q.2 := by simp [valueAt, List.find?_cons, e']
      rw [valV_pos e, b]; exact h2
    · have e' : ¬ q.1 = k := fun z => e (h1.trans z)
      have b : valueAt (q :: qs) k = valueAt qs k := by simp [valueAt, List.find?_cons, e']
      rw [valV_neg e, b]; exact ih
theorem KV.any {kvs : List (κ × V)} {vs : List (κ × Value)} (r : KV kvs vs) (k : κ) : (kvs.any fun kv => decide (kv.1 = k)) = vs.any fun kv => decide (kv.1 = k) := by
  unfold KV at r
  induction r with
  | nil => rfl
  | cons h t ih => rw [List.any_cons, List.any_cons, ih, h.1]
theorem KV.repl {kvs : List (κ × V)} {vs : List (κ × Value)} (r : KV kvs vs) (k : κ) {y : V} {u : Value} (ry : RelV y u) :
    KV (kvs.map fun kv => if kv.1 = k then (kv.1, y) else kv) (vs.map fun kv => if kv.1 = k then (kv.1, u) else kv) := by
  unfold KV at r ⊢
  induction r with
  | nil => exact .nil
  | @cons p q ps qs h t ih =>
    rw [List.map_cons, List.map_cons]
    refine .cons ?_ ih
    obtain ⟨h1, h2⟩ := h
    by_cases e : p.1 = k
    · rw [if_pos e, if_pos (h1.symm.trans e)]; exact ⟨h1, ry⟩
    · rw [if_neg e, if_neg (fun z => e (h1.trans z))]; exact ⟨h1, h2⟩
theorem KV.put {kvs : List (κ × V)} {vs : List (κ × Value)} (r : KV kvs vs) (k : κ) {y : V} {u : Value} (ry : RelV y u) : KV (putK kvs k y) (stored vs k u) := by
  unfold putK stored
  rw [r.any k]
  by_cases e : (vs.any fun kv => decide (kv.1 = k)) = true
  · rw [if_pos e, if_pos e]; exact r.repl k ry
  · rw [if_neg e, if_neg e]; exact Paired.snoc r ⟨rfl, ry⟩
theorem KV.drop {kvs : List (κ × V)} {vs : List (κ × Value)} (r : KV kvs vs) (k : κ) : KV (dropK kvs k) (without vs k) := by
  unfold KV at r ⊢
  unfold dropK without
  induction r with
  | nil => exact .nil
  | @cons p q ps qs h t ih =>
    obtain ⟨h1, h2⟩ := h
    rw [List.filter_cons, List.filter_cons]
    by_cases e : p.1 = k
    · have a : ¬ decide (p.1 ≠ k) = true := by simp [e]
      have b : ¬ decide (q.1 ≠ k) = true := by simp [h1.symm.trans e]
      rw [if_neg a, if_neg b]; exact ih
    · have e' : ¬ q.1 = k := fun z => e (h1.trans z)
      have a : decide (p.1 ≠ k) = true := by simp [e]
      have b : decide (q.1 ≠ k) = true := by simp [e']
      rw [if_pos a, if_pos b]; exact .cons ⟨h1, h2⟩ ih
theorem KV.keys {kvs : List (κ × V)} {vs : List (κ × Value)} (r : KV kvs vs) : kvs.map (·.1) = vs.map (·.1) := by
  unfold KV at r
  induction r with
  | nil => rfl
  | cons h t ih => rw [List.map_cons, List.map_cons, ih, h.1]
theorem KV.length {kvs : List (κ × V)} {vs : List (κ × Value)} (r : KV kvs vs) : kvs.length = vs.length := Paired.length r
end


/-! ### a tracked dict, its keys ints and texts or tuples of these -/
theorem kV_is {P : Program} {w : World} {k : Key} {u : Value} (r : RelV (kV k) u) : (mixKind P w).is k u = true := by
  cases k with
  | inl i => obtain ⟨t, e⟩ := (show ∃ t, u = Value.int i t from r); subst e; exact mixKind_int P w i t
  | inr x => obtain ⟨t, e⟩ := (show ∃ t, u = Value.str x t from r); subst e; exact mixKind_str P w x t
theorem items_are {P : Program} {w : World} : ∀ {ks : List Key} {us : List Value}, Vals (ks.map kV) us → ItemsAre (mixKind P w) ks us
  | [], _, r => by rw [List.map_nil] at r; cases r; exact .nil
  | k :: ks, _, r => by
    rw [List.map_cons] at r
    cases r with
    | cons h t => exact .cons (kV_is h) (items_are t)

/-- raw entries of a dict with tuple keys -/
abbrev KT (H : Hp) : List (List Key × V) → List (List Key × Addr × Value) → Prop := Paired fun p q => p.1 = q.1 ∧ H q.2.1 = some (.tup (p.1.map kV)) ∧ RelV p.2 q.2.2
theorem KT.val {H : Hp} {kvs : List (List Key × V)} {xs : List (List Key × Addr × Value)} (r : KT H kvs xs) (k : List Key) : RelO (valV kvs k) ((atKey xs k).map (·.2)) := by
  induction r with
  | nil => exact True.intro
  | @cons p q ps qs h t ih =>
    obtain ⟨h1, _, h2⟩ := h
    by_cases e : p.1 = k
    · have e' : q.1 = k := h1.symm.trans e
      have b : atKey (q :: qs) k = some q.2 := by simp [atKey, List.find?_cons, e']
      rw [valV_pos e, b]; exact h2
    · have e' : ¬ q.1 = k := fun z => e (h1.trans z)
      have b : atKey (q :: qs) k = atKey qs k := by simp [atKey, List.find?_cons, e']
      rw [valV_neg e, b]; exact ih
theorem KT.repl {H : Hp} {kvs : List (List Key × V)} {xs : List (List Key × Addr × Value)} (r : KT H kvs xs) (k : List Key) {y : V} {u : Value} (ry : RelV y u) :
    KT H (kvs.map fun kv => if kv.1 = k then (kv.1, y) else kv) (xs.map (putAt k u)) := by
  induction r with
  | nil => exact .nil
  | @cons p q ps qs h t ih =>
    rw [List.map_cons, List.map_cons]
    refine .cons ?_ ih
    obtain ⟨h1, h2, h3⟩ := h
    unfold putAt
    by_cases e : p.1 = k
    · rw [if_pos e, if_pos (h1.symm.trans e)]; exact ⟨h1, h2, ry⟩
    · rw [if_neg e, if_neg (fun z => e (h1.trans z))]; exact ⟨h1, h2, h3⟩
theorem KT.put {H : Hp} {kvs : List (List Key × V)} {xs : List (List Key × Addr × Value)} (r : KT H kvs xs) (k : List Key) {b : Addr} {y : V} {u : Value} (hb : H b = some (.tup (k.map kV))) (ry : RelV y u) :
    KT H (putK kvs k y) (storedH xs k b u) := by
  have e : (kvs.any fun kv => decide (kv.1 = k)) = (atKey xs k).isSome := by
    rw [valV_any, (r.val k).isSome_eq, Option.isSome_map]
  unfold putK storedH
  rw [e]
  by_cases q : (atKey xs k).isSome = true
  · rw [if_pos q, if_pos q]; exact r.repl k ry
  · rw [if_neg q, if_neg q]; exact Paired.snoc r ⟨rfl, hb, ry⟩
theorem KT.keeps {H H' : Hp} {kvs : List (List Key × V)} {xs : List (List Key × Addr × Value)} (r : KT H kvs xs) (ht : ∀ b ys, H b = some (.tup ys) → H' b = some (.tup ys)) : KT H' kvs xs :=
  Paired.mapP r fun _ _ z => ⟨z.1, ht _ _ z.2.1, z.2.2⟩

section
variable {P : Program} {w : World} {H : Hp} {h : Heap} {a : Addr}
theorem rd_of {u : HO} (ok : HOk P w H h) (e : Rd H a u) : ObjOk P w H h a u := e.ok ok
theorem dk_rd {kvs : List (Key × V)} (ok : HOk P w H h) (e : Rd H a (.dK kvs)) : kvs.length ≤ sizeLine ∧ (a == sysModules) = false ∧ ∃ vs, KV kvs vs ∧ h.DictOf (mixKind P w) a vs :=
  show ObjOk P w H h a (.dK kvs) from rd_of ok e
theorem dk_of {kvs : List (Key × V)} (ok : HOk P w H h) (e : H a = some (.dK kvs)) : kvs.length ≤ sizeLine ∧ (a == sysModules) = false ∧ ∃ vs, KV kvs vs ∧ h.DictOf (mixKind P w) a vs := dk_rd ok (.inl e)
/-- a tracked tuple of ints and texts is a key -/
theorem key_of {ks : List Key} (ok : HOk P w H h) (e : H a = some (.tup (ks.map kV))) : (tupleKind (mixKind P w)).is h ks a := by
  obtain ⟨_, its, r, o, h1, h2, n, h3⟩ := (show ObjOk P w H h a (.tup (ks.map kV)) from ok a _ e)
  exact ⟨o, its.toArray, n, h1, h2, h3, by simpa using items_are r⟩
theorem dt_rd {kvs : List (List Key × V)} (ok : HOk P w H h) (e : Rd H a (.dT kvs)) : kvs.length ≤ sizeLine ∧ (a == sysModules) = false ∧
    ∃ xs, KT H kvs xs ∧ h.DictOfH (tupleKind (mixKind P w)) a xs := by
  obtain ⟨z, y, xs, r, o, es, ep, h1, h2, h3, h4, h5⟩ := (show ObjOk P w H h a (.dT kvs) from rd_of ok e)
  refine ⟨z, y, xs, r, o, es, ep, h1, h2, h3, h4, fun x hx => ?_, h5⟩
  have all : ∀ {l : List (List Key × V)} {m : List (List Key × Addr × Value)}, KT H l m → ∀ x ∈ m, (tupleKind (mixKind P w)).is h x.1 x.2.1 := by
    intro l m q
    induction q with
    | nil => intro x hx; exact nomatch hx
    | @cons p q ps qs hq t ih =>
      intro x hx
      rcases List.mem_cons.mp hx with e | hx
      · subst e
        exact key_of ok (by rw [← hq.1]; exact hq.2.1)
      · exact ih x hx
  exact all r x hx
theorem dt_of {kvs : List (List Key × V)} (ok : HOk P w H h) (e : H a = some (.dT kvs)) : kvs.length ≤ sizeLine ∧ (a == sysModules) = false ∧
    ∃ xs, KT H kvs xs ∧ h.DictOfH (tupleKind (mixKind P w)) a xs := dt_rd ok (.inl e)
end

/-- what the dict at a holds at the key y -/
def DGet (H : Hp) (a : Addr) (y : V) (r : Option V) : Prop :=
  (∃ kvs k, Rd H a (.dK kvs) ∧ y = kV k ∧ r = valV kvs k) ∨ ∃ kvs k b, Rd H a (.dT kvs) ∧ y = .ref b ∧ H b = some (.tup (k.map kV)) ∧ r = valV kvs k
/-- the heap behind a[y] = v -/
def DPut (H : Hp) (a : Addr) (y v : V) (H' : Hp) : Prop :=
  (∃ kvs k, H a = some (.dK kvs) ∧ y = kV k ∧ kvs.length < sizeLine ∧ H' = upd H a (.dK (putK kvs k v))) ∨
  ∃ kvs k b, H a = some (.dT kvs) ∧ y = .ref b ∧ H b = some (.tup (k.map kV)) ∧ kvs.length < sizeLine ∧ H' = upd H a (.dT (putK kvs k v))
theorem DGet.k {H : Hp} {a : Addr} {kvs : List (Key × V)} {k : Key} (e : H a = some (.dK kvs)) : DGet H a (kV k) (valV kvs k) := .inl ⟨kvs, k, .inl e, rfl, rfl⟩
theorem DGet.t {H : Hp} {a b : Addr} {kvs : List (List Key × V)} {k : List Key} (e : H a = some (.dT kvs)) (eb : H b = some (.tup (k.map kV))) : DGet H a (.ref b) (valV kvs k) := .inr ⟨kvs, k, b, .inl e, rfl, eb, rfl⟩
theorem DPut.k {H : Hp} {a : Addr} {kvs : List (Key × V)} {k : Key} {v : V} (e : H a = some (.dK kvs)) (hl : kvs.length < sizeLine) : DPut H a (kV k) v (upd H a (.dK (putK kvs k v))) := .inl ⟨kvs, k, e, rfl, hl, rfl⟩
theorem DPut.t {H : Hp} {a b : Addr} {kvs : List (List Key × V)} {k : List Key} {v : V} (e : H a = some (.dT kvs)) (eb : H b = some (.tup (k.map kV))) (hl : kvs.length < sizeLine) :
    DPut H a (.ref b) v (upd H a (.dT (putK kvs k v))) := .inr ⟨kvs, k, b, e, rfl, eb, hl, rfl⟩


section
variable {X : Cx} {pins : List (Addr × Obj)} {σ : St} {H : Hp} {s : Shared} {a : Addr} {y v : V} {u r : Value} {o : Option V} {A : Around} {E : Value → Shared → Prop}

theorem Inv.big (I : Inv X pins σ H s) : sysModules < s.heap.objs.size := by
  have h : mainGlobals < s.heap.objs.size := (I.mod.glob.keeps I.bk).lt
  exact Nat.lt_trans (by decide) h

/-- a dict's object is replaced -/
theorem d_write {h' : Heap} {t' : Nat} {ob : HO} (I : Inv X pins σ H s) (mu : Mut (H a)) (hs : Heap.SameBut a s.heap h') (he : ∃ q, h'.get? a = some q) (new : ObjOk X.prog X.w (upd H a ob) h' a ob) :
    Inv X pins σ (upd H a ob) { s with heap := h', toks := t' } :=
  I.write (x := a) (e := a) mu (.inl rfl) (fun b q hb z => (hs.2 b hb).trans z) he new
theorem dk_new {P : Program} {w : World} {H' : Hp} {h' : Heap} {kvs : List (Key × V)} {vs : List (Key × Value)} (z : kvs.length ≤ sizeLine) (hd : (a == sysModules) = false) (rel : KV kvs vs) (dd : h'.DictOf (mixKind P w) a vs) :
    ObjOk P w H' h' a (.dK kvs) := ⟨z, hd, vs, rel, dd⟩
/-- d[y] = v -/
theorem d_setItem {H' : Hp} {Q : Unit → Shared → Prop} (hu : A.units + 1 < cLine) (I : Inv X pins σ H s) (g : DPut H a y v H') (ry : RelV y u) (rv : RelV v r) (h : ∀ s', Inv X pins σ H' s' → Q () s') :
    wpAny (model X.prog X.w) A (setItem (.ref a) u r) Q E s := by
  rcases g with ⟨kvs, k, e, ey, l, eH⟩ | ⟨kvs, k, b, e, ey, eb, l, eH⟩
  · subst ey eH
    obtain ⟨z, hd, vs, rel, dd⟩ := dk_of I.hok e
    have hz : vs.length ≤ sizeLine := by rw [← rel.length]; exact z
    have hl : (putK kvs k v).length ≤ sizeLine := by have := length_putK kvs k v; omega
    refine wpAny_setItem_pairs (hsz := hz) (kV_is ry) dd fun h' dd' hs => h _ ?_
    have he : ∃ q, h'.get? a = some q := let ⟨q, _, _, hq, _⟩ := dd'; ⟨q, hq⟩
    exact d_write I (by rw [e]; exact True.intro) hs he (dk_new hl hd (rel.put k rv) dd')
  · subst ey eH
    cases (show u = Value.ref b from ry)
    obtain ⟨z, hd, xs, rel, dd⟩ := dt_of I.hok e
    have hz : xs.length ≤ sizeLine := by rw [← Paired.length rel]; exact z
    have hl : (putK kvs k v).length ≤ sizeLine := by have := length_putK kvs k v; omega
    refine wpAny_setItem_heap (hsz := hz) (tupleKind_room_in1 hu) (key_of I.hok eb) dd fun h' dd' hs => h _ ?_
    obtain ⟨q, es, ep, hq, h2, h3, h4, _, h5⟩ := dd'
    refine d_write I (by rw [e]; exact True.intro) hs ⟨q, hq⟩ ⟨hl, hd, _, (rel.put k eb rv).keeps fun c ys ec => ?_, q, es, ep, hq, h2, h3, h4, h5⟩
    rw [upd_ne (ne_of ec e (fun z => nomatch z))]
    exact ec
end

section
variable {X : Cx} {pins : List (Addr × Obj)} {σ : St} {H : Hp} {s : Shared} {a : Addr} {kvs : List (Key × V)} {k : Key} {u : Value} {A : Around} {E : Value → Shared → Prop}
end


/-! ### readings and rules -/
/-- the element of a subscription, not a slice -/
def NoSl (i : Expr) : Prop := ∀ ov iv, subscripted i false ov iv = operate [ov, iv] (getItem ov iv)
/-- d[y] -/
def tDGet (td ty : TE) : TE := fun σ H Q => td σ H fun x H1 => ty σ H1 fun y H2 => ∃ a v, x = .ref a ∧ DGet H2 a y (some v) ∧ Q v H2
/-- y in d, y not in d -/
def tDIn (ty td : TE) : TE := fun σ H Q => ty σ H fun y H1 => td σ H1 fun x H2 => ∃ a o, x = .ref a ∧ DGet H2 a y o ∧ Q (.bl o.isSome) H2
def tDNotIn (ty td : TE) : TE := fun σ H Q => ty σ H fun y H1 => td σ H1 fun x H2 => ∃ a o, x = .ref a ∧ DGet H2 a y o ∧ Q (.bl (!o.isSome)) H2
/-- d[y] = v -/
def sDPut (td ty tv : TE) : TS := fun D σ H => tv σ H fun v H1 => td σ H1 fun x H2 => ty σ H2 fun y H3 => ∃ a H4, x = .ref a ∧ DPut H3 a y v H4 ∧ D.nx σ H4
/-- d[y] op= v -/
def sDAug (td ty tv : TE) (rd : V → V → Hp → VK → Prop) : TS := fun D σ H => td σ H fun x H1 => ty σ H1 fun y H2 => ∃ a v, x = .ref a ∧ DGet H2 a y (some v) ∧
  tv σ H2 fun y2 H3 => rd v y2 H3 fun z H4 => ∃ H5, DPut H4 a y z H5 ∧ D.nx σ H5
/-- del d[y] -/
def sDDel (td ty : TE) : TS := fun D σ H => td σ H fun x H1 => ty σ H1 fun y H2 => ∃ a kvs k, x = .ref a ∧ H2 a = some (.dK kvs) ∧ y = kV k ∧ (valV kvs k).isSome = true ∧ D.nx σ (upd H2 a (.dK (dropK kvs k)))

section
variable {X : Cx} {o i e value : Expr} {pos pos' tpos : Pos} {td ty tv : TE}
theorem ps_dput (hu : X.A.units + 1 < cLine) (ho : PE X o td) (hi : PE X i ty) (hv : PE X value tv) (hs : swapsWith value (some (.Subscript o i pos')) pos.line X.env = pure false) :
    PS X (.Assign [.Subscript o i pos'] value pos) (sDPut td ty tv) := by
  intro pins s σ H D I h
  refine wpAny_Assign_Subscript (thn (hv pins s σ H _ I h) fun r s1 ⟨v, H1, I1, rv, q1⟩ => thn (ho pins s1 σ H1 _ I1 q1) fun u s2 ⟨x, H2, I2, rx, q2⟩ => thn (hi pins s2 σ H2 _ I2 q2) fun iv s3 ⟨y, H3, I3, ry, a, H4, ex, g, q3⟩ => ?_) hs
  subst ex
  obtain rfl : u = Value.ref a := rx
  exact d_setItem hu I3 g ry rv fun s4 I4 => ⟨σ, H4, I4, q3⟩
end


/-! ### displays -/
theorem dk_empty {P : Program} {w : World} {H : Hp} (h : Heap) (hb : sysModules < h.objs.size) : ObjOk P w H (h.push { cls := .type "dict", data := .dict #[] }) h.objs.size (.dK []) :=
  ⟨Nat.zero_le _, beq_eq_false_iff_ne.mpr (Ne.symm (Nat.ne_of_lt hb)), [], .nil, Heap.DictOf.new h⟩
/-- {}, to be a dict of the kind that is wanted -/
def tDNewK : TE := fun _ H Q => ∀ p, H p = none → Q (.ref p) (upd H p (.dK []))
def tDNewT : TE := fun _ H Q => ∀ p, H p = none → Q (.ref p) (upd H p (.dT []))
section
variable {X : Cx} {pos : Pos}
theorem pe_dnewK : PE X (.Dict [] [] pos) tDNewK := fun pins s σ H Q I h =>
  wpAny_Dict_empty ⟨.ref s.heap.objs.size, _, I.laid (a := s.heap.objs.size) (o := .dK []) (t' := s.toks) (fun _ _ q => Heap.get?_push_of_some _ q) (Nat.le_refl _) (dk_empty s.heap I.big), rfl, h _ (I.hok.fresh (Nat.le_refl _))⟩
end

/-- the pairs of a display, from the left -/
def tPairs : List (TE × TE) → St → Hp → (List (V × V) → Hp → Prop) → Prop
  | [], _, H, Q => Q [] H
  | (tk, tv) :: r, σ, H, Q => tk σ H fun x H1 => tv σ H1 fun y H2 => tPairs r σ H2 fun ps H3 => Q ((x, y) :: ps) H3
abbrev VV : List (V × V) → List (Value × Value) → Prop := Paired fun p q => RelV p.1 q.1 ∧ RelV p.2 q.2
def PPs (X : Cx) (pos : Pos) (keys : List (Option Expr)) (values : List Expr) (trs : List (TE × TE)) : Prop :=
  ∀ (pins : List (Addr × Obj)) (s : Shared) (σ : St) (H : Hp) (Q : List (V × V) → Hp → Prop), Inv X pins σ H s → tPairs trs σ H Q →
    wpAny (model X.prog X.w) X.A (evalPairs (pairTrees keys values X.env pos)) (fun vs s' => ∃ ps H', Inv X pins σ H' s' ∧ VV ps vs ∧ Q ps H') X.xe s
def mergeK (kvs more : List (Key × V)) : List (Key × V) := more.foldl (fun acc kv => putK acc kv.1 kv.2) kvs
/-- {k: v, ..} with keys ints and texts; the new dict stands empty while the pairs are made -/
def tDisp (trs : List (TE × TE)) : TE := fun σ H Q => ∀ p, H p = none → tPairs trs σ (upd H p (.dK [])) fun ps H2 => H2 p = some (.dK []) ∧ ∃ kvs : List (Key × V), ps = kvs.map (fun kv => (kV kv.1, kv.2)) ∧ kvs.length ≤ 15 ∧ Q (.ref p) (upd H2 p (.dK (mergeK [] kvs)))
/-! ### methods -/
/-- a method call o.m(e) of a built-in, with one argument: what must be seen of the text -/
structure M1 (X : Cx) (o : Expr) (m : Str) (apos : Pos) (e : Expr) (cpos : Pos) : Prop where
  base : attributeBase o m X.env (eval o X.env) = eval o X.env
  few : ((backTo cpos (starEach [e] X.env)).all (fun x => !x.1) && (backToKw cpos (keywordEach [] X.env)).all (fun x => x.1.isSome)
    && decide (([e] : List Expr).length + ([] : List Keyword).length + (if ([] : List Keyword).isEmpty then 0 else 1) < 30)) = true
  line : (apos.endLine == cpos.line) = true
  trees : backTo cpos (starEach [e] X.env) = [(false, eval e X.env)]
structure M2 (X : Cx) (o : Expr) (m : Str) (apos : Pos) (e f : Expr) (cpos : Pos) : Prop where
  base : attributeBase o m X.env (eval o X.env) = eval o X.env
  few : ((backTo cpos (starEach [e, f] X.env)).all (fun x => !x.1) && (backToKw cpos (keywordEach [] X.env)).all (fun x => x.1.isSome)
    && decide (([e, f] : List Expr).length + ([] : List Keyword).length + (if ([] : List Keyword).isEmpty then 0 else 1) < 30)) = true
  line : (apos.endLine == cpos.line) = true
  trees : backTo cpos (starEach [e, f] X.env) = [(false, eval e X.env), (false, eval f X.env)]

/-- a is a dict, whatever its keys -/
def IsD (H : Hp) (a : Addr) : Prop := (∃ kvs, Rd H a (.dK kvs)) ∨ ∃ kvs, Rd H a (.dT kvs)
theorem isD_at {X : Cx} {pins : List (Addr × Obj)} {σ : St} {H : Hp} {s : Shared} {a : Addr} (I : Inv X pins σ H s) (d : IsD H a) :
    s.TypeIs (.ref a) "dict" ∧ (∀ b, Value.ref a = .ref b → ∃ ob, s.heap.get? b = some ob ∧ ob.dict = none) ∧ (a == sysModules) = false := by
  rcases d with ⟨kvs, e⟩ | ⟨kvs, e⟩
  · obtain ⟨_, hd, vs, _, dd⟩ := dk_rd I.hok e
    refine ⟨dd.typeIs, fun b q => ?_, hd⟩
    cases q
    obtain ⟨ob, _, _, h1, h2, _⟩ := dd
    exact ⟨ob, h1, h2.2.1⟩
  · obtain ⟨_, hd, xs, _, dd⟩ := dt_rd I.hok e
    refine ⟨dd.typeIs, fun b q => ?_, hd⟩
    cases q
    obtain ⟨ob, _, _, h1, h2, _⟩ := dd
    exact ⟨ob, h1, h2.2.1⟩

section
variable {X : Cx} {pins : List (Addr × Obj)} {σ : St} {H : Hp} {s : Shared} {a : Addr} {y d : V} {u r : Value} {o : Option V} {A : Around} {E : Value → Shared → Prop}
/-- d.get(y, x) -/
theorem d_get2 {Q : Value → Shared → Prop} (hu : A.units + 1 < cLine) (I : Inv X pins σ H s) (g : DGet H a y o) (ry : RelV y u) (rd : RelV d r) (h : ∀ w' s', Inv X pins σ H s' → RelV (o.getD d) w' → Q w' s') :
    wpAny (model X.prog X.w) A (call (.builtin "dict.get") [.ref a, u, r]) Q E s := by
  rcases g with ⟨kvs, k, e, ey, l⟩ | ⟨kvs, k, b, e, ey, eb, l⟩
  · subst ey
    obtain ⟨z, hd, vs, rel, dd⟩ := dk_rd I.hok e
    refine call_meetsIn PySem.F.slot_dict_get dd.typeIs PySem.F.entry_dict_get (PySem.F.args_dict_get_3 _ _ _) (meets_dict_get_default (mixKind X.prog X.w) a (kV_is ry) hd r) ⟨_, dd.mapOf, h _ _ (I.tok _) ?_⟩
    rw [l]
    exact (rel.val k).getD rd
  · subst ey
    cases (show u = Value.ref b from ry)
    obtain ⟨z, hd, xs, rel, dd⟩ := dt_rd I.hok e
    refine call_meetsIn PySem.F.slot_dict_get dd.typeIs PySem.F.entry_dict_get (PySem.F.args_dict_get_3 _ _ _) (meetsH_dict_get_default (tupleKind (mixKind X.prog X.w)) a b hd r) ⟨tupleKind_room_in1 hu, k, xs, key_of I.hok eb, dd, h _ _ (I.tok _) ?_⟩
    rw [l]
    exact (rel.val k).getD rd
end

def tDGet1 (td ty : TE) : TE := fun σ H Q => td σ H fun x H1 => ∃ a, x = .ref a ∧ IsD H1 a ∧ ty σ H1 fun y H2 => ∃ o, DGet H2 a y o ∧ Q (o.getD .non) H2
def tDGet2 (td ty tx : TE) : TE := fun σ H Q => td σ H fun x H1 => ∃ a, x = .ref a ∧ IsD H1 a ∧ ty σ H1 fun y H2 => tx σ H2 fun z H3 => ∃ o, DGet H3 a y o ∧ Q (o.getD z) H3
/-- d.pop(k): there; d.pop(k, x): there or not -/
def tDPop1 (td ty : TE) : TE := fun σ H Q => td σ H fun x H1 => ∃ a, x = .ref a ∧ IsD H1 a ∧ ty σ H1 fun y H2 => ∃ kvs k v, H2 a = some (.dK kvs) ∧ y = kV k ∧ valV kvs k = some v ∧ Q v (upd H2 a (.dK (dropK kvs k)))
def tDPop2 (td ty tx : TE) : TE := fun σ H Q => td σ H fun x H1 => ∃ a, x = .ref a ∧ IsD H1 a ∧ ty σ H1 fun y H2 => tx σ H2 fun z H3 => ∃ kvs k, H3 a = some (.dK kvs) ∧ y = kV k ∧
  (∀ v, valV kvs k = some v → Q v (upd H3 a (.dK (dropK kvs k)))) ∧ (valV kvs k = none → Q z H3)
section
variable {X : Cx} {o e f : Expr} {apos cpos : Pos} {td ty tx : TE}
theorem pe_dget2 (hu : X.A.units + 1 < cLine) (ho : PE X o td) (he : PE X e ty) (hf : PE X f tx) (m : M2 X o "get" apos e f cpos) : PE X (.Call (.Attribute o "get" apos) [e, f] [] cpos) (tDGet2 td ty tx) := by
  intro pins s σ H Q I h
  refine wpAny_Call_method m.base m.few m.line PySem.F.plainAttrs_dict PySem.F.slot_dict_get PySem.F.type_dict_get (thn (ho pins s σ H _ I h) fun u s1 ⟨x, H1, I1, rx, a, ex, d, q1⟩ => ?_)
  subst ex
  obtain rfl : u = Value.ref a := rx
  obtain ⟨t1, t2, _⟩ := isD_at I1 d
  refine ⟨t1, t2, ?_⟩
  rw [m.trees]
  refine Calls.callWith_builtin rfl (Calls.evalArgs_plain (Calls.spliced_cons (thn (he pins s1 σ H1 _ I1 q1) fun iv s2 ⟨y, H2, I2, ry, q2⟩ =>
    Calls.spliced_cons (thn (hf pins s2 σ H2 _ I2 q2) fun fv s3 ⟨z, H3, I3, rz, ov, g, q3⟩ => Calls.spliced_nil ?_))))
  exact d_get2 hu I3 g ry rz fun w' s4 I4 rw' => ⟨_, H3, I4, rw', q3⟩
end

/-! ### dict(d): a copy -/
section
variable {X : Cx} {pins : List (Addr × Obj)} {σ : St} {H : Hp} {s : Shared} {a : Addr} {kvs : List (Key × V)} {A : Around} {E : Value → Shared → Prop}
end


section
variable {X : Cx} {pins : List (Addr × Obj)} {σ : St} {H : Hp} {s : Shared} {a : Addr} {y : V} {u : Value} {A : Around} {E : Value → Shared → Prop}
end
end L2

namespace L2
open PySem PySem.Spec PyProof.Rows
/-! ### a dict's pairs: keys that differ -/
section
variable {κ : Type} [DecidableEq κ]
theorem nd_snoc : ∀ {l : List κ} {k : κ}, l.Nodup → ¬ k ∈ l → (l ++ [k]).Nodup
  | [], k, _, _ => by simp
  | a :: r, k, h, hk => by
    obtain ⟨h1, h2⟩ := List.nodup_cons.mp h
    show (a :: (r ++ [k])).Nodup
    refine List.nodup_cons.mpr ⟨fun m => ?_, nd_snoc h2 fun m => hk (List.mem_cons.mpr (Or.inr m))⟩
    rcases List.mem_append.mp m with q | q
    · exact h1 q
    · exact hk (List.mem_cons.mpr (Or.inl (List.mem_singleton.mp q).symm))
end
end L2


set_option Elab.async false
set_option linter.all false
set_option maxRecDepth 100000
/-! all(..), () + t, t * n, is not True, things of plain kinds -/
namespace PySem
open Sem (wp)
open Builtin
end PySem
namespace L2
open PySem PySem.Spec PyProof.Rows
section
variable {X : Cx}
def rRepT (K : PySem.W.Frag) : R2 := fun x y H Q => ∃ (a : Addr) (k : Int) (xs : List V), x = .ref a ∧ y = .int k ∧ SqT K H a xs ∧ xs ≠ [] ∧ 1 < k ∧ k < 2 ^ 30 ∧ xs.length * k.toNat ≤ sizeLine ∧ ∀ p, H p = none → Q (.ref p) (upd H p (.tup (List.replicate k.toNat xs).flatten))
/-- t + u, any of them empty -/
def rCatA (K : PySem.W.Frag) : R2 := fun x y H Q => ∃ a b xs ys, x = .ref a ∧ y = .ref b ∧ SqT K H a xs ∧ SqT K H b ys ∧ xs.length + ys.length ≤ sizeLine ∧
  (xs = [] → Q (.ref b) H) ∧ (xs ≠ [] → ys = [] → Q (.ref a) H) ∧ (xs ≠ [] → ys ≠ [] → ∀ p, H p = none → Q (.ref p) (upd H p (.tup (xs ++ ys))))
/-! ### all(a list of truths) -/
def rAll (K : PySem.W.Frag) : List V → Hp → VK → Prop := fun xs H Q => ∃ (a : Addr) (bs : List Bool), xs = [.ref a] ∧ SqL K H a (bs.map V.bl) ∧ Q (.bl (bs.all id)) H
end
/-! ### things of plain kinds -/
inductive Pl (H : Hp) : V → Prop where
  | non : Pl H .non
  | bl (b : Bool) : Pl H (.bl b)
  | int (i : Int) : Pl H (.int i)
  | str (x : Str) : Pl H (.str x)
  | lst {a : Addr} {xs : List V} (e : H a = some (.lst xs)) : Pl H (.ref a)
  | tup {a : Addr} {xs : List V} (e : H a = some (.tup xs)) : Pl H (.ref a)
  | dK {a : Addr} {kvs : List (Key × V)} (e : H a = some (.dK kvs)) : Pl H (.ref a)
theorem Pl.same {H H' : Hp} {y : V} (h : Pl H y) (s : Same H H') : Pl H' y := by
  cases h with
  | non => exact .non
  | bl b => exact .bl b
  | int i => exact .int i
  | str x => exact .str x
  | lst e => exact .lst (s _ _ e)
  | tup e => exact .tup (s _ _ e)
  | dK e => exact .dK (s _ _ e)
def isIntV : V → Bool
  | .int _ => true
  | _ => false
/-! ### the judgements as closed boxes: where a display is long, Lean must not look into what is wanted -/
structure PEW (X : Cx) (e : Expr) (t : TE) : Prop where
  out : PE X e t
structure PAW (X : Cx) (es : List Expr) (t : TA) : Prop where
  out : PA X es t
structure PTW (X : Cx) (e : Expr) (t : TT) : Prop where
  out : PT X e t
structure PSW (X : Cx) (s : Stmt) (t : TS) : Prop where
  out : PS X s t
structure PSsW (X : Cx) (s : List Stmt) (t : TS) : Prop where
  out : PSs X s t
section
variable {X : Cx} {a b e : Expr} {es : List Expr} {ta tb te : TE} {t : TA} {pos : Pos}
theorem wa_nil : PAW X [] tNil := ⟨pa_nil⟩
theorem wa_cons (ha : PEW X e te) (hr : PAW X es t) (hs : starEach (e :: es) X.env = (false, eval e X.env) :: starEach es X.env := by rfl) : PAW X (e :: es) (tCons te t) := ⟨pa_cons ha.out hr.out hs⟩
theorem w_lst (h : PAW X es t) : PEW X (.List es pos) (tLst t) := ⟨pe_lst h.out⟩
theorem w_ix {r : R2} (hr : IxR X r) (ha : PEW X a ta) (hb : PEW X b tb) (hs : PlainIx b) : PEW X (.Subscript a b pos) (tOp r ta tb) := ⟨pe_ix hr ha.out hb.out hs⟩
variable {st : Stmt} {rest : List Stmt} {ts us : TS}
theorem ws_cons (h1 : PSW X st ts) (h2 : PSsW X rest us) : PSsW X (st :: rest) (tSeq ts us) := ⟨pss_cons h1.out h2.out⟩
theorem ws_one (h1 : PSW X st ts) : PSsW X [st] ts := ⟨pss_one h1.out⟩
theorem w_set {i : Nat} {x : Str} {pos' : Pos} (hN : X.N.Nodup) (hi : X.N[i]? = some x) (hx : Loc X.env.scope x) (he : PEW X e te) (hs : swapsWith e (some (.Name x pos')) pos.line X.env = pure false := by rfl) (hf : X.fn x = true ∨ X.env.scope.names.lookup x = some .local := by first | exact .inl rfl | exact .inr rfl | assumption) :
    PSW X (.Assign [.Name x pos'] e pos) (tAsg te (gName i)) := ⟨ps_set hN hi hx he.out hs hf⟩
theorem w_for {tg iter : Expr} {body : List Stmt} {wi : TI} {g : TG} {tb : TS} (hp : PassesOwn (model X.prog X.w) X.A X.env X.xe) (hc : X.calm = true) (hi : PI X tg iter wi) (hg : PG X tg g) (hb : PSsW X body tb)
    (hs : ∀ x, foldedSetIterable iter X.env x = pure x := by intro _; rfl) : PSW X (.For tg iter body [] pos) (tFor wi g tb) := ⟨ps_for hp hc hi hg hb.out hs⟩
theorem body_w {b : List Stmt} {R : TS → Prop} (h : PSsW X b ts) (r : R ts) : ∃ t, PSs X b t ∧ R t := ⟨ts, h.out, r⟩
end
end L2

set_option Elab.async false
set_option linter.all false
set_option maxRecDepth 100000
/-! exceptions of one's own classes: raised, passed on, caught -/
namespace L2
open PySem PySem.Spec PyProof.Rows
/-! ### what stands behind a def that raised -/
def CX1 (P : Program) (w : World) : CXT := fun outer H s E e s' => ∃ (ea t C : Addr) (B : Heap) (H' : Hp), e = .ref ea ∧ s'.os = s.os ∧ AllBare s'.gens ∧ Un (frs outer) [] H H' s.heap s'.heap ∧ HOk P w H' B ∧
  Heap.FlyingW B outer ea (.ref C) (.ref t) s'.heap ∧ (∀ b o, s.heap.get? b = some o → b ∉ frs outer → ∃ o', B.get? b = some o') ∧ H' ea = none ∧ E (.ref C) none H'
theorem ObjOk.ex {P : Program} {w : World} {H : Hp} {h : Heap} {a : Addr} : ∀ {o : HO}, ObjOk P w H h a o → ∃ ob, h.get? a = some ob
  | .lst _, ⟨_, _, _, _, e⟩ => ⟨_, e⟩
  | .tup _, ⟨_, _, _, o, e, _⟩ => ⟨o, e⟩
  | .dK _, ⟨_, _, _, _, o, _, _, e, _⟩ => ⟨o, e⟩
  | .dT _, ⟨_, _, _, _, o, _, _, e, _⟩ => ⟨o, e⟩
  | .set _ _, ⟨o, _, _, _, e, _⟩ => ⟨o, e⟩
  | .ins _ _ _, ⟨_, _, _, e, _⟩ => ⟨_, e⟩
  | .own _, ⟨o, e⟩ => ⟨o, e⟩
  | .xd _, ⟨_, ⟨o, _, _, e, _⟩, _⟩ => ⟨o, e⟩
  | .rng _ _, ⟨_, _, _, e⟩ => ⟨_, e⟩
  | .frz _ _, ⟨e, _⟩ => ⟨_, e⟩
  | .tbl _, e => ⟨_, e⟩
  | .met _ _, e => ⟨_, e⟩
  | .ext _, ⟨_, ⟨o, e⟩, _⟩ => ⟨o, e⟩
theorem HOk.none {P : Program} {w : World} {H : Hp} {h : Heap} {a : Addr} (x : HOk P w H h) (e : h.get? a = none) : H a = none := by
  cases q : H a with
  | none => rfl
  | some o =>
    obtain ⟨ob, e'⟩ := (x a o q).ex
    rw [e] at e'
    cases e'
/-! ### a def's body may raise -/
section
variable {P : Program} {w : World} {K : PySem.W.Frag} {mg : Str → Option Value} {base : Heap} {N : List Str} {qual : Str} {scope : Scope} {f : Addr} {cd : Value} {A : Around} {outer : List Env} {s : Shared} {H : Hp} {E : XK}
/-- an exception just made leaves the body -/
def Thr (X : Cx) (E : XK) : Prop := ∀ (pins : List (Addr × Obj)) (σ : St) (H : Hp) (s : Shared) (h' : Heap) (ea C : Addr) (vs : List Value), Inv X pins σ H s → Heap.MadeExcOf s.heap h' ea (.ref C) vs → E (.ref C) none H → X.xe (.ref ea) { s with heap := h' }
end
end L2

set_option Elab.async false
set_option linter.all false
set_option maxRecDepth 100000
/-! raise of an own class, f-strings, calls that may raise -/
namespace L2
open PySem PySem.Spec PyProof.Rows
abbrev VEm : List Value := [.type "ValueError", .type "Exception", .type "BaseException", .type "object"]
section
variable {X : Cx} {x : Str} {j k : Nat} {ps : List Str} {dvs : List V} {sp : Sp} {p pos cpos : Pos} {e : Expr} {es : List Expr} {t : TA} {C : Addr} {E : XK}
def tRaise (C : Addr) (E : XK) (t : TA) : TS := fun _ σ H => t σ H fun vs H1 => vs.length ≤ 8 ∧ E (.ref C) none H1
end
/-- a def that may raise, as its callers see it -/
structure DefX (P : Program) (w : World) (K : PySem.W.Frag) (mg : Str → Option Value) (base : Heap) (x : Str) (k : Nat) (ps : List Str) (dvs : List V) (sp : Sp) : Prop where
  ex : ∃ (f : Addr) (fd : FuncData) (ds : List Value), mg x = some (.ref f) ∧ PySem.W.keepIn K (.ref f) = true ∧ Vals dvs ds ∧ Binds K fd ps ds ∧ FnOk P w K mg base (CX1 P w) k f fd ps sp
section
variable {X : Cx} {x : Str} {j k : Nat} {ps : List Str} {dvs : List V} {sp : Sp} {p pos : Pos} {e : Expr} {es : List Expr} {t : TA} {E : XK}
/-- what comes behind a statement that never ends well isn't read -/
def tStop (t : TS) : TS := fun _ σ H => t { nx := fun _ _ => False, rt := fun _ _ => False } σ H
end
section
variable {P : Program} {w : World} {K : PySem.W.Frag} {mg : Str → Option Value} {base : Heap}
end
/-! ### f-strings -/
section
variable {X : Cx} {e v1 v2 : Expr} {es rest : List Expr} {pos : Pos} {te : TE} {n : Nat}
/-- a piece: its text, short -/
abbrev TF := St → Hp → (Str → Hp → Prop) → Prop
def PF (X : Cx) (e : Expr) (t : TF) : Prop := ∀ (pins : List (Addr × Obj)) (s : Shared) (σ : St) (H : Hp) (Q : Str → Hp → Prop), Inv X pins σ H s → t σ H Q →
  wpAny (model X.prog X.w) X.A (eval e X.env) (fun u s' => ∃ x tk H', u = .str x tk ∧ Inv X pins σ H' s' ∧ x.length ≤ 1000 ∧ Q x H') X.xe s
/-- {name}: a short text, or a number that is written short -/
def tFmt (te : TE) : TF := fun σ H Q => te σ H fun v H1 => (∃ x, v = .str x ∧ x.length ≤ 1000 ∧ Q x H1) ∨ ∃ i : Int, v = .int i ∧ i.natAbs.log2 < 1920 ∧ (Str.ofString (toString i)).length ≤ 1000 ∧ Q (Str.ofString (toString i)) H1
def PFs (X : Cx) (n : Nat) (es : List Expr) (t : TF) : Prop := ∀ (pins : List (Addr × Obj)) (s : Shared) (σ : St) (H : Hp) (Q : Str → Hp → Prop) (out : Str), out.length ≤ n → Inv X pins σ H s → t σ H Q →
  wpAny (model X.prog X.w) X.A (joinParts out (evalEach es X.env)) (fun u s' => ∃ x tk H', u = .str x tk ∧ Inv X pins σ H' s' ∧ Q x H') X.xe s
def tFnil : TF := fun _ H Q => ∀ x, Q x H
def tFcons (t1 t2 : TF) : TF := fun σ H Q => t1 σ H fun _ H1 => t2 σ H1 Q
def tJoin (t : TF) : TE := fun σ H Q => t σ H fun x H1 => Q (.str x) H1
end
end L2

set_option Elab.async false
set_option linter.all false
set_option maxRecDepth 100000
/-! isinstance of an own exception -/
namespace L2
open PySem PySem.Spec PySem.W PySem.Builtin PySem.Builtin.Getset_descriptor
/-- what of the text is asked of the class -/
structure XCls (K : PySem.W.Frag) (C : Addr) : Prop where
  ga : findIn K (.ref C) "__getattribute__" = some (some (.builtin "BaseException.__getattribute__"))
  gt : findIn K (.ref C) "__getattr__" = some none
  cl : findIn K (.ref C) "__class__" = some (some (.builtin "object.__class__"))
  gg : specialIn K (.builtin "object.__class__") "__get__" = some (some (.builtin "getset_descriptor.__get__"))
  tk : takesIn K (.builtin "object.__class__") = some true
  ob : mroIn K C (.type "object") = some true
  be : mroIn K C (.type "BaseException") = some true
  ci : (clsIn K C).isSome = true
section
variable {prog : Program} {w : World} {A : Around} {E : Value → Shared → Prop} {s : Shared} {K : PySem.W.Frag} {ea C : Addr} {ob : Obj}
/-- an exception of the class at C -/
def ExAt (ea C : Addr) (h : Heap) : Prop := ∃ ob vs, h.get? ea = some ob ∧ ob.cls = .ref C ∧ ob.data = .fields vs
theorem ExAt.ty {M : Model} {h : Heap} (p : ExAt ea C h) : Looks M h (typeOf (.ref ea)) (.ref C) := by
  obtain ⟨ob, vs, e, c, _⟩ := p
  exact c ▸ (Looks.ld e).andThen .now
end
end L2

set_option Elab.async false
set_option linter.all false
set_option maxRecDepth 100000
/-! try .. except C as e -/
namespace L2
open PySem PySem.Spec PyProof.Rows
/-- within an except suite -/
abbrev Cx.held (X : Cx) (ea : Addr) : Cx := { X with A := X.A.mark (some (.ref ea)), calm := false, xe := fun _ _ => False }
section
variable {X : Cx} {pins : List (Addr × Obj)} {σ : St} {H : Hp} {s : Shared} {E : XK} {ea : Addr}
theorem mark_frames {A : Around} {v : Option Value} : (A.mark v).frames = A.frames := by first | rfl | simp [Around.mark]
theorem Cx.Ok.held (ok : X.Ok) : (X.held ea).Ok :=
  ⟨ok.mod, ok.kind, ok.glob, ok.blt, ok.above, ok.inj, ok.has, ok.cab, (fun z => by cases z), mark_frames.trans ok.frames, ok.stk, ok.exf, ok.bs, ok.bsz, ok.noex, ok.exfs, ok.funs, ok.frf⟩
theorem Inv.held (I : Inv X pins σ H s) : Inv (X.held ea) pins σ H s := ⟨I.ok.held, I.os, I.bare, I.base, I.loc, I.cell, I.free, I.freeC, I.pin, I.hok, I.len⟩
/-! ### what may raise: the names' values are those of the entry -/
def CXI (X : Cx) (pins : List (Addr × Obj)) (σ : St) (E : XK) (e : Value) (s' : Shared) : Prop := ∃ s H, Inv X pins σ H s ∧ CX1 X.prog X.w X.stack H s E e s'
abbrev TXE := St → Hp → VK → XK → Prop
abbrev TX := Ends → XK → St → Hp → Prop
def PXE (X : Cx) (e : Expr) (t : TXE) : Prop := ∀ (pins : List (Addr × Obj)) (s : Shared) (σ : St) (H : Hp) (Q : VK) (E : XK), Inv X pins σ H s → t σ H Q E → wpAny (model X.prog X.w) X.A (eval e X.env) (EP X pins σ Q) (CXI X pins σ E) s
def PX1 (X : Cx) (st : Stmt) (t : TX) : Prop := ∀ (pins : List (Addr × Obj)) (s : Shared) (σ : St) (H : Hp) (D : Ends) (E : XK), Inv X pins σ H s → t D E σ H → wpAny (model X.prog X.w) X.A (exec st X.env) (SP X pins D) (CXI X pins σ E) s
def PX (X : Cx) (st : List Stmt) (t : TX) : Prop := ∀ (pins : List (Addr × Obj)) (s : Shared) (σ : St) (H : Hp) (D : Ends) (E : XK), Inv X pins σ H s → t D E σ H → wpAny (model X.prog X.w) X.A (execs st X.env) (SP X pins D) (CXI X pins σ E) s
end
section
variable {X : Cx} {x : Str} {j k : Nat} {ps : List Str} {dvs : List V} {sp : Sp} {p pos : Pos} {e : Expr} {es : List Expr} {t : TA} {E : XK}
def tXCall (sp : Sp) (dvs : List V) (t : TA) : TXE := fun σ H Q E => t σ H fun vs H1 => sp (vs ++ dvs) H1 Q E
def txExpr (t : TXE) : TX := fun D E σ H => t σ H (fun _ H1 => D.nx σ H1) E
def txRet (t : TXE) : TX := fun D E σ H => t σ H D.rt E
def txSet (i : Nat) (t : TXE) : TX := fun D E σ H => t σ H (fun v H1 => D.nx (σ.set i (some v)) H1) E
def txIf (c : TT) (t u : TX) : TX := fun D E σ H => c σ H fun b H1 => if b = true then t D E σ H1 else u D E σ H1
end
/-! ### the landing -/
section
variable {P : Program} {w : World} {fs : List Addr} {H H1 : Hp} {h h1 : Heap} {ea C : Addr} {o : HO}
theorem Un.more (u : Un fs [] H H1 h h1) (n : h.get? ea = none) (z : H ea = none) : Un fs [] H (upd H1 ea o) h h1 where
  keep := u.keep
  slot := u.slot
  free := fun b ob q e hx => by
    rw [upd_ne (fun c => by rw [c, n] at q; cases q)]
    exact u.free b ob q e hx
  there := u.there
  tups := fun b xs q => by rw [upd_ne (ne_of_none q z)]; exact u.tups b xs q
  frzs := fun b ob v q => by rw [upd_ne (ne_of_none q z)]; exact u.frzs b ob v q
  tbls := fun b ps q => by rw [upd_ne (ne_of_none q z)]; exact u.tbls b ps q
theorem HOk.ext (x : HOk P w H h) (z : H ea = Option.none) (p : ExAt ea C h) : HOk P w (upd H ea (.ext (ExAt ea C))) h := by
  intro a u e
  by_cases q : a = ea
  · subst q
    rw [upd_same] at e
    cases e
    obtain ⟨ob, vs, e1, e2, e3⟩ := p
    refine ⟨⟨ob, vs, e1, e2, e3⟩, ⟨ob, e1⟩, ?_⟩
    rintro h1 h2 ⟨ob', vs', f1, f2, f3⟩ k
    exact ⟨ob', vs', k _ f1, f2, f3⟩
  · rw [upd_ne q] at e
    exact (x a u e).stay (fun b v _ f => f) (fun b f => by rw [upd_ne (ne_of_none f z)]; exact f) fun b xs f => by rw [upd_ne (ne_of_none f z)]; exact f
end
section
variable {X : Cx} {pins : List (Addr × Obj)} {σ : St} {H : Hp} {s : Shared} {E : XK}
end
section
variable {X : Cx} {pins : List (Addr × Obj)} {σ : St} {H : Hp} {s s' : Shared} {E : XK} {C F : Addr} {i : Nat} {x n : Str} {np pos hpos : Pos} {body : List Stmt} {b₀ : Stmt} {suite : List Stmt} {tb : TX} {ts : TS}
/-- try: .. except F as n: .., where all that is raised is of the class at C -/
def tTry (C : Addr) (i : Nat) (tb : TX) (ts : TS) : TS := fun D σ H => tb D (fun c _ H1 => c = .ref C ∧ ∀ ea, H1 ea = none →
  ts { nx := fun σ' H' => D.nx (σ'.set i none) H', rt := D.rt, bk := fun σ' H' => D.bk (σ'.set i none) H', ct := fun σ' H' => D.ct (σ'.set i none) H' } (σ.set i (some (.ref ea))) (upd H1 ea (.ext (ExAt ea C)))) σ H
end
end L2

set_option Elab.async false
set_option linter.all false
set_option maxRecDepth 100000
namespace L2
open PySem PySem.Spec PyProof.Rows
structure RoomH (k : Nat) (A : Around) : Prop where
  dp : A.depth + 3 * k + 5 < recursionLimit
  un : A.units + 16 * k + 200 < cLine
theorem RoomH.mono {j k : Nat} {A : Around} (r : RoomH k A) (h : j ≤ k) : RoomH j A := ⟨by have := r.dp; omega, by have := r.un; omega⟩
theorem RoomH.deeper {k : Nat} {A : Around} (r : RoomH (k + 1) A) (env : Env) : RoomH k (A.deeper env) :=
  ⟨by have := r.dp; show A.depth + 1 + 3 * k + 5 < _; omega, by have := r.un; show A.units + 3 + 16 * k + 200 < _; omega⟩
theorem RoomH.depth {k : Nat} {A : Around} (r : RoomH k A) : A.depth < recursionLimit := by have := r.dp; omega
theorem RoomH.units {k : Nat} {A : Around} (r : RoomH k A) : A.units + 64 < cLine := by have := r.un; omega
theorem Room.held {k : Nat} {A : Around} {v : Option Value} (r : Room k A) : RoomH k (A.mark v) :=
  ⟨by have := r.dp; first | exact this | (simp only [Around.mark]; exact this), by have := r.un; first | exact this | (simp only [Around.mark]; exact this)⟩
structure FnOkH (P : Program) (w : World) (K : PySem.W.Frag) (mg : Str → Option Value) (base : Heap) (CX : CXT) (k : Nat) (f : Addr) (fd : FuncData) (ps : List Str) (sp : Sp) : Prop where
  len : ∀ vs H Q E, sp vs H Q E → vs.length = ps.length
  run : ∀ (A : Around) (outer : List Env) (s : Shared) (H : Hp) (args : Args) (us : List Value) (vs : List V) (Q : VK) (E : XK), RoomH k A → Env0 P w K mg base A outer s H → BindsTo s fd args (ps.zip us) → Vals vs us → sp vs H Q E →
    codeAny (model P w) A (.call (.ref f) args) (CR CX outer P w H s Q E) s
abbrev cxOfH (CX : CXT) (P : Program) (w : World) (K : PySem.W.Frag) (mg : Str → Option Value) (base : Heap) (N : List Str) (qual : Str) (scope : Scope) (f : Addr) (cd : Value) (A : Around) (outer : List Env) (s : Shared) (H : Hp) (E : XK) : Cx :=
  { cxOf CX P w K mg base N qual scope f cd A outer s H E with calm := false }
/-- .. as its callers see it -/
structure DefH (P : Program) (w : World) (K : PySem.W.Frag) (mg : Str → Option Value) (base : Heap) (x : Str) (k : Nat) (ps : List Str) (dvs : List V) (sp : Sp) : Prop where
  ex : ∃ (f : Addr) (fd : FuncData) (ds : List Value), mg x = some (.ref f) ∧ PySem.W.keepIn K (.ref f) = true ∧ Vals dvs ds ∧ Binds K fd ps ds ∧ FnOkH P w K mg base CX0 k f fd ps sp
section
variable {P : Program} {w : World} {K : PySem.W.Frag} {mg : Str → Option Value} {base : Heap}
end
section
variable {X : Cx} {x : Str} {j k : Nat} {ps : List Str} {dvs : List V} {sp : Sp} {p pos : Pos} {e : Expr} {es : List Expr} {t : TA}
end
/-! ### isinstance of an exception that is held -/
section
variable {X : Cx}
def CX_isi (K : PySem.W.Frag) : List V → Hp → VK → Prop := fun xs H Q => ∃ (a C : Addr) (c : V) (cv : Value) (b : Bool), xs = [.ref a, c] ∧ H a = some (.ext (ExAt a C)) ∧ XCls K C ∧ RelV c cv ∧ PySem.W.kitOne K (.ref C) cv = some b ∧ Q (.bl b) H
end
end L2

set_option Elab.async false
set_option linter.all false
set_option maxRecDepth 100000
namespace L2
open PySem PySem.Spec PyProof.Rows
section
variable {X : Cx}
def clsV : V → Option Value
  | .ref a => some (.ref a)
  | .ty n => some (.type n)
  | _ => none
def rIsX (K : PySem.W.Frag) : List V → Hp → VK → Prop := fun xs H Q => ∃ (a C : Addr) (c : V) (cv : Value) (b : Bool), xs = [.ref a, c] ∧ H a = some (.ext (ExAt a C)) ∧ XCls K C ∧ clsV c = some cv ∧ PySem.W.kitOne K (.ref C) cv = some b ∧ Q (.bl b) H
end
end L2

set_option Elab.async false
set_option linter.all false
set_option maxRecDepth 100000
/-! list(reversed(l)) -/
namespace L2
open PySem PySem.Spec PyProof.Rows
section
variable {prog : Program} {w : World} {A : Around} {E : Value → Shared → Prop} {s : Shared} {it l S : Addr} {items : Array Value}
abbrev RevP (items : Array Value) : Nat → Value → Prop := fun i v => items[items.size - 1 - i]? = some v
end
theorem Vals.rev {xs : List V} {us : List Value} (r : Vals xs us) : Vals xs.reverse us.reverse := by
  induction r with
  | nil => exact .nil
  | cons a t ih =>
    rw [List.reverse_cons, List.reverse_cons]
    exact ih.append (.cons a .nil)
section
variable {X : Cx} {a : Expr} {ta : TA} {p p2 pos pos2 : Pos}
def tListRev (K : PySem.W.Frag) (ta : TA) : TE := fun σ H Q => ta σ H fun vs H1 => ∃ l xs, vs = [.ref l] ∧ SqL K H1 l xs ∧ ∀ n, H1 n = none → Q (.ref n) (upd H1 n (.lst xs.reverse))
end
end L2

set_option Elab.async false
set_option linter.all false
set_option maxRecDepth 100000
/-! list(d) of a dict of ints and texts -/
namespace L2
open PySem PySem.Spec PyProof.Rows
theorem paired_back {α β : Type} {F : α → β → Prop} : ∀ {l₁ : List α} {l₂ : List β} {j : Nat} {q : β}, Paired F l₁ l₂ → l₂[j]? = some q → ∃ p, l₁[j]? = some p ∧ F p q
  | _, _, _, _, .nil, e => by simp at e
  | _, _, 0, _, .cons r _, e => by simp at e; subst e; exact ⟨_, rfl, r⟩
  | _, _, j + 1, _, .cons _ t, e => by
    obtain ⟨p, h1, h2⟩ := paired_back (j := j) t (by simpa using e)
    exact ⟨p, by simpa using h1, h2⟩
section
variable {X : Cx}
def rListD : List V → Hp → VK → Prop := fun xs H Q => ∃ p kvs, xs = [.ref p] ∧ H p = some (.dK kvs) ∧ ∀ l, H l = none → Q (.ref l) (upd H l (.lst (kvs.map fun q => kV q.1)))
end
end L2

set_option Elab.async false
set_option linter.all false
set_option maxRecDepth 100000
namespace L2
open PySem PySem.Spec PyProof.Rows

/-! ### the comprehension's loop, with a test -/
theorem compLoop_byI {prog : Program} {w : World} {A : Around} {R : Result → Shared → Prop} {s : Shared} {elt target iter cond : Expr} {scope : Scope} {pos : Pos} {it acc : Value} {env : Env} (I : Nat → Shared → Prop)
    (turn : ∀ n s, I n s → wpAny (model prog w) A (pyNext it) (fun r s₁ => match r with
      | none => R (.ok .next) s₁
      | some v => wpAny (model prog w) A (letOwnedTupleGo target it v) (fun _ s₁' => wpAny (model prog w) A (assign target env v) (fun _ s₂ => wpAny (model prog w) A (isTrue cond env (eval cond env)) (fun ok s₂' =>
          if ok = true then wpAny (model prog w) A (eval elt env) (fun x s₃ =>
          wpAny (model prog w) A (call (.builtin "list.append") [acc, x]) (fun _ s₄ => ∃ m, m < n ∧ I m s₄) (fun _ _ => False) s₃)
          (fun _ _ => False) s₂' else ∃ m, m < n ∧ I m s₂') (fun _ _ => False) s₂) (fun _ _ => False) s₁') (fun _ _ => False) s₁) (fun _ _ => False) s)
    (n : Nat) (h : I n s) :
    codeAny (model prog w) A (.compLoop (.ListComp elt [⟨target, iter, [cond], 0⟩] scope pos) 0 it acc env) R s := by
  refine codeAny_loop rfl I (fun n s hI => ?_) n h
  show wpAny _ _ ((compTurn (.ListComp elt [⟨target, iter, [cond], 0⟩] scope pos) 0 it acc env).onRaise (fun x => do noteFrame x env; theTreesLotGoes x)) _ _ s
  refine wpAny_noted ?_
  rw [compTurn_list]
  refine wpAny_bind (wpAny_standAt (wpAny_bind (wpAny_mono (turn n s hI) (fun r s₁ h₁ => ?_) fun _ _ h' => h'.elim)))
  cases r with
  | none => exact wpAny_pure h₁
  | some v =>
    refine wpAny_bind (wpAny_mono h₁ (fun _ s₁' h₁' => ?_) fun _ _ h' => h'.elim)
    refine wpAny_bind (wpAny_mono h₁' (fun _ s₂ h₂ => wpAny_bind (wpAny_mono (wpAny_tests_one h₂) (fun ok s₃ h₃ => ?_) fun _ _ h' => h'.elim)) fun _ _ h' => h'.elim)
    cases ok with
    | false => exact wpAny_pure ⟨rfl, h₃⟩
    | true => exact wpAny_bind (wpAny_bind (wpAny_mono h₃ (fun x s₄ h₄ => wpAny_bind (wpAny_mono h₄ (fun _ s₅ h₅ => wpAny_pure (wpAny_pure ⟨rfl, h₅⟩)) fun _ _ h' => h'.elim)) fun _ _ h' => h'.elim))

/-- what a comprehension's reading asks behind the source: W the invariant by turn and measure -/
def CompWI (J : It) (ix : List (Option Nat)) (g : TG) (tc : TT) (te : TE) (σ : St) (H : Hp) (Qd : Addr → Hp → Prop) : Prop :=
  ∀ D, H D = none → ∃ W : Nat → Nat → St → Hp → Prop, (∃ m, W 0 m (blockSt ix σ) (upd H D (.lst []))) ∧ ∀ i m σ' H', W i m σ' H' →
    (J.stop i H' ∧ Qd D H') ∨ (J.go i H' ∧ ∀ x H2, J.yld i H' x H2 → g x σ' H2 fun σ3 H3 => tc σ3 H3 fun b H4 => if b = true then te σ3 H4 fun y H5 => ∃ ys, H5 D = some (.lst ys) ∧ ys.length < sizeLine ∧ ∃ m', m' < m ∧ W (i + 1) m' σ3 (upd H5 D (.lst (ys ++ [y]))) else ∃ m', m' < m ∧ W (i + 1) m' σ3 H4)

section
variable {X : Cx} {pins : List (Addr × Obj)} {σ : St} {H : Hp} {s : Shared} {N : List Str} {ix : List (Option Nat)} {scope : Scope} {fp : List Addr} {tg elt iter cond : Expr} {tc : TT} {pos spos : Pos} {J : It} {it : Addr} {tn : Nat → Heap → Prop} {g : TG} {te : TE} {wi : TI}

theorem comp_runI {Qd : Addr → Hp → Prop} {RR : Value → Addr → Result → Shared → Prop} {E : Value → Shared → Prop} (I : Inv X pins σ H s) (hc : X.calm = true) (S : BlkScope X.N X.env.scope N ix scope) (T : Turn X.prog X.w X.K tg J fp it tn) (st : tn 0 s.heap) (f2 : ∀ b ∈ fp, FpOk X pins H b)
    (hg : ∀ C, PG (cxComp X N scope fp s H C) tg g) (ht : ∀ C, PT (cxComp X N scope fp s H C) cond tc) (he : ∀ C, PE (cxComp X N scope fp s H C) elt te) (hW : CompWI J ix g tc te σ H Qd)
    (hR : ∀ D C s' H' m, Inv X pins σ H' s' → s'.heap.Ns C m → FpOk X pins H' C → Qd D H' → RR (.ref D) C (.ok .next) s') :
    wpAny (model X.prog X.w) X.A (newList []) (fun acc s₃ => wpAny (model X.prog X.w) X.A (newFunctionEnv scope X.env.globals (closList X.env.cells scope.names []) [] X.env.qual none .none (some X.env)) (fun cenv s₄ =>
      codeAny (model X.prog X.w) X.A (.compStart (.ListComp elt [⟨tg, iter, [cond], 0⟩] scope pos) 0 (.ref it) acc { cenv with scope := relabel scope X.env }) (RR acc cenv.locals) s₄) E s₃) E s := by
  refine wpAny_newObj_type (wpAny_newFunctionEnv S.nocell (by intro y hy; simp at hy) (fun h₁ hns₁ hsb₁ => ?_) S.kind)
  dsimp only at hns₁ hsb₁ ⊢
  generalize hH2 : s.heap.push { cls := .type "list", dict := none, data := .seq ([] : List Value).toArray } = H2 at hns₁ hsb₁ ⊢
  have hC : H2.objs.size = s.heap.objs.size + 1 := by rw [← hH2, Heap.size_push]
  have hDC : s.heap.objs.size ≠ H2.objs.size := by rw [hC]; exact Nat.ne_of_lt (Nat.lt_succ_self _)
  have hCle : s.heap.objs.size ≤ H2.objs.size := by rw [hC]; exact Nat.le_succ _
  have below : ∀ b, b < s.heap.objs.size → b ≠ H2.objs.size := fun b hb => by rw [hC]; exact Nat.ne_of_lt (Nat.lt_succ_of_lt hb)
  have old : ∀ b o, s.heap.get? b = some o → h₁.get? b = some o := fun b o e => hsb₁.extBut b o (below b (Heap.lt_size e)) (Heap.get?_push_of_some _ (hH2 ▸ Heap.get?_push_of_some _ e))
  have hacc : ∃ n, h₁.get? s.heap.objs.size = some { cls := .type "list", data := .seq ([] : List Value).toArray n } := ⟨_, hsb₁.extBut _ _ hDC (Heap.get?_push_of_some _ (hH2 ▸ Heap.get?_push_size _ rfl))⟩
  have st1 : tn 0 h₁ := T.keep _ _ _ st fun b _ o e => old b o e
  have fo : ∀ b ∈ fp, ∃ o, s.heap.get? b = some o ∧ ∀ v, o.data ≠ .cell v := T.obj _ _ st
  have I0 : Inv (cxComp X N scope fp s H H2.objs.size) pins (blockSt ix σ) (upd H s.heap.objs.size (.lst [])) { s with heap := h₁, toks := s.toks + ([] : List (Str × Value)).length } :=
    inv_block I S f2 fo (Nat.le_refl _) hCle hDC old hns₁ hacc
  have freshD : H s.heap.objs.size = none := I.hok.fresh (Nat.le_refl _)
  obtain ⟨W, ⟨m0, w0⟩, turn⟩ := hW s.heap.objs.size freshD
  have cl_ne : ∀ b ∈ fp, b ≠ H2.objs.size := fun b hb => by
    obtain ⟨o, e, _⟩ := fo b hb
    exact below b (Heap.lt_size e)
  have stat : ∀ {H' : Hp}, (∀ b ∈ fp, H' b = none) → ∀ b ∈ fp, FpOk (cxComp X N scope fp s H H2.objs.size) pins H' b := fun hn b hb => by
    obtain ⟨f0, f1, f3, f4, f5, f6⟩ := f2 b hb
    exact ⟨hn b hb, cl_ne b hb, I0.ok.exfs b hb, .inl hb, (I0.ok.exf b hb).2, f6⟩
  have fr0 : ∀ b ∈ fp, (upd H s.heap.objs.size (.lst [])) b = none := fun b hb => by
    obtain ⟨o, e, _⟩ := fo b hb
    rw [upd_ne (Nat.ne_of_lt (Heap.lt_size e))]
    exact (f2 b hb).1
  have loop : codeAny (model X.prog X.w) X.A (.compLoop (.ListComp elt [⟨tg, iter, [cond], 0⟩] scope pos) 0 (.ref it) (.ref s.heap.objs.size) (compEnvC scope (closList X.env.cells scope.names []) H2.objs.size X.env))
      (RR (.ref s.heap.objs.size) H2.objs.size) { s with heap := h₁, toks := s.toks + ([] : List (Str × Value)).length } := by
    refine compLoop_byI (fun n s' => ∃ i σ' H', Inv (cxComp X N scope fp s H H2.objs.size) pins σ' H' s' ∧ tn i s'.heap ∧ (∀ b ∈ fp, H' b = none) ∧ W i n σ' H') ?_ m0 ⟨0, _, _, I0, st1, fr0, w0⟩
    rintro n s3 ⟨i, σ3, H3, I3, st3, fr3, w3⟩
    rcases turn i n σ3 H3 w3 with ⟨stop, qn⟩ | ⟨go, step⟩
    · refine thn (T.done (cxComp X N scope fp s H H2.objs.size) rfl rfl rfl hc i pins s3 σ3 H3 _ I3 (stat fr3) st3 stop) fun r s4 ⟨hr, I4⟩ => ?_
      subst hr
      obtain ⟨m4, hn4, _⟩ := id I4.loc
      refine hR _ _ s4 H3 m4 ?_ hn4 (I.fpOk hCle I4.free) qn
      exact I.call' (ch := fp) I4.os I4.base I4.hok I4.bare fun b hb => by
        obtain ⟨f0, f1, f3, f4, f5, f6⟩ := f2 b hb
        exact ⟨f4, f1, f5, f6⟩
    · refine thn (T.item (cxComp X N scope fp s H H2.objs.size) rfl rfl rfl hc i pins s3 σ3 H3 _ I3 (stat fr3) st3 go) fun r s4 ⟨u, hr, h4⟩ => ?_
      subst hr
      refine thn h4 fun _ s5 ⟨x, H5, I5, r5, y5, st5, fr5⟩ => ?_
      have I5' := I5.pinned (stat fr5) (T.obj _ _ st5)
      refine thn (hg _ _ s5 σ3 H5 x u _ I5' r5 (step x H5 y5)) fun _ s6 ⟨σ6, H6, I6, q6⟩ => ?_
      refine thn (ht _ _ s6 σ6 H6 _ I6 q6) fun ok s6' ⟨H6', I6', q6'⟩ => ?_
      cases ok with
      | false =>
        obtain ⟨m', hm, w7⟩ := q6'
        refine ⟨m', hm, i + 1, σ6, H6', I6'.unpinned, T.keep _ _ _ st5 fun b hb o e => (I6'.pin (b, o) (List.mem_append_right _ (List.mem_append_right _ (mem_pinsAt hb e)))).1, fun b hb => ?_, w7⟩
        obtain ⟨o, e, d⟩ := T.obj _ _ st5 b hb
        exact (I6'.pin (b, o) (List.mem_append_right _ (List.mem_append_right _ (mem_pinsAt hb e)))).2.1
      | true =>
        refine thn (he _ _ s6' σ6 H6' _ I6' q6') fun yv s7 ⟨y, H7, I7, r7, ys, hD7, hz7, m', hm, w7⟩ => ?_
        refine thn (mt_append (X := cxComp X N scope fp s H H2.objs.size) _ s7 σ6 H7 (.ref s.heap.objs.size) [y] (.ref s.heap.objs.size) [yv] (fun _ H8 => W (i + 1) m' σ6 H8) I7 rfl (.cons r7 .nil) ⟨_, ys, y, rfl, rfl, hD7, hz7, w7⟩) fun _ s8 ⟨_, H8, I8, _, w8⟩ => ?_
        refine ⟨m', hm, i + 1, σ6, H8, I8.unpinned, T.keep _ _ _ st5 fun b hb o e => (I8.pin (b, o) (List.mem_append_right _ (List.mem_append_right _ (mem_pinsAt hb e)))).1, fun b hb => ?_, w8⟩
        obtain ⟨o, e, d⟩ := T.obj _ _ st5 b hb
        exact (I8.pin (b, o) (List.mem_append_right _ (List.mem_append_right _ (mem_pinsAt hb e)))).2.1
  exact codeAny_compStart_list loop (T.self _ _ _ _ _ st1 loop)

/-- [elt for x in iter] -/
def tCompI (ix : List (Option Nat)) (wi : TI) (g : TG) (tc : TT) (te : TE) : TE := fun σ H Q => wi σ H fun J H1 => CompWI J ix g tc te σ H1 fun D H' => Q (.ref D) H'
theorem pe_compI (hc : X.calm = true) (S : BlkScope X.N X.env.scope N ix scope) (hi : PI X tg iter wi) (hg : ∀ fp s H C, PG (cxComp X N scope fp s H C) tg g) (ht : ∀ fp s H C, PT (cxComp X N scope fp s H C) cond tc) (he : ∀ fp s H C, PE (cxComp X N scope fp s H C) elt te)
    (hs : ∀ x, foldedSetIterable iter X.env x = pure x := by intro _; rfl) : PE X (.ListComp elt [⟨tg, iter, [cond], 0⟩] scope pos) (tCompI ix wi g tc te) := by
  intro pins s σ H Q I h
  rw [eval_ListComp]
  refine wpAny_comprehension_free (use := none) rfl hs (closureFor_eq (S.clos I.ok)) S.kind S.locs (thn (hi pins s σ H _ I h) fun v s1 h1 => thn h1 fun itv s2 h2 => ?_)
  obtain ⟨it, fp, tn, J, H2, e, I2, T, st2, f2, hW⟩ := h2
  subst e
  refine comp_runI (RR := fun acc C => compPost (model X.prog X.w) X.A X.xe none (EP X pins σ Q) acc C) I2 hc S T st2 f2 (hg _ _ _) (ht _ _ _) (he _ _ _) hW ?_
  intro D C s' H' m I' hn fC q
  exact ⟨m, hn, fun h' sb => ⟨.ref D, H', I'.turned (t' := s'.toks) (fun b o hb e => (sb.2 b hb).trans e) fC.1 fC.2.1 fC.2.2.2.1 fC.2.2.2.2.1 fC.2.2.2.2.2, rfl, q⟩⟩
end
theorem comp_tupI {K : PySem.W.Frag} {a : Addr} {xs : List V} {ix : List (Option Nat)} {tc : TT} {te : TE} {σ : St} {H : Hp} {Qd : Addr → Hp → Prop} (Pv : Addr → Nat → List V → Hp → Prop)
    (h0 : ∀ D, H D = none → Pv D 0 [] (upd H D (.lst [])))
    (hl : ∀ D i ys H', i ≤ xs.length → Pv D i ys H' → SqT K H' a xs)
    (hs : ∀ D i x ys H' (Qy : VK) (Qn : Hp → Prop), H D = none → xs[i]? = some x → H' D = some (.lst ys) → Pv D i ys H' → (∀ y H4, H4 D = some (.lst ys) → ys.length < sizeLine → Pv D (i + 1) (ys ++ [y]) (upd H4 D (.lst (ys ++ [y]))) → Qy y H4) →
      (∀ H4, H4 D = some (.lst ys) → Pv D (i + 1) ys H4 → Qn H4) → tc ((blockSt ix σ).set 0 (some x)) H' fun b H4 => if b = true then te ((blockSt ix σ).set 0 (some x)) H4 Qy else Qn H4)
    (hd : ∀ D ys H', H D = none → H' D = some (.lst ys) → Pv D xs.length ys H' → Qd D H') : CompWI (Itt K a) ix (gName 0) tc te σ H Qd := by
  intro D hD
  refine ⟨fun i m σ' H' => m = xs.length - i ∧ i ≤ xs.length ∧ (σ' = blockSt ix σ ∨ ∃ t, σ' = (blockSt ix σ).set 0 t) ∧ ∃ ys, H' D = some (.lst ys) ∧ Pv D i ys H', ⟨xs.length, by simp, Nat.zero_le _, .inl rfl, [], upd_same, h0 D hD⟩, ?_⟩
  rintro i m σ' H' ⟨rfl, hi, hσ, ys, hy, p⟩
  have q := hl D i ys H' hi p
  by_cases hlt : i < xs.length
  · refine .inr ⟨⟨xs, xs[i], q, by simp [hlt]⟩, fun x H2 y => ?_⟩
    obtain ⟨e1, e2⟩ := y
    subst e1
    have ex := e2 xs q
    have es : σ'.set 0 (some x) = (blockSt ix σ).set 0 (some x) := by
      rcases hσ with z | ⟨t, z⟩
      · rw [z]
      · rw [z, List.set_set]
    show tc (σ'.set 0 (some x)) _ _
    rw [es]
    exact hs D i x ys _ _ _ hD ex hy p (fun y H4 h4 hz p4 => ⟨ys, h4, hz, xs.length - (i + 1), by omega, rfl, hlt, .inr ⟨_, rfl⟩, ys ++ [y], upd_same, p4⟩) fun H4 h4 p4 => ⟨xs.length - (i + 1), by omega, rfl, hlt, .inr ⟨_, rfl⟩, ys, h4, p4⟩
  · have e : i = xs.length := by omega
    subst e
    exact .inl ⟨⟨xs, q, Nat.le_refl _⟩, hd D ys H' hD hy p⟩
end L2

set_option Elab.async false
set_option linter.all false
set_option maxRecDepth 100000
set_option maxHeartbeats 4000000
/-! enumerate of a tuple, with a tuple of names as the target -/
namespace L2
open PySem PySem.Spec PyProof.Rows
open AutoSeq1 (wpAny_loadPart')
section
variable {prog : Program} {w : World} {A : Around} {E : Value → Shared → Prop} {s : Shared}
theorem nextOf_tuple_item {it t : Addr} {i : Nat} {items : Array Value} {x : Value} {Q : Value → Shared → Prop} (hit : s.heap.IsTupleIter it t i) (ht : s.heap.IsTuple t items) (hx : items[i]? = some x)
    (hQ : ∀ h', h'.IsTupleIter it t (i + 1) → Heap.SameBut it s.heap h' → Q x { s with heap := h' }) : wpAny (model prog w) A (Builtin.SmallTypes.nextOf (.ref it)) Q E s := by
  obtain ⟨o, ho, hc, hd⟩ := id hit
  obtain ⟨ol, hol, _, nl, hdl⟩ := ht
  unfold Builtin.SmallTypes.nextOf
  refine wpAny_bind (wpAny_callSpecial?_slot (name := Str.ofString "__next__") hit.typeIs F.slot_tuple_iterator_next
    (wpAny_call_entry F.slot_tuple_iterator_next hit.typeIs F.entry_tuple_iterator_next ?_ (F.args_tuple_iterator_next_1 _)))
  show wpAny _ _ (field (.ref it) 0 >>= _) _ _ s
  refine wpAny_bind (wpAny_field ho hd (x := .ref t) rfl ?_)
  show wpAny _ _ (if (Value.ref t == Value.none) = true then _ else _) _ _ s
  rw [if_neg (show ¬ ((Value.ref t == Value.none) = true) from Bool.false_ne_true)]
  show wpAny _ _ (field (.ref it) 1 >>= _) _ _ s
  refine wpAny_bind (wpAny_field ho hd (x := .int i 0) rfl ?_)
  show wpAny _ _ (seqItems? (.ref t) >>= _) _ _ s
  refine wpAny_bind (wpAny_seqItems hol hdl ?_)
  simp only [Int.toNat_natCast, hx]
  refine wpAny_bind (wpAny_setField ho hd (by simp) (wpAny_pure ⟨x, rfl, wpAny_pure (hQ _ ?_ (Heap.SameBut.update ..))⟩))
  exact ⟨_, Heap.get?_update_self _ ho (Obj.isFreed_of_fields (Obj.data_mapFields hd _)), (Obj.cls_mapFields ..).trans hc, by
    rw [Obj.data_mapFields hd]; simp [rawInt]⟩
theorem nextOf_tuple_end {it t : Addr} {i : Nat} {items : Array Value} {Q : Value → Shared → Prop} (hh : A.handled = none) (hit : s.heap.IsTupleIter it t i) (ht : s.heap.IsTuple t items) (hx : items[i]? = none)
    (hE : ∀ h' e, Heap.ExtBut it s.heap h' → (∃ o, h'.get? e = some o ∧ o.cls = .type "StopIteration") → E (.ref e) { s with heap := h' }) : wpAny (model prog w) A (Builtin.SmallTypes.nextOf (.ref it)) Q E s := by
  obtain ⟨o, ho, hc, hd⟩ := id hit
  obtain ⟨ol, hol, _, nl, hdl⟩ := ht
  unfold Builtin.SmallTypes.nextOf
  refine wpAny_bind (wpAny_callSpecial?_slot (name := Str.ofString "__next__") hit.typeIs F.slot_tuple_iterator_next
    (wpAny_call_entry F.slot_tuple_iterator_next hit.typeIs F.entry_tuple_iterator_next ?_ (F.args_tuple_iterator_next_1 _)))
  show wpAny _ _ (field (.ref it) 0 >>= _) _ _ s
  refine wpAny_bind (wpAny_field ho hd (x := .ref t) rfl ?_)
  show wpAny _ _ (if (Value.ref t == Value.none) = true then _ else _) _ _ s
  rw [if_neg (show ¬ ((Value.ref t == Value.none) = true) from Bool.false_ne_true)]
  show wpAny _ _ (field (.ref it) 1 >>= _) _ _ s
  refine wpAny_bind (wpAny_field ho hd (x := .int i 0) rfl ?_)
  show wpAny _ _ (seqItems? (.ref t) >>= _) _ _ s
  refine wpAny_bind (wpAny_seqItems hol hdl ?_)
  simp only [Int.toNat_natCast, hx]
  refine wpAny_bind (wpAny_rule (wpAny_bind (wpAny_setField ho hd (by simp) ?_)))
  show wpAny _ _ (newExc (.type "StopIteration") [] >>= _) _ _ _
  refine wpAny_bind ?_
  simp only [newExc, newTuple]
  refine wpAny_bind (wpAny_newObj_type ?_ (by size_fits))
  refine wpAny_bind (m := firstArgMember _ _) (wpAny_of_eq (a := Value.none) (by first | rfl | (simp only [firstArgMember]; rfl)) ?_)
  refine wpAny_newObj_type ?_ (by size_fits)
  simp only [raiseNew]
  refine wpAny_bind (wpAny_handled ?_)
  first | rw [show A.in1.handled = none from hh] | rw [hh]
  refine wpAny_bind (wpAny_pure (wpAny_throw ?_))
  exact hE _ _ (((Heap.SameBut.update ..).extBut.push _).push _) ⟨_, Heap.get?_push_size _ rfl, rfl⟩
end
theorem drawsTuple {prog : Program} {w : World} {A : Around} (hh : A.handled = none) (it t : Addr) (hne : t ≠ it) (items : Array Value) :
    Draws prog w A it [it, t] items.size (fun i v => items[i]? = some v) (fun i h => h.IsTupleIter it t i ∧ h.IsTuple t items) where
  live := fun _ _ st => let ⟨o, ho, _⟩ := st.1; ⟨o, ho⟩
  frame := fun _ _ _ st hk => ⟨st.1.at fun o e => hk it (by simp) o e, st.2.at fun o e => hk t (by simp) o e⟩
  item := fun i s Q E hi st hQ => by
    refine nextOf_tuple_item st.1 st.2 (x := items[i]) (by simp [hi]) fun h' hit' hs' => ?_
    exact hQ _ h' s.toks (by simp [hi]) ⟨hit', st.2.at fun o e => (hs'.2 t hne).trans e⟩ hs'
  done := fun s Q E st hE => nextOf_tuple_end hh st.1 st.2 (by simp) hE
theorem meets_enumerate_newT (l : Addr) (items : Array Value) (n : Nat) (dct : Option Addr) (sl : Array (Option Value)) :
    Meets (Builtin.«enumerate.__new__» ⟨[.type "enumerate", .ref l], []⟩) (fun _ R s => s.heap.get? l = some { cls := .type "tuple", dict := dct, data := .seq items n, slots := sl } ∧
      R (.ok (.ret (.ref (s.heap.push { cls := .type "tuple_iterator", data := .fields #[.ref l, .int 0 0] }).objs.size)))
        { s with heap := (s.heap.push { cls := .type "tuple_iterator", data := .fields #[.ref l, .int 0 0] }).push { cls := .type "enumerate", data := .fields #[.none, .bool false, .ref s.heap.objs.size, rawInt 0, .none, .none] } }) :=
  .of_wp fun prog w A R s h => by
    obtain ⟨hp, g, d, tk, os⟩ := s; obtain ⟨hl, h⟩ := h
    have hsub := sub_enumerate
    have hL : Heap.IsTuple (Shared.heap ⟨hp, g, d, tk, os⟩) l items := ⟨_, hl, rfl, n, rfl⟩
    wp_walk using wpAny_loadPart' hl
    refine wpAny_stack_any fun st => wpAny_pure ?_
    split
    · rename_i c _ _ _ _ _
      cases (c == Value.type "enumerate")
      · wp_walk using wpAny_loadPart' hl, wpAny_pyIter_tuple hL
        exact ⟨_, rfl, h⟩
      · wp_walk using wpAny_loadPart' hl, wpAny_pyIter_tuple hL
        exact ⟨_, rfl, h⟩
    · wp_walk using wpAny_loadPart' hl, wpAny_pyIter_tuple hL
      exact ⟨_, rfl, h⟩
theorem call_enumerate_tuple {prog : Program} {w : World} {A : Around} {E : Value → Shared → Prop} {s : Shared} {l : Addr} {items : Array Value} {Q : Value → Shared → Prop} (hL : s.heap.IsTuple l items)
    (h : ∀ h', IsEnum h' (s.heap.objs.size + 1) s.heap.objs.size 0 .none → h'.IsTupleIter s.heap.objs.size l 0 → h'.objs.size = s.heap.objs.size + 2 →
      (∀ b o, s.heap.get? b = some o → h'.get? b = some o) → Q (.ref (s.heap.objs.size + 1)) { s with heap := h' }) :
    wpAny (model prog w) A (call (.type "enumerate") [.ref l]) Q E s := by
  obtain ⟨⟨c, dct, dt, sl⟩, hl, hc, n, hd⟩ := hL
  replace hc : c = .type "tuple" := hc
  replace hd : dt = .seq items n := hd
  subst hc hd
  refine callType_new F.called_enumerate (by decide) (F.typeCall_enumerate_1 _) (F.newCall_enumerate_1 _) (fun obj => F.args_object_init_2 obj _) F.entry_enumerate_new
    (meets_enumerate_newT l items n dct sl) ⟨hl, ?_⟩
  have hz : (s.heap.push { cls := .type "tuple_iterator", data := .fields #[.ref l, .int 0 0] }).objs.size = s.heap.objs.size + 1 := Heap.size_push ..
  show _ ∧ _
  rw [hz]
  have he : IsEnum ((s.heap.push { cls := .type "tuple_iterator", data := .fields #[.ref l, .int 0 0] }).push
      { cls := .type "enumerate", data := .fields #[.none, .bool false, .ref s.heap.objs.size, rawInt 0, .none, .none] }) (s.heap.objs.size + 1) s.heap.objs.size 0 .none := by
    have := Heap.get?_push_size (s.heap.push { cls := .type "tuple_iterator", data := .fields #[.ref l, .int 0 0] })
      (o := { cls := .type "enumerate", data := .fields #[.none, .bool false, .ref s.heap.objs.size, rawInt 0, .none, .none] }) rfl
    rw [hz] at this; exact this
  refine ⟨⟨_, he, rfl⟩, h _ he ⟨_, Heap.get?_push_of_some _ (Heap.get?_push_size _ rfl), rfl, rfl⟩ (by rw [Heap.size_push, hz]) fun b o x => Heap.get?_push_of_some _ (Heap.get?_push_of_some _ x)⟩
end L2

set_option Elab.async false
set_option linter.all false
set_option maxRecDepth 100000
set_option maxHeartbeats 4000000
namespace L2
open PySem PySem.Spec PyProof.Rows
section
variable {X : Cx} {pins : List (Addr × Obj)} {σ : St} {H : Hp} {s : Shared} {h' : Heap}
/-- two untracked records of ours have turned -/
theorem Inv.turned2 {t' : Nat} {e it : Addr} (I : Inv X pins σ H s) (k : ∀ b o, b ≠ e → b ≠ it → s.heap.get? b = some o → h'.get? b = some o) (fe : FpOk X pins H e) (fi : FpOk X pins H it) : Inv X pins σ H { s with heap := h', toks := t' } := by
  have nn : ∀ b u, H b = some u → b ≠ e ∧ b ≠ it := fun b u q => ⟨fun z => (by rw [z, fe.1] at q; cases q), fun z => (by rw [z, fi.1] at q; cases q)⟩
  have kk : ∀ b o, b ∉ [e, it] → s.heap.get? b = some o → h'.get? b = some o := fun b o hc q => k b o (fun z => hc (by simp [z])) (fun z => hc (by simp [z])) q
  refine I.step (g' := s.gens) (d' := s.drawn) (ch := [e, it]) (fun b hb => ?_) (fun b o _ _ hc q _ => kk b o hc q) (fun b o _ _ hc q _ => ⟨o.slots, kk b o hc q⟩) (fun _ _ _ _ n => n)
    (fun b o hc q => ⟨o, kk b o hc q⟩) (fun _ _ q => q) (fun _ _ _ q => q) (fun b ps q => ⟨#[], by rw [q]; simp⟩) (fun m hm => ?_) (fun b u q => ?_) I.bare
  · have q : b = e ∨ b = it := by simpa using hb
    rcases q with rfl | rfl
    · exact ⟨fe.2.2.2.1, fe.2.1, fe.2.2.2.2.1, fe.2.2.2.2.2⟩
    · exact ⟨fi.2.2.2.1, fi.2.1, fi.2.2.2.2.1, fi.2.2.2.2.2⟩
  · obtain ⟨o, es, ep, ho, r⟩ := hm
    exact ⟨o, es, ep, k _ o (Ne.symm fe.2.1) (Ne.symm fi.2.1) ho, r⟩
  · refine (I.hok b u q).stay (fun c v hc z => k c v ?_ ?_ z) (fun _ z => z) fun _ _ z => z
    · rcases hc with z | z
      · rw [z]; exact (nn b u q).1
      · exact (nn c _ z).1
    · rcases hc with z | z
      · rw [z]; exact (nn b u q).2
      · exact (nn c _ z).2
end
/-- enumerate of the tuple at a: a new pair at each turn -/
def Ite (K : PySem.W.Frag) (a : Addr) : It :=
  ⟨fun i H => ∃ xs x, SqT K H a xs ∧ xs[i]? = some x, fun i H v H' => ∃ T x, v = .ref T ∧ H T = none ∧ H' = upd H T (.tup [.int i, x]) ∧ ∀ xs, SqT K H a xs → xs[i]? = some x, fun i H => ∃ xs, SqT K H a xs ∧ xs.length ≤ i⟩
theorem turn_enumT {P : Program} {w : World} {K : PySem.W.Frag} {elts : List Expr} {x1 : _} {pos : Pos} (a e it : Addr) : Turn P w K (.Tuple elts x1 pos) (Ite K a) [e, it] e (fun i h => (∃ old, IsEnum h e it i old) ∧ h.IsTupleIter it a i) where
  mem := by simp
  obj := fun i h st b hb => by
    have q : b = e ∨ b = it := by simpa using hb
    rcases q with rfl | rfl
    · obtain ⟨⟨old, st⟩, _⟩ := st
      exact ⟨_, st, fun v z => by
        have z' : Data.fields _ = Data.cell v := z
        cases z'⟩
    · obtain ⟨_, o, e, c, d⟩ := st
      exact ⟨o, e, fun v z => by rw [d] at z; cases z⟩
  keep := fun i h h' st k => ⟨let ⟨old, z⟩ := st.1; ⟨old, k e (by simp) _ z⟩, st.2.at fun o z => k it (by simp) o z⟩
  item := by
    intro X hP hw hK hc i pins s σ H E I hf st hg
    subst hP hw hK
    obtain ⟨xs, x, hq, hx⟩ := hg
    obtain ⟨its, rv, p, hz⟩ := I.tuple hq
    obtain ⟨u, hu, ru⟩ := rv.get hx
    obtain ⟨⟨old, he⟩, hit⟩ := st
    have p' : s.heap.IsTuple a its.toArray := p
    have fe := hf e (by simp)
    have fi := hf it (by simp)
    have ne : e ≠ it := fun z => by
      subst z
      obtain ⟨o, e1, c, d⟩ := hit
      rw [he] at e1
      cases e1
      have c' : Value.type "enumerate" = Value.type "tuple_iterator" := c
      injection c' with c'
      exact absurd c' (by decide)
    have nae : a ≠ e := fun z => by
      subst z
      obtain ⟨o, e1, c, d⟩ := p'
      rw [he] at e1
      cases e1
      have c' : Value.type "enumerate" = Value.type "tuple" := c
      injection c' with c'
      exact absurd c' (by decide)
    have nai : a ≠ it := fun z => by
      subst z
      obtain ⟨o, e1, c, d⟩ := p'
      obtain ⟨o2, e2, c2, d2⟩ := hit
      rw [e1] at e2
      cases e2
      rw [c] at c2
      injection c2 with c'
      exact absurd c' (by decide)
    have hi : i < its.toArray.size := by
      have : i < its.length := (List.getElem?_eq_some_iff.mp hu).1
      simpa using this
    have D := drawsTuple (prog := X.prog) (w := X.w) (A := X.A.in1) (show X.A.in1.handled = none from I.ok.hd hc) it a nai its.toArray
    refine wpAny_pyNext_enum_itemD D he ⟨hit, p'⟩ hi ne (by simp [ne, Ne.symm nae]) fun y h1 tk hy ho st1 hT hsz hk => ?_
    have ey : y = u := by
      have : its.toArray[i]? = some u := by simpa using hu
      rw [this] at hy
      exact (Option.some.inj hy).symm
    subst ey
    refine ⟨_, rfl, wpAny_letOwnedTupleGo_enum ho fun h2 he2 hs2 => ?_⟩
    have fr : H s.heap.objs.size = none := I.hok.fresh (Nat.le_refl _)
    have I1 : Inv X pins σ (upd H s.heap.objs.size (.tup [.int i, x])) { s with heap := s.heap.push { cls := .type "tuple", data := .seq #[.int i tk, y] }, toks := tk + 1 } :=
      I.laid (o := .tup [.int i, x]) (fun b ob q => Heap.get?_push_of_some _ q) (Nat.le_refl _) ⟨by show 2 ≤ sizeLine; decide, [.int i tk, y], .cons ⟨tk, rfl⟩ (.cons ru .nil), ⟨_, Heap.get?_push_size _ rfl, rfl, _, rfl⟩⟩
    have lt : ∀ b ∈ [e, it], b < s.heap.objs.size := fun b hb => by
      have q : b = e ∨ b = it := by simpa using hb
      rcases q with rfl | rfl
      · exact Heap.lt_size he
      · obtain ⟨o, e1, _⟩ := hit
        exact Heap.lt_size e1
    have f2 : ∀ b ∈ [e, it], FpOk X pins (upd H s.heap.objs.size (.tup [.int i, x])) b := fun b hb => by
      refine ⟨?_, (hf b hb).2⟩
      rw [upd_ne (Nat.ne_of_lt (lt b hb))]
      exact (hf b hb).1
    have I2 : Inv X pins σ (upd H s.heap.objs.size (.tup [.int i, x])) { s with heap := h2, toks := tk + 1 } := by
      refine I1.turned2 (t' := tk + 1) (h' := h2) (fun b o b1 b2 q => ?_) (f2 e (by simp)) (f2 it (by simp))
      refine (hs2.2 b b1).trans ?_
      rcases Heap.get?_push_cases (show (s.heap.push { cls := .type "tuple", data := .seq #[.int i tk, y] }).get? b = some o from q) with ⟨rfl, rfl⟩ | z
      · exact hT
      · exact hk b o b1 b2 z
    refine ⟨.ref s.heap.objs.size, _, I2, rfl, ⟨s.heap.objs.size, x, rfl, fr, rfl, fun ys hy => by rw [I.tuple_inj hy hq]; exact hx⟩, ⟨⟨y, ?_⟩, ?_⟩, fun b hb => (f2 b hb).1⟩
    · have : ((i + 1 : Nat) : Int) = (i : Int) + 1 := by push_cast; rfl
      rw [this]
      exact he2
    · exact st1.1.at fun o z => (hs2.2 it (Ne.symm ne)).trans z
  done := by
    intro X hP hw hK hc i pins s σ H E I hf st hg
    subst hP hw hK
    obtain ⟨xs, hq, hx⟩ := hg
    obtain ⟨its, rv, p, hz⟩ := I.tuple hq
    obtain ⟨⟨old, he⟩, hit⟩ := st
    obtain ⟨f0, f1, f2, f3, f4, f5⟩ := hf it (by simp)
    have p' : s.heap.IsTuple a its.toArray := p
    have hl := rv.length
    have hT : s.TypeIs (.ref e) "enumerate" := ⟨_, he, rfl⟩
    unfold pyNext
    refine wpAny_bind (wpAny_attempt (wpAny_callSpecial?_slot (name := Str.ofString "__next__") hT F.slot_enumerate_next
      (wpAny_call_entry F.slot_enumerate_next hT F.entry_enumerate_next ?_ (F.args_enumerate_next_1 _))))
    show wpAny _ _ (field (.ref e) 2 >>= _) _ _ _
    refine wpAny_bind (wpAny_field he rfl (x := .ref it) rfl ?_)
    refine wpAny_bind (nextOf_tuple_end (show X.A.in1.handled = none from I.ok.hd hc) hit p' (by simp; omega) fun h' x he' hx' => ?_)
    obtain ⟨o, ho, hcl⟩ := hx'
    refine wpAny_bind (wpAny_isInstance (T := "StopIteration") (b := true) ⟨o, ho, hcl⟩ isSubtype_stop ?_)
    exact wpAny_pure ⟨rfl, I.turned (t' := s.toks) (fun b o hb z => he' b o hb z) f0 f1 f3 f4 f5⟩
  self := fun _ _ _ _ _ st h => let ⟨_, z⟩ := st.1; wpAny_pyIter_enum z h
section
variable {X : Cx}
def iEnumT (K : PySem.W.Frag) (tl : TA) : TI := fun σ H R => tl σ H fun vs H1 => ∃ a, vs = [.ref a] ∧ (∃ xs, SqT K H1 a xs) ∧ R (Ite K a) H1
theorem bt_enumerate : bootBuiltins "enumerate" = some (.type "enumerate") := by decide +kernel
theorem pi_enumT {elts : List Expr} {x1 : _} {tpos : Pos} {l : Expr} {tl : TA} {p pos : Pos} (hg : Gl X "enumerate") (hm : X.mg "enumerate" = none) (hl : PA X [l] tl) (hs : starEach [l] X.env = [(false, eval l X.env)] := by rfl) :
    PI X (.Tuple elts x1 tpos) (.Call (.Name "enumerate" p) [l] [] pos) (iEnumT X.K tl) := by
  intro pins s σ H R I h
  refine Call_ (ld_blt I hg hm bt_enumerate (PyProof.Rows.callWith_type1 (thn (hl pos pins s σ H _ I h) fun us s1 ⟨vs, H1, I1, r1, q1⟩ => ?_) hs rfl))
  obtain ⟨a, e, ⟨xs, hq⟩, q⟩ := q1
  subst e
  cases r1 with
  | cons r rr =>
    cases rr
    cases r
    obtain ⟨its, rv, p, hz⟩ := I1.tuple hq
    refine call_enumerate_tuple (show s1.heap.IsTuple a its.toArray from p) fun h' he hit hsz hk => ?_
    refine wpAny_pyIter_enum he ?_
    refine ⟨s1.heap.objs.size + 1, [s1.heap.objs.size + 1, s1.heap.objs.size], _, _, H1, rfl, I1.kept (t' := s1.toks) hk, turn_enumT a _ s1.heap.objs.size, ⟨⟨_, he⟩, hit⟩, fun b hb => ?_, q⟩
    have e : b = s1.heap.objs.size + 1 ∨ b = s1.heap.objs.size := by simpa using hb
    rcases e with rfl | rfl
    · exact I1.fpOk (Nat.le_succ _) (I1.hok.fresh (Nat.le_succ _))
    · exact I1.fpOk (Nat.le_refl _) (I1.hok.fresh (Nat.le_refl _))
end
/-- for .. in enumerate(t) -/
theorem for_enumT {K : PySem.W.Frag} {a : Addr} {xs : List V} {g : TG} {tb : TS} {D : Ends} {σ : St} {H : Hp} (Pv : Nat → St → Hp → Prop) (h0 : Pv 0 σ H) (hl : ∀ i σ H, i ≤ xs.length → Pv i σ H → SqT K H a xs)
    (hs : ∀ i x σ H T, xs[i]? = some x → Pv i σ H → H T = none → g (.ref T) σ (upd H T (.tup [.int i, x])) fun σ2 H2 => tb { D with nx := Pv (i + 1), ct := Pv (i + 1), bk := D.nx } σ2 H2) (hd : ∀ σ H, Pv xs.length σ H → D.nx σ H) :
    ∃ W : Nat → Nat → St → Hp → Prop, (∃ m, W 0 m σ H) ∧ ∀ i m σ H, W i m σ H →
      ((Ite K a).stop i H ∧ D.nx σ H) ∨ ((Ite K a).go i H ∧ ∃ N : St → Hp → Prop, (∀ σ' H', N σ' H' → ∃ m', m' < m ∧ W (i + 1) m' σ' H') ∧ ∀ x H', (Ite K a).yld i H x H' → g x σ H' fun σ2 H2 => tb { D with nx := N, ct := N, bk := D.nx } σ2 H2) := by
  refine ⟨fun i m σ H => m = xs.length - i ∧ i ≤ xs.length ∧ Pv i σ H, ⟨xs.length, by simp, Nat.zero_le _, h0⟩, ?_⟩
  rintro i m σ H ⟨rfl, hi, p⟩
  have q := hl i σ H hi p
  by_cases hlt : i < xs.length
  · refine .inr ⟨⟨xs, xs[i], q, by simp [hlt]⟩, Pv (i + 1), fun σ' H' p' => ⟨xs.length - (i + 1), by omega, rfl, hlt, p'⟩, fun x H' y => ?_⟩
    obtain ⟨T, x0, rfl, hT, rfl, y⟩ := y
    exact hs i x0 σ _ T (y xs q) p hT
  · have e : i = xs.length := by omega
    subst e
    exact .inl ⟨⟨xs, q, Nat.le_refl _⟩, hd σ H p⟩
end L2

set_option Elab.async false
set_option linter.all false
set_option maxRecDepth 100000
set_option maxHeartbeats 4000000
/-! list(range(n)); a class of our own as its callers see it -/
namespace L2
open PySem PySem.Spec PyProof.Rows
section
variable {X : Cx} {a : Expr} {ta : TA} {p p2 pos pos2 : Pos}
def tListRng (ta : TA) : TE := fun σ H Q => ta σ H fun vs H1 => ∃ n : Nat, vs = [.int n] ∧ n ≤ sizeLine ∧ ∀ l, H1 l = none → Q (.ref l) (upd H1 l (.lst ((List.range n).map fun i : Nat => V.int i)))
end
/-- a class of our own, made with arguments -/
structure DefMk (P : Program) (w : World) (K : PySem.W.Frag) (mg : Str → Option Value) (base : Heap) (x : Str) (C : Addr) (k : Nat) (ps : List Str) (sp : Sp) : Prop where
  m : mg x = some (.ref C)
  cl : Cls K C
  ex : ∃ (f : Addr) (fd : FuncData), Mk K C f ∧ Binds K fd ps [] ∧ FnOk P w K mg base CX0 k f fd ps sp
/-- a method of a class of our own -/
structure DefMe (P : Program) (w : World) (K : PySem.W.Frag) (mg : Str → Option Value) (base : Heap) (C : Addr) (m : Str) (k : Nat) (ps : List Str) (sp : Sp) : Prop where
  cl : Cls K C
  ex : ∃ (f : Addr) (fd : FuncData), Meth K C m f ∧ Binds K fd ps [] ∧ FnOk P w K mg base CX0 k f fd ps sp
end L2

set_option Elab.async false
set_option linter.all false
set_option maxRecDepth 100000
set_option maxHeartbeats 4000000
/-! zip of two things that can be drawn from -/
namespace L2
open PySem PySem.Spec PyProof.Rows
section
variable {prog : Program} {w : World} {A : Around} {E : Value → Shared → Prop} {s : Shared}
structure ZipFar (z TI TO i1 i2 : Addr) (fp1 fp2 : List Addr) : Prop where
  TIz : TI ≠ z
  TOz : TO ≠ z
  TITO : TI ≠ TO
  i1z : i1 ≠ z
  i2z : i2 ≠ z
  TIi1 : TI ≠ i1
  TIi2 : TI ≠ i2
  TOi1 : TO ≠ i1
  TOi2 : TO ≠ i2
  i12 : i1 ≠ i2
  z1 : z ∉ fp1
  TO1 : TO ∉ fp1
  i21 : i2 ∉ fp1
  z2 : z ∉ fp2
  TO2 : TO ∉ fp2
  i12' : i1 ∉ fp2
variable {z TI TO i1 i2 : Addr} {fp1 fp2 : List Addr} {n1 n2 k : Nat} {P1 P2 : Nat → Value → Prop} {St1 St2 : Nat → Heap → Prop} {a b : Value}
end
end L2

set_option Elab.async false
set_option linter.all false
set_option maxRecDepth 100000
set_option maxHeartbeats 4000000
namespace L2
open PySem PySem.Spec PyProof.Rows
section
variable {X : Cx} {pins : List (Addr × Obj)} {σ : St} {H : Hp} {s : Shared} {h' : Heap}
end
/-- zip of the tuples at a and b, of one length -/
def Itz (K : PySem.W.Frag) (a b : Addr) : It :=
  ⟨fun i H => ∃ xs ys x y, SqT K H a xs ∧ SqT K H b ys ∧ xs[i]? = some x ∧ ys[i]? = some y,
   fun i H v H' => ∃ T x y, v = .ref T ∧ H T = none ∧ H' = upd H T (.tup [x, y]) ∧ (∀ xs, SqT K H a xs → xs[i]? = some x) ∧ ∀ ys, SqT K H b ys → ys[i]? = some y,
   fun i H => ∃ xs, SqT K H a xs ∧ xs.length = i⟩
section
variable {X : Cx}
def iZipT (K : PySem.W.Frag) (tl : TA) : TI := fun σ H R => tl σ H fun vs H1 => ∃ a b, vs = [.ref a, .ref b] ∧ (∃ xs, SqT K H1 a xs) ∧ (∃ ys, SqT K H1 b ys) ∧ R (Itz K a b) H1
end
end L2

set_option Elab.async false
set_option linter.all false
set_option maxRecDepth 100000
set_option maxHeartbeats 4000000
/-! == of things that are alike: None and None; tuples of ints; tuples of such -/
namespace L2
open PySem PySem.Spec PyProof.Rows
/-- alike, by what they hold -/
inductive EqN (K : PySem.W.Frag) (H : Hp) : V → V → Prop where
  | non : EqN K H .non .non
  | tup {a b : Addr} {ns : List Int} (ha : SqT K H a (ns.map V.int)) (hb : SqT K H b (ns.map V.int)) : EqN K H (.ref a) (.ref b)
section
variable {X : Cx} {pins : List (Addr × Obj)} {σ : St} {H : Hp} {s : Shared}
theorem vals_int {ns : List Int} {us : List Value} (r : Vals (ns.map V.int) us) : ∀ (j : Nat) (u : Value), us[j]? = some u → ∃ n t, ns[j]? = some n ∧ u = Value.int n t := by
  intro j u hu
  have hj : j < us.length := (List.getElem?_eq_some_iff.mp hu).1
  have hl := r.length
  rw [List.length_map] at hl
  obtain ⟨v, hv, rv⟩ := r.get (i := j) (x := V.int (ns[j]'(by omega))) (by rw [List.getElem?_map, List.getElem?_eq_getElem (by omega)]; rfl)
  rw [hu] at hv
  cases hv
  obtain ⟨t, rfl⟩ := (show ∃ t, u = Value.int _ t from rv)
  exact ⟨_, t, List.getElem?_eq_getElem (by omega), rfl⟩
theorem ints_rc {A : Around} {a b : Addr} {ns : List Int} (I : Inv X pins σ H s) (hu : A.units < cLine) (ha : SqT X.K H a (ns.map V.int)) (hb : SqT X.K H b (ns.map V.int)) : SeqAt.RcAt A s (.ref a) (.ref b) true := by
  obtain ⟨its, r1, p1, _⟩ := I.tuple ha
  obtain ⟨jts, r2, p2, _⟩ := I.tuple hb
  have l1 := r1.length
  have l2 := r2.length
  have q := SeqAt.RcAt.tuples (A := A) (e := fun _ => true) p1 p2 hu fun j h1 h2 => by
    obtain ⟨n, t, hn, e⟩ := vals_int r1 j its.toArray[j] (by simp at h1 ⊢)
    obtain ⟨n', t', hn', e'⟩ := vals_int r2 j jts.toArray[j] (by simp at h2 ⊢)
    rw [hn] at hn'
    cases hn'
    rw [e, e']
    have z := SeqAt.EqAt.int_int (A := A.in1) (s := s) n t n t'
    rw [beq_self_eq_true] at z
    exact z
  have e : ((List.range (min its.toArray.size jts.toArray.size)).all (fun _ => true) && its.toArray.size == jts.toArray.size) = true := by
    simp
    omega
  rw [e] at q
  exact q
theorem EqN.at {A : Around} {x y : V} {u v : Value} (I : Inv X pins σ H s) (hu : A.units < cLine) (h : EqN X.K H x y) (ru : RelV x u) (rv : RelV y v) : SeqAt.EqAt A s u v true := by
  cases h with
  | non =>
    cases ru
    cases rv
    exact SeqAt.EqAt.same _
  | @tup a b ns ha hb =>
    cases ru
    cases rv
    by_cases e : a = b
    · subst e; exact SeqAt.EqAt.same _
    · exact SeqAt.EqAt.of_refs e (ints_rc I hu ha hb)
end
end L2

set_option Elab.async false
set_option linter.all false
set_option maxRecDepth 100000
set_option maxHeartbeats 4000000
/-! enumerate of a list, with a tuple of names as the target -/
namespace L2
open PySem PySem.Spec PyProof.Rows
/-- enumerate of the list at a: a new pair at each turn -/
def Itel (K : PySem.W.Frag) (a : Addr) : It :=
  ⟨fun i H => ∃ xs x, SqL K H a xs ∧ xs[i]? = some x, fun i H v H' => ∃ T x, v = .ref T ∧ H T = none ∧ H' = upd H T (.tup [.int i, x]) ∧ ∀ xs, SqL K H a xs → xs[i]? = some x, fun i H => ∃ xs, SqL K H a xs ∧ xs.length ≤ i⟩
theorem turn_enumL {P : Program} {w : World} {K : PySem.W.Frag} {elts : List Expr} {x1 : _} {pos : Pos} (a e it : Addr) : Turn P w K (.Tuple elts x1 pos) (Itel K a) [e, it] e (fun i h => (∃ old, IsEnum h e it i old) ∧ h.IsListIter it a i) where
  mem := by simp
  obj := fun i h st b hb => by
    have q : b = e ∨ b = it := by simpa using hb
    rcases q with rfl | rfl
    · obtain ⟨⟨old, st⟩, _⟩ := st
      exact ⟨_, st, fun v z => by
        have z' : Data.fields _ = Data.cell v := z
        cases z'⟩
    · obtain ⟨_, o, e, c, d⟩ := st
      exact ⟨o, e, fun v z => by rw [d] at z; cases z⟩
  keep := fun i h h' st k => ⟨let ⟨old, z⟩ := st.1; ⟨old, k e (by simp) _ z⟩, st.2.at fun o z => k it (by simp) o z⟩
  item := by
    intro X hP hw hK hc i pins s σ H E I hf st hg
    subst hP hw hK
    obtain ⟨xs, x, hq, hx⟩ := hg
    obtain ⟨its, rv, p, hz⟩ := I.list hq
    obtain ⟨u, hu, ru⟩ := rv.get hx
    obtain ⟨⟨old, he⟩, hit⟩ := st
    have p' : s.heap.IsList a its.toArray := p.isList
    have fe := hf e (by simp)
    have fi := hf it (by simp)
    have ne : e ≠ it := fun z => by
      subst z
      obtain ⟨o, e1, c, d⟩ := hit
      rw [he] at e1
      cases e1
      have c' : Value.type "enumerate" = Value.type "list_iterator" := c
      injection c' with c'
      exact absurd c' (by decide)
    have nae : a ≠ e := fun z => by
      subst z
      obtain ⟨o, e1, c, d⟩ := p'
      rw [he] at e1
      cases e1
      have c' : Value.type "enumerate" = Value.type "list" := c
      injection c' with c'
      exact absurd c' (by decide)
    have nai : a ≠ it := fun z => by
      subst z
      obtain ⟨o, e1, c, d⟩ := p'
      obtain ⟨o2, e2, c2, d2⟩ := hit
      rw [e1] at e2
      cases e2
      rw [c] at c2
      injection c2 with c'
      exact absurd c' (by decide)
    have hi : i < its.toArray.size := by
      have : i < its.length := (List.getElem?_eq_some_iff.mp hu).1
      simpa using this
    have D := Draws.list (prog := X.prog) (w := X.w) (A := X.A.in1) (show X.A.in1.handled = none from I.ok.hd hc) it a nai its.toArray
    refine wpAny_pyNext_enum_itemD D he ⟨hit, p'⟩ hi ne (by simp [ne, Ne.symm nae]) fun y h1 tk hy ho st1 hT hsz hk => ?_
    have ey : y = u := by
      have : its.toArray[i]? = some u := by simpa using hu
      rw [this] at hy
      exact (Option.some.inj hy).symm
    subst ey
    refine ⟨_, rfl, wpAny_letOwnedTupleGo_enum ho fun h2 he2 hs2 => ?_⟩
    have fr : H s.heap.objs.size = none := I.hok.fresh (Nat.le_refl _)
    have I1 : Inv X pins σ (upd H s.heap.objs.size (.tup [.int i, x])) { s with heap := s.heap.push { cls := .type "tuple", data := .seq #[.int i tk, y] }, toks := tk + 1 } :=
      I.laid (o := .tup [.int i, x]) (fun b ob q => Heap.get?_push_of_some _ q) (Nat.le_refl _) ⟨by show 2 ≤ sizeLine; decide, [.int i tk, y], .cons ⟨tk, rfl⟩ (.cons ru .nil), ⟨_, Heap.get?_push_size _ rfl, rfl, _, rfl⟩⟩
    have lt : ∀ b ∈ [e, it], b < s.heap.objs.size := fun b hb => by
      have q : b = e ∨ b = it := by simpa using hb
      rcases q with rfl | rfl
      · exact Heap.lt_size he
      · obtain ⟨o, e1, _⟩ := hit
        exact Heap.lt_size e1
    have f2 : ∀ b ∈ [e, it], FpOk X pins (upd H s.heap.objs.size (.tup [.int i, x])) b := fun b hb => by
      refine ⟨?_, (hf b hb).2⟩
      rw [upd_ne (Nat.ne_of_lt (lt b hb))]
      exact (hf b hb).1
    have I2 : Inv X pins σ (upd H s.heap.objs.size (.tup [.int i, x])) { s with heap := h2, toks := tk + 1 } := by
      refine I1.turned2 (t' := tk + 1) (h' := h2) (fun b o b1 b2 q => ?_) (f2 e (by simp)) (f2 it (by simp))
      refine (hs2.2 b b1).trans ?_
      rcases Heap.get?_push_cases (show (s.heap.push { cls := .type "tuple", data := .seq #[.int i tk, y] }).get? b = some o from q) with ⟨rfl, rfl⟩ | z
      · exact hT
      · exact hk b o b1 b2 z
    refine ⟨.ref s.heap.objs.size, _, I2, rfl, ⟨s.heap.objs.size, x, rfl, fr, rfl, fun ys hy => by rw [I.list_inj hy hq]; exact hx⟩, ⟨⟨y, ?_⟩, ?_⟩, fun b hb => (f2 b hb).1⟩
    · have : ((i + 1 : Nat) : Int) = (i : Int) + 1 := by push_cast; rfl
      rw [this]
      exact he2
    · exact st1.1.at fun o z => (hs2.2 it (Ne.symm ne)).trans z
  done := by
    intro X hP hw hK hc i pins s σ H E I hf st hg
    subst hP hw hK
    obtain ⟨xs, hq, hx⟩ := hg
    obtain ⟨its, rv, p, hz⟩ := I.list hq
    obtain ⟨⟨old, he⟩, hit⟩ := st
    obtain ⟨f0, f1, f2, f3, f4, f5⟩ := hf it (by simp)
    have p' : s.heap.IsList a its.toArray := p.isList
    have hl := rv.length
    have hT : s.TypeIs (.ref e) "enumerate" := ⟨_, he, rfl⟩
    unfold pyNext
    refine wpAny_bind (wpAny_attempt (wpAny_callSpecial?_slot (name := Str.ofString "__next__") hT F.slot_enumerate_next
      (wpAny_call_entry F.slot_enumerate_next hT F.entry_enumerate_next ?_ (F.args_enumerate_next_1 _))))
    show wpAny _ _ (field (.ref e) 2 >>= _) _ _ _
    refine wpAny_bind (wpAny_field he rfl (x := .ref it) rfl ?_)
    refine wpAny_bind (wpAny_nextOf_list_end (show X.A.in1.handled = none from I.ok.hd hc) hit p' (by simp; omega) fun h' x he' hx' => ?_)
    obtain ⟨o, ho, hcl⟩ := hx'
    refine wpAny_bind (wpAny_isInstance (T := "StopIteration") (b := true) ⟨o, ho, hcl⟩ isSubtype_stop ?_)
    exact wpAny_pure ⟨rfl, I.turned (t' := s.toks) (fun b o hb z => he' b o hb z) f0 f1 f3 f4 f5⟩
  self := fun _ _ _ _ _ st h => let ⟨_, z⟩ := st.1; wpAny_pyIter_enum z h
section
variable {X : Cx}
def iEnumL (K : PySem.W.Frag) (tl : TA) : TI := fun σ H R => tl σ H fun vs H1 => ∃ a, vs = [.ref a] ∧ (∃ xs, SqL K H1 a xs) ∧ R (Itel K a) H1
theorem pi_enumL {elts : List Expr} {x1 : _} {tpos : Pos} {l : Expr} {tl : TA} {p pos : Pos} (hg : Gl X "enumerate") (hm : X.mg "enumerate" = none) (hl : PA X [l] tl) (hs : starEach [l] X.env = [(false, eval l X.env)] := by rfl) :
    PI X (.Tuple elts x1 tpos) (.Call (.Name "enumerate" p) [l] [] pos) (iEnumL X.K tl) := by
  intro pins s σ H R I h
  refine Call_ (ld_blt I hg hm bt_enumerate (PyProof.Rows.callWith_type1 (thn (hl pos pins s σ H _ I h) fun us s1 ⟨vs, H1, I1, r1, q1⟩ => ?_) hs rfl))
  obtain ⟨a, e, ⟨xs, hq⟩, q⟩ := q1
  subst e
  cases r1 with
  | cons r rr =>
    cases rr
    cases r
    obtain ⟨its, rv, p, hz⟩ := I1.list hq
    refine call_enumerate_list (show s1.heap.IsList a its.toArray from p.isList) fun h' he hit hsz hk => ?_
    refine wpAny_pyIter_enum he ?_
    refine ⟨s1.heap.objs.size + 1, [s1.heap.objs.size + 1, s1.heap.objs.size], _, _, H1, rfl, I1.kept (t' := s1.toks) hk, turn_enumL a _ s1.heap.objs.size, ⟨⟨_, he⟩, hit⟩, fun b hb => ?_, q⟩
    have e : b = s1.heap.objs.size + 1 ∨ b = s1.heap.objs.size := by simpa using hb
    rcases e with rfl | rfl
    · exact I1.fpOk (Nat.le_succ _) (I1.hok.fresh (Nat.le_succ _))
    · exact I1.fpOk (Nat.le_refl _) (I1.hok.fresh (Nat.le_refl _))
end
/-- for .. in enumerate(l) -/
theorem for_enumL {K : PySem.W.Frag} {a : Addr} {xs : List V} {g : TG} {tb : TS} {D : Ends} {σ : St} {H : Hp} (Pv : Nat → St → Hp → Prop) (h0 : Pv 0 σ H) (hl : ∀ i σ H, i ≤ xs.length → Pv i σ H → SqL K H a xs)
    (hs : ∀ i x σ H T, xs[i]? = some x → Pv i σ H → H T = none → g (.ref T) σ (upd H T (.tup [.int i, x])) fun σ2 H2 => tb { D with nx := Pv (i + 1), ct := Pv (i + 1), bk := D.nx } σ2 H2) (hd : ∀ σ H, Pv xs.length σ H → D.nx σ H) :
    ∃ W : Nat → Nat → St → Hp → Prop, (∃ m, W 0 m σ H) ∧ ∀ i m σ H, W i m σ H →
      ((Itel K a).stop i H ∧ D.nx σ H) ∨ ((Itel K a).go i H ∧ ∃ N : St → Hp → Prop, (∀ σ' H', N σ' H' → ∃ m', m' < m ∧ W (i + 1) m' σ' H') ∧ ∀ x H', (Itel K a).yld i H x H' → g x σ H' fun σ2 H2 => tb { D with nx := N, ct := N, bk := D.nx } σ2 H2) := by
  refine ⟨fun i m σ H => m = xs.length - i ∧ i ≤ xs.length ∧ Pv i σ H, ⟨xs.length, by simp, Nat.zero_le _, h0⟩, ?_⟩
  rintro i m σ H ⟨rfl, hi, p⟩
  have q := hl i σ H hi p
  by_cases hlt : i < xs.length
  · refine .inr ⟨⟨xs, xs[i], q, by simp [hlt]⟩, Pv (i + 1), fun σ' H' p' => ⟨xs.length - (i + 1), by omega, rfl, hlt, p'⟩, fun x H' y => ?_⟩
    obtain ⟨T, x0, rfl, hT, rfl, y⟩ := y
    exact hs i x0 σ _ T (y xs q) p hT
  · have e : i = xs.length := by omega
    subst e
    exact .inl ⟨⟨xs, q, Nat.le_refl _⟩, hd σ H p⟩
end L2

set_option Elab.async false
set_option linter.all false
set_option maxRecDepth 100000
set_option maxHeartbeats 4000000
/-! comprehensions over enumerate, with two names as the target (in the block's slots 0 and 1) -/
namespace L2
open PySem PySem.Spec PyProof.Rows
end L2

set_option Elab.async false
set_option linter.all false
set_option maxRecDepth 100000
/-! list(d.items()); sum of a row of ints -/
namespace L2
open PySem PySem.Spec PyProof.Rows
section
variable {X : Cx} {pins : List (Addr × Obj)} {σ : St} {H H' : Hp} {s : Shared} {h' : Heap}
/-- several things laid at once -/
theorem Inv.laidM {t' : Nat} (I : Inv X pins σ H s) (k : ∀ b u, s.heap.get? b = some u → h'.get? b = some u) (old : ∀ b, b < s.heap.objs.size → H' b = H b)
    (new : ∀ b o, s.heap.objs.size ≤ b → H' b = some o → ObjOk X.prog X.w H' h' b o) : Inv X pins σ H' { s with heap := h', toks := t' } := by
  have sm : ∀ b o, H b = some o → H' b = some o := fun b o e => by rw [old b (I.hok.lt e)]; exact e
  refine I.un ⟨fun b u q _ _ _ => k b u q, fun b u q _ _ _ => ⟨u.slots, k b u q⟩, fun b u q n _ => by rw [old b (Heap.lt_size q)]; exact n, fun b u q _ => ⟨u, k b u q⟩, fun b xs q => sm b _ q, fun b u xs q => sm b _ q, fun b ps q => ⟨#[], by rw [sm b _ q]; simp⟩⟩ (fun b o e => ?_)
  rcases Nat.lt_or_ge b s.heap.objs.size with hb | hb
  · rw [old b hb] at e
    exact (I.hok b o e).stay (fun c v _ q => k c v q) (fun c q => sm c _ q) fun c xs q => sm c _ q
  · exact new b o hb e
end
theorem zip_find {β : Type} : ∀ {as : List Addr} {kvs : List β} {j : Nat} {a : Addr} {kv : β}, as.Pairwise (· < ·) → as[j]? = some a → kvs[j]? = some kv → (as.zip kvs).find? (fun p => decide (p.1 = a)) = some (a, kv)
  | [], _, _, _, _, _, h, _ => by simp at h
  | _ :: _, [], _, _, _, _, _, h => by simp at h
  | b :: as, q :: kvs, 0, a, kv, _, h1, h2 => by
    simp at h1 h2
    subst h1 h2
    simp
  | b :: as, q :: kvs, j + 1, a, kv, hp, h1, h2 => by
    have h1' : as[j]? = some a := by simpa using h1
    have lt := (List.pairwise_cons.mp hp).1 a (List.mem_of_getElem? h1')
    rw [List.zip_cons_cons, List.find?_cons_of_neg (by simpa using Nat.ne_of_lt lt)]
    exact zip_find (List.pairwise_cons.mp hp).2 h1' (by simpa using h2)
theorem zip_found {β : Type} {as : List Addr} {kvs : List β} {b : Addr} {p : Addr × β} (h : (as.zip kvs).find? (fun p => decide (p.1 = b)) = some p) : p.1 = b ∧ ∃ j : Nat, as[j]? = some b ∧ kvs[j]? = some p.2 := by
  have e : p.1 = b := by simpa using List.find?_some h
  obtain ⟨j, hj⟩ := List.mem_iff_getElem?.mp (List.mem_of_find?_eq_some h)
  obtain ⟨h1, h2⟩ := List.getElem?_zip_eq_some.mp hj
  exact ⟨e, j, by rw [← e]; exact h1, h2⟩
theorem key_rel {k : Key} {v : Value} (h : keyIs k v = true) : RelV (kV k) v := by
  rcases keyIs_shape h with ⟨n, t, rfl, rfl⟩ | ⟨x, t, rfl, rfl⟩
  · exact ⟨t, rfl⟩
  · exact ⟨t, rfl⟩
theorem refs_rel : ∀ as : List Addr, Vals (as.map V.ref) (as.map Value.ref)
  | [] => .nil
  | _ :: r => .cons rfl (refs_rel r)
section
variable {X : Cx}
abbrev ItemsAt (v d : Addr) : HO := .ext fun h => h.IsItemsView v d
def rItems : V → List V → Hp → VK → Prop := fun x vs H Q => ∃ d kvs, x = .ref d ∧ vs = [] ∧ H d = some (.dK kvs) ∧ ∀ v, H v = none → Q (.ref v) (upd H v (ItemsAt v d))
theorem mt_items : MtM X "dict.items" rItems := by
  intro pins s σ H x vs v us Q I rx rv h
  obtain ⟨d, kvs, rfl, rfl, hd, q⟩ := h
  cases rx
  have hus := rv.zero
  subst hus
  obtain ⟨z, lo, vs, kv, dof⟩ := (show ObjOk X.prog X.w H s.heap d (.dK kvs) from I.hok d _ hd)
  refine call_meetsIn PySem.F.slot_dict_items dof.typeIs PySem.F.entry_dict_items (PySem.F.args_dict_items_1 _) (meets_dict_items (mixKind X.prog X.w) d lo) ⟨⟨vs, dof⟩, ?_⟩
  refine ⟨.ref _, _, I.laid (o := ItemsAt s.heap.objs.size d) (t' := s.toks) (fun b o e => Heap.get?_push_of_some _ e) (Nat.le_refl _) ?_, rfl, q _ (I.hok.fresh (Nat.le_refl _))⟩
  exact ⟨⟨_, Heap.get?_push_size _ rfl, rfl, rfl⟩, ⟨_, Heap.get?_push_size _ rfl⟩, fun h1 h2 ⟨o, ho, x⟩ kp => ⟨o, kp o ho, x⟩⟩
def rListItems : List V → Hp → VK → Prop := fun xs H Q => ∃ v d kvs, xs = [.ref v] ∧ H v = some (ItemsAt v d) ∧ H d = some (.dK kvs) ∧
  ∀ (l : Addr) (as : List Addr) (H' : Hp), H l = none → as.length = kvs.length → Same H H' → H' l = some (.lst (as.map V.ref)) →
    (∀ (j : Nat) (a : Addr) (kv : Key × V), as[j]? = some a → kvs[j]? = some kv → H a = none ∧ H' a = some (.tup [kV kv.1, kv.2])) → Q (.ref l) H'
theorem call_listItems (hc : X.calm = true) : CallR X (.type "list") rListItems := by
  intro pins s σ H xs us Q I r h
  obtain ⟨v, d, kvs, rfl, hv, hd, q⟩ := h
  obtain ⟨u, rfl, rx⟩ := vals1 r
  cases rx
  obtain ⟨hview, _, _⟩ := (show ObjOk X.prog X.w H s.heap v (ItemsAt v d) from I.hok v _ hv)
  obtain ⟨hz, lo, vs, kv, dof⟩ := (show ObjOk X.prog X.w H s.heap d (.dK kvs) from I.hok d _ hd)
  obtain ⟨ep, hat⟩ := dof.dictAt
  have hlen : kvs.length = vs.length := Paired.length kv
  refine PySem.W.kdx_call (knd := mixKind X.prog X.w) (kvs := vs) (ep := ep) (I.ok.hd hc) hview hat (by rw [← hlen]; exact hz) fun h' tk acc c as kp e hl G hacc => ?_
  generalize hsz : s.heap.objs.size = sz at e G ⊢
  have hH : ∃ H' : Hp, H' = fun b => if b < sz then H b else if b = sz then some (.lst (as.map V.ref)) else ((as.zip kvs).find? fun p => decide (p.1 = b)).map fun p => HO.tup [kV p.2.1, p.2.2] := ⟨_, rfl⟩
  obtain ⟨H', eH⟩ := hH
  have old : ∀ b, b < sz → H' b = H b := fun b hb => by rw [eH]; exact if_pos hb
  have at_l : H' sz = some (.lst (as.map V.ref)) := by rw [eH]; simp
  have at_t : ∀ (j : Nat) (a : Addr) (kv : Key × V), as[j]? = some a → kvs[j]? = some kv → H a = none ∧ H' a = some (.tup [kV kv.1, kv.2]) := fun j a kv h1 h2 => by
    have hm := G.above a (List.mem_of_getElem? h1)
    refine ⟨I.hok.fresh (by rw [hsz]; exact Nat.le_of_lt hm), ?_⟩
    rw [eH]
    show (if a < sz then H a else if a = sz then _ else _) = _
    rw [if_neg (Nat.not_lt.mpr (Nat.le_of_lt hm)), if_neg (Nat.ne_of_gt hm), zip_find G.rise h1 h2]
    rfl
  have sm : Same H H' := fun b u hb => by rw [old b (by rw [← hsz]; exact I.hok.lt hb)]; exact hb
  refine ⟨.ref sz, H', I.laidM (t' := tk) kp (by rw [hsz]; exact old) (fun b o hb ho => ?_), rfl, q sz as H' (I.hok.fresh (by rw [hsz]; exact Nat.le_refl _)) (by rw [hl, hlen]) sm at_l at_t⟩
  rw [hsz] at hb
  by_cases eb : b = sz
  · subst eb
    rw [at_l] at ho
    cases ho
    refine ⟨by rw [List.length_map, hl, ← hlen]; exact hz, acc.toList, c, ?_, by rw [Array.toArray_toList]; exact e⟩
    rw [hacc]
    exact refs_rel as
  · rw [eH] at ho
    replace ho : (if b < sz then H b else if b = sz then some (HO.lst (as.map V.ref)) else ((as.zip kvs).find? fun p => decide (p.1 = b)).map fun p => HO.tup [kV p.2.1, p.2.2]) = some o := ho
    rw [if_neg (Nat.not_lt.mpr hb), if_neg eb] at ho
    cases hf : (as.zip kvs).find? (fun p => decide (p.1 = b)) with
    | none => rw [hf] at ho; cases ho
    | some p =>
      rw [hf] at ho
      cases ho
      obtain ⟨_, j, h1, h2⟩ := zip_found hf
      obtain ⟨key, k, x, e1, e2, e3⟩ := G.pairs j b h1
      obtain ⟨p', f1, f2, f3⟩ := paired_back kv e1
      rw [h2] at f1
      cases f1
      refine ⟨by show 2 ≤ sizeLine; decide, [key, x], .cons ?_ (.cons f3 .nil), ⟨_, e3, rfl, 0, rfl⟩⟩
      rw [f2]
      exact key_rel e2
def sumI (ns : List Int) : Int := ns.foldl (· + ·) 0
theorem preSum_foldl (ns : List Int) : ∀ n, n ≤ ns.length → preSum (fun i => ns.getD i 0) n = (ns.take n).foldl (· + ·) 0
  | 0, _ => rfl
  | n + 1, h => by
    have hn : n < ns.length := h
    show preSum _ n + ns.getD n 0 = _
    rw [preSum_foldl ns n (Nat.le_of_lt hn), List.take_add_one, List.getElem?_eq_getElem hn, List.foldl_append]
    simp [hn]
def rSumT (K : PySem.W.Frag) : List V → Hp → VK → Prop := fun xs H Q => ∃ (a : Addr) (ns : List Int), xs = [.ref a] ∧ SqT K H a (ns.map V.int) ∧ Q (.int (sumI ns)) H
end
end L2

set_option Elab.async false
set_option linter.all false
set_option maxRecDepth 100000
/-! divmod by great numbers -/
namespace L2
open PySem PySem.Spec PyProof.Rows
section
variable {X : Cx}
theorem call_divmodB : CallR X (.builtin "divmod") (fun xs H Q => ∃ i j, xs = [.int i, .int j] ∧ CDivB i j ∧ ∀ p, H p = none → Q (.ref p) (upd H p (.tup [.int (i / j), .int (i % j)]))) := by
  intro pins s σ H xs us Q I r h
  obtain ⟨i, j, rfl, ⟨h1, h2⟩, q⟩ := h
  obtain ⟨u, w', rfl, ⟨t, rfl⟩, ⟨t', rfl⟩⟩ := vals2 r
  have h3 := big_bits (Int.le_of_lt h1) h2
  refine divmod_int (by omega) ?_ (.inl (PyProof.noPylong_of_log2 (by omega)))
  rw [Int.fdiv_eq_ediv_of_nonneg i (by omega), Int.fmod_eq_emod_of_nonneg i (by omega)]
  have hn : H s.heap.objs.size = none := I.hok.fresh (Nat.le_refl _)
  refine ⟨.ref s.heap.objs.size, _, ?_, rfl, q _ hn⟩
  refine I.laid (fun b o e => Heap.get?_push_of_some _ e) (Nat.le_refl _) ⟨by simp only [List.length_cons, List.length_nil]; rw [sizeLine_eq]; decide, [.int (i / j) s.toks, .int (i % j) (s.toks + 1)], .cons ⟨_, rfl⟩ (.cons ⟨_, rfl⟩ .nil), ?_⟩
  exact ⟨_, Heap.get?_push_size s.heap rfl, rfl, 0, rfl⟩
end
theorem bt_divmod : bootBuiltins "divmod" = some (.builtin "divmod") := by decide +kernel
end L2

set_option Elab.async false
set_option linter.all false
set_option maxRecDepth 100000
/-! xs[::-1] of a list; reversed(a tuple) -/
namespace L2
open PySem PySem.Spec PyProof.Rows
theorem pick_rev (its : List Value) : (slicePick its.toArray none none (some (-1))) = its.reverse.toArray := by
  unfold slicePick
  congr 1
  have e : sliceBounds none none (some (-1)) its.toArray.size = ((its.length : Int) - 1, -1, -1) := by
    unfold sliceBounds
    simp
  rw [e]
  unfold sliceRange
  have c : (if (-1 : Int) > 0 then (if (its.length : Int) - 1 < -1 then (-1 - ((its.length : Int) - 1) + -1 - 1) / -1 else 0) else (if (its.length : Int) - 1 > -1 then ((its.length : Int) - 1 - -1 - -1 - 1) / (- -1) else 0)).toNat = its.length := by
    rw [if_neg (by decide)]
    by_cases h : its.length = 0
    · rw [h]; decide
    · rw [if_pos (by omega)]
      have : ((its.length : Int) - 1 - -1 - -1 - 1) / (- -1) = its.length := by
        rw [show (- -1 : Int) = 1 from rfl, Int.ediv_one]
        omega
      rw [this]
      rfl
  show ((List.range _).map _).filterMap _ = _
  rw [c, List.filterMap_map]
  refine List.ext_getElem? fun i => ?_
  have go : ∀ n, n ≤ its.length → ((List.range n).filterMap ((fun x => its.toArray[x]?) ∘ fun (k : Nat) => ((its.length : Int) - 1 + -1 * (k : Int)).toNat)) = (its.reverse.take n) := by
    intro n
    induction n with
    | zero => intro _; rfl
    | succ n ih =>
      intro hn
      have hn' : n < its.length := hn
      rw [List.range_succ, List.filterMap_append, ih (Nat.le_of_lt hn'), List.take_add_one, List.getElem?_reverse hn']
      congr 1
      have e1 : ((its.length : Int) - 1 + -1 * (n : Int)).toNat = its.length - 1 - n := by omega
      have e2 : its.length - 1 - n < its.length := by omega
      have e3 : ((fun x => its.toArray[x]?) ∘ fun (k : Nat) => ((its.length : Int) - 1 + -1 * (k : Int)).toNat) n = some its[its.length - 1 - n] := by
        show its.toArray[((its.length : Int) - 1 + -1 * (n : Int)).toNat]? = _
        rw [e1]
        simp [e2]
      rw [List.filterMap_cons_some e3, List.filterMap_nil, List.getElem?_eq_getElem e2]
      rfl
  rw [go _ (Nat.le_refl _), ← List.length_reverse, List.take_length]
section
variable {X : Cx}
def rSl3L (K : PySem.W.Frag) : V → Option Int → Option Int → Option Int → Hp → VK → Prop := fun x lo hi st H Q => ∃ a xs, x = .ref a ∧ lo = none ∧ hi = none ∧ st = some (-1) ∧ SqL K H a xs ∧ ∀ p, H p = none → Q (.ref p) (upd H p (.lst xs.reverse))
theorem sl3_list : SlR3 X (rSl3L X.K) := by
  intro pins s σ H x v vl vu vc lo hi st sl Q I rx hs pl pu pc h
  obtain ⟨a, xs, rfl, rfl, rfl, rfl, hx, q⟩ := h
  cases rx
  obtain ⟨its, r, ht, hz⟩ := I.list hx
  have hlen := r.length
  refine ⟨"list", _, slot_list_getitem.lookup, ht.isList.typeIs, ?_⟩
  refine wpAny_getItem_list_slice ht.isList hs pl pu pc (by simp) ?_ (by rw [List.size_toArray] <;> omega)
  rw [pick_rev]
  refine ⟨.ref s.heap.objs.size, _, I.laid (t' := s.toks) (o := .lst xs.reverse) (fun b ob q => Heap.get?_push_of_some _ q) (Nat.le_refl _) ?_, rfl, q _ (I.hok.fresh (Nat.le_refl _))⟩
  exact ⟨by rw [List.length_reverse]; exact hz, its.reverse, 0, r.rev, Heap.get?_push_size _ rfl⟩
end
end L2
namespace PySem
open PyProof.Rows
namespace F
theorem owner_rev : Manifest.owners.lookup (String.ofList ['d', 'e', 's', 'r', 'e', 'v', 'e', 'r'].reverse) = some Manifest.sig_reversed := by kernel_rfl
theorem slot_rev_next : Slot "reversed" "__next__" "reversed.__next__" :=
  .of (owner := "reversed") (n := "__next__") (by rw [typeLookup_type, builtinLookup_eq_fast]; kernel_rfl) (by decide +kernel) (by decide +kernel) (by decide +kernel)
    (by first | exact .inl (by decide +kernel) | exact .inr (by decide +kernel)) (by rw [isSubtype_type]; kernel_rfl)
theorem entry_rev_next : entryFor table "reversed.__next__" = some Builtin.«reversed.__next__» := entryFor_of_tree (by kernel_rfl)
theorem args_rev_next_1 (a : Value) : argsOk "reversed.__next__" ⟨[a], []⟩ := by
  unfold argsOk; rw [signature?_of (id := "reversed.__next__") (n := ['_', '_', 't', 'x', 'e', 'n', '_', '_']) (o := ['d', 'e', 's', 'r', 'e', 'v', 'e', 'r']) (by kernel_rfl) owner_rev]; kernel_rfl
theorem slot_rev_iter : Slot "reversed" "__iter__" "reversed.__iter__" :=
  .of (owner := "reversed") (n := "__iter__") (by rw [typeLookup_type, builtinLookup_eq_fast]; kernel_rfl) (by decide +kernel) (by decide +kernel) (by decide +kernel)
    (by first | exact .inl (by decide +kernel) | exact .inr (by decide +kernel)) (by rw [isSubtype_type]; kernel_rfl)
theorem args_rev_iter_1 (a : Value) : argsOk "reversed.__iter__" ⟨[a], []⟩ := by
  unfold argsOk; rw [signature?_of (id := "reversed.__iter__") (n := ['_', '_', 'r', 'e', 't', 'i', '_', '_']) (o := ['d', 'e', 's', 'r', 'e', 'v', 'e', 'r']) (by kernel_rfl) owner_rev]; kernel_rfl
theorem entry_rev_iter : entryFor table "reversed.__iter__" = some Builtin.«dict_keyiterator.__iter__» :=
  entryFor_alias (id' := "dict_keyiterator.__iter__") (by kernel_rfl) (by first | rfl | decide +kernel | (unfold String.splitOn; simp +decide [String.splitOnAux])) (by decide +kernel) (by kernel_rfl)
theorem no_tuple_reversed : typeLookup (.type "tuple") "__reversed__" = pure none := by rw [typeLookup_type, builtinLookup_eq_fast]; kernel_rfl
end F
section
variable {prog : Program} {w : World} {A : Around} {E : Value → Shared → Prop} {s : Shared}
def revTObj (l : Addr) (i : Int) : Obj := { cls := .type "reversed", data := .fields #[.ref l, rawInt i] }
def Heap.IsRevT (h : Heap) (a l : Addr) (i : Int) : Prop := ∃ o, h.get? a = some o ∧ o.cls = .type "reversed" ∧ o.data = .fields #[.ref l, rawInt i]
theorem Heap.IsRevT.typeIs {a l : Addr} {i : Int} (x : s.heap.IsRevT a l i) : s.TypeIs (.ref a) "reversed" := let ⟨o, ho, hc, _⟩ := x; ⟨o, ho, hc⟩
theorem Heap.IsRevT.at {h h' : Heap} {a l : Addr} {i : Int} (x : h.IsRevT a l i) (e : ∀ o, h.get? a = some o → h'.get? a = some o) : h'.IsRevT a l i := let ⟨o, ho, r⟩ := x; ⟨o, e _ ho, r⟩
theorem pyNext_revT_item {it t : Addr} {i : Nat} {items : Array Value} {x : Value} {Q : Option Value → Shared → Prop} (hit : s.heap.IsRevT it t (i : Int)) (ht : IsTup s.heap t items) (hx : items[i]? = some x) (hz : items.size < 2 ^ 60)
    (hQ : ∀ h' tk, h'.IsRevT it t ((i : Int) - 1) → Heap.SameBut it s.heap h' → Q (some x) { s with heap := h', toks := tk }) : wpAny (model prog w) A (pyNext (.ref it)) Q E s := by
  obtain ⟨o, ho, hc, hd⟩ := id hit
  have hi : i < items.size := by
    rcases Nat.lt_or_ge i items.size with h | h
    · exact h
    · simp [Array.getElem?_eq_none h] at hx
  unfold pyNext
  refine wpAny_bind (wpAny_attempt (wpAny_callSpecial?_slot (name := Str.ofString "__next__") hit.typeIs F.slot_rev_next
    (wpAny_call_entry F.slot_rev_next hit.typeIs F.entry_rev_next ?_ (F.args_rev_next_1 _))))
  unfold Builtin.«reversed.__next__»
  refine wpAny_bind (wpAny_of_eq (a := (Value.ref it, [])) rfl ?_)
  try dsimp only
  refine wpAny_bind (wpAny_field ho hd (x := .ref t) rfl ?_)
  refine wpAny_bind (wpAny_field ho hd (x := rawInt (i : Int)) rfl ?_)
  show wpAny _ _ (if (i : Int) < 0 then _ else _) _ _ s
  rw [if_neg (by omega)]
  refine wpAny_bind (wpAny_specialOf ht.typeIs slot_tuple_getitem.lookup ?_)
  simp only [Option.isNone_some, Bool.false_eq_true, if_false]
  refine wpAny_bind (wpAny_mkInt ?_)
  refine wpAny_bind (wpAny_attempt (getItem_tuple (j := i) (x := x) (s := { s with toks := s.toks + 1 }) ht (by omega) (by omega) (by unfold seqIndex?; simp; omega) hx ?_))
  try dsimp only
  refine wpAny_bind (wpAny_field (s := { s with toks := s.toks + 1 }) ho hd (x := rawInt (i : Int)) rfl ?_)
  show wpAny _ _ (setField (.ref it) 1 (rawInt ((i : Int) - 1)) >>= _) _ _ _
  refine wpAny_bind (wpAny_setField (s := { s with toks := s.toks + 1 }) ho hd (by simp) ?_)
  refine wpAny_pure ⟨x, rfl, wpAny_pure (hQ _ _ ?_ (Heap.SameBut.update ..))⟩
  exact ⟨_, Heap.get?_update_self _ ho (Obj.isFreed_of_fields (Obj.data_mapFields hd _)), (Obj.cls_mapFields ..).trans hc, by
    rw [Obj.data_mapFields hd]; simp⟩
theorem pyNext_revT_end {it t : Addr} {Q : Option Value → Shared → Prop} (hh : A.handled = none) (hit : s.heap.IsRevT it t (-1))
    (hQ : ∀ h', Heap.ExtBut it s.heap h' → Q none { s with heap := h' }) : wpAny (model prog w) A (pyNext (.ref it)) Q E s := by
  obtain ⟨o, ho, hc, hd⟩ := id hit
  unfold pyNext
  refine wpAny_bind (wpAny_attempt (wpAny_callSpecial?_slot (name := Str.ofString "__next__") hit.typeIs F.slot_rev_next
    (wpAny_call_entry F.slot_rev_next hit.typeIs F.entry_rev_next ?_ (F.args_rev_next_1 _))))
  unfold Builtin.«reversed.__next__»
  refine wpAny_bind (wpAny_of_eq (a := (Value.ref it, [])) rfl ?_)
  try dsimp only
  refine wpAny_bind (wpAny_field ho hd (x := .ref t) rfl ?_)
  refine wpAny_bind (wpAny_field ho hd (x := rawInt (-1)) rfl ?_)
  show wpAny _ _ (if (-1 : Int) < 0 then _ else _) _ _ s
  rw [if_pos (by decide)]
  refine wpAny_bind (wpAny_rule ?_)
  show wpAny _ _ ((setField (.ref it) 1 (rawInt (-1)) >>= fun _ => setField (.ref it) 0 .none) >>= _) _ _ s
  refine wpAny_bind (wpAny_bind (wpAny_setField ho hd (by simp) ?_))
  have g1 := Heap.get?_update_self (h := s.heap) (Obj.mapFields fun vs => vs.set! 1 (rawInt (-1))) ho (Obj.isFreed_of_fields (Obj.data_mapFields hd _))
  have d1 := Obj.data_mapFields hd (fun vs => vs.set! 1 (rawInt (-1)))
  refine wpAny_setField g1 d1 (by simp) ?_
  refine wpAny_bind ?_
  show wpAny _ _ (newExc (.type "StopIteration") [] >>= _) _ _ _
  refine wpAny_bind ?_
  simp only [newExc, newTuple]
  refine wpAny_bind (wpAny_newObj_type ?_ (by size_fits))
  refine wpAny_bind (m := firstArgMember _ _) (wpAny_of_eq (a := Value.none) (by first | rfl | (simp only [firstArgMember]; rfl)) ?_)
  refine wpAny_newObj_type ?_ (by size_fits)
  simp only [raiseNew]
  refine wpAny_bind (wpAny_handled ?_)
  first | rw [show A.in1.handled = none from hh] | rw [hh]
  refine wpAny_bind (wpAny_pure (wpAny_throw ?_))
  refine wpAny_bind (wpAny_isInstance (T := "StopIteration") (b := true) ⟨_, Heap.get?_push_size _ rfl, rfl⟩ isSubtype_stop ?_)
  refine wpAny_pure (hQ _ ?_)
  refine Heap.ExtBut.push (Heap.ExtBut.push ?_ _) _
  intro b ob hb e
  exact (Heap.SameBut.update ..).extBut b ob hb ((Heap.SameBut.update ..).extBut b ob hb e)
theorem pyIter_revT {it t : Addr} {i : Int} {Q : Value → Shared → Prop} (hit : s.heap.IsRevT it t i) (h : Q (.ref it) s) : wpAny (model prog w) A (pyIter (.ref it)) Q E s := by
  refine wpAny_pyIter_slot hit.typeIs F.slot_rev_iter (wpAny_call_entry F.slot_rev_iter hit.typeIs F.entry_rev_iter ?_ (F.args_rev_iter_1 _))
  show wpAny _ _ (ret (.ref it)) _ _ s
  exact wpAny_pure ⟨_, rfl, "reversed", _, hit.typeIs, F.slot_rev_next.lookup, h⟩
theorem slot_rev_init : Slot "reversed" "__init__" "object.__init__" :=
  .of (owner := "object") (n := "__init__") (by rw [typeLookup_type, builtinLookup_eq_fast]; kernel_rfl) (by decide +kernel) (by decide +kernel) (by decide +kernel)
    (by first | exact .inl (by decide +kernel) | exact .inr (by decide +kernel)) (by rw [isSubtype_type]; kernel_rfl)
theorem mro_rev : mroOf (.type "reversed") = pure [.type "reversed", .type "object"] := by rw [mroOf_type]; kernel_rfl
theorem lookup_rev_new : typeLookup (.type "reversed") "__new__" = pure (some (.builtin "reversed.__new__")) := by rw [typeLookup_type, builtinLookup_eq_fast]; kernel_rfl
theorem called_rev : TypeCalled "reversed" "reversed.__new__" "object.__init__" :=
  ⟨by decide +kernel, by decide +kernel, ⟨_, _, mro_rev⟩, madeBy_type mro_rev lookup_rev_new (by decide +kernel), by decide +kernel, by rw [isSubtype_type]; kernel_rfl, slot_rev_init⟩
theorem sub_rev_self : isSubtype (.type "reversed") (.type "reversed") = pure true := by rw [isSubtype_type]; kernel_rfl
theorem newClass_rev (a : Value) : Builtin.SmallTypes.newClass "reversed" ⟨[.type "reversed", a], []⟩ = pure (.type "reversed", [a]) := by
  unfold Builtin.SmallTypes.newClass
  simp only [isType, sub_rev_self, pure_bind, Bool.not_true, Bool.false_eq_true, if_false]
theorem meets_reversed_newT (t : Addr) (items : Array Value) : MeetsIn prog w (Builtin.«reversed.__new__» ⟨[.type "reversed", .ref t], []⟩) (fun A R s => IsTup s.heap t items ∧ (items.size : Int) < 2 ^ 63 ∧
    ∀ tk, R (.ok (.ret (.ref s.heap.objs.size))) { s with heap := s.heap.push (revTObj t ((items.size : Int) - 1)), toks := tk }) :=
  .of_wp fun A R s ⟨ht, hfit, h⟩ => by
    unfold Builtin.«reversed.__new__»
    refine wpAny_bind (wpAny_of_eq (newClass_rev _) ?_)
    try dsimp only
    refine wpAny_bind (wpAny_of_eq (a := ()) (by first | rfl | kernel_rfl) ?_)
    refine wpAny_bind (wpAny_of_eq (a := ()) (by first | rfl | kernel_rfl) ?_)
    try dsimp only
    refine wpAny_bind (wpAny_specialOf ht.typeIs F.no_tuple_reversed ?_)
    try dsimp only
    refine wpAny_bind ?_
    show wpAny _ _ (isInstance (.ref t) (.type "dict") >>= _) _ _ s
    refine wpAny_bind (wpAny_isInstance ht.typeIs F.sub_tuple_dict ?_)
    simp only [Bool.false_eq_true, if_false]
    refine wpAny_bind (wpAny_specialOf ht.typeIs slot_tuple_getitem.lookup ?_)
    try dsimp only
    rw [if_pos (by decide)]
    refine wpAny_pure ?_
    simp only [Bool.not_true, Bool.false_eq_true, if_false]
    refine wpAny_bind (len_tuple ht hfit ?_)
    refine wpAny_bind (wpAny_of_eq (a := some (items.size : Int)) rfl ?_)
    try dsimp only
    show wpAny _ _ (newObj (.type "reversed") (.fields #[.ref t, rawInt ((items.size : Int) - 1)]) >>= _) _ _ _
    exact wpAny_bind (wpAny_newObj_type (wpAny_pure ⟨_, rfl, h _⟩))
theorem typeCall_rev_1 (a : Value) : checkTypeCall "reversed" ⟨[a], []⟩ = pure () := by kernel_rfl
theorem newCall_rev_1 (a : Value) : checkBuiltinCall "reversed.__new__" ⟨[.type "reversed", a], []⟩ = pure () := by kernel_rfl
theorem entry_rev_new : entryFor table "reversed.__new__" = some Builtin.«reversed.__new__» := entryFor_of_tree (by kernel_rfl)
theorem call_reversed_tuple {t : Addr} {items : Array Value} {Q : Value → Shared → Prop} (ht : IsTup s.heap t items) (hfit : (items.size : Int) < 2 ^ 63)
    (h : ∀ tk, Q (.ref s.heap.objs.size) { s with heap := s.heap.push (revTObj t ((items.size : Int) - 1)), toks := tk }) : wpAny (model prog w) A (call (.type "reversed") [.ref t]) Q E s :=
  callType_newIn called_rev (by decide) (typeCall_rev_1 _) (newCall_rev_1 _) (fun obj => F.args_object_init_2 obj _) entry_rev_new (meets_reversed_newT t items) ⟨ht, hfit, fun tk => ⟨⟨_, Heap.get?_push_size _ rfl, rfl⟩, h tk⟩⟩
end
end PySem
namespace L2
open PySem PySem.Spec PyProof.Rows
def Itvt (K : PySem.W.Frag) (a : Addr) (n : Nat) : It :=
  ⟨fun i H => i < n ∧ ∃ xs, SqT K H a xs ∧ xs.length = n, fun i H x H' => H' = H ∧ ∀ xs, SqT K H a xs → xs[n - 1 - i]? = some x, fun i H => i = n⟩
theorem turn_revT {P : Program} {w : World} {K : PySem.W.Frag} {tg : Expr} (a it : Addr) (n : Nat) : Turn P w K tg (Itvt K a n) [it] it (fun i h => i ≤ n ∧ PySem.Heap.IsRevT h it a ((n : Int) - 1 - (i : Int))) where
  mem := by simp
  obj := fun i h st b hb => by
    have e : b = it := by simpa using hb
    subst e
    obtain ⟨_, o, e, c, d⟩ := st
    exact ⟨o, e, fun v z => by rw [d] at z; cases z⟩
  keep := fun i h h' st k => ⟨st.1, st.2.at fun o e => k it (by simp) o e⟩
  item := by
    intro X hP hw hK hc i pins s σ H E I hf st hg
    subst hP hw hK
    obtain ⟨hi, xs, hq, hn⟩ := hg
    obtain ⟨its, rv, p, hz⟩ := I.tuple hq
    have hj : n - 1 - i < xs.length := by omega
    obtain ⟨u, hu, ru⟩ := rv.get (i := n - 1 - i) (x := xs[n - 1 - i]) (by simp [hj])
    obtain ⟨f0, f1, f2, f3, f4, f5⟩ := hf it (by simp)
    have e : (n : Int) - 1 - (i : Int) = ((n - 1 - i : Nat) : Int) := by omega
    have st2 := st.2
    rw [e] at st2
    have hzz : its.toArray.size < 2 ^ 60 := by
      rw [List.size_toArray, ← rv.length]
      exact Nat.lt_of_le_of_lt hz (by decide)
    refine pyNext_revT_item st2 p (x := u) (by simpa using hu) hzz fun h' tk st' sb => ?_
    have I1 : Inv X pins σ H { s with heap := h', toks := tk } := I.turned (t' := tk) (fun b o hb e => (sb.2 b hb).trans e) f0 f1 f3 f4 f5
    obtain ⟨o, eo, c, d⟩ := id st'
    refine ⟨u, rfl, go_of (s := { s with heap := h', toks := tk }) eo c d (by decide) ⟨xs[n - 1 - i], H, I1, ru, ⟨rfl, fun ys hy => by rw [I.tuple_inj hy hq]; simp [hj]⟩, ⟨by omega, ?_⟩, fun b hb => (hf b hb).1⟩⟩
    have e2 : (n : Int) - 1 - ((i + 1 : Nat) : Int) = ((n - 1 - i : Nat) : Int) - 1 := by omega
    rw [e2]
    exact st'
  done := by
    intro X hP hw hK hc i pins s σ H E I hf st hg
    subst hP hw hK
    have hg' : i = n := hg
    obtain ⟨f0, f1, f2, f3, f4, f5⟩ := hf it (by simp)
    have e : (n : Int) - 1 - (i : Int) = -1 := by omega
    have st2 := st.2
    rw [e] at st2
    exact pyNext_revT_end (I.ok.hd hc) st2 fun h' eb => ⟨rfl, I.turned (t' := s.toks) (fun b o hb e => eb b o hb e) f0 f1 f3 f4 f5⟩
  self := fun _ _ _ _ _ st h => pyIter_revT st.2 h
section
variable {X : Cx} {tg : Expr}
def iRevT (K : PySem.W.Frag) (ta : TA) : TI := fun σ H R => ta σ H fun vs H1 => ∃ a xs, vs = [.ref a] ∧ SqT K H1 a xs ∧ R (Itvt K a xs.length) H1
theorem pi_revT {a : Expr} {ta : TA} {p pos : Pos} (hg : Gl X "reversed") (hm : X.mg "reversed" = none) (ha : PA X [a] ta) (hs : starEach [a] X.env = [(false, eval a X.env)] := by rfl) : PI X tg (.Call (.Name "reversed" p) [a] [] pos) (iRevT X.K ta) := by
  intro pins s σ H R I h
  refine Call_ (ld_blt I hg hm bt_reversed (PyProof.Rows.callWith_type1 (thn (ha pos pins s σ H _ I h) fun us s1 ⟨vs, H1, I1, r1, q1⟩ => ?_) hs rfl))
  obtain ⟨l, xs, e, hq, q⟩ := q1
  subst e
  cases r1 with
  | cons r rr =>
    cases rr
    cases r
    obtain ⟨its, rv, pl, hz⟩ := I1.tuple hq
    have hlen := rv.length
    have hfit : (its.toArray.size : Int) < 2 ^ 63 := by
      have : its.toArray.size ≤ sizeLine := by rw [List.size_toArray, ← hlen]; exact hz
      have h2 : (sizeLine : Int) < 2 ^ 63 := by decide
      omega
    refine call_reversed_tuple pl hfit fun tk => ?_
    have I2 : Inv X pins σ H1 { s1 with heap := s1.heap.push (revTObj l ((its.toArray.size : Int) - 1)), toks := tk } := I1.kept (t' := tk) fun b o e => Heap.get?_push_of_some _ e
    have hit : PySem.Heap.IsRevT (s1.heap.push (revTObj l ((its.toArray.size : Int) - 1))) s1.heap.objs.size l ((xs.length : Int) - 1 - ((0 : Nat) : Int)) := by
      refine ⟨_, Heap.get?_push_size _ rfl, rfl, ?_⟩
      have e : ((its.toArray.size : Int) - 1) = (xs.length : Int) - 1 - ((0 : Nat) : Int) := by rw [List.size_toArray]; omega
      rw [← e]
      rfl
    refine pyIter_revT (s := { s1 with heap := s1.heap.push (revTObj l ((its.toArray.size : Int) - 1)), toks := tk }) hit ?_
    refine ⟨s1.heap.objs.size, [s1.heap.objs.size], _, _, H1, rfl, I2, turn_revT l _ xs.length, ⟨Nat.zero_le _, hit⟩, fun b hb => ?_, q⟩
    have e : b = s1.heap.objs.size := by simpa using hb
    subst e
    exact I1.fpOk (Nat.le_refl _) (I1.hok.fresh (Nat.le_refl _))
end
theorem for_revT {K : PySem.W.Frag} {a : Addr} {xs : List V} {g : TG} {tb : TS} {D : Ends} {σ : St} {H : Hp} (Pv : Nat → St → Hp → Prop) (h0 : Pv 0 σ H) (hl : ∀ i σ H, i ≤ xs.length → Pv i σ H → SqT K H a xs)
    (hs : ∀ i x σ H, i < xs.length → xs[xs.length - 1 - i]? = some x → Pv i σ H → g x σ H fun σ2 H2 => tb { D with nx := Pv (i + 1), ct := Pv (i + 1), bk := D.nx } σ2 H2) (hd : ∀ σ H, Pv xs.length σ H → D.nx σ H) :
    ∃ W : Nat → Nat → St → Hp → Prop, (∃ m, W 0 m σ H) ∧ ∀ i m σ H, W i m σ H →
      ((Itvt K a xs.length).stop i H ∧ D.nx σ H) ∨ ((Itvt K a xs.length).go i H ∧ ∃ N : St → Hp → Prop, (∀ σ' H', N σ' H' → ∃ m', m' < m ∧ W (i + 1) m' σ' H') ∧ ∀ x H', (Itvt K a xs.length).yld i H x H' → g x σ H' fun σ2 H2 => tb { D with nx := N, ct := N, bk := D.nx } σ2 H2) := by
  refine ⟨fun i m σ H => m = xs.length - i ∧ i ≤ xs.length ∧ Pv i σ H, ⟨xs.length, by simp, Nat.zero_le _, h0⟩, ?_⟩
  rintro i m σ H ⟨rfl, hi, p⟩
  have q := hl i σ H hi p
  by_cases hlt : i < xs.length
  · refine .inr ⟨⟨hlt, xs, q, rfl⟩, Pv (i + 1), fun σ' H' p' => ⟨xs.length - (i + 1), by omega, rfl, hlt, p'⟩, fun x H' y => ?_⟩
    obtain ⟨e, y⟩ := y
    subst e
    exact hs i x σ _ hlt (y xs q) p
  · have e : i = xs.length := by omega
    subst e
    exact .inl ⟨rfl, hd σ H p⟩
end L2

set_option Elab.async false
set_option linter.all false
set_option maxRecDepth 100000
set_option maxHeartbeats 8000000
namespace My
open PySem L2
def top (i : Nat) : Stmt := PySem.Challenge.pw_figuretell_k44_whole_counted.main.body.getD i (.Pass ⟨0, 0, 0, 0⟩)
abbrev s_is_whole : Stmt := top 4
abbrev s_is_whole_from : Stmt := top 5
abbrev s_need_whole : Stmt := top 6
abbrev s_figures : Stmt := top 7
abbrev s_halved : Stmt := top 8
abbrev s_goals_along : Stmt := top 10
abbrev s_count_below : Stmt := top 12
abbrev s_no_figures_yet : Stmt := top 13
abbrev s_counted_onward : Stmt := top 14
abbrev s_counts_on : Stmt := top 15
abbrev s__law_mixed : Stmt := top 17
abbrev s__law_spread : Stmt := top 18
abbrev s__law_number : Stmt := top 19
abbrev s__law_great : Stmt := top 20
abbrev s__law_whole : Stmt := top 21
abbrev s__law_rest : Stmt := top 22
abbrev s__law_machine : Stmt := top 23
abbrev s__law_sign_at : Stmt := top 24
abbrev s__law_one_more : Stmt := top 25
abbrev s__law_few : Stmt := top 26
abbrev s__law_all : Stmt := top 27
abbrev s_law : Stmt := top 28
/-! ### small helps -/
theorem iteD {c A B : Prop} [Decidable c] (h1 : c → A) (h2 : ¬ c → B) : if decide c = true then A else B := ite2 (fun h => h1 (of_decide_eq_true h)) fun h => h2 fun z => h (decide_eq_true z)
theorem iteDn {c A B : Prop} [Decidable c] (h1 : ¬ c → A) (h2 : c → B) : if (!decide c) = true then A else B := ite2 (fun h => h1 fun z => by rw [decide_eq_true z] at h; cases h) fun h => h2 (Decidable.byContradiction fun z => h (by rw [decide_eq_false z]; rfl))
theorem iteI {a b : Int} {A B : Prop} (h1 : a = b → A) (h2 : a ≠ b → B) : if decide (V.int a = V.int b) = true then A else B := iteD (fun h => h1 (V.int.inj h)) fun h => h2 fun z => h (congrArg V.int z)
theorem mul_in {a b m n : Int} (a0 : 0 ≤ a) (a1 : a ≤ m) (b0 : 0 ≤ b) (b1 : b ≤ n) : 0 ≤ a * b ∧ a * b ≤ m * n := ⟨Int.mul_nonneg a0 b0, Int.mul_le_mul a1 b1 b0 (Int.le_trans a0 a1)⟩
theorem mod_in {a b : Int} (h : 0 < b) : 0 ≤ a % b ∧ a % b < b := ⟨Int.emod_nonneg a (by omega), Int.emod_lt_of_pos a h⟩
theorem cut_seq {t u : TS} {D : Ends} {σ : St} {H : Hp} (R : St → Hp → Prop) (h2 : ∀ σ' H', R σ' H' → u D σ' H') (h1 : (∀ σ' H', R σ' H' → u D σ' H') → tSeq t u D σ H) : tSeq t u D σ H := h1 h2
theorem same_upd {H H' : Hp} {p : Addr} {o : HO} (h : Same H H') (hp : H p = none) : Same H (upd H' p o) := fun b u e => by rw [upd_ne (ne_of_none e hp)]; exact h b u e
def IntsIn (lo hi : Int) (ys : List V) : Prop := ∀ y ∈ ys, ∃ v : Int, y = .int v ∧ lo ≤ v ∧ v < hi
theorem IntsIn.nil {lo hi : Int} : IntsIn lo hi [] := fun y h => by cases h
theorem IntsIn.snoc {lo hi v : Int} {ys : List V} (h : IntsIn lo hi ys) (h0 : lo ≤ v) (h1 : v < hi) : IntsIn lo hi (ys ++ [.int v]) := fun y hy => by
  rcases List.mem_append.mp hy with z | z
  · exact h y z
  · rw [List.mem_singleton.mp z]; exact ⟨v, rfl, h0, h1⟩
/-- the ints of such a row -/
theorem IntsIn.ints {lo hi : Int} : ∀ {ys : List V}, IntsIn lo hi ys → ∃ ns : List Int, ys = ns.map V.int ∧ ∀ z ∈ ns, lo ≤ z ∧ z < hi
  | [], _ => ⟨[], rfl, fun z h => by cases h⟩
  | y :: r, h => by
    obtain ⟨v, e, h0, h1⟩ := h y List.mem_cons_self
    obtain ⟨ns, e2, h2⟩ := IntsIn.ints (ys := r) fun z hz => h z (List.mem_cons_of_mem _ hz)
    refine ⟨v :: ns, by rw [e, e2]; rfl, fun z hz => ?_⟩
    rcases List.mem_cons.mp hz with q | q
    · rw [q]; exact ⟨h0, h1⟩
    · exact h2 z q
theorem nat_of {x : Int} (h : 0 ≤ x) : ∃ n : Nat, x = (n : Int) := ⟨x.toNat, by omega⟩
theorem getD_at {α : Type} {xs : List α} {i : Nat} {d : α} (h : i < xs.length) : xs.getD i d = xs[i] := by simp [h]
/-- a place of a row of ints -/
theorem atI_ints {ns : List Int} {k : Int} (h0 : 0 ≤ k) (h : k < (ns.length : Int)) : atI (ns.map V.int) k = some (.int (ns.getD k.toNat 0)) := by
  have hk : k.toNat < ns.length := by omega
  have ek : k = ((k.toNat : Nat) : Int) := by omega
  have q : atI (ns.map V.int) ((k.toNat : Nat) : Int) = some (.int ns[k.toNat]) := atI_nat (by rw [List.getElem?_map, List.getElem?_eq_getElem hk] <;> rfl)
  rw [← ek] at q
  rw [q, getD_at hk]
theorem atI_refs {ras : List Addr} {k : Int} {ra : Addr} (h0 : 0 ≤ k) (h : ras[k.toNat]? = some ra) : atI (ras.map V.ref) k = some (.ref ra) := by
  have ek : k = ((k.toNat : Nat) : Int) := by omega
  have q : atI (ras.map V.ref) ((k.toNat : Nat) : Int) = some (.ref ra) := atI_nat (by rw [List.getElem?_map, h] <;> rfl)
  rw [← ek] at q
  exact q
/-- ints -/
theorem ints_at {ns : List Int} {i : Nat} {y : V} (h : (ns.map V.int)[i]? = some y) : ∃ z, y = V.int z ∧ ns[i]? = some z := by
  rw [List.getElem?_map] at h
  cases e : ns[i]? with
  | none => rw [e] at h; cases h
  | some z => rw [e] at h; exact ⟨z, (Option.some.inj h).symm, rfl⟩
theorem cut_front {ns : List Int} {c : Nat} : cutV (ns.map V.int) none (some (c : Int)) = (ns.take c).map V.int := by
  unfold cutV
  rw [HT.sIx_none, HT.sIx_nat, List.length_map, List.drop_zero, Nat.sub_zero]
  rw [← List.map_take]
  congr 1
  rcases Nat.le_total c ns.length with h | h
  · rw [Nat.min_eq_left h]
  · rw [Nat.min_eq_right h, List.take_length, List.take_of_length_le h]
/-! ### machines as data -/
def stepI (rows : List (List Int)) (h f : Int) : Int := (rows.getD h.toNat []).getD f.toNat 0
def walkI (rows : List (List Int)) (row : List Int) (h : Int) : Int := row.foldl (stepI rows) h
/-- many rooms, wide figures -/
structure RowsOk (many wide : Nat) (rows : List (List Int)) : Prop where
  len : rows.length = many
  row : ∀ r ∈ rows, r.length = wide
  val : ∀ r ∈ rows, ∀ v ∈ r, 0 ≤ v ∧ v < (many : Int)
theorem stepI_ok {many wide : Nat} {rows : List (List Int)} {h f : Int} (R : RowsOk many wide rows) (h0 : 0 ≤ h) (h1 : h < many) (f0 : 0 ≤ f) (f1 : f < wide) : 0 ≤ stepI rows h f ∧ stepI rows h f < many := by
  have l1 : h.toNat < rows.length := by rw [R.len]; omega
  have l2 : f.toNat < rows[h.toNat].length := by rw [R.row _ (List.getElem_mem l1)]; omega
  unfold stepI
  rw [getD_at l1, getD_at l2]
  exact R.val _ (List.getElem_mem l1) _ (List.getElem_mem l2)
/-- the rows stand as tuples -/
def RowsAt (H : Hp) : List Addr → List (List Int) → Prop := Paired fun a r => H a = some (.tup (r.map V.int))
theorem RowsAt.length {H : Hp} {ras : List Addr} {rows : List (List Int)} (h : RowsAt H ras rows) : ras.length = rows.length := Paired.length h
theorem RowsAt.get : ∀ {H : Hp} {ras : List Addr} {rows : List (List Int)} {i : Nat}, RowsAt H ras rows → (h : i < rows.length) → ∃ ra, ras[i]? = some ra ∧ H ra = some (.tup (rows[i].map V.int))
  | _, _, _, _, .nil, h => by simp at h
  | _, _, _, 0, .cons (a := a) r _, _ => ⟨a, rfl, r⟩
  | _, _, _, i + 1, .cons _ t, h => by
    obtain ⟨ra, h1, h2⟩ := RowsAt.get (i := i) t (by simpa using h)
    exact ⟨ra, by simpa using h1, by simpa using h2⟩
theorem RowsAt.same {H H' : Hp} {ras : List Addr} {rows : List (List Int)} (h : RowsAt H ras rows) (s : ∀ b xs, H b = some (.tup xs) → H' b = some (.tup xs)) : RowsAt H' ras rows := Paired.mapP h fun _ _ q => s _ _ q
theorem RowsAt.snoc : ∀ {H : Hp} {ras : List Addr} {rows : List (List Int)} {a : Addr} {r : List Int}, RowsAt H ras rows → H a = some (.tup (r.map V.int)) → RowsAt H (ras ++ [a]) (rows ++ [r])
  | _, _, _, _, _, .nil, h => .cons h .nil
  | _, _, _, _, _, .cons q t, h => .cons q (RowsAt.snoc t h)
structure MachAt (H : Hp) (m r g : Addr) (wide : Nat) (rows : List (List Int)) (signs : List Int) : Prop where
  tup : H m = some (.tup [.int wide, .ref r, .ref g])
  rows : ∃ ras, H r = some (.tup (ras.map V.ref)) ∧ RowsAt H ras rows
  sgn : H g = some (.tup (signs.map V.int))
theorem MachAt.same {H H' : Hp} {m r g : Addr} {wide : Nat} {rows : List (List Int)} {signs : List Int} (M : MachAt H m r g wide rows signs) (s : ∀ b xs, H b = some (.tup xs) → H' b = some (.tup xs)) : MachAt H' m r g wide rows signs := by
  obtain ⟨h1, ⟨ras, h2, h3⟩, h4⟩ := M
  exact ⟨s _ _ h1, ⟨ras, s _ _ h2, h3.same s⟩, s _ _ h4⟩
/-- rows[h][f] -/
theorem row_step {H : Hp} {ras : List Addr} {rows : List (List Int)} {many wide : Nat} {h f : Int} (A : RowsAt H ras rows) (R : RowsOk many wide rows) (h0 : 0 ≤ h) (h1 : h < many) (f0 : 0 ≤ f) (f1 : f < wide) :
    ∃ (ra : Addr) (r : List Int), atI (ras.map V.ref) h = some (.ref ra) ∧ H ra = some (.tup (r.map V.int)) ∧ atI (r.map V.int) f = some (.int (stepI rows h f)) := by
  have l1 : h.toNat < rows.length := by rw [R.len]; omega
  have l2 : rows[h.toNat].length = wide := R.row _ (List.getElem_mem l1)
  obtain ⟨ra, e1, e2⟩ := A.get l1
  refine ⟨ra, rows[h.toNat], atI_refs h0 e1, e2, ?_⟩
  rw [atI_ints f0 (by rw [l2]; exact f1)]
  unfold stepI
  rw [getD_at l1]
/-! ### figures: the mathematics -/
def valB (b : Int) : List Int → Int
  | [] => 0
  | p :: r => p + b * valB b r
def halve (m : Int) : List Int → List Int
  | [] => []
  | p :: r => p % m :: p / m :: halve m r
def InB (b : Int) (ps : List Int) : Prop := ∀ p ∈ ps, 0 ≤ p ∧ p < b
theorem InB.nil {b : Int} : InB b [] := fun p h => by cases h
theorem InB.cons {b p : Int} {r : List Int} (h0 : 0 ≤ p) (h1 : p < b) (h : InB b r) : InB b (p :: r) := fun x hx => by
  rcases List.mem_cons.mp hx with z | z
  · rw [z]; exact ⟨h0, h1⟩
  · exact h x z
theorem InB.tail {b p : Int} {r : List Int} (h : InB b (p :: r)) : InB b r := fun x hx => h x (List.mem_cons_of_mem _ hx)
theorem halve_len (m : Int) : ∀ ps : List Int, (halve m ps).length = 2 * ps.length
  | [] => rfl
  | p :: r => by simp only [halve, List.length_cons, halve_len m r]; omega
theorem halve_in {m : Int} (hm : 0 < m) : ∀ {ps : List Int}, InB (m * m) ps → InB m (halve m ps)
  | [], _ => InB.nil
  | p :: r, h => by
    have hp := h p List.mem_cons_self
    have d0 : 0 ≤ p / m := Int.ediv_nonneg hp.1 (Int.le_of_lt hm)
    have d1 : p / m < m := Int.ediv_lt_of_lt_mul hm hp.2
    exact InB.cons (Int.emod_nonneg p (by omega)) (Int.emod_lt_of_pos p hm) (InB.cons d0 d1 (halve_in hm h.tail))
theorem halve_val (m : Int) : ∀ ps : List Int, valB m (halve m ps) = valB (m * m) ps
  | [] => rfl
  | p :: r => by
    have e := Int.emod_add_mul_ediv p m
    simp only [halve, valB, halve_val m r]
    rw [Int.mul_add, ← Int.add_assoc, e, Int.mul_assoc]
theorem halve_append (m : Int) : ∀ (ps : List Int) (x : Int), halve m (ps ++ [x]) = halve m ps ++ [x % m, x / m]
  | [], x => rfl
  | p :: r, x => by simp only [List.cons_append, halve, halve_append m r x]
theorem valB_nonneg {b : Int} (hb : 0 ≤ b) : ∀ {ps : List Int}, InB b ps → 0 ≤ valB b ps
  | [], _ => Int.le_refl 0
  | p :: r, h => Int.add_nonneg (h p List.mem_cons_self).1 (Int.mul_nonneg hb (valB_nonneg hb h.tail))
theorem valB_append (b : Int) : ∀ (ps qs : List Int), valB b (ps ++ qs) = valB b ps + b ^ ps.length * valB b qs
  | [], qs => by simp [valB]
  | p :: r, qs => by
    simp only [List.cons_append, valB, valB_append b r qs, List.length_cons]
    rw [Int.mul_add, Int.pow_succ, Int.add_assoc, ← Int.mul_assoc, Int.mul_comm b (b ^ r.length)]
theorem valB_snoc (b : Int) (ps : List Int) (x : Int) : valB b (ps ++ [x]) = valB b ps + x * b ^ ps.length := by
  rw [valB_append]
  simp [valB, Int.mul_comm]
/-- w, w * w, (w * w) * (w * w), .. -/
def pw (w : Int) : Nat → Int
  | 0 => w
  | i + 1 => pw w i * pw w i
theorem pw_two {w : Int} (h : 2 ≤ w) : ∀ i, 2 ≤ pw w i
  | 0 => h
  | i + 1 => by
    have q := pw_two h i
    have := Int.mul_le_mul q q (by decide) (by omega)
    show 2 ≤ pw w i * pw w i
    omega
theorem pw_lt {w : Int} (h : 2 ≤ w) (i : Nat) : pw w i < pw w (i + 1) := by
  have q := pw_two h i
  have := Int.mul_le_mul q (Int.le_refl (pw w i)) (by omega) (by omega)
  show pw w i < pw w i * pw w i
  omega
theorem pw_ge {w : Int} (h : 2 ≤ w) : ∀ i : Nat, (2 : Int) ^ (2 ^ i) ≤ pw w i
  | 0 => by simpa [pw] using h
  | i + 1 => by
    have q := pw_ge h i
    have e : (2 : Int) ^ (2 ^ (i + 1)) = 2 ^ (2 ^ i) * 2 ^ (2 ^ i) := by
      rw [Nat.pow_succ, Nat.mul_two, Int.pow_add]
    rw [e]
    have p0 : (0 : Int) ≤ 2 ^ (2 ^ i) := Int.le_of_lt (Int.pow_pos (by decide))
    exact Int.mul_le_mul q q p0 (Int.le_trans p0 q)
/-- the numbers asked about -/
def NB : Int := 2 ^ 1100
theorem NB_big : NB * NB < BIG := by decide +kernel
theorem NB_pos : 2 < NB := by decide +kernel
theorem pw_few {w n : Int} {t : Nat} (h : 2 ≤ w) (hp : pw w t ≤ n) (hn : n < NB) : 2 ^ t < 1100 := by
  have q := pw_ge h t
  have q2 : (2 : Int) ^ (2 ^ t) < 2 ^ 1100 := Int.lt_of_le_of_lt (Int.le_trans q hp) hn
  have q3 : (2 : Nat) ^ (2 ^ t) < 2 ^ 1100 := by exact_mod_cast q2
  exact (Nat.pow_lt_pow_iff_right (by decide)).mp q3
def pws (w : Int) (t : Nat) : List Int := (List.range t).map (pw w)
theorem pws_succ (w : Int) (t : Nat) : pws w (t + 1) = pws w t ++ [pw w t] := by
  unfold pws
  rw [List.range_succ, List.map_append]
  rfl
theorem pws_len (w : Int) (t : Nat) : (pws w t).length = t := by simp [pws]
theorem pws_get {w : Int} {t i : Nat} (h : i < t) : (pws w t)[i]? = some (pw w i) := by simp [pws, h]
/-- the figures of a number: those that come to it, the last one not 0 -/
structure Figs (w n : Int) (ds : List Int) : Prop where
  inb : InB w ds
  val : valB w ds = n
  top : ∀ d, ds.getLast? = some d → d ≠ 0
theorem last_cases (ds : List Int) : ds = [] ∨ ∃ r x, ds = r ++ [x] := by
  rcases List.eq_nil_or_concat ds with h | ⟨r, x, h⟩
  · exact .inl h
  · exact .inr ⟨r, x, by simpa using h⟩
/-! ### figures: the program -/
def spWhole : Sp := fun vs H Q _ => ∃ z : Int, vs = [.int z] ∧ Q (.bl true) H
def spFrom : Sp := fun vs H Q _ => ∃ z y : Int, vs = [.int z, .int y] ∧ Q (.bl (decide (y ≤ z))) H
def spNeed : Sp := fun vs H Q _ => ∃ (z y : Int) (x : Str), vs = [.int z, .int y, .str x] ∧ y ≤ z ∧ Q .non H
def spHalved (K : PySem.W.Frag) : Sp := fun vs H Q _ => ∃ (a : Addr) (m : Int) (ps : List Int), vs = [.ref a, .int m] ∧ SqL K H a (ps.map V.int) ∧ ps.length ≤ 5000 ∧ (0 < m ∧ m < BIG) ∧
  ∀ (l : Addr) (H' : Hp), Same H H' → H l = none → H' l = some (.lst ((halve m ps).map V.int)) → Q (.ref l) H'
def spFigures (K : PySem.W.Frag) : Sp := fun vs H Q _ => ∃ n w : Int, vs = [.int n, .int w] ∧ (0 ≤ n ∧ n < NB) ∧ (2 ≤ w ∧ w < NB) ∧
  ∀ (t : Addr) (H' : Hp) (ds : List Int), Same H H' → H' t = some (.tup (ds.map V.int)) → Figs w n ds → ds.length ≤ 5000 → Q (.ref t) H'
section
variable {P : Program} {w : World} {K : PySem.W.Frag} {mg : Str → Option Value} {base : Heap} {f : Addr} {fd : FuncData} {dV : Value}
theorem sc_is_whole : FnScope ["thing"] ["thing"] (defScope s_is_whole) := ⟨rfl, rfl, rfl, by decide +kernel, rfl, by decide +kernel, by decide +kernel⟩
theorem sc_is_whole_from : FnScope ["thing", "least"] ["thing", "least"] (defScope s_is_whole_from) := ⟨rfl, rfl, rfl, by decide +kernel, rfl, by decide +kernel, by decide +kernel⟩
theorem sc_need_whole : FnScope ["thing", "least", "called"] ["thing", "least", "called"] (defScope s_need_whole) := ⟨rfl, rfl, rfl, by decide +kernel, rfl, by decide +kernel, by decide +kernel⟩
theorem sc_figures : FnScope ["number", "wide", "powers", "power", "parts", "middle"] ["number", "wide"] (defScope s_figures) := ⟨rfl, rfl, rfl, by decide +kernel, rfl, by decide +kernel, by decide +kernel⟩
theorem sc_halved : FnScope ["parts", "middle", "halves", "part"] ["parts", "middle"] (defScope s_halved) := ⟨rfl, rfl, rfl, by decide +kernel, rfl, by decide +kernel, by decide +kernel⟩
theorem ok_is_whole (F : FunD K "is_whole" "is_whole" s_is_whole dV f fd) (z_isinstance : mg "isinstance" = none) (z_int : mg "int" = none) (z_bool : mg "bool" = none) : FnOk P w K mg base CX0 1 f fd ["thing"] spWhole := by
  refine F.ok sc_is_whole (fun vs H Q E h => ?_) (fun cdv A outer s H vs Q E hr h => ?_)
  · obtain ⟨z, rfl, _⟩ := h
    rfl
  obtain ⟨z, rfl, q⟩ := h
  refine ⟨_, (pss_one (ps_ret (pe_and (pe_callB call_isi (by rfl) z_isinstance bt_isinstance (pa_cons (pv 0) (pa_cons (pe_bltn (v := .ty "int") rfl z_int bt_int rfl) pa_nil))) (pe_one (pe_not (pe_callB call_isi (by rfl) z_isinstance bt_isinstance (pa_cons (pv 0) (pa_cons (pe_bltn (v := .ty "bool") rfl z_bool bt_bool rfl) pa_nil)))))))), ?_⟩
  refine ⟨_, rfl, _, _, _, _, rfl, TyOf.int z, kit_int_int K, _, rfl, iteT ?_⟩
  exact ⟨_, rfl, _, _, _, _, rfl, TyOf.int z, kit_int_bool K, _, rfl, q⟩
theorem ok_from (F : FunD K "is_whole_from" "is_whole_from" s_is_whole_from dV f fd) (G_is_whole : DefOk P w K mg base "is_whole" 1 ["thing"] [] spWhole) : FnOk P w K mg base CX0 2 f fd ["thing", "least"] spFrom := by
  refine F.ok sc_is_whole_from (fun vs H Q E h => ?_) (fun cdv A outer s H vs Q E hr h => ?_)
  · obtain ⟨z, y, rfl, _⟩ := h
    rfl
  obtain ⟨z, y, rfl, q⟩ := h
  refine ⟨_, (pss_one (ps_ret (pe_and (pe_cd G_is_whole hr (pa_cons (pv 0) pa_nil)) (pe_one (pe_cmpR op_ge (pv 0) (pv 1) (nomark _)))))), ?_⟩
  exact ⟨_, rfl, z, rfl, _, rfl, iteT ⟨_, rfl, _, rfl, _, _, rfl, rfl, q⟩⟩
theorem ok_need (F : FunD K "need_whole" "need_whole" s_need_whole dV f fd) (G_is_whole_from : DefOk P w K mg base "is_whole_from" 2 ["thing", "least"] [] spFrom) : FnOk P w K mg base CX0 3 f fd ["thing", "least", "called"] spNeed := by
  refine F.ok sc_need_whole (fun vs H Q E h => ?_) (fun cdv A outer s H vs Q E hr h => ?_)
  · obtain ⟨z, y, x, rfl, _⟩ := h
    rfl
  obtain ⟨z, y, x, rfl, hy, q⟩ := h
  refine ⟨_, (pss_one (ps_if (pt_not (pt_val (pe_cd G_is_whole_from hr (pa_cons (pv 0) (pa_cons (pv 1) pa_nil))))) (pss_one ps_never) pss_nil)), ?_⟩
  refine ⟨_, rfl, _, rfl, z, y, rfl, _, rfl, iteNS hy ?_⟩
  exact q
theorem ok_halved (F : FunD K "halved" "halved" s_halved dV f fd) : FnOk P w K mg base CX0 1 f fd ["parts", "middle"] (spHalved K) := by
  refine F.ok sc_halved (fun vs H Q E h => ?_) (fun cdv A outer s H vs Q E hr h => ?_)
  · obtain ⟨a, m, ps, rfl, _⟩ := h
    rfl
  obtain ⟨a, m, ps, rfl, hS, hl, ⟨m0, m1⟩, k⟩ := h
  refine ⟨_, (pss_cons (ps_set (i := 2) sc_halved.nd rfl (Or.inl rfl) (pe_lst pa_nil))
      (pss_cons (ps_for PassesOwn.never rfl (pi_list (pv 0)) (pg_name (i := 3) sc_halved.nd rfl (Or.inl rfl)) (pss_cons (ps_expr (pe_bm PySem.F.plainAttrs_list PySem.F.slot_list_append PySem.F.type_list_append mt_append (pv 2) (pa_cons (pe_op op_mod (pv 3) (pv 1)) pa_nil)))
      (pss_one (ps_expr (pe_bm PySem.F.plainAttrs_list PySem.F.slot_list_append PySem.F.type_list_append mt_append (pv 2) (pa_cons (pe_op op_fdivB (pv 3) (pv 1)) pa_nil))))))
      (pss_one (ps_ret (pv 2))))), ?_⟩
  refine ⟨(by show 0 ≤ sizeLine; decide), fun l hl0 => ?_⟩
  refine ⟨_, rfl, a, rfl, ⟨_, (same_new hl0 _).seq hS⟩, for_list (K := K) (xs := ps.map V.int) (fun i σ' H' => ∃ v, σ' = [some (.ref a), some (.int m), some (.ref l), v] ∧ Same H H' ∧ H' l = some (.lst ((halve m (ps.take i)).map V.int)))
    ⟨none, rfl, same_new hl0 _, upd_same⟩ (fun i σ' H' _ ⟨_, _, s, _⟩ => s.seq hS) ?_ ?_⟩
  · rintro i y σ' H' hi ⟨v, rfl, s1, h1⟩
    obtain ⟨z, rfl, hz⟩ := ints_at hi
    have hi' : i < ps.length := (List.getElem?_eq_some_iff.mp hz).1
    have l1 : ((halve m (ps.take i)).map V.int).length ≤ 10000 := by
      rw [List.length_map, halve_len, List.length_take]
      omega
    have big : 10002 < sizeLine := by decide
    refine ⟨_, rfl, .inl ⟨rfl, _, SqL.of h1⟩, _, rfl, _, rfl, _, _, rfl, rfl, m0, l, _, _, rfl, rfl, h1, by omega, ?_⟩
    refine ⟨_, rfl, .inl ⟨rfl, _, SqL.of upd_same⟩, _, rfl, _, rfl, _, _, rfl, rfl, ⟨m0, m1⟩, l, _, _, rfl, rfl, upd_same, by rw [List.length_append]; simp only [List.length_singleton]; omega, ?_⟩
    refine ⟨_, rfl, same_upd (same_upd s1 hl0) hl0, ?_⟩
    rw [upd_same, List.take_add_one, hz]
    show _ = some (HO.lst ((halve m (ps.take i ++ [z])).map V.int))
    rw [halve_append, List.map_append, List.append_assoc]
    rfl
  · rintro σ' H' ⟨v, rfl, s1, h1⟩
    rw [List.length_map, List.take_length] at h1
    exact ⟨_, rfl, k l H' s1 hl0 h1⟩
theorem ok_figures (F : FunD K "figures" "figures" s_figures dV f fd) (G_need_whole : DefOk P w K mg base "need_whole" 3 ["thing", "least", "called"] [] spNeed) (G_halved : DefOk P w K mg base "halved" 1 ["parts", "middle"] [] (spHalved K))
    (z_reversed : mg "reversed" = none) (z_tuple : mg "tuple" = none) : FnOk P w K mg base CX0 4 f fd ["number", "wide"] (spFigures K) := by
  refine F.ok sc_figures (fun vs H Q E h => ?_) (fun cdv A outer s H vs Q E hr h => ?_)
  · obtain ⟨n, w, rfl, _⟩ := h
    rfl
  obtain ⟨n, wd, rfl, ⟨n0, n1⟩, ⟨w0, w1⟩, k⟩ := h
  have hbig : ∀ {x y : Int}, 0 ≤ x → x < NB → 0 ≤ y → y < NB → x * y < BIG := fun {x y} hx hx' hy hy' =>
    Int.lt_of_le_of_lt (Int.mul_le_mul (Int.le_of_lt hx') (Int.le_of_lt hy') hy (Int.le_trans hx (Int.le_of_lt hx'))) NB_big
  have nbig : ∀ {x : Int}, 0 ≤ x → x < NB → x < BIG := fun {x} hx hx' => by
    have := NB_pos
    have := NB_big
    have q : NB * 1 ≤ NB * NB := Int.mul_le_mul (Int.le_refl _) (by omega) (by decide) (by omega)
    omega
  refine ⟨_, (pss_cons (ps_expr (pe_cd G_need_whole hr (pa_cons (pv 0) (pa_cons pe_int (pa_cons pe_str pa_nil)))))
      (pss_cons (ps_expr (pe_cd G_need_whole hr (pa_cons (pv 1) (pa_cons pe_int (pa_cons pe_str pa_nil)))))
      (pss_cons (ps_set (i := 2) sc_figures.nd rfl (Or.inl rfl) (pe_lst pa_nil))
      (pss_cons (ps_set (i := 3) sc_figures.nd rfl (Or.inl rfl) (pv 1))
      (pss_cons (ps_while PassesOwn.never (pt_cmpR op_le (pv 3) (pv 0) (nomark _)) (pss_cons (ps_expr (pe_bm PySem.F.plainAttrs_list PySem.F.slot_list_append PySem.F.type_list_append mt_append (pv 2) (pa_cons (pv 3) pa_nil)))
      (pss_one (ps_set (i := 3) sc_figures.nd rfl (Or.inl rfl) (pe_op op_mulB (pv 3) (pv 3))))))
      (pss_cons (ps_set (i := 4) sc_figures.nd rfl (Or.inl rfl) (pe_lst (pa_cons (pv 0) pa_nil)))
      (pss_cons (ps_for PassesOwn.never rfl (pi_rev rfl z_reversed (pa_cons (pv 2) pa_nil)) (pg_name (i := 5) sc_figures.nd rfl (Or.inl rfl)) (pss_one (ps_set (i := 4) sc_figures.nd rfl (Or.inl rfl) (pe_cd G_halved hr (pa_cons (pv 4) (pa_cons (pv 5) pa_nil))))))
      (pss_cons (ps_while PassesOwn.never (PW.pt (pw_and (pt_truth (pv 4) (fun _ => rfl)) (pw_and1 (pt_cmpR op_eq (pe_ix ix_list (pv 4) (pe_un un_neg pe_int) (fun _ _ => rfl)) pe_int (nomark _))))) (pss_one (ps_expr (pe_bm0 PySem.F.plainAttrs_list PySem.F.slot_list_pop PySem.F.type_list_pop mt_pop (pv 4)))))
      (pss_one (ps_ret (pe_callTy call_tuple_of (by rfl) z_tuple bt_tuple (pa_cons (pv 4) pa_nil)))))))))))), ?_⟩
  refine ⟨_, rfl, n, 0, _, rfl, n0, ?_⟩
  refine ⟨_, rfl, wd, 2, _, rfl, w0, ?_⟩
  -- powers = []; power = wide
  refine ⟨(by show 0 ≤ sizeLine; decide), fun L hL => ?_⟩
  refine ⟨_, rfl, ?_⟩
  -- while power <= number
  try dsimp only [gName]
  refine cut_seq (t := tWhile _ _) (fun σ' H' => ∃ t : Nat, σ' = [some (.int n), some (.int wd), some (.ref L), some (.int (pw wd t)), none, none] ∧ Same H H' ∧ H' L = some (.lst ((pws wd t).map V.int)) ∧ n < pw wd t ∧ (t = 0 ∨ pw wd (t - 1) ≤ n)) ?_ (fun nxt => ?_)
  rotate_left
  · refine while_W (fun m σ' H' => ∃ t : Nat, m = (n + 1 - pw wd t).toNat ∧ σ' = [some (.int n), some (.int wd), some (.ref L), some (.int (pw wd t)), none, none] ∧ Same H H' ∧ H' L = some (.lst ((pws wd t).map V.int)) ∧ (t = 0 ∨ pw wd (t - 1) ≤ n))
      ⟨_, 0, rfl, rfl, same_new hL _, upd_same, .inl rfl⟩ ?_
    rintro m σ' H' ⟨t, rfl, rfl, s1, h1, ht⟩
    refine ⟨_, rfl, _, rfl, _, _, rfl, rfl, _, rfl, iteD (fun c => ?_) (fun c => ?_)⟩
    · have c' : pw wd t ≤ n := c
      have p2 := pw_two w0 t
      have few := pw_few w0 c' n1
      have lt2 : t < 2 ^ t := Nat.lt_two_pow_self
      have plt := pw_lt w0 t
      refine ⟨fun σ' H' => ∃ m', m' < (n + 1 - pw wd t).toNat ∧ ∃ t : Nat, m' = (n + 1 - pw wd t).toNat ∧ σ' = [some (.int n), some (.int wd), some (.ref L), some (.int (pw wd t)), none, none] ∧ Same H H' ∧ H' L = some (.lst ((pws wd t).map V.int)) ∧ (t = 0 ∨ pw wd (t - 1) ≤ n), fun σ' H' h => h, ?_⟩
      refine ⟨_, rfl, .inl ⟨rfl, _, SqL.of h1⟩, _, rfl, L, _, _, rfl, rfl, h1, ?_, ?_⟩
      · rw [List.length_map, pws_len]
        have big : (1101 : Nat) < sizeLine := by decide
        omega
      refine ⟨_, rfl, _, rfl, _, _, rfl, rfl, ⟨⟨by omega, nbig (by omega) (by omega)⟩, ⟨by omega, nbig (by omega) (by omega)⟩⟩, _, ?_, t + 1, rfl, rfl, same_upd s1 hL, ?_, .inr c'⟩
      · show (n + 1 - pw wd (t + 1)).toNat < _
        omega
      · rw [upd_same, pws_succ, List.map_append]
        rfl
    · exact nxt _ _ ⟨t, rfl, s1, h1, by omega, ht⟩
  rintro σ' H1 ⟨t, rfl, s1, h1, hn, ht⟩
  have few : 2 ^ t ≤ 2200 := by
    rcases ht with z | z
    · rw [z]; decide
    · rcases t with _ | t
      · decide
      · have := pw_few w0 z n1
        rw [Nat.pow_succ]
        simp only [Nat.add_sub_cancel] at this
        omega
  -- parts = [number]
  refine ⟨_, rfl, (by show 1 ≤ sizeLine; decide), fun D0 hD0 => ?_⟩
  have s2 := s1.trans (same_new hD0 (HO.lst [V.int n]))
  have nL : L ≠ D0 := ne_of_none h1 hD0
  -- for middle in reversed(powers)
  try dsimp only [gName]
  refine cut_seq (t := tFor _ _ _) (fun σ' H' => ∃ (D : Addr) (v : Option V) (ps : List Int), σ' = [some (.int n), some (.int wd), some (.ref L), some (.int (pw wd t)), some (.ref D), v] ∧ Same H H' ∧ H D = none ∧ H' D = some (.lst (ps.map V.int)) ∧ InB wd ps ∧ valB wd ps = n ∧ ps.length ≤ 2200) ?_ (fun nxt => ?_)
  rotate_left
  · refine ⟨_, rfl, L, _, rfl, SqL.of (by rw [upd_ne nL]; exact h1), for_rev (K := K) (xs := (pws wd t).map V.int) (fun i σ' H' => ∃ (D : Addr) (v : Option V) (ps : List Int), σ' = [some (.int n), some (.int wd), some (.ref L), some (.int (pw wd t)), some (.ref D), v] ∧ Same H1 H' ∧ H1 D = none ∧ H' D = some (.lst (ps.map V.int)) ∧ InB (pw wd (t - i)) ps ∧ valB (pw wd (t - i)) ps = n ∧ ps.length = 2 ^ i)
      ⟨D0, none, [n], rfl, same_new hD0 _, hD0, upd_same, InB.cons n0 hn InB.nil, by simp [valB], rfl⟩ (fun i σ' H' _ ⟨_, _, _, _, s, _⟩ => SqL.of (s _ _ h1)) ?_ ?_⟩
    · rintro i y σ' H' hi hy ⟨D, v, ps, rfl, s3, fD, hD, hin, hval, hlen⟩
      rw [List.length_map, pws_len] at hi
      rw [List.length_map, pws_len] at hy
      have e1 : t - i = (t - 1 - i) + 1 := by omega
      have e2 : t - (i + 1) = t - 1 - i := by omega
      obtain ⟨z, rfl, hz⟩ := ints_at hy
      rw [pws_get (show t - 1 - i < t by omega)] at hz
      cases hz
      rw [e1] at hin hval
      have hp := pw_two w0 (t - 1 - i)
      have hle : pw wd (t - 1 - i) ≤ n := by
        rcases ht with z | z
        · omega
        · have mono : ∀ a b : Nat, pw wd a ≤ pw wd (a + b) := fun a b => by
            induction b with
            | zero => exact Int.le_refl _
            | succ b ih => exact Int.le_trans ih (Int.le_of_lt (pw_lt w0 (a + b)))
          have := mono (t - 1 - i) i
          rw [show t - 1 - i + i = t - 1 by omega] at this
          omega
      have li : 2 ^ i ≤ 2 ^ t := Nat.pow_le_pow_right (by decide) (by omega)
      refine ⟨_, rfl, _, rfl, D, _, ps, rfl, SqL.of hD, by omega, ⟨by omega, nbig (by omega) (by omega)⟩, fun l H'' s4 fl hl => ?_⟩
      refine ⟨l, _, halve (pw wd (t - 1 - i)) ps, rfl, s3.trans s4, s3.free fl, hl, ?_, ?_, ?_⟩
      · rw [e2]; exact halve_in (by omega) hin
      · rw [e2, halve_val]; exact hval
      · rw [halve_len, hlen, Nat.pow_succ]; omega
    · rintro σ' H' ⟨D, v, ps, rfl, s3, fD, hD, hin, hval, hlen⟩
      rw [List.length_map, pws_len] at hin hval hlen
      rw [Nat.sub_self] at hin hval
      exact nxt _ _ ⟨D, v, ps, rfl, s1.trans s3, s1.free fD, hD, hin, hval, by omega⟩
  rintro σ' H2 ⟨D, v, ps, rfl, s3, fD, hD, hin, hval, hlen⟩
  -- while parts and parts[-1] == 0: parts.pop()
  try dsimp only [gName]
  refine cut_seq (t := tWhile _ _) (fun σ' H' => ∃ ps : List Int, σ' = [some (.int n), some (.int wd), some (.ref L), some (.int (pw wd t)), some (.ref D), v] ∧ Same H H' ∧ H' D = some (.lst (ps.map V.int)) ∧ Figs wd n ps ∧ ps.length ≤ 2200) ?_ (fun nxt => ?_)
  rotate_left
  · refine while_W (fun m σ' H' => ∃ ps : List Int, m = ps.length ∧ σ' = [some (.int n), some (.int wd), some (.ref L), some (.int (pw wd t)), some (.ref D), v] ∧ Same H H' ∧ H' D = some (.lst (ps.map V.int)) ∧ InB wd ps ∧ valB wd ps = n ∧ ps.length ≤ 2200) ⟨_, ps, rfl, rfl, s3, hD, hin, hval, hlen⟩ ?_
    rintro m σ' H' ⟨ps, rfl, rfl, s4, h4, hin, hval, hlen⟩
    rcases last_cases ps with rfl | ⟨r, x, rfl⟩
    · refine ⟨_, rfl, _, .inl ⟨_, SqL.of h4, rfl⟩, iteF (iteF ?_)⟩
      exact nxt _ _ ⟨[], rfl, s4, h4, ⟨hin, hval, fun d h => by cases h⟩, hlen⟩
    · have ix : atI ((r ++ [x]).map V.int) (-1) = some (.int x) := by
        rw [List.map_append]
        exact atI_last _ _
      refine ⟨_, rfl, _, .inl ⟨_, SqL.of h4, rfl⟩, ?_⟩
      have ne : (!((r ++ [x]).map V.int).isEmpty) = true := by simp
      rw [ne]
      refine iteT ⟨_, rfl, _, rfl, D, _, _, _, rfl, rfl, SqL.of h4, ix, rfl, _, rfl, iteI (fun c => ?_) (fun c => ?_)⟩
      · have hr : valB wd r = n := by
          rw [valB_snoc, c, Int.zero_mul, Int.add_zero] at hval
          exact hval
        refine ⟨fun σ' H' => ∃ m', m' < (r ++ [x]).length ∧ ∃ ps : List Int, m' = ps.length ∧ σ' = [some (.int n), some (.int wd), some (.ref L), some (.int (pw wd t)), some (.ref D), v] ∧ Same H H' ∧ H' D = some (.lst (ps.map V.int)) ∧ InB wd ps ∧ valB wd ps = n ∧ ps.length ≤ 2200, fun σ' H' h => h, ?_⟩
        refine ⟨_, rfl, .inl ⟨rfl, _, SqL.of h4⟩, D, _, V.int x, rfl, rfl, h4, by simp, ?_⟩
        · refine ⟨r.length, by simp, r, rfl, rfl, same_upd s4 fD, ?_, fun p hp => hin p (List.mem_append_left _ hp), hr, ?_⟩
          · rw [upd_same, List.map_append]
            show some (HO.lst ((r.map V.int ++ [V.int x]).dropLast)) = _
            rw [List.dropLast_concat]
          · rw [List.length_append] at hlen
            omega
      · exact nxt _ _ ⟨r ++ [x], rfl, s4, h4, ⟨hin, hval, fun d h => by
          rw [List.getLast?_concat] at h
          cases h
          exact c⟩, hlen⟩
  rintro σ' H3 ⟨ps, rfl, s4, h4, FG, hlen⟩
  refine ⟨_, rfl, D, _, rfl, .inl ⟨SqL.of h4, fun T hT => ?_⟩⟩
  exact k T _ ps (s4.trans (same_new hT _)) upd_same FG (by omega)
end
/-! ### numbers told back: the mathematics -/
def mergeB (m : Int) : List Int → List Int
  | [] => []
  | [p] => [p + m * 0]
  | p :: q :: r => (p + m * q) :: mergeB m r
theorem valB_lt {w : Int} (h : 0 < w) : ∀ {ps : List Int}, InB w ps → valB w ps < w ^ ps.length
  | [], _ => by simp [valB]
  | p :: r, hin => by
    have hp := hin p List.mem_cons_self
    have ih := valB_lt h hin.tail
    have : w * (valB w r + 1) ≤ w * w ^ r.length := Int.mul_le_mul_of_nonneg_left (by omega) (by omega)
    rw [Int.mul_add, Int.mul_one] at this
    rw [List.length_cons, Int.pow_succ, Int.mul_comm (w ^ r.length) w]
    show p + w * valB w r < _
    omega
theorem InB.append {b : Int} {ps qs : List Int} (h : InB b ps) (h' : InB b qs) : InB b (ps ++ qs) := fun x hx => (List.mem_append.mp hx).elim (h x) (h' x)
end My

set_option Elab.async false
set_option linter.all false
set_option maxRecDepth 100000
set_option maxHeartbeats 8000000
namespace My
open PySem L2
/-! ### how many rows lead where: sums -/
theorem pre_congr {f g : Nat → Int} : ∀ {n : Nat}, (∀ i, i < n → f i = g i) → preSum f n = preSum g n
  | 0, _ => rfl
  | n + 1, h => by
    show preSum f n + f n = preSum g n + g n
    rw [pre_congr fun i hi => h i (Nat.lt_succ_of_lt hi), h n (Nat.lt_succ_self n)]
theorem pre_zero : ∀ n : Nat, preSum (fun _ => (0 : Int)) n = 0
  | 0 => rfl
  | n + 1 => by show preSum (fun _ => (0 : Int)) n + 0 = 0; rw [pre_zero n]; rfl
theorem pre_add (f g : Nat → Int) : ∀ n : Nat, preSum (fun i => f i + g i) n = preSum f n + preSum g n
  | 0 => rfl
  | n + 1 => by
    show preSum (fun i => f i + g i) n + (f n + g n) = (preSum f n + f n) + (preSum g n + g n)
    rw [pre_add f g n]
    omega
theorem pre_mul (c : Int) (f : Nat → Int) : ∀ n : Nat, preSum (fun i => c * f i) n = c * preSum f n
  | 0 => (Int.mul_zero c).symm
  | n + 1 => by
    show preSum (fun i => c * f i) n + c * f n = c * (preSum f n + f n)
    rw [pre_mul c f n, Int.mul_add]
theorem pre_swap (f : Nat → Nat → Int) (m : Nat) : ∀ n : Nat, preSum (fun t => preSum (fun q => f q t) n) m = preSum (fun q => preSum (fun t => f q t) m) n
  | 0 => pre_zero m
  | n + 1 => by
    show preSum (fun t => preSum (fun q => f q t) n + f n t) m = preSum (fun q => preSum (fun t => f q t) m) n + preSum (fun t => f n t) m
    rw [pre_add (fun t => preSum (fun q => f q t) n) (fun t => f n t), pre_swap f m n]
theorem pre_nonneg {f : Nat → Int} : ∀ {n : Nat}, (∀ i, i < n → 0 ≤ f i) → 0 ≤ preSum f n
  | 0, _ => Int.le_refl _
  | n + 1, h => Int.add_nonneg (pre_nonneg fun i hi => h i (Nat.lt_succ_of_lt hi)) (h n (Nat.lt_succ_self n))
theorem pre_ge {f : Nat → Int} : ∀ {n i : Nat}, (∀ i, i < n → 0 ≤ f i) → i < n → f i ≤ preSum f n
  | 0, i, _, hi => absurd hi (Nat.not_lt_zero i)
  | n + 1, i, h, hi => by
    have h0 := pre_nonneg (n := n) (f := f) fun i hi => h i (Nat.lt_succ_of_lt hi)
    have hn := h n (Nat.lt_succ_self n)
    show f i ≤ preSum f n + f n
    rcases Nat.lt_or_eq_of_le (Nat.le_of_lt_succ hi) with z | z
    · have := pre_ge (n := n) (f := f) (fun i hi => h i (Nat.lt_succ_of_lt hi)) z
      omega
    · subst z; omega
/-- one at one place -/
theorem pre_one (x c : Int) : ∀ n : Nat, preSum (fun t => if (t : Int) = x then c else 0) n = if 0 ≤ x ∧ x < (n : Int) then c else 0
  | 0 => by
    show (0 : Int) = _
    rw [if_neg (by omega)]
  | n + 1 => by
    show preSum (fun t => if (t : Int) = x then c else 0) n + (if (n : Int) = x then c else 0) = _
    rw [pre_one x c n]
    by_cases h : (n : Int) = x
    · rw [if_pos h, if_neg (by omega), if_pos (by omega)]
      omega
    · rw [if_neg h]
      by_cases h2 : 0 ≤ x ∧ x < (n : Int)
      · rw [if_pos h2, if_pos (by omega)]
        omega
      · rw [if_neg h2, if_neg (by omega)]
        rfl
def cnt (row : List Int) (t : Int) : Int := preSum (fun i => if row.getD i 0 = t then 1 else 0) row.length
theorem cnt_all {many : Nat} {row : List Int} (h : ∀ v ∈ row, 0 ≤ v ∧ v < (many : Int)) : preSum (fun t : Nat => cnt row t) many = (row.length : Int) := by
  unfold cnt
  rw [pre_swap (fun i t => if row.getD i 0 = (t : Int) then (1 : Int) else 0) many row.length]
  have e : ∀ i, i < row.length → preSum (fun t : Nat => if row.getD i 0 = (t : Int) then (1 : Int) else 0) many = 1 := fun i hi => by
    have hv := h (row.getD i 0) (by rw [getD_at hi]; exact List.getElem_mem hi)
    rw [pre_congr (g := fun t : Nat => if (t : Int) = row.getD i 0 then (1 : Int) else 0) fun t _ => by
      by_cases z : row.getD i 0 = (t : Int)
      · rw [if_pos z, if_pos z.symm]
      · rw [if_neg z, if_neg fun q => z q.symm]]
    rw [pre_one, if_pos hv]
  rw [pre_congr (g := fun _ => 1) e]
  clear e h
  induction row.length with
  | zero => rfl
  | succ n ih =>
    show preSum (fun _ => (1 : Int)) n + 1 = _
    rw [ih]
    push_cast
    rfl
theorem cnt_nonneg (row : List Int) (t : Int) : 0 ≤ cnt row t := pre_nonneg fun i _ => by split <;> decide
theorem cnt_snoc (row : List Int) (x t : Int) : cnt (row ++ [x]) t = cnt row t + if x = t then 1 else 0 := by
  unfold cnt
  rw [List.length_append]
  show preSum _ row.length + (if (row ++ [x]).getD row.length 0 = t then (1 : Int) else 0) = _
  rw [pre_congr (g := fun i => if row.getD i 0 = t then (1 : Int) else 0) fun i hi => by
    rw [getD_at (by rw [List.length_append]; omega), getD_at hi, List.getElem_append_left hi]]
  rw [show (row ++ [x]).getD row.length 0 = x from by simp]
theorem cnt_le (row : List Int) (t : Int) : cnt row t ≤ (row.length : Int) := by
  unfold cnt
  induction row.length with
  | zero => exact Int.le_refl _
  | succ n ih =>
    show preSum _ n + (if row.getD n 0 = t then (1 : Int) else 0) ≤ _
    have : (if row.getD n 0 = t then (1 : Int) else 0) ≤ 1 := by split <;> decide
    push_cast
    omega
/-- the next row of counts -/
def stepC (rows : List (List Int)) (many : Nat) (cs : List Int) : List Int := (List.range many).map fun t : Nat => preSum (fun q => cs.getD q 0 * cnt (rows.getD q []) t) cs.length
def firstC (many : Nat) : List Int := (List.range many).map fun q : Nat => if q = 0 then 1 else 0
def cN (rows : List (List Int)) (many : Nat) : Nat → List Int
  | 0 => firstC many
  | k + 1 => stepC rows many (cN rows many k)
theorem stepC_len (rows : List (List Int)) (many : Nat) (cs : List Int) : (stepC rows many cs).length = many := by simp [stepC]
theorem cN_len (rows : List (List Int)) (many : Nat) : ∀ k, (cN rows many k).length = many
  | 0 => by simp [cN, firstC]
  | k + 1 => stepC_len _ _ _
theorem mapR_at {f : Nat → Int} {many t : Nat} (h : t < many) : ((List.range many).map f).getD t 0 = f t := by simp [h]
theorem stepC_at {rows : List (List Int)} {many t : Nat} {cs : List Int} (h : t < many) : (stepC rows many cs).getD t 0 = preSum (fun q => cs.getD q 0 * cnt (rows.getD q []) t) cs.length := mapR_at h
theorem sum_pre {ns : List Int} : sumI ns = preSum (fun i => ns.getD i 0) ns.length := by
  rw [preSum_foldl ns _ (Nat.le_refl _), List.take_length]
  rfl
theorem cN_nonneg (rows : List (List Int)) (many : Nat) : ∀ k t, t < many → 0 ≤ (cN rows many k).getD t 0
  | 0, t, h => by
    show 0 ≤ (firstC many).getD t 0
    unfold firstC
    rw [mapR_at h]
    split <;> decide
  | k + 1, t, h => by
    show 0 ≤ (stepC rows many (cN rows many k)).getD t 0
    rw [stepC_at h, cN_len]
    exact pre_nonneg fun q hq => Int.mul_nonneg (cN_nonneg rows many k q hq) (cnt_nonneg _ _)
theorem cN_sum {rows : List (List Int)} {many wide : Nat} (R : RowsOk many wide rows) (m1 : 1 ≤ many) : ∀ k, sumI (cN rows many k) = (wide : Int) ^ k
  | 0 => by
    rw [sum_pre, cN_len]
    show preSum (fun i => (firstC many).getD i 0) many = 1
    rw [pre_congr (g := fun t : Nat => if (t : Int) = 0 then (1 : Int) else 0) fun t ht => by
      unfold firstC
      rw [mapR_at ht]
      by_cases z : t = 0
      · rw [if_pos z, if_pos (by omega)]
      · rw [if_neg z, if_neg (by omega)]]
    rw [pre_one, if_pos (by omega)]
  | k + 1 => by
    rw [sum_pre]
    show preSum (fun i => (stepC rows many (cN rows many k)).getD i 0) (stepC rows many (cN rows many k)).length = _
    rw [stepC_len, pre_congr (g := fun t : Nat => preSum (fun q => (cN rows many k).getD q 0 * cnt (rows.getD q []) t) many) fun t ht => by rw [stepC_at ht, cN_len]]
    rw [pre_swap (fun q t => (cN rows many k).getD q 0 * cnt (rows.getD q []) (t : Int)) many many]
    rw [pre_congr (g := fun q => (wide : Int) * (cN rows many k).getD q 0) fun q hq => by
      have hq' : q < rows.length := by rw [R.len]; exact hq
      have hm : rows.getD q [] ∈ rows := by rw [getD_at hq']; exact List.getElem_mem hq'
      rw [pre_mul ((cN rows many k).getD q 0) (fun t => cnt (rows.getD q []) (t : Int)), cnt_all (R.val _ hm), R.row _ hm, Int.mul_comm]]
    have ih := cN_sum R m1 k
    rw [sum_pre, cN_len] at ih
    rw [pre_mul, ih, Int.pow_succ, Int.mul_comm]
theorem cN_le {rows : List (List Int)} {many wide : Nat} (R : RowsOk many wide rows) (m1 : 1 ≤ many) (k t : Nat) (h : t < many) : (cN rows many k).getD t 0 ≤ (wide : Int) ^ k := by
  rw [← cN_sum R m1 k, sum_pre, cN_len]
  exact pre_ge (f := fun i => (cN rows many k).getD i 0) (fun i hi => cN_nonneg rows many k i hi) h
/-! ### a list that is added to -/
def Acc (many : Nat) (g : Nat → Int) (b : List Int) : Prop := b.length = many ∧ ∀ t, t < many → b.getD t 0 = g t
theorem Acc.add {many : Nat} {g : Nat → Int} {b : List Int} {x v : Int} (A : Acc many g b) (x0 : 0 ≤ x) (x1 : x < (many : Int)) : Acc many (fun t => g t + if x = (t : Int) then v else 0) (b.set x.toNat (b.getD x.toNat 0 + v)) := by
  refine ⟨by rw [List.length_set]; exact A.1, fun t ht => ?_⟩
  have hl : t < b.length := by rw [A.1]; exact ht
  rw [getD_at (by rw [List.length_set]; exact hl), List.getElem_set]
  by_cases e : x = (t : Int)
  · have e2 : x.toNat = t := by omega
    show _ = g t + if x = (t : Int) then v else 0
    rw [if_pos e2, if_pos e, e2, A.2 t ht]
  · have e2 : x.toNat ≠ t := by omega
    show _ = g t + if x = (t : Int) then v else 0
    rw [if_neg e2, if_neg e, ← getD_at (d := 0) hl, A.2 t ht]
    omega
theorem Acc.congr {many : Nat} {g g' : Nat → Int} {b : List Int} (A : Acc many g b) (h : ∀ t, t < many → g t = g' t) : Acc many g' b := ⟨A.1, fun t ht => by rw [A.2 t ht, h t ht]⟩
theorem Acc.eq {many : Nat} {g : Nat → Int} {b : List Int} (A : Acc many g b) : b = (List.range many).map g := by
  refine List.ext_getElem? fun t => ?_
  rcases Nat.lt_or_ge t many with h | h
  · have hl : t < b.length := by rw [A.1]; exact h
    have := A.2 t h
    rw [getD_at hl] at this
    rw [List.getElem?_eq_getElem hl, this]
    simp [h]
  · rw [List.getElem?_eq_none (by rw [A.1]; exact h)]
    simp [h]
theorem Acc.zero (many : Nat) : Acc many (fun _ => 0) (List.replicate many 0) := ⟨by simp, fun t ht => by simp [ht]⟩
/-! ### pairs of a room and how many figures lead there -/
def pairSum (ps : List (Int × Int)) (t : Int) : Int := preSum (fun i => if (ps.getD i (0, 0)).1 = t then (ps.getD i (0, 0)).2 else 0) ps.length
theorem pairSum_cons (p : Int × Int) (ps : List (Int × Int)) (t : Int) : pairSum (p :: ps) t = (if p.1 = t then p.2 else 0) + pairSum ps t := by
  unfold pairSum
  have go : ∀ n, preSum (fun i => if ((p :: ps).getD i (0, 0)).1 = t then ((p :: ps).getD i (0, 0)).2 else 0) (n + 1) = (if p.1 = t then p.2 else 0) + preSum (fun i => if (ps.getD i (0, 0)).1 = t then (ps.getD i (0, 0)).2 else 0) n := by
    intro n
    induction n with
    | zero => show (0 : Int) + _ = _ + 0; rw [Int.zero_add, Int.add_zero]; rfl
    | succ n ih =>
      show preSum _ (n + 1) + _ = _ + (preSum _ n + _)
      rw [ih, Int.add_assoc]
      rfl
  exact go ps.length
theorem pairSum_none : ∀ {ps : List (Int × Int)} {t : Int}, t ∉ ps.map Prod.fst → pairSum ps t = 0
  | [], _, _ => rfl
  | p :: ps, t, h => by
    rw [pairSum_cons, if_neg (fun z => h (by rw [← z]; exact List.mem_cons_self)), pairSum_none fun z => h (List.mem_cons_of_mem _ z)]
    rfl
theorem pairSum_append (ps qs : List (Int × Int)) (t : Int) : pairSum (ps ++ qs) t = pairSum ps t + pairSum qs t := by
  induction ps with
  | nil => show _ = 0 + _; rw [Int.zero_add]; rfl
  | cons p ps ih => rw [List.cons_append, pairSum_cons, pairSum_cons, ih, Int.add_assoc]
def kvC (ps : List (Int × Int)) : List (Key × V) := ps.map fun p => (Sum.inl p.1, V.int p.2)
theorem kvC_val : ∀ {ps : List (Int × Int)} {t : Int}, (ps.map Prod.fst).Nodup → (valV (kvC ps) (Sum.inl t)).getD (V.int 0) = V.int (pairSum ps t)
  | [], _, _ => rfl
  | p :: ps, t, nd => by
    have nd' := List.nodup_cons.mp (show (p.1 :: ps.map Prod.fst).Nodup from nd)
    rw [pairSum_cons]
    by_cases e : p.1 = t
    · rw [show kvC (p :: ps) = (Sum.inl p.1, V.int p.2) :: kvC ps from rfl, valV_pos (by rw [e]), if_pos e, pairSum_none (by rw [← e]; exact nd'.1), Int.add_zero]
      rfl
    · rw [show kvC (p :: ps) = (Sum.inl p.1, V.int p.2) :: kvC ps from rfl, valV_neg (fun z => e (Sum.inl.inj z)), if_neg e, Int.zero_add]
      exact kvC_val nd'.2
def putI (ps : List (Int × Int)) (t v : Int) : List (Int × Int) := if t ∈ ps.map Prod.fst then ps.map fun p => if p.1 = t then (p.1, v) else p else ps ++ [(t, v)]
theorem kvC_put (ps : List (Int × Int)) (t v : Int) : putK (kvC ps) (Sum.inl t) (V.int v) = kvC (putI ps t v) := by
  have an : ((kvC ps).any fun kv => decide (kv.1 = (Sum.inl t : Key))) = decide (t ∈ ps.map Prod.fst) := by
    induction ps with
    | nil => rfl
    | cons p ps ih =>
      rw [show kvC (p :: ps) = (Sum.inl p.1, V.int p.2) :: kvC ps from rfl, List.any_cons, ih]
      by_cases e : p.1 = t
      · simp [e]
      · have e' : ¬ (Sum.inl p.1 : Key) = Sum.inl t := fun z => e (Sum.inl.inj z)
        simp [e, e', Ne.symm e]
  unfold putK putI
  by_cases h : t ∈ ps.map Prod.fst
  · rw [an, if_pos (decide_eq_true h), if_pos h]
    unfold kvC
    rw [List.map_map, List.map_map]
    refine List.map_congr_left fun p _ => ?_
    by_cases e : p.1 = t
    · show (if (Sum.inl p.1 : Key) = Sum.inl t then _ else _) = (fun p : Int × Int => ((Sum.inl p.1 : Key), V.int p.2)) (if p.1 = t then (p.1, v) else p)
      rw [if_pos (by rw [e]), if_pos e]
    · show (if (Sum.inl p.1 : Key) = Sum.inl t then _ else _) = (fun p : Int × Int => ((Sum.inl p.1 : Key), V.int p.2)) (if p.1 = t then (p.1, v) else p)
      rw [if_neg (fun z => e (Sum.inl.inj z)), if_neg e]
  · rw [an, if_neg (by rw [decide_eq_false h]; decide), if_neg h]
    unfold kvC
    rw [List.map_append]
    rfl
theorem putI_fst {ps : List (Int × Int)} {t v : Int} : (putI ps t v).map Prod.fst = if t ∈ ps.map Prod.fst then ps.map Prod.fst else ps.map Prod.fst ++ [t] := by
  unfold putI
  by_cases h : t ∈ ps.map Prod.fst
  · rw [if_pos h, if_pos h, List.map_map]
    refine List.map_congr_left fun p _ => ?_
    show (if p.1 = t then (p.1, v) else p).1 = p.1
    split <;> rfl
  · rw [if_neg h, if_neg h, List.map_append]
    rfl
theorem putI_nd {ps : List (Int × Int)} {t v : Int} (nd : (ps.map Prod.fst).Nodup) : ((putI ps t v).map Prod.fst).Nodup := by
  rw [putI_fst]
  by_cases h : t ∈ ps.map Prod.fst
  · rw [if_pos h]; exact nd
  · rw [if_neg h]; exact nd_snoc nd h
theorem putI_sum : ∀ {ps : List (Int × Int)} {t v : Int}, (ps.map Prod.fst).Nodup → ∀ u, pairSum (putI ps t v) u = if u = t then v else pairSum ps u := by
  intro ps t v nd u
  unfold putI
  by_cases h : t ∈ ps.map Prod.fst
  · rw [if_pos h]
    induction ps with
    | nil => cases h
    | cons p ps ih =>
      have nd' := List.nodup_cons.mp (show (p.1 :: ps.map Prod.fst).Nodup from nd)
      rw [List.map_cons, pairSum_cons, pairSum_cons]
      by_cases e : p.1 = t
      · have no : t ∉ ps.map Prod.fst := by rw [← e]; exact nd'.1
        have same : (ps.map fun p => if p.1 = t then (p.1, v) else p) = ps := by
          conv => rhs; rw [← List.map_id ps]
          refine List.map_congr_left fun q hq => ?_
          rw [if_neg (fun z => no (by rw [← z]; exact List.mem_map.mpr ⟨q, hq, rfl⟩))]
          rfl
        rw [if_pos e, same]
        by_cases eu : u = t
        · rw [if_pos eu, eu, if_pos e, pairSum_none no, Int.add_zero]
        · rw [if_neg eu, if_neg (fun z => eu (z.symm.trans e)), if_neg (fun z => eu (z.symm.trans e))]
      · have ht : t ∈ ps.map Prod.fst := by
          rcases List.mem_cons.mp h with z | z
          · exact absurd z.symm e
          · exact z
        rw [if_neg e, ih nd'.2 ht]
        by_cases eu : u = t
        · rw [if_pos eu, if_neg (fun z => e (z.trans eu)), if_pos eu, Int.zero_add]
        · rw [if_neg eu, if_neg eu]
  · rw [if_neg h, pairSum_append, pairSum_cons]
    by_cases eu : u = t
    · rw [if_pos eu, eu, if_pos rfl, pairSum_none h]
      show 0 + (v + pairSum [] t) = v
      show 0 + (v + 0) = v
      omega
    · rw [if_neg eu, if_neg (Ne.symm eu)]
      show pairSum ps u + (0 + 0) = _
      omega
/-- what a row's figures come to -/
structure CntOk (ps : List (Int × Int)) (row : List Int) : Prop where
  nd : (ps.map Prod.fst).Nodup
  mem : ∀ p ∈ ps, p.1 ∈ row
  pos : ∀ p ∈ ps, 0 ≤ p.2 ∧ p.2 ≤ (row.length : Int)
  sum : ∀ t, pairSum ps t = cnt row t
theorem CntOk.nil : CntOk [] [] := ⟨List.Pairwise.nil, (fun p h => by cases h), (fun p h => by cases h), fun t => rfl⟩
theorem CntOk.put {ps : List (Int × Int)} {row : List Int} {x : Int} (C : CntOk ps row) : CntOk (putI ps x (pairSum ps x + 1)) (row ++ [x]) where
  nd := putI_nd C.nd
  mem := fun p hp => by
    have : p.1 ∈ (putI ps x (pairSum ps x + 1)).map Prod.fst := List.mem_map.mpr ⟨p, hp, rfl⟩
    rw [putI_fst] at this
    by_cases h : x ∈ ps.map Prod.fst
    · rw [if_pos h] at this
      obtain ⟨q, hq, e⟩ := List.mem_map.mp this
      rw [← e]
      exact List.mem_append_left _ (C.mem q hq)
    · rw [if_neg h] at this
      rcases List.mem_append.mp this with z | z
      · obtain ⟨q, hq, e⟩ := List.mem_map.mp z
        rw [← e]
        exact List.mem_append_left _ (C.mem q hq)
      · exact List.mem_append_right _ z
  pos := fun p hp => by
    have hc := cnt_nonneg row x
    have hc2 := cnt_le row x
    have hs := C.sum x
    have key : p ∈ ps ∨ p.2 = pairSum ps x + 1 := by
      unfold putI at hp
      by_cases h : x ∈ ps.map Prod.fst
      · rw [if_pos h] at hp
        obtain ⟨q, hq, e⟩ := List.mem_map.mp hp
        by_cases eq : q.1 = x
        · rw [if_pos eq] at e; exact .inr (by rw [← e])
        · rw [if_neg eq] at e; exact .inl (by rw [← e]; exact hq)
      · rw [if_neg h] at hp
        rcases List.mem_append.mp hp with z | z
        · exact .inl z
        · exact .inr (by rw [List.mem_singleton.mp z])
    rw [List.length_append]
    simp only [List.length_cons, List.length_nil]
    push_cast
    rcases key with z | z
    · have := C.pos p z
      omega
    · omega
  sum := fun t => by
    rw [putI_sum C.nd, cnt_snoc, C.sum, C.sum]
    by_cases e : t = x
    · rw [if_pos e, e, if_pos rfl]
    · rw [if_neg e, if_neg (Ne.symm e)]
      omega
theorem len_split {α : Type} (p : α → Bool) : ∀ l : List α, l.length = (l.filter p).length + (l.filter fun x => !p x).length
  | [] => rfl
  | x :: l => by
    have ih := len_split p l
    cases e : p x
    · rw [List.filter_cons_of_neg (by rw [e]; decide), List.filter_cons_of_pos (by rw [e]; rfl), List.length_cons, List.length_cons]
      omega
    · rw [List.filter_cons_of_pos e, List.filter_cons_of_neg (by rw [e]; decide), List.length_cons, List.length_cons]
      omega
/-- different whole numbers below many are at most many -/
theorem few_below : ∀ (many : Nat) {ks : List Int}, ks.Nodup → (∀ q ∈ ks, 0 ≤ q ∧ q < (many : Int)) → ks.length ≤ many
  | 0, ks, _, h => by
    cases ks with
    | nil => exact Nat.le_refl _
    | cons q r => have := h q List.mem_cons_self; omega
  | many + 1, ks, nd, h => by
    have e : (ks.filter fun q => decide (q ≠ (many : Int))).length ≤ many := few_below many (nd.filter _) fun q hq => by
      have h1 := h q (List.mem_filter.mp hq).1
      have h2 : q ≠ (many : Int) := of_decide_eq_true (List.mem_filter.mp hq).2
      omega
    have c : (ks.filter fun q => !decide (q ≠ (many : Int))).length ≤ 1 := by
      have nd2 := nd.filter fun q => !decide (q ≠ (many : Int))
      have al : ∀ q ∈ ks.filter (fun q => !decide (q ≠ (many : Int))), q = (many : Int) := fun q hq => by
        have := (List.mem_filter.mp hq).2
        simpa using this
      match hm : ks.filter (fun q => !decide (q ≠ (many : Int))), nd2, al with
      | [], _, _ => exact Nat.zero_le _
      | [x], _, _ => exact Nat.le_refl _
      | x :: y :: r, nd2, al =>
        have h1 := al x List.mem_cons_self
        have h2 := al y (List.mem_cons_of_mem _ List.mem_cons_self)
        rw [h1, h2] at nd2
        exact absurd List.mem_cons_self (List.nodup_cons.mp nd2).1
    have t := len_split (fun q => decide (q ≠ (many : Int))) ks
    omega
/-! ### the round to which noughts lead: a steady machine -/
def it0 (rows : List (List Int)) (q : Int) : Nat → Int
  | 0 => q
  | k + 1 => stepI rows (it0 rows q k) 0
theorem it0_in {many wide : Nat} {rows : List (List Int)} (R : RowsOk many wide rows) (w1 : 1 ≤ wide) {q : Int} (q0 : 0 ≤ q) (q1 : q < (many : Int)) : ∀ k, 0 ≤ it0 rows q k ∧ it0 rows q k < (many : Int)
  | 0 => ⟨q0, q1⟩
  | k + 1 => by
    have h := it0_in R w1 q0 q1 k
    exact stepI_ok R h.1 h.2 (by decide) (by omega)
theorem it0_succ (rows : List (List Int)) (q : Int) : ∀ k, it0 rows (stepI rows q 0) k = it0 rows q (k + 1)
  | 0 => rfl
  | k + 1 => by
    show stepI rows (it0 rows (stepI rows q 0) k) 0 = stepI rows (it0 rows q (k + 1)) 0
    rw [it0_succ rows q k]
theorem it0_shift {rows : List (List Int)} {q : Int} {i j : Nat} (h : it0 rows q i = it0 rows q j) : ∀ t, it0 rows q (i + t) = it0 rows q (j + t)
  | 0 => h
  | t + 1 => by
    show stepI rows (it0 rows q (i + t)) 0 = stepI rows (it0 rows q (j + t)) 0
    rw [it0_shift h t]
theorem it0_period {many wide : Nat} {rows : List (List Int)} (R : RowsOk many wide rows) (w1 : 1 ≤ wide) {q : Int} (q0 : 0 ≤ q) (q1 : q < (many : Int)) : ∃ c, 1 ≤ c ∧ c ≤ many ∧ ∀ t, it0 rows q (many + c + t) = it0 rows q (many + t) := by
  have ex : ∃ i j, i < j ∧ j ≤ many ∧ it0 rows q i = it0 rows q j := by
    refine Classical.byContradiction fun no => ?_
    have nd : ((List.range (many + 1)).map (it0 rows q)).Nodup := by
      refine List.pairwise_iff_getElem.mpr fun i j hi hj hij => ?_
      intro e
      rw [List.length_map, List.length_range] at hi hj
      simp at e
      exact no ⟨i, j, hij, by omega, e⟩
    have := few_below many nd (fun x hx => by
      obtain ⟨i, _, rfl⟩ := List.mem_map.mp hx
      exact it0_in R w1 q0 q1 i)
    rw [List.length_map, List.length_range] at this
    omega
  obtain ⟨i, j, hij, hj, e⟩ := ex
  refine ⟨j - i, by omega, by omega, fun t => ?_⟩
  have := it0_shift e (many - i + t)
  rw [show i + (many - i + t) = many + t from by omega, show j + (many - i + t) = many + (j - i) + t from by omega] at this
  exact this.symm
/-- the lowest of the rooms from n on -/
def lowI (rows : List (List Int)) (q : Int) (n : Nat) : Nat → Int
  | 0 => it0 rows q n
  | k + 1 => if it0 rows q (n + k + 1) < lowI rows q n k then it0 rows q (n + k + 1) else lowI rows q n k
theorem lowI_le {rows : List (List Int)} {q : Int} {n : Nat} : ∀ {k i : Nat}, i ≤ k → lowI rows q n k ≤ it0 rows q (n + i)
  | 0, i, h => by
    have : i = 0 := by omega
    subst this
    exact Int.le_refl _
  | k + 1, i, h => by
    simp only [lowI]
    rcases Nat.lt_or_eq_of_le h with z | z
    · have := lowI_le (rows := rows) (q := q) (n := n) (show i ≤ k by omega)
      split
      · omega
      · exact this
    · subst z
      have e : n + (k + 1) = n + k + 1 := by omega
      rw [e]
      split <;> omega
theorem lowI_is {rows : List (List Int)} {q : Int} {n : Nat} : ∀ k : Nat, ∃ i, i ≤ k ∧ lowI rows q n k = it0 rows q (n + i)
  | 0 => ⟨0, Nat.le_refl _, rfl⟩
  | k + 1 => by
    simp only [lowI]
    split
    · exact ⟨k + 1, Nat.le_refl _, rfl⟩
    · obtain ⟨i, hi, e⟩ := lowI_is (rows := rows) (q := q) (n := n) k
      exact ⟨i, by omega, e⟩
def restI (rows : List (List Int)) (n : Nat) (q : Int) : Int := lowI rows q n n
theorem restI_in {many wide : Nat} {rows : List (List Int)} (R : RowsOk many wide rows) (w1 : 1 ≤ wide) {q : Int} (q0 : 0 ≤ q) (q1 : q < (many : Int)) : 0 ≤ restI rows many q ∧ restI rows many q < (many : Int) := by
  obtain ⟨i, _, e⟩ := lowI_is (rows := rows) (q := q) (n := many) many
  unfold restI
  rw [e]
  exact it0_in R w1 q0 q1 _
theorem restI_step {many wide : Nat} {rows : List (List Int)} (R : RowsOk many wide rows) (w1 : 1 ≤ wide) {q : Int} (q0 : 0 ≤ q) (q1 : q < (many : Int)) : restI rows many (stepI rows q 0) = restI rows many q := by
  obtain ⟨c, c1, c2, hc⟩ := it0_period R w1 q0 q1
  unfold restI
  refine Int.le_antisymm ?_ ?_
  · obtain ⟨j, hj, e⟩ := lowI_is (rows := rows) (q := q) (n := many) many
    rw [e]
    by_cases z : j = 0
    · subst z
      have := lowI_le (rows := rows) (q := stepI rows q 0) (n := many) (k := many) (i := c - 1) (by omega)
      rw [it0_succ, show many + (c - 1) + 1 = many + c + 0 from by omega, hc 0] at this
      exact this
    · have := lowI_le (rows := rows) (q := stepI rows q 0) (n := many) (k := many) (i := j - 1) (by omega)
      rw [it0_succ, show many + (j - 1) + 1 = many + j from by omega] at this
      exact this
  · obtain ⟨i, hi, e⟩ := lowI_is (rows := rows) (q := stepI rows q 0) (n := many) many
    rw [e, it0_succ]
    by_cases z : i = many
    · have := lowI_le (rows := rows) (q := q) (n := many) (k := many) (i := many + 1 - c) (by omega)
      rw [← hc (many + 1 - c)] at this
      rw [show many + i + 1 = many + c + (many + 1 - c) from by omega]
      exact this
    · have := lowI_le (rows := rows) (q := q) (n := many) (k := many) (i := i + 1) (by omega)
      rw [show many + (i + 1) = many + i + 1 from by omega] at this
      exact this
def SteadyS (many : Nat) (rows : List (List Int)) (signs : List Int) : Prop := ∀ q : Int, 0 ≤ q → q < (many : Int) → signs.getD (stepI rows q 0).toNat 0 = signs.getD q.toNat 0
theorem steady_of {many wide : Nat} {rows : List (List Int)} {signs drawn : List Int} (R : RowsOk many wide rows) (w1 : 1 ≤ wide) (e : signs = (List.range many).map fun q : Nat => drawn.getD (restI rows many q).toNat 0) : SteadyS many rows signs := fun q q0 q1 => by
  have h := stepI_ok R q0 q1 (show (0 : Int) ≤ 0 by decide) (show (0 : Int) < wide by omega)
  have m1 : ∀ x : Int, 0 ≤ x → x < (many : Int) → signs.getD x.toNat 0 = drawn.getD (restI rows many x).toNat 0 := fun x x0 x1 => by
    have hx : x.toNat < many := by omega
    rw [e, mapR_at hx, show ((x.toNat : Nat) : Int) = x from by omega]
  rw [m1 _ h.1 h.2, m1 _ q0 q1, restI_step R w1 q0 q1]
/-! ### numbers counted by their figures -/
theorem pre_append (f : Nat → Int) (a : Nat) : ∀ b : Nat, preSum f (a + b) = preSum f a + preSum (fun i => f (a + i)) b
  | 0 => (Int.add_zero _).symm
  | b + 1 => by
    show preSum f (a + b) + f (a + b) = _ + (preSum (fun i => f (a + i)) b + f (a + b))
    rw [pre_append f a b, Int.add_assoc]
theorem pre_block (f : Nat → Int) (m : Nat) : ∀ c : Nat, preSum f (c * m) = preSum (fun i => preSum (fun l => f (i * m + l)) m) c
  | 0 => by rw [Nat.zero_mul]; rfl
  | c + 1 => by
    rw [Nat.succ_mul, pre_append, pre_block f m c]
    rfl
/-- the room to which k figures of n lead -/
def wk (rows : List (List Int)) (wide : Nat) : Nat → Nat → Int → Int
  | 0, _, q => q
  | k + 1, n, q => wk rows wide k (n / wide) (stepI rows q ((n % wide : Nat) : Int))
theorem wk_in {many wide : Nat} {rows : List (List Int)} (R : RowsOk many wide rows) (w1 : 1 ≤ wide) : ∀ (k n : Nat) (q : Int), 0 ≤ q → q < (many : Int) → 0 ≤ wk rows wide k n q ∧ wk rows wide k n q < (many : Int)
  | 0, _, q, q0, q1 => ⟨q0, q1⟩
  | k + 1, n, q, q0, q1 => by
    have h := stepI_ok R q0 q1 (show (0 : Int) ≤ ((n % wide : Nat) : Int) by omega) (by have := Nat.mod_lt n (show 0 < wide by omega); omega)
    exact wk_in R w1 k (n / wide) _ h.1 h.2
/-- a figure more, on top -/
theorem wk_top {rows : List (List Int)} {wide : Nat} (w1 : 1 ≤ wide) : ∀ (k l f : Nat) (q : Int), l < wide ^ k → f < wide → wk rows wide (k + 1) (f * wide ^ k + l) q = stepI rows (wk rows wide k l q) (f : Int)
  | 0, l, f, q, hl, hf => by
    have : l = 0 := by rw [Nat.pow_zero] at hl; omega
    subst this
    show stepI rows q (((f * wide ^ 0 + 0) % wide : Nat) : Int) = stepI rows q (f : Int)
    rw [Nat.pow_zero, Nat.mul_one, Nat.add_zero, Nat.mod_eq_of_lt hf]
  | k + 1, l, f, q, hl, hf => by
    have e1 : (f * wide ^ (k + 1) + l) % wide = l % wide := by
      rw [Nat.pow_succ, ← Nat.mul_assoc, Nat.mul_comm (f * wide ^ k) wide, Nat.mul_add_mod]
    have e2 : (f * wide ^ (k + 1) + l) / wide = f * wide ^ k + l / wide := by
      rw [Nat.pow_succ, ← Nat.mul_assoc, Nat.mul_comm (f * wide ^ k) wide, Nat.mul_add_div (by omega)]
    have hl2 : l / wide < wide ^ k := by
      rw [Nat.div_lt_iff_lt_mul (by omega), ← Nat.pow_succ]
      exact hl
    show wk rows wide (k + 1) ((f * wide ^ (k + 1) + l) / wide) (stepI rows q (((f * wide ^ (k + 1) + l) % wide : Nat) : Int)) = stepI rows (wk rows wide k (l / wide) (stepI rows q ((l % wide : Nat) : Int))) (f : Int)
    rw [e1, e2]
    exact wk_top w1 k (l / wide) f _ hl2 hf
/-- figures behind k others -/
theorem wk_split {rows : List (List Int)} {wide : Nat} (w1 : 1 ≤ wide) : ∀ (k j l h : Nat) (q : Int), l < wide ^ k → wk rows wide (k + j) (h * wide ^ k + l) q = wk rows wide j h (wk rows wide k l q)
  | 0, j, l, h, q, hl => by
    have : l = 0 := by rw [Nat.pow_zero] at hl; omega
    subst this
    rw [Nat.pow_zero, Nat.mul_one, Nat.add_zero, Nat.zero_add]
    rfl
  | k + 1, j, l, h, q, hl => by
    have e1 : (h * wide ^ (k + 1) + l) % wide = l % wide := by
      rw [Nat.pow_succ, ← Nat.mul_assoc, Nat.mul_comm (h * wide ^ k) wide, Nat.mul_add_mod]
    have e2 : (h * wide ^ (k + 1) + l) / wide = h * wide ^ k + l / wide := by
      rw [Nat.pow_succ, ← Nat.mul_assoc, Nat.mul_comm (h * wide ^ k) wide, Nat.mul_add_div (by omega)]
    have hl2 : l / wide < wide ^ k := by
      rw [Nat.div_lt_iff_lt_mul (by omega), ← Nat.pow_succ]
      exact hl
    rw [show k + 1 + j = (k + j) + 1 from by omega]
    show wk rows wide (k + j) ((h * wide ^ (k + 1) + l) / wide) (stepI rows q (((h * wide ^ (k + 1) + l) % wide : Nat) : Int)) = wk rows wide j h (wk rows wide k (l / wide) (stepI rows q ((l % wide : Nat) : Int)))
    rw [e1, e2]
    exact wk_split w1 k j (l / wide) h _ hl2
/-- a row's things, summed by what they are -/
theorem cnt_sum {many : Nat} (g : Int → Int) (row : List Int) (h : ∀ v ∈ row, 0 ≤ v ∧ v < (many : Int)) : preSum (fun t : Nat => cnt row t * g t) many = preSum (fun i => g (row.getD i 0)) row.length := by
  have e : ∀ t : Nat, cnt row t * g t = preSum (fun i => if row.getD i 0 = (t : Int) then g t else 0) row.length := fun t => by
    unfold cnt
    rw [Int.mul_comm, ← pre_mul]
    refine pre_congr fun i _ => ?_
    split
    · rw [Int.mul_one]
    · rw [Int.mul_zero]
  rw [pre_congr (g := fun t : Nat => preSum (fun i => if row.getD i 0 = (t : Int) then g t else 0) row.length) fun t _ => e t]
  rw [pre_swap (fun i t => if row.getD i 0 = (t : Int) then g t else 0) many row.length]
  refine pre_congr fun i hi => ?_
  have hv := h (row.getD i 0) (by rw [getD_at hi]; exact List.getElem_mem hi)
  rw [pre_congr (g := fun t : Nat => if (t : Int) = row.getD i 0 then g (row.getD i 0) else 0) fun t _ => by
    by_cases z : row.getD i 0 = (t : Int)
    · rw [if_pos z, if_pos z.symm, z]
    · rw [if_neg z, if_neg fun q => z q.symm]]
  rw [pre_one, if_pos hv]
theorem stepI_at {rows : List (List Int)} (q f : Nat) : stepI rows (q : Int) (f : Int) = (rows.getD q []).getD f 0 := by
  unfold stepI
  rw [Int.toNat_natCast, Int.toNat_natCast]
/-- all numbers of k figures, by the rooms to which they lead -/
theorem cN_all {many wide : Nat} {rows : List (List Int)} (R : RowsOk many wide rows) (m1 : 1 ≤ many) (w1 : 1 ≤ wide) : ∀ (k : Nat) (g : Int → Int), preSum (fun n => g (wk rows wide k n 0)) (wide ^ k) = preSum (fun q : Nat => (cN rows many k).getD q 0 * g q) many
  | 0, g => by
    rw [Nat.pow_zero]
    show (0 : Int) + g 0 = _
    rw [pre_congr (g := fun t : Nat => if (t : Int) = 0 then g 0 else 0) fun t ht => by
      show (firstC many).getD t 0 * g t = _
      unfold firstC
      rw [mapR_at ht]
      by_cases z : t = 0
      · subst z; rw [if_pos rfl, if_pos (show ((0 : Nat) : Int) = 0 from rfl), Int.one_mul]; rfl
      · rw [if_neg z, if_neg (by omega), Int.zero_mul]]
    rw [pre_one, if_pos (by omega), Int.zero_add]
  | k + 1, g => by
    rw [Nat.pow_succ, Nat.mul_comm, pre_block]
    rw [pre_congr (g := fun f : Nat => preSum (fun q : Nat => (cN rows many k).getD q 0 * g (stepI rows q f)) many) fun f hf => by
      rw [← cN_all R m1 w1 k (fun q => g (stepI rows q f))]
      refine pre_congr fun l hl => ?_
      rw [wk_top w1 k l f 0 hl hf]]
    rw [pre_swap (fun q f => (cN rows many k).getD q 0 * g (stepI rows q f)) wide many]
    rw [pre_congr (g := fun q : Nat => preSum (fun t : Nat => (cN rows many k).getD q 0 * cnt (rows.getD q []) t * g t) many) fun q hq => by
      have hq' : q < rows.length := by rw [R.len]; exact hq
      have hm : rows.getD q [] ∈ rows := by rw [getD_at hq']; exact List.getElem_mem hq'
      rw [pre_mul ((cN rows many k).getD q 0) (fun f : Nat => g (stepI rows q f)), pre_congr (g := fun i => g ((rows.getD q []).getD i 0)) fun f _ => by rw [stepI_at]]
      rw [← R.row _ hm, ← cnt_sum g _ (R.val _ hm), ← pre_mul]
      refine pre_congr fun t _ => ?_
      rw [Int.mul_assoc]]
    rw [pre_swap (fun t q => (cN rows many k).getD q 0 * cnt (rows.getD q []) t * g t) many many]
    refine pre_congr fun t ht => ?_
    show _ = (stepC rows many (cN rows many k)).getD t 0 * g t
    rw [stepC_at ht, cN_len, Int.mul_comm (preSum _ _), ← pre_mul]
    refine pre_congr fun q _ => ?_
    rw [Int.mul_comm]
/-- the sign that a row of figures from place i on leads to -/
def sgnI (signs : List Int) (q : Int) : Int := signs.getD q.toNat 0
/-- noughts on top make no difference -/
theorem wk_zero {many wide : Nat} {rows : List (List Int)} {signs : List Int} (R : RowsOk many wide rows) (w1 : 1 ≤ wide) (S : SteadyS many rows signs) : ∀ (k : Nat) (q : Int), 0 ≤ q → q < (many : Int) → sgnI signs (wk rows wide k 0 q) = sgnI signs q
  | 0, _, _, _ => rfl
  | k + 1, q, q0, q1 => by
    have h := stepI_ok R q0 q1 (show (0 : Int) ≤ 0 by decide) (show (0 : Int) < wide by omega)
    show sgnI signs (wk rows wide k (0 / wide) (stepI rows q ((0 % wide : Nat) : Int))) = _
    rw [Nat.zero_div, Nat.zero_mod]
    show sgnI signs (wk rows wide k 0 (stepI rows q 0)) = _
    rw [wk_zero R w1 S k _ h.1 h.2]
    exact S q q0 q1
theorem wk_more {many wide : Nat} {rows : List (List Int)} {signs : List Int} (R : RowsOk many wide rows) (m1 : 1 ≤ many) (w1 : 1 ≤ wide) (S : SteadyS many rows signs) {k n : Nat} (j : Nat) (h : n < wide ^ k) : sgnI signs (wk rows wide (k + j) n 0) = sgnI signs (wk rows wide k n 0) := by
  have e := wk_split (rows := rows) w1 k j n 0 0 h
  rw [Nat.zero_mul, Nat.zero_add] at e
  rw [e]
  have q := wk_in R w1 k n 0 (by decide) (by omega)
  exact wk_zero R w1 S j _ q.1 q.2
/-- the sign at a number -/
def sgnAt (rows : List (List Int)) (wide : Nat) (signs : List Int) (n : Nat) : Int := sgnI signs (wk rows wide n n 0)
theorem lt_self_pow {wide : Nat} (w2 : 2 ≤ wide) (n : Nat) : n < wide ^ n := Nat.lt_of_lt_of_le Nat.lt_two_pow_self (Nat.pow_le_pow_left w2 n)
theorem sgnAt_eq {many wide : Nat} {rows : List (List Int)} {signs : List Int} (R : RowsOk many wide rows) (m1 : 1 ≤ many) (w2 : 2 ≤ wide) (S : SteadyS many rows signs) {k n : Nat} (h : n < wide ^ k) : sgnAt rows wide signs n = sgnI signs (wk rows wide k n 0) := by
  unfold sgnAt
  rcases Nat.le_total n k with z | z
  · obtain ⟨j, rfl⟩ := Nat.le.dest z
    exact (wk_more R m1 (by omega) S j (lt_self_pow w2 n)).symm
  · obtain ⟨j, rfl⟩ := Nat.le.dest z
    exact wk_more R m1 (by omega) S j h
def ind (p : Prop) [Decidable p] : Int := if p then 1 else 0
/-- how many numbers below have the sign -/
def cntB (rows : List (List Int)) (wide : Nat) (signs : List Int) (s : Int) (b : Nat) : Int := preSum (fun n => ind (sgnAt rows wide signs n = s)) b
/-- what one place brings: the numbers that are alike above place j and lower there -/
theorem cnt_place {many wide : Nat} {rows : List (List Int)} {signs : List Int} (R : RowsOk many wide rows) (m1 : 1 ≤ many) (w2 : 2 ≤ wide) (S : SteadyS many rows signs) (s : Int) (j k d h : Nat) (hd : d ≤ wide) (hh : h < wide ^ k) :
    preSum (fun i => ind (sgnAt rows wide signs (h * wide ^ (j + 1) + i) = s)) (d * wide ^ j)
      = preSum (fun q : Nat => (cN rows many j).getD q 0 * preSum (fun f : Nat => ind (sgnI signs (wk rows wide k h (stepI rows q f)) = s)) d) many := by
  rw [pre_block]
  rw [pre_congr (g := fun f : Nat => preSum (fun q : Nat => (cN rows many j).getD q 0 * ind (sgnI signs (wk rows wide k h (stepI rows q f)) = s)) many) fun f hf => by
    rw [← cN_all R m1 (by omega) j (fun q => ind (sgnI signs (wk rows wide k h (stepI rows q f)) = s))]
    refine pre_congr fun l hl => ?_
    have hf' : f < wide := by omega
    have lt1 : f * wide ^ j + l < wide ^ (j + 1) := by
      rw [Nat.pow_succ, Nat.mul_comm (wide ^ j)]
      calc f * wide ^ j + l < f * wide ^ j + wide ^ j := by omega
        _ = (f + 1) * wide ^ j := (Nat.succ_mul _ _).symm
        _ ≤ wide * wide ^ j := Nat.mul_le_mul_right _ hf'
    have lt2 : h * wide ^ (j + 1) + (f * wide ^ j + l) < wide ^ (j + 1 + k) := by
      rw [Nat.pow_add wide (j + 1) k, Nat.mul_comm (wide ^ (j + 1))]
      calc h * wide ^ (j + 1) + (f * wide ^ j + l) < h * wide ^ (j + 1) + wide ^ (j + 1) := by omega
        _ = (h + 1) * wide ^ (j + 1) := (Nat.succ_mul _ _).symm
        _ ≤ wide ^ k * wide ^ (j + 1) := Nat.mul_le_mul_right _ hh
    rw [sgnAt_eq R m1 w2 S lt2, wk_split (by omega) (j + 1) k (f * wide ^ j + l) h 0 lt1, wk_top (by omega) j l f 0 hl hf']]
  rw [pre_swap (fun q f => (cN rows many j).getD q 0 * ind (sgnI signs (wk rows wide k h (stepI rows q f)) = s)) d many]
  refine pre_congr fun q _ => ?_
  rw [pre_mul]
/-! figures as a row -/
theorem walkI_wk {rows : List (List Int)} {wide : Nat} (w1 : 1 ≤ wide) : ∀ {ds : List Int} {n : Nat} {q : Int}, InB (wide : Int) ds → valB (wide : Int) ds = (n : Int) → walkI rows ds q = wk rows wide ds.length n q
  | [], n, q, _, _ => rfl
  | d :: r, n, q, hi, hv => by
    have hd := hi d List.mem_cons_self
    have v0 := valB_nonneg (b := (wide : Int)) (by omega) hi.tail
    obtain ⟨m, em⟩ := nat_of v0
    obtain ⟨e, ee⟩ := nat_of hd.1
    have hv' : (e : Int) + (wide : Int) * (m : Int) = (n : Int) := by
      rw [← ee, ← em]; exact hv
    have hn : n = e + wide * m := by exact_mod_cast hv'.symm
    have he : e < wide := by omega
    have e1 : n % wide = e := by rw [hn, Nat.add_mul_mod_self_left, Nat.mod_eq_of_lt he]
    have e2 : n / wide = m := by rw [hn, Nat.add_mul_div_left _ _ (by omega), Nat.div_eq_of_lt he, Nat.zero_add]
    show walkI rows r (stepI rows q d) = wk rows wide r.length (n / wide) (stepI rows q ((n % wide : Nat) : Int))
    rw [e1, e2, ee]
    exact walkI_wk w1 hi.tail em
/-- place by place -/
theorem cnt_places {many wide : Nat} {rows : List (List Int)} {signs : List Int} (R : RowsOk many wide rows) (m1 : 1 ≤ many) (w2 : 2 ≤ wide) (S : SteadyS many rows signs) (s : Int) {ds : List Int} (hi : InB (wide : Int) ds) : ∀ (j b : Nat), j ≤ ds.length → valB (wide : Int) (ds.drop j) = (b : Int) →
    preSum (fun i => ind (sgnAt rows wide signs i = s)) (b * wide ^ j) + preSum (fun at_ => preSum (fun q : Nat => (cN rows many at_).getD q 0 * preSum (fun f : Nat => ind (sgnI signs (walkI rows (ds.drop (at_ + 1)) (stepI rows q f)) = s)) (ds.getD at_ 0).toNat) many) j
      = cntB rows wide signs s (valB (wide : Int) ds).toNat
  | 0, b, _, hb => by
    rw [List.drop_zero] at hb
    rw [hb, Int.toNat_natCast, Nat.pow_zero, Nat.mul_one]
    exact Int.add_zero _
  | j + 1, b, hj, hb => by
    have hj' : j < ds.length := hj
    have ed : ds.drop j = ds.getD j 0 :: ds.drop (j + 1) := by rw [getD_at hj']; exact List.drop_eq_getElem_cons hj'
    have hid : InB (wide : Int) (ds.drop (j + 1)) := fun p hp => hi p (List.mem_of_mem_drop hp)
    have hd := hi (ds.getD j 0) (by rw [getD_at hj']; exact List.getElem_mem hj')
    obtain ⟨d, eD⟩ := nat_of hd.1
    have hb2 : valB (wide : Int) (ds.drop j) = ((d + wide * b : Nat) : Int) := by
      rw [ed]
      show ds.getD j 0 + (wide : Int) * valB (wide : Int) (ds.drop (j + 1)) = _
      rw [hb, eD]
      push_cast
      rfl
    have ih := cnt_places R m1 w2 S s hi j (d + wide * b) (Nat.le_of_lt hj') hb2
    rw [← ih]
    have hlt := valB_lt (w := (wide : Int)) (by omega) hid
    rw [hb] at hlt
    have hlt' : b < wide ^ (ds.drop (j + 1)).length := by exact_mod_cast hlt
    have e1 : (d + wide * b) * wide ^ j = b * wide ^ (j + 1) + d * wide ^ j := by
      rw [Nat.add_mul, Nat.pow_succ, Nat.mul_comm (wide ^ j) wide, ← Nat.mul_assoc, Nat.mul_comm b wide, Nat.add_comm]
    rw [e1, pre_append _ (b * wide ^ (j + 1)) (d * wide ^ j), cnt_place R m1 w2 S s j _ d b (by omega) hlt']
    have e3 : preSum (fun q : Nat => (cN rows many j).getD q 0 * preSum (fun f : Nat => ind (sgnI signs (wk rows wide (ds.drop (j + 1)).length b (stepI rows q f)) = s)) d) many
        = preSum (fun q : Nat => (cN rows many j).getD q 0 * preSum (fun f : Nat => ind (sgnI signs (walkI rows (ds.drop (j + 1)) (stepI rows q f)) = s)) (ds.getD j 0).toNat) many := by
      rw [eD, Int.toNat_natCast]
      refine pre_congr fun q hq => ?_
      congr 1
      refine pre_congr fun f hf => ?_
      rw [walkI_wk (by omega) hid hb]
    rw [e3]
    exact (by omega : ∀ a b c : Int, a + (b + c) = a + c + b) _ _ _
end My

set_option Elab.async false
set_option linter.all false
set_option maxRecDepth 100000
set_option maxHeartbeats 8000000
namespace My
open PySem L2
/-! ### how many rows lead where: the program -/
def PairsAt (H : Hp) : List Addr → List (Int × Int) → Prop := Paired fun a p => H a = some (.tup [.int p.1, .int p.2])
theorem PairsAt.get : ∀ {H : Hp} {as : List Addr} {ps : List (Int × Int)} {i : Nat} {a : Addr}, PairsAt H as ps → as[i]? = some a → ∃ p, ps[i]? = some p ∧ H a = some (.tup [.int p.1, .int p.2])
  | _, _, _, _, _, .nil, h => by simp at h
  | _, _, _, 0, _, .cons (b := p) r _, h => ⟨p, rfl, by cases h; exact r⟩
  | _, _, _, i + 1, _, .cons _ t, h => by
    obtain ⟨p, h1, h2⟩ := PairsAt.get (i := i) t (by simpa using h)
    exact ⟨p, by simpa using h1, h2⟩
theorem PairsAt.same {H H' : Hp} {as : List Addr} {ps : List (Int × Int)} (h : PairsAt H as ps) (s : ∀ b xs, H b = some (.tup xs) → H' b = some (.tup xs)) : PairsAt H' as ps := Paired.mapP h fun _ _ q => s _ _ q
theorem PairsAt.of {H : Hp} : ∀ {as : List Addr} {ps : List (Int × Int)}, as.length = ps.length → (∀ (j : Nat) (a : Addr) (p : Int × Int), as[j]? = some a → ps[j]? = some p → H a = some (.tup [.int p.1, .int p.2])) → PairsAt H as ps
  | [], [], _, _ => .nil
  | [], _ :: _, h, _ => by simp at h
  | _ :: _, [], h, _ => by simp at h
  | a :: as, p :: ps, h, q => .cons (q 0 a p rfl rfl) (PairsAt.of (by simpa using h) fun j b r h1 h2 => q (j + 1) b r (by simpa using h1) (by simpa using h2))
/-- a room's figures, counted -/
def OnwRow (H : Hp) (la : Addr) (row : List Int) : Prop := ∃ (as : List Addr) (ps : List (Int × Int)), H la = some (.lst (as.map V.ref)) ∧ PairsAt H as ps ∧ CntOk ps row
theorem OnwRow.same {H H' : Hp} {la : Addr} {row : List Int} (h : OnwRow H la row) (s : Same H H') : OnwRow H' la row := by
  obtain ⟨as, ps, h1, h2, h3⟩ := h
  exact ⟨as, ps, s _ _ h1, h2.same fun b xs e => s _ _ e, h3⟩
def OnwsAt (H : Hp) : List Addr → List (List Int) → Prop := Paired fun la row => OnwRow H la row
def OnwAt (H : Hp) (o : Addr) (rows : List (List Int)) : Prop := ∃ las, H o = some (.lst (las.map V.ref)) ∧ OnwsAt H las rows
theorem OnwsAt.same {H H' : Hp} {las : List Addr} {rows : List (List Int)} (h : OnwsAt H las rows) (s : Same H H') : OnwsAt H' las rows := Paired.mapP h fun _ _ q => q.same s
theorem OnwAt.same {H H' : Hp} {o : Addr} {rows : List (List Int)} (h : OnwAt H o rows) (s : Same H H') : OnwAt H' o rows := by
  obtain ⟨las, h1, h2⟩ := h
  exact ⟨las, s _ _ h1, h2.same s⟩
theorem OnwsAt.get : ∀ {H : Hp} {las : List Addr} {rows : List (List Int)} {i : Nat}, OnwsAt H las rows → (h : i < rows.length) → ∃ la, las[i]? = some la ∧ OnwRow H la rows[i]
  | _, _, _, _, .nil, h => by simp at h
  | _, _, _, 0, .cons (a := a) r _, _ => ⟨a, rfl, r⟩
  | _, _, _, i + 1, .cons _ t, h => by
    obtain ⟨la, h1, h2⟩ := OnwsAt.get (i := i) t (by simpa using h)
    exact ⟨la, by simpa using h1, by simpa using h2⟩
def spNoFig (K : PySem.W.Frag) : Sp := fun vs H Q _ => ∃ (m r g : Addr) (many wide : Nat) (rows : List (List Int)) (signs : List Int), vs = [.ref m] ∧ MachAt H m r g wide rows signs ∧ RowsOk many wide rows ∧ (1 ≤ many ∧ many ≤ 1000) ∧
  ∀ (l : Addr) (H' : Hp), Same H H' → H' l = some (.lst ((firstC many).map V.int)) → H l = none → Q (.ref l) H'
def spOnward (K : PySem.W.Frag) : Sp := fun vs H Q _ => ∃ (m r g : Addr) (many wide : Nat) (rows : List (List Int)) (signs : List Int), vs = [.ref m] ∧ MachAt H m r g wide rows signs ∧ RowsOk many wide rows ∧ (1 ≤ many ∧ many ≤ 1000) ∧ wide ≤ 1000 ∧
  ∀ (o : Addr) (H' : Hp), Same H H' → OnwAt H' o rows → Q (.ref o) H'
def spCountsOn (K : PySem.W.Frag) : Sp := fun vs H Q _ => ∃ (o c : Addr) (many wide : Nat) (rows : List (List Int)) (cs : List Int), vs = [.ref o, .ref c] ∧ OnwAt H o rows ∧ RowsOk many wide rows ∧ many ≤ 1000 ∧ wide ≤ 1000 ∧ H c = some (.lst (cs.map V.int)) ∧ cs.length = many ∧
  (∀ z ∈ cs, 0 ≤ z ∧ z < BIG) ∧ ∀ (l : Addr) (H' : Hp), Same H H' → H' l = some (.lst ((stepC rows many cs).map V.int)) → H l = none → Q (.ref l) H'
theorem rep_zero (n : Nat) : (List.replicate n [V.int 0]).flatten = (List.replicate n (0 : Int)).map V.int := by
  induction n with
  | zero => rfl
  | succ n ih => rw [List.replicate_succ, List.flatten_cons, ih, List.replicate_succ]; rfl
theorem firstC_eq {many : Nat} (h : 1 ≤ many) : [V.int 1] ++ (List.replicate (many - 1) (0 : Int)).map V.int = (firstC many).map V.int := by
  obtain ⟨n, rfl⟩ : ∃ n, many = n + 1 := ⟨many - 1, by omega⟩
  unfold firstC
  rw [show n + 1 - 1 = n from rfl, List.range_succ_eq_map, List.map_cons, List.map_cons, List.map_map, List.map_map]
  show V.int 1 :: _ = V.int 1 :: _
  congr 1
  refine List.ext_getElem? fun i => ?_
  rcases Nat.lt_or_ge i n with z | z
  · simp [z]
  · simp [z]
section
variable {P : Program} {w : World} {K : PySem.W.Frag} {mg : Str → Option Value} {base : Heap} {f : Addr} {fd : FuncData} {dV : Value}
theorem sc_no_figures_yet : FnScope ["machine"] ["machine"] (defScope s_no_figures_yet) := ⟨rfl, rfl, rfl, by decide +kernel, rfl, by decide +kernel, by decide +kernel⟩
theorem sc_counted_onward : FnScope ["machine", "onward", "row", "counts", "there"] ["machine"] (defScope s_counted_onward) := ⟨rfl, rfl, rfl, by decide +kernel, rfl, by decide +kernel, by decide +kernel⟩
theorem sc_counts_on : FnScope ["onward", "counts", "farther", "here", "many", "there", "times"] ["onward", "counts"] (defScope s_counts_on) := ⟨rfl, rfl, rfl, by decide +kernel, rfl, by decide +kernel, by decide +kernel⟩
theorem ok_nofig (F : FunD K "no_figures_yet" "no_figures_yet" s_no_figures_yet dV f fd) (z_len : mg "len" = none) : FnOk P w K mg base CX0 1 f fd ["machine"] (spNoFig K) := by
  refine F.ok sc_no_figures_yet (fun vs H Q E h => ?_) (fun cdv A outer s H vs Q E hr h => ?_)
  · obtain ⟨m, r, g, many, wide, rows, signs, rfl, _⟩ := h
    rfl
  obtain ⟨m, r, g, many, wide, rows, signs, rfl, M, R, ⟨n0, n1⟩, k⟩ := h
  obtain ⟨ras, hr', hA⟩ := M.rows
  have lr : (ras.map V.ref).length = many := by rw [List.length_map, hA.length, R.len]
  refine ⟨_, (pss_one (ps_ret (pe_op op_cat (pe_lst (pa_cons pe_int pa_nil)) (pe_op op_rep (pe_lst (pa_cons pe_int pa_nil)) (pe_op op_sub (pe_callB call_len_seq (by rfl) z_len bt_len (pa_cons (pe_ix ix_tup (pv 0) pe_int (fun _ _ => rfl)) pa_nil)) pe_int))))), ?_⟩
  refine ⟨(by show 1 ≤ sizeLine; decide), fun L1 hL1 => ?_⟩
  refine ⟨(by show 1 ≤ sizeLine; decide), fun L2 hL2 => ?_⟩
  have s1 := same_new hL1 (HO.lst [V.int 1])
  have s2 := s1.trans (same_new hL2 (HO.lst [V.int 0]))
  have n12 : L1 ≠ L2 := fun z => by rw [← z, upd_same] at hL2; cases hL2
  refine ⟨_, rfl, m, _, _, _, rfl, rfl, SqT.of (s2 _ _ M.tup), rfl, r, _, rfl, .inr (SqT.of (s2 _ _ hr')), _, _, rfl, rfl, ?_⟩
  rw [lr]
  have e : ((many : Int) - 1).toNat = many - 1 := by omega
  refine ⟨L2, _, _, rfl, rfl, upd_same, by omega, by omega, by rw [e]; show 1 * (many - 1) ≤ sizeLine; exact small (by omega), fun L3 hL3 => ?_⟩
  rw [e, rep_zero]
  have n13 : L1 ≠ L3 := fun z => by rw [← z, upd_ne n12, upd_same] at hL3; cases hL3
  refine ⟨L1, L3, _, _, rfl, rfl, by rw [upd_ne n13, upd_ne n12, upd_same], upd_same, by simp; exact small (by omega), fun L4 hL4 => ?_⟩
  rw [firstC_eq n0]
  have s4 := (s2.trans (same_new hL3 _)).trans (same_new hL4 (HO.lst ((firstC many).map V.int)))
  exact k L4 _ s4 upd_same ((s2.trans (same_new hL3 _)).free hL4)
theorem ok_onward (F : FunD K "counted_onward" "counted_onward" s_counted_onward dV f fd) (z_list : mg "list" = none) : FnOk P w K mg base CX0 1 f fd ["machine"] (spOnward K) := by
  refine F.ok sc_counted_onward (fun vs H Q E h => ?_) (fun cdv A outer s H vs Q E hr h => ?_)
  · obtain ⟨m, r, g, many, wide, rows, signs, rfl, _⟩ := h
    rfl
  obtain ⟨m, r, g, many, wide, rows, signs, rfl, M, R, ⟨n0, n1⟩, w1, k⟩ := h
  obtain ⟨ras, hr', hA⟩ := M.rows
  have hu := hu_of hr
  refine ⟨_, (pss_cons (ps_set (i := 1) sc_counted_onward.nd rfl (Or.inl rfl) (pe_lst pa_nil))
      (pss_cons (ps_for PassesOwn.never rfl (pi_tup (pe_ix ix_tup (pv 0) pe_int (fun _ _ => rfl))) (pg_name (i := 2) sc_counted_onward.nd rfl (Or.inl rfl)) (pss_cons (ps_set (i := 3) sc_counted_onward.nd rfl (Or.inl rfl) pe_dnewK)
      (pss_cons (ps_for PassesOwn.never rfl (pi_tup (pv 2)) (pg_name (i := 4) sc_counted_onward.nd rfl (Or.inl rfl)) (pss_one (ps_dput hu (pv 3) (pv 4) (pe_op op_add (pe_dget2 hu (pv 3) (pv 4) pe_int ⟨rfl, rfl, rfl, rfl⟩) pe_int) rfl)))
      (pss_one (ps_expr (pe_bm PySem.F.plainAttrs_list PySem.F.slot_list_append PySem.F.type_list_append mt_append (pv 1) (pa_cons (pe_callTy (call_listItems rfl) (by rfl) z_list bt_list (pa_cons (pe_bm0 PySem.F.plainAttrs_dict PySem.F.slot_dict_items PySem.F.type_dict_items mt_items (pv 3)) pa_nil)) pa_nil)))))))
      (pss_one (ps_ret (pv 1))))), ?_⟩
  refine ⟨(by show 0 ≤ sizeLine; decide), fun R0 hR0 => ?_⟩
  have s0 := same_new hR0 (HO.lst [])
  refine ⟨_, rfl, m, _, _, _, rfl, rfl, SqT.of (s0 _ _ M.tup), rfl, r, rfl, ⟨_, SqT.of (s0 _ _ hr')⟩, for_tup (K := K) (xs := ras.map V.ref) (fun i σ' H' => ∃ (las : List Addr) (v1 v2 v3 : Option V), σ' = [some (.ref m), some (.ref R0), v1, v2, v3] ∧ Same H H' ∧ H' R0 = some (.lst (las.map V.ref)) ∧ las.length = i ∧ (∀ la ∈ las, la ≠ R0) ∧ OnwsAt H' las (rows.take i))
    ⟨[], none, none, none, rfl, s0, upd_same, rfl, (fun la h => by cases h), .nil⟩ (fun i σ' H' _ ⟨_, _, _, _, _, e, _⟩ => SqT.of (e _ _ hr')) ?_ ?_⟩
  · rintro i y σ' H1 hi ⟨las, v1, v2, v3, rfl, s1, hR1, l1, nR, O1⟩
    have il : i < rows.length := by
      have := (List.getElem?_eq_some_iff.mp hi).1
      rw [List.length_map, hA.length] at this
      exact this
    obtain ⟨ra, e1, e2⟩ := hA.get il
    have ey : y = .ref ra := by rw [List.getElem?_map, e1] at hi; exact (Option.some.inj hi).symm
    subst ey
    have hra := s1 _ _ e2
    have hrow : rows[i].length = wide := R.row _ (List.getElem_mem il)
    -- counts = {}
    refine fun D hD => ?_
    have sD := same_new hD (HO.dK [])
    try dsimp only [gName]
    refine cut_seq (t := tFor _ _ _) (fun σ' H' => ∃ (ps : List (Int × Int)) (v : Option V), σ' = [some (.ref m), some (.ref R0), some (.ref ra), some (.ref D), v] ∧ Same H1 H' ∧ H' D = some (.dK (kvC ps)) ∧ CntOk ps rows[i]) ?_ (fun nxt => ?_)
    rotate_left
    · refine ⟨_, rfl, ra, rfl, ⟨_, SqT.of (sD _ _ hra)⟩, for_tup (K := K) (xs := rows[i].map V.int) (fun j σ' H' => ∃ (ps : List (Int × Int)) (v : Option V), σ' = [some (.ref m), some (.ref R0), some (.ref ra), some (.ref D), v] ∧ Same H1 H' ∧ H' D = some (.dK (kvC ps)) ∧ ps.length ≤ j ∧ CntOk ps (rows[i].take j))
        ⟨[], v3, rfl, sD, upd_same, Nat.le_refl _, by rw [List.take_zero]; exact CntOk.nil⟩ (fun j σ' H' _ ⟨_, _, _, e, _⟩ => SqT.of (e _ _ hra)) ?_ ?_⟩
      · rintro j y σ' H2 hj ⟨ps, v, rfl, s2, hD2, lp, C⟩
        obtain ⟨z, rfl, hz⟩ := ints_at hj
        have jl : j < rows[i].length := (List.getElem?_eq_some_iff.mp hz).1
        refine ⟨_, rfl, D, rfl, .inl ⟨_, .inl hD2⟩, _, rfl, _, DGet.k (k := Sum.inl z) hD2, ?_⟩
        rw [kvC_val C.nd]
        refine ⟨_, _, rfl, rfl, _, rfl, _, rfl, D, _, rfl, DPut.k (k := Sum.inl z) hD2 (by
          have : (kvC ps).length = ps.length := List.length_map _
          rw [this]
          exact small1000 (by omega)), ?_⟩
        rw [kvC_put]
        refine ⟨_, _, rfl, same_upd s2 hD, upd_same, ?_, ?_⟩
        · have := congrArg List.length (putI_fst (ps := ps) (t := z) (v := pairSum ps z + 1))
          rw [List.length_map] at this
          split at this
          · rw [List.length_map] at this; omega
          · rw [List.length_append, List.length_map] at this
            simp only [List.length_cons, List.length_nil] at this
            omega
        · rw [List.take_add_one, hz]
          exact C.put
      · rintro σ' H2 ⟨ps, v, rfl, s2, hD2, lp, C⟩
        rw [List.length_map, List.take_length] at C
        exact nxt _ _ ⟨ps, v, rfl, s2, hD2, C⟩
    rintro σ' H2 ⟨ps, v, rfl, s2, hD2, C⟩
    have hR2 := s2 _ _ hR1
    refine ⟨_, rfl, .inl ⟨rfl, _, SqL.of hR2⟩, _, rfl, .inr (.inr (.inl ⟨rfl, .inl ⟨_, hD2⟩⟩)), D, _, rfl, rfl, hD2, fun vw hvw => ?_⟩
    have s3 := same_new hvw (ItemsAt vw D)
    refine ⟨vw, D, _, rfl, upd_same, s3 _ _ hD2, fun l as H4 hl el s4 hl4 hT => ?_⟩
    have s24 := s3.trans s4
    have hR4 := s24 _ _ hR2
    have nl : l ≠ R0 := fun z => by
      rw [z] at hl
      exact absurd (s3 _ _ hR2) (by rw [hl]; intro q; cases q)
    have pl : PairsAt H4 as ps := PairsAt.of (by rw [el]; exact List.length_map _) fun j a p h1 h2 => (hT j a (Sum.inl p.1, V.int p.2) h1 (by unfold kvC; rw [List.getElem?_map, h2]; rfl)).2
    refine ⟨R0, _, _, rfl, rfl, hR4, small1000 (by rw [List.length_map]; have := R.len; omega), ?_⟩
    have s14 := s2.trans s24
    have up : ∀ {la : Addr} {row : List Int}, la ≠ R0 → OnwRow H4 la row → OnwRow (upd H4 R0 (.lst (las.map V.ref ++ [V.ref l]))) la row := fun {la row} ne ⟨as, ps, h1, h2, h3⟩ =>
      ⟨as, ps, by rw [upd_ne ne]; exact h1, h2.same fun b xs e => by rw [upd_ne (ne_of e hR4 (by intro z; cases z))]; exact e, h3⟩
    have O4 : OnwsAt (upd H4 R0 (.lst (las.map V.ref ++ [V.ref l]))) las (rows.take i) := by
      have go : ∀ {ls : List Addr} {rs : List (List Int)}, OnwsAt H4 ls rs → (∀ la ∈ ls, la ≠ R0) → OnwsAt (upd H4 R0 (.lst (las.map V.ref ++ [V.ref l]))) ls rs := by
        intro ls rs h
        induction h with
        | nil => intro _; exact .nil
        | cons q t ih => intro nR; exact .cons (up (nR _ List.mem_cons_self) q) (ih fun la h => nR la (List.mem_cons_of_mem _ h))
      exact go (O1.same s14) nR
    refine ⟨las ++ [l], _, _, _, rfl, same_upd (s1.trans s14) hR0, by rw [upd_same, List.map_append]; rfl, by simp [l1], ?_, ?_⟩
    · intro la h
      rcases List.mem_append.mp h with z | z
      · exact nR la z
      · rw [List.mem_singleton.mp z]; exact nl
    · rw [List.take_add_one, List.getElem?_eq_getElem il]
      exact Paired.snoc O4 (up nl ⟨as, ps, hl4, pl, C⟩)
  · rintro σ' H1 ⟨las, v1, v2, v3, rfl, s1, hR1, l1, nR, O1⟩
    rw [List.length_map, hA.length, List.take_length] at O1
    exact ⟨_, rfl, k R0 H1 s1 ⟨las, hR1, O1⟩⟩
theorem ok_counts_on (F : FunD K "counts_on" "counts_on" s_counts_on dV f fd) (z_len : mg "len" = none) (z_enumerate : mg "enumerate" = none) : FnOk P w K mg base CX0 1 f fd ["onward", "counts"] (spCountsOn K) := by
  refine F.ok sc_counts_on (fun vs H Q E h => ?_) (fun cdv A outer s H vs Q E hr h => ?_)
  · obtain ⟨o, c, many, wide, rows, cs, rfl, _⟩ := h
    rfl
  obtain ⟨o, c, many, wide, rows, cs, rfl, O, R, n1, w1, hc, lc, hz, k⟩ := h
  obtain ⟨las, ho, hO⟩ := id O
  have ll : las.length = rows.length := Paired.length hO
  refine ⟨_, (pss_cons (ps_set (i := 2) sc_counts_on.nd rfl (Or.inl rfl) (pe_op op_rep (pe_lst (pa_cons pe_int pa_nil)) (pe_callB call_len_seq (by rfl) z_len bt_len (pa_cons (pv 1) pa_nil))))
      (pss_cons (ps_for PassesOwn.never rfl (pi_enumL rfl z_enumerate (pa_cons (pv 1) pa_nil)) (pg_tup rfl (pgs_cons (pg_name (i := 3) sc_counts_on.nd rfl (Or.inl rfl)) (pgs_cons (pg_name (i := 4) sc_counts_on.nd rfl (Or.inl rfl)) pgs_nil))) (pss_one (ps_if (pt_cmpR op_gt (pv 4) pe_int (nomark _)) (pss_one (ps_for PassesOwn.never rfl (pi_list (pe_ix ix_list (pv 0) (pv 3) (fun _ _ => rfl))) (pg_tup rfl (pgs_cons (pg_name (i := 5) sc_counts_on.nd rfl (Or.inl rfl)) (pgs_cons (pg_name (i := 6) sc_counts_on.nd rfl (Or.inl rfl)) pgs_nil))) (pss_one (ps_asg (pe_op op_add (pe_ix ix_list (pv 2) (pv 5) (fun _ _ => rfl)) (pe_op op_mulB (pv 4) (pv 6))) (pg_sub (pv 2) (pv 5) set_list))))) pss_nil)))
      (pss_one (ps_ret (pv 2))))), ?_⟩
  refine ⟨(by show 1 ≤ sizeLine; decide), fun L1 hL1 => ?_⟩
  have s1 := same_new hL1 (HO.lst [V.int 0])
  refine ⟨_, rfl, c, _, rfl, .inl (SqL.of (s1 _ _ hc)), ?_⟩
  rw [List.length_map, lc]
  refine ⟨L1, _, _, rfl, rfl, upd_same, by omega, by omega, (by show 1 * ((many : Int)).toNat ≤ sizeLine; exact small (by omega)), fun B hB => ?_⟩
  have s2 := s1.trans (same_new hB (HO.lst (List.replicate ((many : Int)).toNat [V.int 0]).flatten))
  have fB : H B = none := s1.free hB
  rw [Int.toNat_natCast, rep_zero] at s2 ⊢
  refine ⟨_, rfl, c, rfl, ⟨_, SqL.of (s2 _ _ hc)⟩, for_enumL (K := K) (xs := cs.map V.int) (fun i σ' H' => ∃ (b : List Int) (v1 v2 v3 v4 : Option V), σ' = [some (.ref o), some (.ref c), some (.ref B), v1, v2, v3, v4] ∧ Same H H' ∧ H' B = some (.lst (b.map V.int)) ∧ Acc many (fun t => preSum (fun q => cs.getD q 0 * cnt (rows.getD q []) t) i) b)
    ⟨_, none, none, none, none, rfl, s2, upd_same, Acc.zero many⟩ (fun i σ' H' _ ⟨_, _, _, _, _, _, e, _⟩ => SqL.of (e _ _ hc)) ?_ ?_⟩
  · rintro i y σ' H1 T hi ⟨b, v1, v2, v3, v4, rfl, s1, hB1, A1⟩ hT
    obtain ⟨z, rfl, hzi⟩ := ints_at hi
    have il : i < cs.length := (List.getElem?_eq_some_iff.mp hzi).1
    have ez : cs.getD i 0 = z := by rw [List.getD_eq_getElem?_getD, hzi]; rfl
    have zr := hz z (List.mem_of_getElem? hzi)
    have sT := same_new hT (HO.tup [V.int i, V.int z])
    refine ⟨T, _, rfl, SqT.of upd_same, rfl, _, _, rfl, _, _, rfl, rfl, ?_⟩
    refine ⟨_, rfl, _, _, rfl, rfl, _, rfl, iteD (fun c0 => ?_) (fun c0 => ?_)⟩
    · have ir : i < rows.length := by rw [R.len]; omega
      obtain ⟨la, ela, as, ps, hla, hps, C⟩ := hO.get ir
      have s2 := s1.trans sT
      have hrow : rows[i].length = wide := R.row _ (List.getElem_mem ir)
      refine ⟨_, rfl, _, rfl, o, _, _, _, rfl, rfl, SqL.of (s2 _ _ ho), atI_refs (by omega) (by rw [Int.toNat_natCast]; exact ela), la, rfl, ⟨_, SqL.of (s2 _ _ hla)⟩, ?_⟩
      refine for_list (K := K) (xs := as.map V.ref) (fun j σ' H' => ∃ (b : List Int) (v3 v4 : Option V), σ' = [some (.ref o), some (.ref c), some (.ref B), some (.int i), some (.int z), v3, v4] ∧ Same H H' ∧ H' B = some (.lst (b.map V.int)) ∧ Acc many (fun t => preSum (fun q => cs.getD q 0 * cnt (rows.getD q []) t) i + z * pairSum (ps.take j) t) b)
        ⟨b, v3, v4, rfl, s2, by rw [upd_ne (ne_of_none hB1 hT)]; exact hB1, A1.congr fun t _ => by rw [List.take_zero]; show _ = _ + z * 0; omega⟩ (fun j σ' H' _ ⟨_, _, _, _, e, _⟩ => SqL.of (e _ _ hla)) ?_ ?_
      · rintro j y σ' H2 hj ⟨b2, v3, v4, rfl, s3, hB2, A2⟩
        obtain ⟨a, rfl, ha⟩ : ∃ a, y = V.ref a ∧ as[j]? = some a := by
          rw [List.getElem?_map] at hj
          cases e : as[j]? with
          | none => rw [e] at hj; cases hj
          | some a => rw [e] at hj; exact ⟨a, (Option.some.inj hj).symm, rfl⟩
        obtain ⟨p, hp, hta⟩ := hps.get ha
        have pm := List.mem_of_getElem? hp
        have pr := R.val _ (List.getElem_mem ir) _ (C.mem p pm)
        have pp := C.pos p pm
        have lb : (b2.map V.int).length = many := by rw [List.length_map]; exact A2.1
        have pB : p.2 < BIG := Int.lt_of_le_of_lt (Int.le_trans pp.2 (show ((rows[i].length : Nat) : Int) ≤ 1000 by omega)) (by decide +kernel)
        have ix : ixN (b2.map V.int).length p.1 = some p.1.toNat := by
          rw [lb]
          unfold ixN
          rw [if_pos pr.1, if_pos pr.2]
        refine ⟨a, _, rfl, SqT.of (s3 _ _ hta), rfl, _, _, rfl, _, _, rfl, rfl, ?_⟩
        refine ⟨_, rfl, _, rfl, B, _, _, _, rfl, rfl, SqL.of hB2, atI_ints pr.1 (by rw [A2.1]; exact pr.2), _, rfl, _, rfl, _, _, rfl, rfl, ⟨⟨by omega, zr.2⟩, ⟨pp.1, pB⟩⟩, _, _, rfl, rfl, _, rfl, _, rfl, B, _, _, _, rfl, rfl, hB2, ix, ?_⟩
        refine ⟨b2.set p.1.toNat (b2.getD p.1.toNat 0 + z * p.2), _, _, rfl, same_upd s3 fB, by rw [upd_same, List.map_set], ?_⟩
        refine (A2.add (v := z * p.2) pr.1 pr.2).congr fun t _ => ?_
        rw [List.take_add_one, hp, pairSum_append]
        show _ = _ + z * (pairSum (ps.take j) t + pairSum [p] t)
        rw [pairSum_cons, Int.mul_add, Int.add_assoc]
        show _ = _ + (_ + z * ((if p.1 = (t : Int) then p.2 else 0) + 0))
        rw [Int.add_zero]
        split <;> simp
      · rintro σ' H2 ⟨b2, v3, v4, rfl, s3, hB2, A2⟩
        refine ⟨b2, _, _, _, _, rfl, s3, hB2, A2.congr fun t _ => ?_⟩
        rw [List.length_map, Paired.length hps, List.take_length, C.sum]
        show _ = preSum _ i + cs.getD i 0 * cnt (rows.getD i []) t
        rw [ez, getD_at ir]
    · refine ⟨b, _, _, _, _, rfl, s1.trans sT, by rw [upd_ne (ne_of_none hB1 hT)]; exact hB1, A1.congr fun t _ => ?_⟩
      show _ = preSum _ i + cs.getD i 0 * cnt (rows.getD i []) t
      rw [ez, show z = 0 from by omega, Int.zero_mul, Int.add_zero]
  · rintro σ' H1 ⟨b, v1, v2, v3, v4, rfl, s1, hB1, A1⟩
    rw [List.length_map] at A1
    have e : b = stepC rows many cs := A1.eq
    rw [e] at hB1
    exact ⟨_, rfl, k B H1 s1 hB1 fB⟩
end
end My

set_option Elab.async false
set_option linter.all false
set_option maxRecDepth 100000
set_option maxHeartbeats 8000000
namespace My
open PySem L2
/-! ### what leads to a sign, place by place -/
theorem big_size {n : Nat} (h : n ≤ 100000) : n < sizeLine := Nat.lt_of_le_of_lt h (by decide)
theorem atI_map {α : Type} {f : α → V} {xs : List α} {k : Int} {x : α} (h0 : 0 ≤ k) (h : xs[k.toNat]? = some x) : atI (xs.map f) k = some (f x) := by
  have ek : k = ((k.toNat : Nat) : Int) := by omega
  have q : atI (xs.map f) ((k.toNat : Nat) : Int) = some (f x) := atI_nat (by rw [List.getElem?_map, h] <;> rfl)
  rw [← ek] at q
  exact q
def goalB (rows : List (List Int)) (signs : List Int) (s : Int) (row : List Int) (q : Int) : Bool := decide (V.int (sgnI signs (walkI rows row q)) = V.int s)
def goalL (rows : List (List Int)) (signs : List Int) (s : Int) (many : Nat) (row : List Int) : List Bool := (List.range many).map fun q : Nat => goalB rows signs s row q
theorem goalL_at {rows : List (List Int)} {signs row : List Int} {s : Int} {many : Nat} {q : Int} (q0 : 0 ≤ q) (q1 : q < (many : Int)) : atI ((goalL rows signs s many row).map V.bl) q = some (V.bl (goalB rows signs s row q)) := by
  refine atI_map q0 ?_
  have h : q.toNat < many := by omega
  unfold goalL
  rw [List.getElem?_map, List.getElem?_range h]
  show some (goalB rows signs s row ((q.toNat : Nat) : Int)) = _
  rw [show ((q.toNat : Nat) : Int) = q from by omega]
def GoalsAt (H : Hp) (rows : List (List Int)) (signs : List Int) (s : Int) (many : Nat) : List Addr → List (List Int) → Prop := Paired fun a row => H a = some (.lst ((goalL rows signs s many row).map V.bl))
theorem GoalsAt.same {H H' : Hp} {rows : List (List Int)} {signs : List Int} {s : Int} {many : Nat} {gas : List Addr} {rs : List (List Int)} (h : GoalsAt H rows signs s many gas rs) (sm : Same H H') : GoalsAt H' rows signs s many gas rs := Paired.mapP h fun _ _ q => sm _ _ q
theorem GoalsAt.get : ∀ {H : Hp} {rows : List (List Int)} {signs : List Int} {s : Int} {many : Nat} {gas : List Addr} {rs : List (List Int)} {i : Nat}, GoalsAt H rows signs s many gas rs → (h : i < rs.length) → ∃ a, gas[i]? = some a ∧ H a = some (.lst ((goalL rows signs s many rs[i]).map V.bl))
  | _, _, _, _, _, _, _, _, .nil, h => by simp at h
  | _, _, _, _, _, _, _, 0, .cons (a := a) r _, _ => ⟨a, rfl, r⟩
  | _, _, _, _, _, _, _, i + 1, .cons _ t, h => by
    obtain ⟨a, h1, h2⟩ := GoalsAt.get (i := i) t (by simpa using h)
    exact ⟨a, by simpa using h1, by simpa using h2⟩
theorem paired_rev {α β : Type} {F : α → β → Prop} {xs : List α} {ys : List β} (h : Paired F xs ys) : Paired F xs.reverse ys.reverse := by
  induction h with
  | nil => exact .nil
  | cons r t ih => rw [List.reverse_cons, List.reverse_cons]; exact Paired.snoc ih r
def spGoals (K : PySem.W.Frag) : Sp := fun vs H Q _ => ∃ (m r g b : Addr) (many wide : Nat) (rows : List (List Int)) (signs ds : List Int) (s : Int), vs = [.ref m, .ref b, .int s] ∧ MachAt H m r g wide rows signs ∧ RowsOk many wide rows ∧ signs.length = many ∧ (1 ≤ many ∧ many ≤ 1000) ∧
  H b = some (.tup (ds.map V.int)) ∧ InB (wide : Int) ds ∧ ds.length ≤ 2000 ∧
  ∀ (l : Addr) (H' : Hp) (gas : List Addr), Same H H' → H' l = some (.lst (gas.map V.ref)) → GoalsAt H' rows signs s many gas ((List.range (ds.length + 1)).map fun i => ds.drop i) → Q (.ref l) H'
section
variable {P : Program} {w : World} {K : PySem.W.Frag} {mg : Str → Option Value} {base : Heap} {f : Addr} {fd : FuncData} {dV : Value}
theorem sc_goals_along : FnScope ["machine", "row", "sign", "goal", "goals", "figure"] ["machine", "row", "sign"] (defScope s_goals_along) := ⟨rfl, rfl, rfl, by decide +kernel, rfl, by decide +kernel, by decide +kernel⟩
theorem bk_goals_along_0 : BlkScope ["machine", "row", "sign", "goal", "goals", "figure"] (defScope s_goals_along) ["other", "sign"] [none, some 2] { kind := ScopeKind.function, names := [(".0", NameKind.local), ("other", NameKind.local), ("sign", NameKind.free)], isGenerator := false, isCoroutine := false, more := [] } := ⟨rfl, by decide +kernel, by decide +kernel, by decide +kernel, by decide +kernel, rfl, by decide +kernel⟩
theorem bk_goals_along_1 : BlkScope ["machine", "row", "sign", "goal", "goals", "figure"] (defScope s_goals_along) ["leading", "figure", "goal"] [none, some 5, some 3] { kind := ScopeKind.function, names := [(".0", NameKind.local), ("leading", NameKind.local), ("figure", NameKind.free), ("goal", NameKind.free)], isGenerator := false, isCoroutine := false, more := [] } := ⟨rfl, by decide +kernel, by decide +kernel, by decide +kernel, by decide +kernel, rfl, by decide +kernel⟩
theorem ok_goals (F : FunD K "goals_along" "goals_along" s_goals_along dV f fd) (z_reversed : mg "reversed" = none) : FnOk P w K mg base CX0 1 f fd ["machine", "row", "sign"] (spGoals K) := by
  refine F.ok sc_goals_along (fun vs H Q E h => ?_) (fun cdv A outer s H vs Q E hr h => ?_)
  · obtain ⟨m, r, g, b, many, wide, rows, signs, ds, s, rfl, _⟩ := h
    rfl
  obtain ⟨m, r, g, b, many, wide, rows, signs, ds, s, rfl, M, R, lsg, ⟨n0, n1⟩, hb, hi, hds, k⟩ := h
  obtain ⟨ras, hr', hA⟩ := M.rows
  have lr : ras.length = many := by rw [hA.length, R.len]
  refine ⟨_, (pss_cons (ps_set (i := 3) sc_goals_along.nd rfl (Or.inr rfl) (pe_comp rfl bk_goals_along_0 (pi_tup (pe_ix ix_tup (pv 0) pe_int (fun _ _ => rfl))) (fun _ _ _ _ => (pg_name (i := 0) bk_goals_along_0.nd rfl (Or.inl rfl))) (fun _ _ _ _ => (pe_cmpR op_eq (pv 0) (pv 1) (nomark _)))))
      (pss_cons (ps_set (i := 4) sc_goals_along.nd rfl (Or.inl rfl) (pe_lst (pa_cons (pv 3) pa_nil)))
      (pss_cons (ps_for PassesOwn.never rfl (pi_revT rfl z_reversed (pa_cons (pv 1) pa_nil)) (pg_name (i := 5) sc_goals_along.nd rfl (Or.inr rfl)) (pss_cons (ps_set (i := 3) sc_goals_along.nd rfl (Or.inr rfl) (pe_comp rfl bk_goals_along_1 (pi_tup (pe_ix ix_tup (pv 0) pe_int (fun _ _ => rfl))) (fun _ _ _ _ => (pg_name (i := 0) bk_goals_along_1.nd rfl (Or.inl rfl))) (fun _ _ _ _ => (pe_ix (ix_listK K) (pv 2) (pe_ix (ix_tupK K) (pv 0) (pv 1) (fun _ _ => rfl)) (fun _ _ => rfl)))))
      (pss_one (ps_expr (pe_bm PySem.F.plainAttrs_list PySem.F.slot_list_append PySem.F.type_list_append mt_append (pv 4) (pa_cons (pv 3) pa_nil))))))
      (pss_one (ps_ret (pe_slice3 sl3_list (pv 4) po_none po_none (po_some (pe_un un_neg pe_int)))))))), ?_⟩
  -- goal = [other == sign for other in machine[2]]
  refine ⟨_, rfl, m, _, _, _, rfl, rfl, SqT.of M.tup, rfl, g, rfl, ⟨_, SqT.of M.sgn⟩, ?_⟩
  refine comp_tup (K := K) (xs := signs.map V.int) (fun D i ys H' => Same H H' ∧ ys = ((List.range i).map fun q : Nat => goalB rows signs s [] q).map V.bl) (fun D hD => ⟨same_new hD _, rfl⟩) (fun D i ys H' _ ⟨e, _⟩ => SqT.of (e _ _ M.sgn)) ?_ ?_
  · rintro D i y ys H' Q' hD hi' hy ⟨hs, rfl⟩ k'
    obtain ⟨z, rfl, hz⟩ := ints_at hi'
    have il := (List.getElem?_eq_some_iff.mp hz).1
    refine ⟨_, rfl, _, rfl, rfl, k' _ _ hy (small1000 (by rw [List.length_map, List.length_map, List.length_range]; omega)) ⟨same_upd hs hD, ?_⟩⟩
    rw [List.range_succ, List.map_append, List.map_append]
    congr 1
    show [V.bl (decide (V.int z = V.int s))] = [V.bl (decide (V.int (signs.getD ((i : Int)).toNat 0) = V.int s))]
    rw [Int.toNat_natCast, List.getD_eq_getElem?_getD, hz]
    rfl
  rintro G0 ys H1 fG0 hG0 ⟨s1, rfl⟩
  rw [List.length_map, lsg] at hG0
  have hG0' : H1 G0 = some (.lst ((goalL rows signs s many []).map V.bl)) := hG0
  try dsimp only [gName]
  refine ⟨_, rfl, (by show 1 ≤ sizeLine; decide), fun L hL => ?_⟩
  have sL := same_new hL (HO.lst [V.ref G0])
  have fL : H L = none := s1.free hL
  have nG : G0 ≠ L := ne_of_none hG0 hL
  have ed0 : ds.drop (ds.length - 0) = [] := by rw [Nat.sub_zero, List.drop_length]
  have lds : (ds.map V.int).length = ds.length := List.length_map _
  refine ⟨_, rfl, b, _, rfl, SqT.of ((s1.trans sL) _ _ hb), ?_⟩
  refine for_revT (K := K) (xs := ds.map V.int) (fun i σ' H' => ∃ (G : Addr) (gas : List Addr) (v1 : Option V), σ' = [some (.ref m), some (.ref b), some (.int s), some (.ref G), some (.ref L), v1] ∧ Same H H' ∧ H' G = some (.lst ((goalL rows signs s many (ds.drop (ds.length - i))).map V.bl)) ∧ H' L = some (.lst (gas.map V.ref)) ∧ (∀ a ∈ gas, a ≠ L) ∧ gas.length = i + 1 ∧
      GoalsAt H' rows signs s many gas ((List.range (i + 1)).map fun j => ds.drop (ds.length - j)))
    ⟨G0, [G0], none, rfl, s1.trans sL, by rw [ed0]; exact sL _ _ hG0', upd_same, (fun a h => by rw [List.mem_singleton.mp h]; exact nG), rfl, .cons (by show _ = some (HO.lst ((goalL rows signs s many (ds.drop (ds.length - 0))).map V.bl)); rw [ed0]; exact sL _ _ hG0') .nil⟩
    (fun i σ' H' _ ⟨_, _, _, _, e, _⟩ => SqT.of (e _ _ hb)) ?_ ?_
  · rintro i y σ' H2 hil hi' ⟨G, gas, v1, rfl, s2, hG2, hL2, nL, lg, Gs⟩
    rw [lds] at hil hi'
    obtain ⟨z, rfl, hz⟩ := ints_at hi'
    have zr := hi z (List.mem_of_getElem? hz)
    have edr : ds.drop (ds.length - (i + 1)) = z :: ds.drop (ds.length - i) := by
      have e1 : ds.length - (i + 1) = ds.length - 1 - i := by omega
      have e2 : ds.length - 1 - i < ds.length := by omega
      rw [e1, List.drop_eq_getElem_cons e2]
      congr 1
      · rw [List.getElem?_eq_getElem e2] at hz
        exact Option.some.inj hz
      · congr 1
        omega
    refine ⟨_, rfl, m, _, _, _, rfl, rfl, SqT.of (s2 _ _ M.tup), rfl, r, rfl, ⟨_, SqT.of (s2 _ _ hr')⟩, ?_⟩
    refine comp_tup (K := K) (xs := ras.map V.ref) (fun D j ys H' => Same H2 H' ∧ ys = ((List.range j).map fun q : Nat => goalB rows signs s (ds.drop (ds.length - (i + 1))) q).map V.bl) (fun D hD => ⟨same_new hD _, rfl⟩) (fun D j ys H' _ ⟨e, _⟩ => SqT.of (e _ _ (s2 _ _ hr'))) ?_ ?_
    · rintro D j y ys H' Q' hD hj hy ⟨hs, rfl⟩ k'
      have jl : j < rows.length := by
        have := (List.getElem?_eq_some_iff.mp hj).1
        rw [List.length_map, hA.length] at this
        exact this
      obtain ⟨ra, e1, e2⟩ := hA.get jl
      have ey : y = .ref ra := by rw [List.getElem?_map, e1] at hj; exact (Option.some.inj hj).symm
      subst ey
      have jm : j < many := by rw [← R.len]; exact jl
      have st := stepI_ok R (show (0 : Int) ≤ (j : Int) by omega) (by omega) zr.1 zr.2
      have lrow : rows[j].length = wide := R.row _ (List.getElem_mem jl)
      have es : (rows[j]).getD z.toNat 0 = stepI rows (j : Int) z := by
        unfold stepI
        rw [Int.toNat_natCast, getD_at jl]
      have at1 : atI (rows[j].map V.int) z = some (.int (stepI rows (j : Int) z)) := by
        rw [atI_ints zr.1 (by rw [lrow]; exact zr.2), es]
      refine ⟨_, rfl, _, rfl, _, rfl, ra, _, _, _, rfl, rfl, SqT.of (hs _ _ (s2 _ _ e2)), at1, G, _, _, _, rfl, rfl, SqL.of (hs _ _ hG2), goalL_at st.1 st.2, k' _ _ hy (small1000 (by rw [List.length_map, List.length_map, List.length_range]; omega)) ⟨same_upd hs hD, ?_⟩⟩
      rw [List.range_succ, List.map_append, List.map_append]
      congr 1
      show [V.bl (goalB rows signs s (ds.drop (ds.length - i)) (stepI rows (j : Int) z))] = [V.bl (goalB rows signs s (ds.drop (ds.length - (i + 1))) (j : Int))]
      unfold goalB
      rw [edr]
      rfl
    rintro G2 ys H3 fG2 hG3 ⟨s3, rfl⟩
    rw [List.length_map, lr] at hG3
    have hL3 := s3 _ _ hL2
    have nG2 : G2 ≠ L := Ne.symm (ne_of_none hL2 fG2)
    try dsimp only [gName]
    refine ⟨_, rfl, .inl ⟨rfl, _, SqL.of hL3⟩, _, rfl, L, _, _, rfl, rfl, hL3, by rw [List.length_map, lg]; exact big_size (by omega), ?_⟩
    have up : ∀ {a : Addr} {xs : List V}, a ≠ L → H3 a = some (.lst xs) → (upd H3 L (.lst (gas.map V.ref ++ [V.ref G2]))) a = some (.lst xs) := fun ne e => by rw [upd_ne ne]; exact e
    have hG3' : H3 G2 = some (.lst ((goalL rows signs s many (ds.drop (ds.length - (i + 1)))).map V.bl)) := hG3
    refine ⟨G2, gas ++ [G2], _, rfl, same_upd (s2.trans s3) fL, up nG2 hG3', by rw [upd_same, List.map_append]; rfl, ?_, by simp [lg], ?_⟩
    · intro a h
      rcases List.mem_append.mp h with z | z
      · exact nL a z
      · rw [List.mem_singleton.mp z]; exact nG2
    · rw [List.range_succ, List.map_append]
      refine Paired.snoc ?_ (up nG2 hG3')
      have Gs3 := Gs.same s3
      have go : ∀ {gs : List Addr} {rs : List (List Int)}, GoalsAt H3 rows signs s many gs rs → (∀ a ∈ gs, a ≠ L) → GoalsAt (upd H3 L (.lst (gas.map V.ref ++ [V.ref G2]))) rows signs s many gs rs := by
        intro gs rs h
        induction h with
        | nil => intro _; exact .nil
        | cons q t ih => intro nL; exact .cons (up (nL _ List.mem_cons_self) q) (ih fun la h => nL la (List.mem_cons_of_mem _ h))
      exact go Gs3 nL
  · rintro σ' H2 ⟨G, gas, v1, rfl, s2, hG2, hL2, nL, lg, Gs⟩
    rw [lds] at Gs lg
    refine ⟨_, rfl, _, rfl, _, rfl, L, _, rfl, rfl, rfl, rfl, SqL.of hL2, fun p hp => ?_⟩
    have sp := same_new hp (HO.lst (gas.map V.ref).reverse)
    refine k p _ gas.reverse (s2.trans sp) (by rw [upd_same, List.map_reverse]) ?_
    have e := paired_rev (Gs.same sp)
    have er : ((List.range (ds.length + 1)).map fun j => ds.drop (ds.length - j)).reverse = (List.range (ds.length + 1)).map fun i => ds.drop i := by
      refine List.ext_getElem? fun i => ?_
      rcases Nat.lt_or_ge i (ds.length + 1) with h | h
      · rw [List.getElem?_reverse (by simpa using h)]
        simp [h]
        have e2 : ds.length - i < ds.length + 1 := by omega
        simp [e2]
        congr 1
        omega
      · rw [List.getElem?_eq_none (by simpa using h), List.getElem?_eq_none (by simpa using h)]
    rw [er] at e
    exact e
end
end My

set_option Elab.async false
set_option linter.all false
set_option maxRecDepth 100000
set_option maxHeartbeats 8000000
namespace My
open PySem L2
/-! ### powers -/
theorem base_mono {a b : Int} (h0 : 0 ≤ a) (h : a ≤ b) : ∀ n : Nat, a ^ n ≤ b ^ n
  | 0 => by rw [Int.pow_zero, Int.pow_zero]; exact Int.le_refl _
  | n + 1 => by
    rw [Int.pow_succ, Int.pow_succ]
    have p : 0 ≤ b ^ n := Int.pow_nonneg (by omega)
    exact Int.mul_le_mul (base_mono h0 h n) h h0 p
theorem pow_le_pow {w : Int} (h : 1 ≤ w) {i n : Nat} (hi : i ≤ n) : w ^ i ≤ w ^ n := by
  obtain ⟨d, rfl⟩ := Nat.le.dest hi
  clear hi
  induction d with
  | zero => exact Int.le_refl _
  | succ d ih =>
    rw [← Nat.add_assoc, Int.pow_succ]
    have p : 0 ≤ w ^ (i + d) := Int.pow_nonneg (by omega)
    have q := Int.mul_le_mul_of_nonneg_left h p
    rw [Int.mul_one] at q
    exact Int.le_trans ih q
theorem cN_big {rows : List (List Int)} {many wide long : Nat} (R : RowsOk many wide rows) (m1 : 1 ≤ many) (w1 : 1 ≤ wide) (hb : (wide : Int) ^ long < BIG) {k : Nat} (hk : k ≤ long) : ∀ z ∈ cN rows many k, 0 ≤ z ∧ z < BIG := fun z hz => by
  obtain ⟨t, ht, e⟩ := List.getElem_of_mem hz
  have ht' : t < many := by rw [cN_len] at ht; exact ht
  have h1 := cN_nonneg rows many k t ht'
  have h2 := cN_le R m1 k t ht'
  have h3 := pow_le_pow (w := (wide : Int)) (by omega) hk
  rw [getD_at ht, e] at h1 h2
  exact ⟨h1, by omega⟩
/-! ### count_below -/
def placeG (rows : List (List Int)) (signs : List Int) (s : Int) (ds : List Int) (i q : Nat) : Int := preSum (fun f : Nat => ind (sgnI signs (walkI rows (ds.drop (i + 1)) (stepI rows q f)) = s)) (ds.getD i 0).toNat
def placeC (rows : List (List Int)) (many : Nat) (signs : List Int) (s : Int) (ds : List Int) (i : Nat) : Int := preSum (fun q : Nat => (cN rows many i).getD q 0 * placeG rows signs s ds i q) many
def spCount (K : PySem.W.Frag) : Sp := fun vs H Q _ => ∃ (m r g : Addr) (many wide b : Nat) (rows : List (List Int)) (signs : List Int) (s : Int), vs = [.ref m, .int b, .int s] ∧ MachAt H m r g wide rows signs ∧ RowsOk many wide rows ∧ signs.length = many ∧ SteadyS many rows signs ∧ (1 ≤ many ∧ many ≤ 1000) ∧ (2 ≤ wide ∧ wide ≤ 1000) ∧ (b : Int) < NB ∧
  ∀ H', Same H H' → Q (.int (cntB rows wide signs s b)) H'
theorem filter_len (rows : List (List Int)) (signs : List Int) (s : Int) (dr row : List Int) : ∀ d : Nat, d ≤ row.length → (((row.take d).filter fun t => goalB rows signs s dr t).length : Int) = preSum (fun f : Nat => ind (sgnI signs (walkI rows dr (row.getD f 0)) = s)) d
  | 0, _ => rfl
  | d + 1, h => by
    have hd : d < row.length := h
    rw [List.take_add_one, List.getElem?_eq_getElem hd, List.filter_append, List.length_append]
    push_cast
    rw [filter_len rows signs s dr row d (Nat.le_of_lt hd)]
    show _ = preSum _ d + ind _
    congr 1
    rw [getD_at hd]
    show ((([row[d]].filter fun t => goalB rows signs s dr t).length : Nat) : Int) = _
    unfold ind
    by_cases e : sgnI signs (walkI rows dr row[d]) = s
    · rw [if_pos e, List.filter_cons_of_pos (by unfold goalB; exact decide_eq_true (congrArg V.int e))]
      rfl
    · rw [if_neg e, List.filter_cons_of_neg (by unfold goalB; intro z; exact e (V.int.inj (of_decide_eq_true z)))]
      rfl
theorem pow_figs' {w : Nat} (hw : 2 ≤ w) {n : Int} {ds : List Int} (F : Figs (w : Int) n ds) {i : Nat} (hi : i < ds.length) : (w : Int) ^ i ≤ n := by
  rcases last_cases ds with e | ⟨r, x, e⟩
  · rw [e] at hi
    exact absurd hi (Nat.not_lt_zero _)
  subst e
  have hl := F.top x (by simp)
  have hv := F.val
  rw [valB_snoc] at hv
  have hb := F.inb x (by simp)
  have h0 : InB (w : Int) r := fun p hp => F.inb p (List.mem_append_left _ hp)
  have v0 := valB_nonneg (b := (w : Int)) (by omega) h0
  have p0 : 0 < (w : Int) ^ r.length := Int.pow_pos (by omega)
  have p1 := Int.mul_le_mul_of_nonneg_right (show 1 ≤ x by omega) (Int.le_of_lt p0)
  rw [Int.one_mul] at p1
  have p2 := pow_le_pow (w := (w : Int)) (by omega) (show i ≤ r.length by simp at hi; omega)
  omega
theorem pow_figs {w : Nat} (hw : 2 ≤ w) {n : Int} {ds : List Int} (F : Figs (w : Int) n ds) (hn : n < NB) {i : Nat} (hi : i < ds.length) : (w : Int) ^ i < BIG := by
  have p := pow_figs' hw F hi
  have p3 : NB < BIG := by decide +kernel
  omega
theorem figs_len {w : Nat} (hw : 2 ≤ w) {n : Int} {ds : List Int} (F : Figs (w : Int) n ds) (hn : n < NB) : ds.length ≤ 1101 := by
  refine Classical.byContradiction fun z => ?_
  have p := pow_figs' hw F (show 1101 < ds.length by omega)
  have q : (2 : Int) ^ 1101 ≤ (w : Int) ^ 1101 := base_mono (by decide) (by omega) _
  have r : NB ≤ (2 : Int) ^ 1101 := by decide +kernel
  omega
section
variable {P : Program} {w : World} {K : PySem.W.Frag} {mg : Str → Option Value} {base : Heap} {f : Addr} {fd : FuncData} {dV : Value}
theorem sc_count_below : FnScope ["machine", "below", "sign", "rows", "row", "goals", "onward", "counts", "found", "at", "figure", "goal", "here", "many"] ["machine", "below", "sign"] (defScope s_count_below) := ⟨rfl, rfl, rfl, by decide +kernel, rfl, by decide +kernel, by decide +kernel⟩
theorem bk_count_below_0 : BlkScope ["machine", "below", "sign", "rows", "row", "goals", "onward", "counts", "found", "at", "figure", "goal", "here", "many"] (defScope s_count_below) ["there", "goal"] [none, some 11] { kind := ScopeKind.function, names := [(".0", NameKind.local), ("there", NameKind.local), ("goal", NameKind.free)], isGenerator := false, isCoroutine := false, more := [] } := ⟨rfl, by decide +kernel, by decide +kernel, by decide +kernel, by decide +kernel, rfl, by decide +kernel⟩
theorem ok_count (F : FunD K "count_below" "count_below" s_count_below dV f fd) (G_figures : DefOk P w K mg base "figures" 4 ["number", "wide"] [] (spFigures K)) (G_goals_along : DefOk P w K mg base "goals_along" 1 ["machine", "row", "sign"] [] (spGoals K))
    (G_counted_onward : DefOk P w K mg base "counted_onward" 1 ["machine"] [] (spOnward K)) (G_no_figures_yet : DefOk P w K mg base "no_figures_yet" 1 ["machine"] [] (spNoFig K)) (G_counts_on : DefOk P w K mg base "counts_on" 1 ["onward", "counts"] [] (spCountsOn K))
    (z_enumerate : mg "enumerate" = none) (z_len : mg "len" = none) : FnOk P w K mg base CX0 5 f fd ["machine", "below", "sign"] (spCount K) := by
  refine F.ok sc_count_below (fun vs H Q E h => ?_) (fun cdv A outer s H vs Q E hr h => ?_)
  · obtain ⟨m, r, g, many, wide, b, rows, signs, s, rfl, _⟩ := h
    rfl
  obtain ⟨m, r, g, many, wide, b, rows, signs, s, rfl, M, R, lsg, S, ⟨n0, n1⟩, ⟨w2, w3⟩, hb, k⟩ := h
  obtain ⟨ras, hr', hA⟩ := M.rows
  have lr : ras.length = many := by rw [hA.length, R.len]
  refine ⟨_, (pss_cons (ps_set (i := 3) sc_count_below.nd rfl (Or.inl rfl) (pe_ix ix_tup (pv 0) pe_int (fun _ _ => rfl)))
      (pss_cons (ps_set (i := 4) sc_count_below.nd rfl (Or.inl rfl) (pe_cd G_figures hr (pa_cons (pv 1) (pa_cons (pe_ix ix_tup (pv 0) pe_int (fun _ _ => rfl)) pa_nil))))
      (pss_cons (ps_set (i := 5) sc_count_below.nd rfl (Or.inl rfl) (pe_cd G_goals_along hr (pa_cons (pv 0) (pa_cons (pv 4) (pa_cons (pv 2) pa_nil)))))
      (pss_cons (ps_set (i := 6) sc_count_below.nd rfl (Or.inl rfl) (pe_cd G_counted_onward hr (pa_cons (pv 0) pa_nil)))
      (pss_cons (ps_set (i := 7) sc_count_below.nd rfl (Or.inl rfl) (pe_cd G_no_figures_yet hr (pa_cons (pv 0) pa_nil)))
      (pss_cons (ps_set (i := 8) sc_count_below.nd rfl (Or.inl rfl) pe_int)
      (pss_cons (ps_for PassesOwn.never rfl (pi_enumT rfl z_enumerate (pa_cons (pv 4) pa_nil)) (pg_tup rfl (pgs_cons (pg_name (i := 9) sc_count_below.nd rfl (Or.inl rfl)) (pgs_cons (pg_name (i := 10) sc_count_below.nd rfl (Or.inl rfl)) pgs_nil))) (pss_cons (ps_set (i := 11) sc_count_below.nd rfl (Or.inr rfl) (pe_ix ix_list (pv 5) (pe_op op_add (pv 9) pe_int) (fun _ _ => rfl)))
      (pss_cons (ps_for PassesOwn.never rfl (pi_enumL rfl z_enumerate (pa_cons (pv 7) pa_nil)) (pg_tup rfl (pgs_cons (pg_name (i := 12) sc_count_below.nd rfl (Or.inl rfl)) (pgs_cons (pg_name (i := 13) sc_count_below.nd rfl (Or.inl rfl)) pgs_nil))) (pss_one (ps_if (pt_cmpR op_gt (pv 13) pe_int (nomark _)) (pss_one (ps_set (i := 8) sc_count_below.nd rfl (Or.inl rfl) (pe_op op_add (pv 8) (pe_op op_mulB (pv 13) (pe_callB call_len_seq (by rfl) z_len bt_len (pa_cons (pe_compI rfl bk_count_below_0 (pi_tup (pe_slice sl_seq (pe_ix ix_tup (pv 3) (pv 12) (fun _ _ => rfl)) po_none (po_some (pv 10)))) (fun _ _ _ _ => (pg_name (i := 0) bk_count_below_0.nd rfl (Or.inl rfl))) (fun _ _ _ _ => (pt_val (pe_ix (ix_listK K) (pv 1) (pv 0) (fun _ _ => rfl)))) (fun _ _ _ _ => (pv 0))) pa_nil)))))) pss_nil)))
      (pss_one (ps_set (i := 7) sc_count_below.nd rfl (Or.inl rfl) (pe_cd G_counts_on hr (pa_cons (pv 6) (pa_cons (pv 7) pa_nil))))))))
      (pss_one (ps_ret (pv 8)))))))))), ?_⟩
  have tp : ∀ {H H' : Hp}, Same H H' → ∀ b xs, H b = some (.tup xs) → H' b = some (.tup xs) := fun s b xs h => s _ _ h
  refine ⟨_, rfl, m, _, _, _, rfl, rfl, SqT.of M.tup, rfl, ?_⟩
  refine ⟨_, rfl, _, rfl, m, _, _, _, rfl, rfl, SqT.of M.tup, rfl, _, _, rfl, ⟨by omega, hb⟩, ⟨by omega, Int.lt_of_le_of_lt (show (wide : Int) ≤ 1000 by omega) (by decide +kernel)⟩, fun T H1 ds s1 hT Fd _ => ?_⟩
  have lds := figs_len w2 Fd hb
  refine ⟨_, rfl, _, rfl, _, rfl, m, r, g, T, many, wide, rows, signs, ds, s, rfl, M.same (tp s1), R, lsg, ⟨n0, n1⟩, hT, Fd.inb, by omega, fun L H2 gas s2 hL2 Gs => ?_⟩
  have s12 := s1.trans s2
  refine ⟨_, rfl, m, r, g, many, wide, rows, signs, rfl, M.same (tp s12), R, ⟨n0, n1⟩, w3, fun o H3 s3 O3 => ?_⟩
  have s13 := s12.trans s3
  refine ⟨_, rfl, m, r, g, many, wide, rows, signs, rfl, M.same (tp s13), R, ⟨n0, n1⟩, fun c0 H4 s4 hc4 fc => ?_⟩
  have s14 := s13.trans s4
  have hT4 : H4 T = some (.tup (ds.map V.int)) := s4 _ _ (s3 _ _ (s2 _ _ hT))
  have hL4 : H4 L = some (.lst (gas.map V.ref)) := s4 _ _ (s3 _ _ hL2)
  have Gs4 : GoalsAt H4 rows signs s many gas ((List.range (ds.length + 1)).map fun i => ds.drop i) := (Gs.same s3).same s4
  refine ⟨_, rfl, T, rfl, ⟨_, SqT.of hT4⟩, for_enumT (K := K) (xs := ds.map V.int) (fun i σ' H' => ∃ (c : Addr) (v1 v2 v3 v4 v5 : Option V), σ' = [some (.ref m), some (.int b), some (.int s), some (.ref r), some (.ref T), some (.ref L), some (.ref o), some (.ref c), some (.int (preSum (placeC rows many signs s ds) i)), v1, v2, v3, v4, v5] ∧ Same H4 H' ∧ H' c = some (.lst ((cN rows many i).map V.int)))
    ⟨c0, none, none, none, none, none, rfl, Same.refl _, hc4⟩ (fun i σ' H' _ ⟨_, _, _, _, _, _, _, e, _⟩ => SqT.of (e _ _ hT4)) ?_ ?_⟩
  · rintro i y σ' H5 T5 hi ⟨c, v1, v2, v3, v4, v5, rfl, s5, hc5⟩ hT5
    obtain ⟨d, rfl, hd⟩ := ints_at hi
    have il : i < ds.length := (List.getElem?_eq_some_iff.mp hd).1
    have edd : ds.getD i 0 = d := by rw [List.getD_eq_getElem?_getD, hd]; rfl
    have dr := Fd.inb d (List.mem_of_getElem? hd)
    have sT5 := same_new hT5 (HO.tup [V.int i, V.int d])
    have s6 := s5.trans sT5
    have hc6 := sT5 _ _ hc5
    obtain ⟨G, eG, hG⟩ := Gs4.get (i := i + 1) (by rw [List.length_map, List.length_range]; omega)
    have eR : ((List.range (ds.length + 1)).map fun i => ds.drop i)[i + 1]'(by rw [List.length_map, List.length_range]; omega) = ds.drop (i + 1) := by simp
    rw [eR] at hG
    have ip : (wide : Int) ^ i < BIG := pow_figs w2 Fd hb il
    have cb := cN_big R n0 (by omega) ip (Nat.le_refl i)
    refine ⟨T5, _, rfl, SqT.of upd_same, rfl, _, _, rfl, _, _, rfl, rfl, ?_⟩
    refine ⟨_, rfl, _, rfl, _, _, rfl, rfl, L, _, _, _, rfl, rfl, SqL.of (s6 _ _ hL4), atI_refs (by omega) (by rw [show ((i : Int) + 1).toNat = i + 1 from by omega]; exact eG), ?_⟩
    try dsimp only [gName]
    refine cut_seq (t := tFor _ _ _) (fun σ' H' => ∃ (v4 v5 : Option V), σ' = [some (.ref m), some (.int b), some (.int s), some (.ref r), some (.ref T), some (.ref L), some (.ref o), some (.ref c), some (.int (preSum (placeC rows many signs s ds) (i + 1))), some (.int i), some (.int d), some (.ref G), v4, v5] ∧ Same H4 H' ∧ H' c = some (.lst ((cN rows many i).map V.int))) ?_ (fun nxt => ?_)
    rotate_left
    · refine ⟨_, rfl, c, rfl, ⟨_, SqL.of hc6⟩, for_enumL (K := K) (xs := (cN rows many i).map V.int) (fun j σ' H' => ∃ (v4 v5 : Option V), σ' = [some (.ref m), some (.int b), some (.int s), some (.ref r), some (.ref T), some (.ref L), some (.ref o), some (.ref c), some (.int (preSum (placeC rows many signs s ds) i + preSum (fun q : Nat => (cN rows many i).getD q 0 * placeG rows signs s ds i q) j)), some (.int i), some (.int d), some (.ref G), v4, v5] ∧ Same H4 H' ∧ H' c = some (.lst ((cN rows many i).map V.int)))
        ⟨v4, v5, by rw [show preSum (fun q : Nat => (cN rows many i).getD q 0 * placeG rows signs s ds i q) 0 = 0 from rfl, Int.add_zero]; rfl, s6, hc6⟩ (fun j σ' H' _ ⟨_, _, _, _, e⟩ => SqL.of e) ?_ ?_⟩
      · rintro j y σ' H7 T7 hj ⟨v4, v5, rfl, s7, hc7⟩ hT7
        obtain ⟨z, rfl, hz⟩ := ints_at hj
        have jl : j < (cN rows many i).length := (List.getElem?_eq_some_iff.mp hz).1
        have jm : j < many := by rw [cN_len] at jl; exact jl
        have jr : j < rows.length := by rw [R.len]; exact jm
        have ez : (cN rows many i).getD j 0 = z := by rw [List.getD_eq_getElem?_getD, hz]; rfl
        have zr := cb z (List.mem_of_getElem? hz)
        have sT7 := same_new hT7 (HO.tup [V.int j, V.int z])
        have s8 := s7.trans sT7
        have hc8 := sT7 _ _ hc7
        refine ⟨T7, _, rfl, SqT.of upd_same, rfl, _, _, rfl, _, _, rfl, rfl, ?_⟩
        refine ⟨_, rfl, _, _, rfl, rfl, _, rfl, iteD (fun c0 => ?_) (fun c0 => ?_)⟩
        · obtain ⟨ra, e1, e2⟩ := hA.get jr
          have s08 := s14.trans s8
          have lrow : rows[j].length = wide := R.row _ (List.getElem_mem jr)
          have hra := s08 _ _ e2
          have hdn : d.toNat ≤ rows[j].length := by rw [lrow]; omega
          refine ⟨_, rfl, _, rfl, _, rfl, _, rfl, r, _, _, _, rfl, rfl, SqT.of (s08 _ _ hr'), atI_refs (by omega) (by rw [Int.toNat_natCast]; exact e1), _, rfl, _, rfl, ?_⟩
          have ecut : cutV (rows[j].map V.int) none (some d) = (rows[j].take d.toNat).map V.int := by
            rw [show d = ((d.toNat : Nat) : Int) from by omega, cut_front]
            rw [Int.toNat_natCast]
          refine ⟨ra, _, rfl, .inr ⟨SqT.of hra, fun e => ⟨ra, rfl, ⟨_, SqT.of hra⟩, ?_⟩, fun p hp => ⟨p, rfl, ⟨_, SqT.of upd_same⟩, ?_⟩⟩⟩
          · have hx9 : (upd H7 T7 (HO.tup [V.int j, V.int z])) ra = some (.tup ((rows[j].take d.toNat).map V.int)) := by
              rw [← ecut, e]
              exact hra
            have s9 := s8
            have hc9 := hc8
            refine comp_tupI (K := K) (xs := (rows[j].take d.toNat).map V.int) (fun D q ys H' => Same (upd H7 T7 (HO.tup [V.int j, V.int z])) H' ∧ ys = (((rows[j].take d.toNat).take q).filter fun t => goalB rows signs s (ds.drop (i + 1)) t).map V.int) (fun D hD => ⟨same_new hD _, by rw [List.take_zero]; rfl⟩) (fun D q ys H' _ p => SqT.of (p.1 _ _ hx9)) ?_ ?_
            · rintro D q y ys H' Qy Qn hD hq hy ⟨hs, rfl⟩ ky kn
              obtain ⟨t, rfl, ht⟩ := ints_at hq
              have tm : t ∈ rows[j] := List.mem_of_mem_take (List.mem_of_getElem? ht)
              have tr := R.val _ (List.getElem_mem jr) _ tm
              refine ⟨_, rfl, _, rfl, G, _, _, _, rfl, rfl, SqL.of (hs _ _ (s9 _ _ hG)), goalL_at tr.1 tr.2, _, rfl, ?_⟩
              rw [List.take_add_one, ht] at kn ky
              cases eg : goalB rows signs s (ds.drop (i + 1)) t
              · refine iteF (kn _ hy ⟨hs, ?_⟩)
                rw [List.filter_append, show (Option.toList (some t)) = [t] from rfl, List.filter_cons_of_neg (by rw [eg]; decide)]
                simp
              · refine iteT ⟨_, rfl, ky _ _ hy (small1000 ?_) ⟨same_upd hs hD, ?_⟩⟩
                · rw [List.length_map]
                  refine Nat.le_trans (List.length_filter_le _ _) ?_
                  rw [List.length_take, List.length_take]
                  omega
                · rw [List.filter_append, show (Option.toList (some t)) = [t] from rfl, List.filter_cons_of_pos eg, List.map_append]
                  rfl
            · rintro D ys H' hD hy ⟨hs, rfl⟩
              rw [List.length_map, List.take_length] at hy
              have fl := filter_len rows signs s (ds.drop (i + 1)) rows[j] d.toNat hdn
              have fl2 : (((rows[j].take d.toNat).filter fun t => goalB rows signs s (ds.drop (i + 1)) t).map V.int).length ≤ 1000 := by
                rw [List.length_map]
                refine Nat.le_trans (List.length_filter_le _ _) ?_
                rw [List.length_take]
                omega
              refine ⟨D, _, rfl, .inl (SqL.of hy), _, _, rfl, rfl, ⟨⟨by omega, zr.2⟩, ⟨by omega, Int.lt_of_le_of_lt (show _ ≤ (1000 : Int) by omega) (by decide +kernel)⟩⟩, _, _, rfl, rfl, ?_⟩
              refine ⟨some (.int j), some (.int z), ?_, s9.trans hs, hs _ _ hc9⟩
              rw [List.length_map, fl]
              have eP : placeG rows signs s ds i j = preSum (fun f : Nat => ind (sgnI signs (walkI rows (ds.drop (i + 1)) (rows[j].getD f 0)) = s)) d.toNat := by
                unfold placeG
                rw [edd]
                refine pre_congr fun f _ => ?_
                rw [stepI_at, getD_at jr]
              rw [show preSum (fun q : Nat => (cN rows many i).getD q 0 * placeG rows signs s ds i q) (j + 1) = preSum (fun q : Nat => (cN rows many i).getD q 0 * placeG rows signs s ds i q) j + (cN rows many i).getD j 0 * placeG rows signs s ds i j from rfl, ez, eP, ← Int.add_assoc]
              rfl
          · have sp := same_new hp (HO.tup (cutV (rows[j].map V.int) none (some d)))
            have hx9 : (upd (upd H7 T7 (HO.tup [V.int j, V.int z])) p (HO.tup (cutV (rows[j].map V.int) none (some d)))) p = some (.tup ((rows[j].take d.toNat).map V.int)) := by
              rw [upd_same, ecut]
            have s9 := s8.trans sp
            have hc9 := sp _ _ hc8
            refine comp_tupI (K := K) (xs := (rows[j].take d.toNat).map V.int) (fun D q ys H' => Same (upd (upd H7 T7 (HO.tup [V.int j, V.int z])) p (HO.tup (cutV (rows[j].map V.int) none (some d)))) H' ∧ ys = (((rows[j].take d.toNat).take q).filter fun t => goalB rows signs s (ds.drop (i + 1)) t).map V.int) (fun D hD => ⟨same_new hD _, by rw [List.take_zero]; rfl⟩) (fun D q ys H' _ p => SqT.of (p.1 _ _ hx9)) ?_ ?_
            · rintro D q y ys H' Qy Qn hD hq hy ⟨hs, rfl⟩ ky kn
              obtain ⟨t, rfl, ht⟩ := ints_at hq
              have tm : t ∈ rows[j] := List.mem_of_mem_take (List.mem_of_getElem? ht)
              have tr := R.val _ (List.getElem_mem jr) _ tm
              refine ⟨_, rfl, _, rfl, G, _, _, _, rfl, rfl, SqL.of (hs _ _ (s9 _ _ hG)), goalL_at tr.1 tr.2, _, rfl, ?_⟩
              rw [List.take_add_one, ht] at kn ky
              cases eg : goalB rows signs s (ds.drop (i + 1)) t
              · refine iteF (kn _ hy ⟨hs, ?_⟩)
                rw [List.filter_append, show (Option.toList (some t)) = [t] from rfl, List.filter_cons_of_neg (by rw [eg]; decide)]
                simp
              · refine iteT ⟨_, rfl, ky _ _ hy (small1000 ?_) ⟨same_upd hs hD, ?_⟩⟩
                · rw [List.length_map]
                  refine Nat.le_trans (List.length_filter_le _ _) ?_
                  rw [List.length_take, List.length_take]
                  omega
                · rw [List.filter_append, show (Option.toList (some t)) = [t] from rfl, List.filter_cons_of_pos eg, List.map_append]
                  rfl
            · rintro D ys H' hD hy ⟨hs, rfl⟩
              rw [List.length_map, List.take_length] at hy
              have fl := filter_len rows signs s (ds.drop (i + 1)) rows[j] d.toNat hdn
              have fl2 : (((rows[j].take d.toNat).filter fun t => goalB rows signs s (ds.drop (i + 1)) t).map V.int).length ≤ 1000 := by
                rw [List.length_map]
                refine Nat.le_trans (List.length_filter_le _ _) ?_
                rw [List.length_take]
                omega
              refine ⟨D, _, rfl, .inl (SqL.of hy), _, _, rfl, rfl, ⟨⟨by omega, zr.2⟩, ⟨by omega, Int.lt_of_le_of_lt (show _ ≤ (1000 : Int) by omega) (by decide +kernel)⟩⟩, _, _, rfl, rfl, ?_⟩
              refine ⟨some (.int j), some (.int z), ?_, s9.trans hs, hs _ _ hc9⟩
              rw [List.length_map, fl]
              have eP : placeG rows signs s ds i j = preSum (fun f : Nat => ind (sgnI signs (walkI rows (ds.drop (i + 1)) (rows[j].getD f 0)) = s)) d.toNat := by
                unfold placeG
                rw [edd]
                refine pre_congr fun f _ => ?_
                rw [stepI_at, getD_at jr]
              rw [show preSum (fun q : Nat => (cN rows many i).getD q 0 * placeG rows signs s ds i q) (j + 1) = preSum (fun q : Nat => (cN rows many i).getD q 0 * placeG rows signs s ds i q) j + (cN rows many i).getD j 0 * placeG rows signs s ds i j from rfl, ez, eP, ← Int.add_assoc]
              rfl
        · refine ⟨some (.int j), some (.int z), ?_, s8, hc8⟩
          rw [show preSum (fun q : Nat => (cN rows many i).getD q 0 * placeG rows signs s ds i q) (j + 1) = preSum (fun q : Nat => (cN rows many i).getD q 0 * placeG rows signs s ds i q) j + (cN rows many i).getD j 0 * placeG rows signs s ds i j from rfl, ez, show z = 0 from by omega, Int.zero_mul, Int.add_zero]
          rfl
      · rintro σ' H7 ⟨v4, v5, rfl, s7, hc7⟩
        rw [List.length_map, cN_len]
        exact nxt _ _ ⟨_, _, rfl, s7, hc7⟩
    rintro σ' H7 ⟨v4, v5, rfl, s7, hc7⟩
    refine ⟨_, rfl, _, rfl, o, c, many, wide, rows, cN rows many i, rfl, O3.same (s4.trans s7), R, n1, w3, hc7, cN_len _ _ _, cb, fun l H8 s8 hl fl => ?_⟩
    exact ⟨l, _, _, _, _, _, rfl, s7.trans s8, hl⟩
  · rintro σ' H5 ⟨c, v1, v2, v3, v4, v5, rfl, s5, hc5⟩
    refine ⟨_, rfl, ?_⟩
    rw [List.length_map]
    have e := cnt_places R n0 w2 S s Fd.inb ds.length 0 (Nat.le_refl _) (by rw [List.drop_length]; rfl)
    rw [Nat.zero_mul, Fd.val, Int.toNat_natCast] at e
    rw [show preSum (placeC rows many signs s ds) ds.length = cntB rows wide signs s b from by rw [← e]; exact (Int.zero_add _).symm]
    exact k H5 (s14.trans s5)
end
end My

set_option Elab.async false
set_option linter.all false
set_option maxRecDepth 100000
set_option maxHeartbeats 8000000
namespace My
open PySem L2
/-! ### the law's draws, spread -/
def spMixed (K : PySem.W.Frag) : Sp := fun vs H Q _ => ∃ (a : Addr) (k : Int) (ns : List Int), vs = [.ref a, .int k] ∧ SqL K H a (ns.map V.int) ∧ ns.length ≤ 63 ∧ 0 ≤ k ∧ k < 100000 ∧
  ∀ v : Int, 0 ≤ v → v < 10 ^ 18 → Q (.int v) H
def spSpread (K : PySem.W.Frag) : Sp := fun vs H Q _ => ∃ (a : Addr) (ns : List Int), vs = [.ref a] ∧ SqL K H a (ns.map V.int) ∧ ns.length ≤ 63 ∧
  ∀ (l : Addr) (H' : Hp) (xs : List Int), Same H H' → H' l = some (.lst (xs.map V.int)) → 320 ≤ xs.length → (∀ z ∈ xs, 0 ≤ z ∧ z < 10 ^ 18) → Q (.ref l) H'
def spNumS (K : PySem.W.Frag) : Sp := fun vs H Q _ => ∃ (l : Addr) (k : Int) (xs : List Int), vs = [.ref l, .int k] ∧ H l = some (.lst (xs.map V.int)) ∧ 320 ≤ xs.length ∧ 0 ≤ k ∧ k < 320 ∧ ∀ v : Int, 0 ≤ v → v < 1000000007 → Q (.int v) H
def spGreatS (K : PySem.W.Frag) : Sp := fun vs H Q _ => ∃ (l : Addr) (k b : Int) (xs : List Int), vs = [.ref l, .int k, .int b] ∧ H l = some (.lst (xs.map V.int)) ∧ 320 ≤ xs.length ∧ 0 ≤ k ∧ k < 320 ∧ 0 < b ∧ Q (.int (xs.getD k.toNat 0 % b)) H
theorem cut_ints (ns : List Int) (lo hi : Option Int) : ∃ ms : List Int, cutV (ns.map V.int) lo hi = ms.map V.int ∧ ms.length ≤ ns.length := by
  unfold cutV
  rw [← List.map_drop, ← List.map_take]
  exact ⟨_, rfl, by rw [List.length_take, List.length_drop]; omega⟩
section
variable {P : Program} {w : World} {K : PySem.W.Frag} {mg : Str → Option Value} {base : Heap} {f : Addr} {fd : FuncData} {dV : Value}
theorem sc__law_mixed : FnScope ["_law_script", "_law_k", "_law_cell", "_law_number_here"] ["_law_script", "_law_k"] (defScope s__law_mixed) := ⟨rfl, rfl, rfl, by decide +kernel, rfl, by decide +kernel, by decide +kernel⟩
theorem sc__law_spread : FnScope ["_law_script", "_law_left", "_law_found", "_law_at", "_law_digit"] ["_law_script"] (defScope s__law_spread) := ⟨rfl, rfl, rfl, by decide +kernel, rfl, by decide +kernel, by decide +kernel⟩
theorem bk__law_spread_0 : BlkScope ["_law_script", "_law_left", "_law_found", "_law_at", "_law_digit"] (defScope s__law_spread) ["_law_k", "_law_script"] [none, some 0] { kind := ScopeKind.function, names := [(".0", NameKind.local), ("_law_k", NameKind.local), ("_law_mixed", NameKind.globalImplicit), ("_law_script", NameKind.free)], isGenerator := false, isCoroutine := false, more := [] } := ⟨rfl, by decide +kernel, by decide +kernel, by decide +kernel, by decide +kernel, rfl, by decide +kernel⟩
theorem sc__law_number : FnScope ["_law_spread_here", "_law_k"] ["_law_spread_here", "_law_k"] (defScope s__law_number) := ⟨rfl, rfl, rfl, by decide +kernel, rfl, by decide +kernel, by decide +kernel⟩
theorem sc__law_great : FnScope ["_law_spread_here", "_law_k", "_law_below"] ["_law_spread_here", "_law_k", "_law_below"] (defScope s__law_great) := ⟨rfl, rfl, rfl, by decide +kernel, rfl, by decide +kernel, by decide +kernel⟩
theorem ok_mixed (F : FunD K "_law_mixed" "_law_mixed" s__law_mixed dV f fd) (z_len : mg "len" = none) : FnOk P w K mg base CX0 1 f fd ["_law_script", "_law_k"] (spMixed K) := by
  refine F.ok sc__law_mixed (fun vs H Q E h => ?_) (fun cdv A outer s H vs Q E hr h => ?_)
  · obtain ⟨a, k, ns, rfl, _⟩ := h
    rfl
  obtain ⟨a, k, ns, rfl, hS, h63, h0, h1, q⟩ := h
  have hl : (ns.map V.int).length = ns.length := List.length_map _
  refine ⟨_, (pss_cons (ps_set (i := 2) sc__law_mixed.nd rfl (Or.inl rfl) (pe_op op_add (pe_op op_mul pe_int (pv 1)) pe_int))
      (pss_cons (ps_if (pt_cmpR op_gt (pe_callB call_len_seq (by rfl) z_len bt_len (pa_cons (pv 0) pa_nil)) pe_int (nomark _)) (pss_one (ps_set (i := 2) sc__law_mixed.nd rfl (Or.inl rfl) (pe_op op_mod (pe_ix ix_list (pv 0) (pe_op op_mod (pv 1) (pe_callB call_len_seq (by rfl) z_len bt_len (pa_cons (pv 0) pa_nil))) (fun _ _ => rfl)) pe_int))) pss_nil)
      (pss_cons (ps_set (i := 3) sc__law_mixed.nd rfl (Or.inl rfl) (pe_op op_mod (pe_op op_add (pe_op op_add (pe_op op_mul (pv 2) (pe_op op_add pe_int (pe_op op_mul (pe_op op_mul pe_int (pv 1)) (pv 1)))) (pe_op op_mul (pv 1) pe_int)) pe_int) pe_int))
      (pss_cons (ps_set (i := 3) sc__law_mixed.nd rfl (Or.inl rfl) (pe_op op_mod (pe_op op_mul (pv 3) (pv 3)) pe_int))
      (pss_one (ps_ret (pe_op op_mod (pe_op op_mul (pv 3) (pe_op op_mod (pe_op op_add (pe_op op_add (pe_op op_mul (pv 3) pe_int) (pe_op op_mul (pe_op op_mul (pv 1) (pv 1)) pe_int)) pe_int) pe_int)) (pe_op op_pow pe_int pe_int)))))))), ?_⟩
  refine ⟨_, rfl, _, _, rfl, rfl, .inl ⟨by decide, by decide⟩, _, _, rfl, rfl, ?_⟩
  try dsimp only [gName]
  refine cut_seq (t := tIfS _ _ _) (fun σ' H' => ∃ c : Int, σ' = [some (.ref a), some (.int k), some (.int c), none] ∧ H' = H ∧ 0 ≤ c ∧ c < 2147483648) ?_ (fun nxt => ?_)
  rotate_left
  · refine ⟨_, rfl, a, _, rfl, .inl hS, _, _, rfl, rfl, _, rfl, ?_⟩
    refine iteD (fun c => ?_) (fun c => ?_)
    · have c' : (0 : Int) < (((ns.map V.int).length : Nat) : Int) := c
      have m0 := Int.emod_nonneg k (show (((ns.map V.int).length : Nat) : Int) ≠ 0 by omega)
      have m1 := Int.emod_lt_of_pos k c'
      have m2 := mod_in (a := ns.getD (k % (((ns.map V.int).length : Nat) : Int)).toNat 0) (b := 2147483629) (by decide)
      exact ⟨_, rfl, _, rfl, _, rfl, a, _, rfl, .inl hS, _, _, rfl, rfl, c', a, _, _, _, rfl, rfl, hS, atI_ints m0 (by rw [← hl]; exact m1), _, _, rfl, rfl, (by show (0 : Int) < 2147483629; decide), nxt _ _ ⟨_, rfl, rfl, m2.1, by omega⟩⟩
    · exact nxt _ _ ⟨_, rfl, rfl, by omega, by omega⟩
  rintro σ' H' ⟨c, rfl, rfl, c0, c1⟩
  have kk := mul_in (a := 2 * k) (b := k) (m := 200000) (n := 100000) (by omega) (by omega) (by omega) (by omega)
  refine ⟨_, rfl, _, rfl, _, _, rfl, rfl, .inl ⟨by decide, by decide⟩, _, rfl, _, _, rfl, rfl, .inr ⟨by omega, by omega⟩, _, _, rfl, rfl, _, _, rfl, rfl, .inl ⟨by omega, by omega⟩, _, rfl, _, _, rfl, rfl, .inr ⟨by decide, by decide⟩, _, _, rfl, rfl, _, _, rfl, rfl, _, _, rfl, rfl, (by show (0 : Int) < 2147483647; decide), ?_⟩
  have e1 := mod_in (a := c * (48271 + 2 * k * k) + k * 7919 + 11) (b := 2147483647) (by decide)
  refine ⟨_, rfl, _, rfl, _, _, rfl, rfl, .inl ⟨by omega, by omega⟩, _, _, rfl, rfl, (by show (0 : Int) < 2147483587; decide), ?_⟩
  have e2 := mod_in (a := (c * (48271 + 2 * k * k) + k * 7919 + 11) % 2147483647 * ((c * (48271 + 2 * k * k) + k * 7919 + 11) % 2147483647)) (b := 2147483587) (by decide)
  have kk2 := mul_in (a := k) (b := k) (m := 100000) (n := 100000) (by omega) (by omega) (by omega) (by omega)
  refine ⟨_, rfl, _, rfl, _, _, rfl, rfl, .inr ⟨by decide, by decide⟩, _, rfl, _, rfl, _, _, rfl, rfl, .inl ⟨by omega, by omega⟩, _, _, rfl, rfl, .inr ⟨by decide, by decide⟩, _, _, rfl, rfl, _, _, rfl, rfl, _, _, rfl, rfl, (by show (0 : Int) < 2147483629; decide), _, _, rfl, rfl, .inl ⟨by omega, by omega⟩, _, _, rfl, rfl, ⟨by decide, by decide, by decide⟩, _, _, rfl, rfl, (by show (0 : Int) < 10 ^ 18; decide), ?_⟩
  have e3 := mod_in (a := (c * (48271 + 2 * k * k) + k * 7919 + 11) % 2147483647 * ((c * (48271 + 2 * k * k) + k * 7919 + 11) % 2147483647) % 2147483587 * (((c * (48271 + 2 * k * k) + k * 7919 + 11) % 2147483647 * ((c * (48271 + 2 * k * k) + k * 7919 + 11) % 2147483647) % 2147483587 * 69621 + k * k * 40692 + 5) % 2147483629)) (b := 10 ^ 18) (by decide)
  exact q _ e3.1 e3.2
theorem ok_numS (F : FunD K "_law_number" "_law_number" s__law_number dV f fd) : FnOk P w K mg base CX0 1 f fd ["_law_spread_here", "_law_k"] (spNumS K) := by
  refine F.ok sc__law_number (fun vs H Q E h => ?_) (fun cdv A outer s H vs Q E hr h => ?_)
  · obtain ⟨l, k, xs, rfl, _⟩ := h
    rfl
  obtain ⟨l, k, xs, rfl, hl, h320, k0, k1, q⟩ := h
  refine ⟨_, (pss_one (ps_ret (pe_op op_mod (pe_ix ix_list (pv 0) (pv 1) (fun _ _ => rfl)) pe_int))), ?_⟩
  have r := mod_in (a := xs.getD k.toNat 0) (b := 1000000007) (by decide)
  exact ⟨_, rfl, _, rfl, l, _, _, _, rfl, rfl, SqL.of hl, atI_ints k0 (by omega), _, _, rfl, rfl, (by show (0 : Int) < 1000000007; decide), q _ r.1 r.2⟩
theorem ok_greatS (F : FunD K "_law_great" "_law_great" s__law_great dV f fd) : FnOk P w K mg base CX0 1 f fd ["_law_spread_here", "_law_k", "_law_below"] (spGreatS K) := by
  refine F.ok sc__law_great (fun vs H Q E h => ?_) (fun cdv A outer s H vs Q E hr h => ?_)
  · obtain ⟨l, k, b, xs, rfl, _⟩ := h
    rfl
  obtain ⟨l, k, b, xs, rfl, hl, h320, k0, k1, b0, q⟩ := h
  refine ⟨_, (pss_one (ps_ret (pe_op op_mod (pe_ix ix_list (pv 0) (pv 1) (fun _ _ => rfl)) (pv 2)))), ?_⟩
  exact ⟨_, rfl, _, rfl, l, _, _, _, rfl, rfl, SqL.of hl, atI_ints k0 (by omega), _, rfl, _, _, rfl, rfl, b0, q⟩
theorem ok_spread (F : FunD K "_law_spread" "_law_spread" s__law_spread dV f fd) (G__law_mixed : DefOk P w K mg base "_law_mixed" 1 ["_law_script", "_law_k"] [] (spMixed K)) (z_len : mg "len" = none) (z_range : mg "range" = none) (z_divmod : mg "divmod" = none) : FnOk P w K mg base CX0 2 f fd ["_law_script"] (spSpread K) := by
  refine F.ok sc__law_spread (fun vs H Q E h => ?_) (fun cdv A outer s H vs Q E hr h => ?_)
  · obtain ⟨a, ns, rfl, _⟩ := h
    rfl
  obtain ⟨a, ns, rfl, hS, h63, k⟩ := h
  have hl : (ns.map V.int).length = ns.length := List.length_map _
  refine ⟨_, (pss_cons (ps_if (PW.pt (pw_or (pt_cmpR op_eq (pe_callB call_len_seq (by rfl) z_len bt_len (pa_cons (pv 0) pa_nil)) pe_int (nomark _)) (pw_or1 (pt_cmpR op_eq (pe_op op_mod (pe_ix ix_list (pv 0) pe_int (fun _ _ => rfl)) pe_int) pe_int (nomark _))))) (pss_one (ps_ret (pe_comp rfl bk__law_spread_0 (pi_range1 rfl z_range (pa_cons pe_int pa_nil)) (fun _ _ _ _ => (pg_name (i := 0) bk__law_spread_0.nd rfl (Or.inl rfl))) (fun _ _ _ _ => (pe_cd G__law_mixed hr (pa_cons (pv 1) (pa_cons (pv 0) pa_nil))))))) pss_nil)
      (pss_cons (ps_set (i := 1) sc__law_spread.nd rfl (Or.inl rfl) (pe_op op_cat (pe_lst (pa_cons (pe_op op_fdiv (pe_ix ix_list (pv 0) pe_int (fun _ _ => rfl)) pe_int) pa_nil)) (pe_slice sl_list (pv 0) (po_some pe_int) po_none)))
      (pss_cons (ps_set (i := 2) sc__law_spread.nd rfl (Or.inl rfl) (pe_lst pa_nil))
      (pss_cons (ps_while PassesOwn.never (pt_cmpR op_lt (pe_callB call_len_seq (by rfl) z_len bt_len (pa_cons (pv 2) pa_nil)) pe_int (nomark _)) (pss_one (ps_for PassesOwn.never rfl (pi_range1 rfl z_range (pa_cons (pe_callB call_len_seq (by rfl) z_len bt_len (pa_cons (pv 1) pa_nil)) pa_nil)) (pg_name (i := 3) sc__law_spread.nd rfl (Or.inl rfl)) (pss_cons (ps_asg (pe_callB call_divmodB (by rfl) z_divmod bt_divmod (pa_cons (pe_ix ix_list (pv 1) (pv 3) (fun _ _ => rfl)) (pa_cons (pe_op op_pow pe_int pe_int) pa_nil))) (pg_tup rfl (pgs_cons (pg_sub (pv 1) (pv 3) set_list) (pgs_cons (pg_name (i := 4) sc__law_spread.nd rfl (Or.inl rfl)) pgs_nil))))
      (pss_one (ps_expr (pe_bm PySem.F.plainAttrs_list PySem.F.slot_list_append PySem.F.type_list_append mt_append (pv 2) (pa_cons (pv 4) pa_nil))))))))
      (pss_one (ps_ret (pv 2))))))), ?_⟩
  -- mixed: what the whole comes to
  have rest : ∀ (ys : List V), IntsIn 0 (10 ^ 18) ys → ∀ D H', Same H H' → H' D = some (.lst ys) → ys.length = 320 → Q (.ref D) H' := fun ys hys D H' s1 hD ly => by
    obtain ⟨xs, rfl, hx⟩ := hys.ints
    rw [List.length_map] at ly
    exact k D H' xs s1 hD (by omega) hx
  refine ⟨_, rfl, a, _, rfl, .inl hS, rfl, _, rfl, iteI (fun c => ?_) (fun c => ?_)⟩
  · refine ⟨(320 : Int), rfl, by decide, by decide, ?_⟩
    refine comp_range (fun D j ys H'' => Same H H'' ∧ ys.length = j ∧ IntsIn 0 (10 ^ 18) ys) (fun D hD => ⟨same_new hD _, rfl, IntsIn.nil⟩) ?_ ?_
    · rintro D j ys H4 Q' hD hj hy ⟨hs4, hl4, hall4⟩ k'
      have hj' : j < 320 := hj
      exact ⟨_, rfl, _, rfl, a, _, ns, rfl, hs4.seq hS, h63, by omega, by omega, fun v v0 v1 => k' _ _ hy (small1000 (by omega)) ⟨same_upd hs4 hD, by simp [hl4], hall4.snoc v0 v1⟩⟩
    · rintro D ys H4 fD hD ⟨hs4, hl4, hall4⟩
      exact rest ys hall4 D H4 hs4 hD hl4
  have c' : 0 < ns.length := by
    rw [hl] at c
    omega
  refine ⟨_, rfl, a, _, _, _, rfl, rfl, hS, atI_ints (by decide) (by omega), _, _, rfl, rfl, (by show (0 : Int) < 2; decide), rfl, _, rfl, iteI (fun c2 => ?_) (fun c2 => ?_)⟩
  · refine ⟨(320 : Int), rfl, by decide, by decide, ?_⟩
    refine comp_range (fun D j ys H'' => Same H H'' ∧ ys.length = j ∧ IntsIn 0 (10 ^ 18) ys) (fun D hD => ⟨same_new hD _, rfl, IntsIn.nil⟩) ?_ ?_
    · rintro D j ys H4 Q' hD hj hy ⟨hs4, hl4, hall4⟩ k'
      have hj' : j < 320 := hj
      exact ⟨_, rfl, _, rfl, a, _, ns, rfl, hs4.seq hS, h63, by omega, by omega, fun v v0 v1 => k' _ _ hy (small1000 (by omega)) ⟨same_upd hs4 hD, by simp [hl4], hall4.snoc v0 v1⟩⟩
    · rintro D ys H4 fD hD ⟨hs4, hl4, hall4⟩
      exact rest ys hall4 D H4 hs4 hD hl4
  -- left
  refine ⟨_, rfl, a, _, _, _, rfl, rfl, hS, atI_ints (by decide) (by omega), _, _, rfl, rfl, ⟨by decide, by decide⟩, (by show 1 ≤ sizeLine; decide), fun L1 hL1 => ?_⟩
  have s1 := same_new hL1 (HO.lst [V.int (ns.getD (0 : Int).toNat 0 / 2)])
  refine ⟨_, rfl, _, rfl, a, _, rfl, s1.seq hS, fun L2 hL2 => ?_⟩
  obtain ⟨ms, ems, lms⟩ := cut_ints ns (some 1) none
  rw [ems]
  have s2 := same_new hL2 (HO.lst (ms.map V.int))
  have n12 : L1 ≠ L2 := ne_of_none upd_same hL2
  refine ⟨L1, L2, _, _, rfl, rfl, by rw [upd_ne n12, upd_same], upd_same, by simp; exact small (by omega), fun L hL => ?_⟩
  have s3 := (s1.trans s2).trans (same_new hL (HO.lst ([V.int (ns.getD (0 : Int).toNat 0 / 2)] ++ ms.map V.int)))
  have fL : H L = none := (s1.trans s2).free hL
  refine ⟨(by show 0 ≤ sizeLine; decide), fun Fo hFo => ?_⟩
  have s4 := s3.trans (same_new hFo (HO.lst []))
  have fF : H Fo = none := s3.free hFo
  have nLF : L ≠ Fo := ne_of_none upd_same hFo
  try dsimp only [gName]
  refine cut_seq (t := tWhile _ _) (fun σ' H' => ∃ (xs : List Int) (v1 v2 : Option V), σ' = [some (.ref a), some (.ref L), some (.ref Fo), v1, v2] ∧ Same H H' ∧ H' Fo = some (.lst (xs.map V.int)) ∧ 320 ≤ xs.length ∧ ∀ z ∈ xs, 0 ≤ z ∧ z < 10 ^ 18) ?_ (fun nxt => ?_)
  rotate_left
  · refine while_W (fun mm σ' H' => ∃ (xs ls : List Int) (v1 v2 : Option V), mm = 1000 - xs.length ∧ xs.length ≤ 400 ∧ σ' = [some (.ref a), some (.ref L), some (.ref Fo), v1, v2] ∧ Same H H' ∧ H' L = some (.lst (ls.map V.int)) ∧ 1 ≤ ls.length ∧ ls.length ≤ 64 ∧ H' Fo = some (.lst (xs.map V.int)) ∧ ∀ z ∈ xs, 0 ≤ z ∧ z < 10 ^ 18)
      ⟨_, [], (ns.getD (0 : Int).toNat 0 / 2) :: ms, none, none, rfl, by decide, rfl, s4, by rw [upd_ne nLF, upd_same]; rfl, by simp, by simp; omega, upd_same, (fun z h => by cases h)⟩ ?_
    rintro mm σ' H1 ⟨xs, ls, v1, v2, rfl, lx, rfl, t1, hL1', l1, l64, hF1, hx⟩
    refine ⟨_, rfl, Fo, _, rfl, .inl (SqL.of hF1), _, _, rfl, rfl, _, rfl, iteD (fun c3 => ?_) (fun c3 => ?_)⟩
    · rw [List.length_map] at c3
      refine ⟨fun σ' H' => ∃ m', m' < 1000 - xs.length ∧ ∃ (xs ls : List Int) (v1 v2 : Option V), m' = 1000 - xs.length ∧ xs.length ≤ 400 ∧ σ' = [some (.ref a), some (.ref L), some (.ref Fo), v1, v2] ∧ Same H H' ∧ H' L = some (.lst (ls.map V.int)) ∧ 1 ≤ ls.length ∧ ls.length ≤ 64 ∧ H' Fo = some (.lst (xs.map V.int)) ∧ ∀ z ∈ xs, 0 ≤ z ∧ z < 10 ^ 18, fun σ' H' h => h, ?_⟩
      refine ⟨_, rfl, L, _, rfl, .inl (SqL.of hL1'), ?_⟩
      rw [List.length_map]
      refine ⟨(ls.length : Int), rfl, by omega, by omega, for_range (fun i σ' H' => ∃ (ys ms : List Int) (v1 v2 : Option V), ys.length = xs.length + i ∧ σ' = [some (.ref a), some (.ref L), some (.ref Fo), v1, v2] ∧ Same H H' ∧ H' L = some (.lst (ms.map V.int)) ∧ ms.length = ls.length ∧ H' Fo = some (.lst (ys.map V.int)) ∧ ∀ z ∈ ys, 0 ≤ z ∧ z < 10 ^ 18)
        ⟨xs, ls, v1, v2, rfl, rfl, t1, hL1', rfl, hF1, hx⟩ ?_ ?_⟩
      · rintro i σ' H2 hi ⟨ys, ms, v1, v2, ly, rfl, t2, hL2', lm, hF2, hy⟩
        have hi' : i < ls.length := by omega
        have z0 : (0 : Int) + (i : Int) = (i : Int) := Int.zero_add _
        rw [z0]
        have at1 := atI_ints (ns := ms) (k := (i : Int)) (by omega) (by omega)
        have ix : ixN (ms.map V.int).length (i : Int) = some i := by
          rw [List.length_map]
          unfold ixN
          rw [if_pos (by omega), if_pos (by omega), Int.toNat_natCast]
        have rm := mod_in (a := ms.getD ((i : Int)).toNat 0) (b := 10 ^ 18) (by decide)
        refine ⟨_, rfl, _, rfl, L, _, _, _, rfl, rfl, SqL.of hL2', at1, _, _, rfl, rfl, ⟨by decide, by decide, by decide⟩, _, _, rfl, ⟨by decide, by decide +kernel⟩, fun p hp => ?_⟩
        have np : L ≠ p := ne_of_none hL2' hp
        have npF : Fo ≠ p := ne_of_none hF2 hp
        refine ⟨p, _, rfl, SqT.of upd_same, rfl, _, _, rfl, _, rfl, _, rfl, L, _, _, _, rfl, rfl, by rw [upd_ne np]; exact hL2', ix, _, _, rfl, rfl, ?_⟩
        have hF3 : (upd (upd H2 p (HO.tup [V.int (ms.getD ((i : Int)).toNat 0 / 10 ^ 18), V.int (ms.getD ((i : Int)).toNat 0 % 10 ^ 18)])) L (HO.lst ((ms.map V.int).set i (V.int (ms.getD ((i : Int)).toNat 0 / 10 ^ 18))))) Fo = some (.lst (ys.map V.int)) := by
          rw [upd_ne (Ne.symm nLF), upd_ne npF]
          exact hF2
        refine ⟨_, rfl, .inl ⟨rfl, _, SqL.of hF3⟩, _, rfl, Fo, _, _, rfl, rfl, hF3, small1000 (by rw [List.length_map]; omega), ?_⟩
        refine ⟨ys ++ [ms.getD ((i : Int)).toNat 0 % 10 ^ 18], ms.set i (ms.getD ((i : Int)).toNat 0 / 10 ^ 18), _, _, by simp [ly]; omega, rfl, same_upd (same_upd (same_upd t2 (t2.free hp)) fL) fF, ?_, by simp [lm], by rw [upd_same, List.map_append]; rfl, ?_⟩
        · rw [upd_ne nLF, upd_same, List.map_set]; rfl
        · intro z hz
          rcases List.mem_append.mp hz with q | q
          · exact hy z q
          · rw [List.mem_singleton.mp q]; exact rm
      · rintro σ' H2 ⟨ys, ms, v1, v2, ly, rfl, t2, hL2', lm, hF2, hy⟩
        rw [Int.toNat_natCast] at ly
        exact ⟨1000 - ys.length, by omega, ys, ms, _, _, rfl, by omega, rfl, t2, hL2', by omega, by omega, hF2, hy⟩
    · rw [List.length_map] at c3
      exact nxt _ _ ⟨xs, _, _, rfl, t1, hF1, by omega, hx⟩
  rintro σ' H1 ⟨xs, v1, v2, rfl, t1, hF1, lx, hx⟩
  exact ⟨_, rfl, k Fo H1 xs t1 hF1 lx hx⟩
end
def spRest (K : PySem.W.Frag) : Sp := fun vs H Q _ => ∃ (r : Addr) (q : Int) (many wide : Nat) (ras : List Addr) (rows : List (List Int)), vs = [.ref r, .int q] ∧ H r = some (.lst (ras.map V.ref)) ∧ RowsAt H ras rows ∧ RowsOk many wide rows ∧ 1 ≤ wide ∧ many ≤ 1000 ∧ (0 ≤ q ∧ q < (many : Int)) ∧
  Q (.int (restI rows many q)) H
section
variable {P : Program} {w : World} {K : PySem.W.Frag} {mg : Str → Option Value} {base : Heap} {f : Addr} {fd : FuncData} {dV : Value}
theorem sc__law_rest : FnScope ["_law_rows", "_law_here", "_law_k", "_law_lowest"] ["_law_rows", "_law_here"] (defScope s__law_rest) := ⟨rfl, rfl, rfl, by decide +kernel, rfl, by decide +kernel, by decide +kernel⟩
theorem ok_rest (F : FunD K "_law_rest" "_law_rest" s__law_rest dV f fd) (z_len : mg "len" = none) (z_range : mg "range" = none) (z_min : mg "min" = none) : FnOk P w K mg base CX0 1 f fd ["_law_rows", "_law_here"] (spRest K) := by
  refine F.ok sc__law_rest (fun vs H Q E h => ?_) (fun cdv A outer s H vs Q E hr h => ?_)
  · obtain ⟨r, q, many, wide, ras, rows, rfl, _⟩ := h
    rfl
  obtain ⟨r, q, many, wide, ras, rows, rfl, hr', hA, R, w1, n1, ⟨q0, q1⟩, k⟩ := h
  have lr : (ras.map V.ref).length = many := by rw [List.length_map, hA.length, R.len]
  refine ⟨_, (pss_cons (ps_for PassesOwn.never rfl (pi_range1 rfl z_range (pa_cons (pe_callB call_len_seq (by rfl) z_len bt_len (pa_cons (pv 0) pa_nil)) pa_nil)) (pg_name (i := 2) sc__law_rest.nd rfl (Or.inl rfl)) (pss_one (ps_set (i := 1) sc__law_rest.nd rfl (Or.inl rfl) (pe_ix ix_tup (pe_ix ix_list (pv 0) (pv 1) (fun _ _ => rfl)) pe_int (fun _ _ => rfl)))))
      (pss_cons (ps_set (i := 3) sc__law_rest.nd rfl (Or.inl rfl) (pv 1))
      (pss_cons (ps_for PassesOwn.never rfl (pi_range1 rfl z_range (pa_cons (pe_callB call_len_seq (by rfl) z_len bt_len (pa_cons (pv 0) pa_nil)) pa_nil)) (pg_name (i := 2) sc__law_rest.nd rfl (Or.inl rfl)) (pss_cons (ps_set (i := 1) sc__law_rest.nd rfl (Or.inl rfl) (pe_ix ix_tup (pe_ix ix_list (pv 0) (pv 1) (fun _ _ => rfl)) pe_int (fun _ _ => rfl)))
      (pss_one (ps_set (i := 3) sc__law_rest.nd rfl (Or.inl rfl) (pe_callB (call_min2 rfl) (by rfl) z_min bt_min (pa_cons (pv 3) (pa_cons (pv 1) pa_nil)))))))
      (pss_one (ps_ret (pv 3)))))), ?_⟩
  have stp : ∀ (x : Int), 0 ≤ x → x < (many : Int) → ∃ (ra : Addr) (rr : List Int), atI (ras.map V.ref) x = some (.ref ra) ∧ H ra = some (.tup (rr.map V.int)) ∧ atI (rr.map V.int) 0 = some (.int (stepI rows x 0)) := fun x x0 x1 => row_step hA R x0 x1 (by decide) (by omega)
  try dsimp only [gName]
  refine cut_seq (t := tFor _ _ _) (fun σ' H' => ∃ v, σ' = [some (.ref r), some (.int (it0 rows q many)), v, none] ∧ H' = H) ?_ (fun nxt => ?_)
  rotate_left
  · refine ⟨_, rfl, r, _, rfl, .inl (SqL.of hr'), ?_⟩
    rw [lr]
    refine ⟨(many : Int), rfl, by omega, by omega, for_range (fun i σ' H' => ∃ v, σ' = [some (.ref r), some (.int (it0 rows q i)), v, none] ∧ H' = H) ⟨none, rfl, rfl⟩ ?_ ?_⟩
    · rintro i σ' H' hi ⟨v, rfl, rfl⟩
      have hx := it0_in R w1 q0 q1 i
      obtain ⟨ra, rr, e1, e2, e3⟩ := stp _ hx.1 hx.2
      exact ⟨_, rfl, _, rfl, r, _, _, _, rfl, rfl, SqL.of hr', e1, ra, _, _, _, rfl, rfl, SqT.of e2, e3, _, rfl, rfl⟩
    · rintro σ' H' ⟨v, rfl, rfl⟩
      rw [Int.toNat_natCast]
      exact nxt _ _ ⟨v, rfl, rfl⟩
  rintro σ' H' ⟨v, rfl, rfl⟩
  refine ⟨_, rfl, ?_⟩
  try dsimp only [gName]
  refine cut_seq (t := tFor _ _ _) (fun σ' H'' => ∃ v x, σ' = [some (.ref r), x, v, some (.int (restI rows many q))] ∧ H'' = H') ?_ (fun nxt => ?_)
  rotate_left
  · refine ⟨_, rfl, r, _, rfl, .inl (SqL.of hr'), ?_⟩
    rw [lr]
    refine ⟨(many : Int), rfl, by omega, by omega, for_range (fun i σ' H'' => ∃ v, σ' = [some (.ref r), some (.int (it0 rows q (many + i))), v, some (.int (lowI rows q many i))] ∧ H'' = H') ⟨v, rfl, rfl⟩ ?_ ?_⟩
    · rintro i σ' H'' hi ⟨v, rfl, rfl⟩
      have hx := it0_in R w1 q0 q1 (many + i)
      obtain ⟨ra, rr, e1, e2, e3⟩ := stp _ hx.1 hx.2
      refine ⟨_, rfl, _, rfl, r, _, _, _, rfl, rfl, SqL.of hr', e1, ra, _, _, _, rfl, rfl, SqT.of e2, e3, ?_⟩
      exact ⟨_, rfl, _, rfl, _, _, rfl, some (.int (0 + i)), rfl, rfl⟩
    · rintro σ' H'' ⟨v, rfl, rfl⟩
      rw [Int.toNat_natCast]
      exact nxt _ _ ⟨_, _, rfl, rfl⟩
  rintro σ' H'' ⟨v, x, rfl, rfl⟩
  exact ⟨_, rfl, k⟩
end
end My

set_option Elab.async false
set_option linter.all false
set_option maxRecDepth 100000
set_option maxHeartbeats 8000000
namespace My
open PySem L2
/-! ### the law's steady machine -/
def In4 (z : Int) : Prop := z = 0 ∨ z = 1 ∨ z = 2 ∨ z = 999999
theorem in4_ints : ∀ {ys : List V}, (∀ y ∈ ys, ∃ z, y = V.int z ∧ In4 z) → ∃ drawn : List Int, ys = drawn.map V.int ∧ ∀ z ∈ drawn, In4 z
  | [], _ => ⟨[], rfl, (fun z h => by cases h)⟩
  | y :: r, h => by
    obtain ⟨z, e, hz⟩ := h y List.mem_cons_self
    obtain ⟨d, ed, hd⟩ := in4_ints (ys := r) fun y' h' => h y' (List.mem_cons_of_mem _ h')
    exact ⟨z :: d, by rw [e, ed]; rfl, fun x hx => by
      rcases List.mem_cons.mp hx with q | q
      · rw [q]; exact hz
      · exact hd x q⟩
def spMachS (K : PySem.W.Frag) : Sp := fun vs H Q _ => ∃ (l : Addr) (st : Int) (many wide : Nat) (lost : Bool) (xs : List Int), vs = [.ref l, .int st, .int wide, .int many, .bl lost] ∧ H l = some (.lst (xs.map V.int)) ∧ 320 ≤ xs.length ∧
  (0 ≤ st ∧ st < 10) ∧ (1 ≤ many ∧ many ≤ 5) ∧ (2 ≤ wide ∧ wide ≤ 100) ∧ (10 < wide → many ≤ 3) ∧
  ∀ (m r g : Addr) (H' : Hp) (rows : List (List Int)) (signs : List Int), Same H H' → MachAt H' m r g wide rows signs → RowsOk many wide rows → signs.length = many → SteadyS many rows signs → (∀ z ∈ signs, In4 z) → Q (.ref m) H'
section
variable {P : Program} {w : World} {K : PySem.W.Frag} {mg : Str → Option Value} {base : Heap} {f : Addr} {fd : FuncData} {dV : Value}
theorem sc__law_machine : FnScope ["_law_spread_here", "_law_start", "_law_wide", "_law_many", "_law_lost", "_law_rows", "_law_q", "_law_row", "_law_f", "_law_number_here", "_law_at", "_law_drawn"] ["_law_spread_here", "_law_start", "_law_wide", "_law_many", "_law_lost"] (defScope s__law_machine) := ⟨rfl, rfl, rfl, by decide +kernel, rfl, by decide +kernel, by decide +kernel⟩
theorem bk__law_machine_0 : BlkScope ["_law_spread_here", "_law_start", "_law_wide", "_law_many", "_law_lost", "_law_rows", "_law_q", "_law_row", "_law_f", "_law_number_here", "_law_at", "_law_drawn"] (defScope s__law_machine) ["_law_q", "_law_at", "_law_spread_here"] [none, some 10, some 0] { kind := ScopeKind.function, names := [(".0", NameKind.local), ("_law_q", NameKind.local), ("_law_number", NameKind.globalImplicit), ("_law_at", NameKind.free), ("_law_spread_here", NameKind.free)], isGenerator := false, isCoroutine := false, more := [] } := ⟨rfl, by decide +kernel, by decide +kernel, by decide +kernel, by decide +kernel, rfl, by decide +kernel⟩
theorem bk__law_machine_1 : BlkScope ["_law_spread_here", "_law_start", "_law_wide", "_law_many", "_law_lost", "_law_rows", "_law_q", "_law_row", "_law_f", "_law_number_here", "_law_at", "_law_drawn"] (defScope s__law_machine) ["_law_q", "_law_drawn", "_law_rows"] [none, some 11, some 5] { kind := ScopeKind.function, names := [(".0", NameKind.local), ("_law_q", NameKind.local), ("_law_rest", NameKind.globalImplicit), ("_law_drawn", NameKind.free), ("_law_rows", NameKind.free)], isGenerator := false, isCoroutine := false, more := [] } := ⟨rfl, by decide +kernel, by decide +kernel, by decide +kernel, by decide +kernel, rfl, by decide +kernel⟩
theorem ok_machS (F : FunD K "_law_machine" "_law_machine" s__law_machine dV f fd) (G__law_number : DefOk P w K mg base "_law_number" 1 ["_law_spread_here", "_law_k"] [] (spNumS K))
    (G__law_rest : DefOk P w K mg base "_law_rest" 1 ["_law_rows", "_law_here"] [] (spRest K)) (z_range : mg "range" = none) (z_tuple : mg "tuple" = none) :
    FnOk P w K mg base CX0 2 f fd ["_law_spread_here", "_law_start", "_law_wide", "_law_many", "_law_lost"] (spMachS K) := by
  refine F.ok sc__law_machine (fun vs H Q E h => ?_) (fun cdv A outer s H vs Q E hr h => ?_)
  · obtain ⟨l, st, many, wide, lost, xs, rfl, _⟩ := h
    rfl
  obtain ⟨l, st, many, wide, lost, xs, rfl, hl, h320, ⟨st0, st1⟩, ⟨m0, m1⟩, ⟨w0, w1⟩, mw, k⟩ := h
  refine ⟨_, (pss_cons (ps_set (i := 5) sc__law_machine.nd rfl (Or.inr rfl) (pe_lst pa_nil))
      (pss_cons (ps_for PassesOwn.never rfl (pi_range1 rfl z_range (pa_cons (pv 3) pa_nil)) (pg_name (i := 6) sc__law_machine.nd rfl (Or.inl rfl)) (pss_cons (ps_set (i := 7) sc__law_machine.nd rfl (Or.inl rfl) (pe_lst pa_nil))
      (pss_cons (ps_for PassesOwn.never rfl (pi_range1 rfl z_range (pa_cons (pv 2) pa_nil)) (pg_name (i := 8) sc__law_machine.nd rfl (Or.inl rfl)) (pss_cons (ps_set (i := 9) sc__law_machine.nd rfl (Or.inl rfl) (pe_cd G__law_number hr (pa_cons (pv 0) (pa_cons (pe_op op_add (pe_op op_add (pv 1) (pe_op op_mul (pv 6) (pv 2))) (pv 8)) pa_nil))))
      (pss_one (ps_if (PW.pt (pw_and (pt_cmpR op_eq (pv 8) pe_int (nomark _)) (pw_and1 (pt_cmpR op_eq (pe_op op_mod (pe_op op_fdiv (pv 9) pe_int) pe_int) pe_int (nomark _))))) (pss_one (ps_expr (pe_bm PySem.F.plainAttrs_list PySem.F.slot_list_append PySem.F.type_list_append mt_append (pv 7) (pa_cons (pv 6) pa_nil)))) (pss_one (ps_if (PW.pt (pw_and (pt_truth (pv 4) (fun _ => rfl)) (pw_and1 (PW.pt (pw_or (pt_cmpR op_eq (pv 6) (pe_op op_sub (pv 3) pe_int) (nomark _)) (pw_or1 (pt_cmpR op_eq (pe_op op_mod (pv 9) pe_int) pe_int (nomark _)))))))) (pss_one (ps_expr (pe_bm PySem.F.plainAttrs_list PySem.F.slot_list_append PySem.F.type_list_append mt_append (pv 7) (pa_cons (pe_op op_sub (pv 3) pe_int) pa_nil)))) (pss_one (ps_expr (pe_bm PySem.F.plainAttrs_list PySem.F.slot_list_append PySem.F.type_list_append mt_append (pv 7) (pa_cons (pe_op op_mod (pe_op op_fdiv (pv 9) pe_int) (pv 3)) pa_nil))))))))))
      (pss_one (ps_expr (pe_bm PySem.F.plainAttrs_list PySem.F.slot_list_append PySem.F.type_list_append mt_append (pv 5) (pa_cons (pe_callTy call_tuple_of (by rfl) z_tuple bt_tuple (pa_cons (pv 7) pa_nil)) pa_nil)))))))
      (pss_cons (ps_set (i := 10) sc__law_machine.nd rfl (Or.inr rfl) (pe_op op_add (pv 1) (pe_op op_mul (pv 3) (pv 2))))
      (pss_cons (ps_set (i := 11) sc__law_machine.nd rfl (Or.inr rfl) (pe_comp rfl bk__law_machine_0 (pi_range1 rfl z_range (pa_cons (pv 3) pa_nil)) (fun _ _ _ _ => (pg_name (i := 0) bk__law_machine_0.nd rfl (Or.inl rfl))) (fun _ _ _ _ => (pe_ix (ix_listK K) (pe_lst (pa_cons pe_int (pa_cons pe_int (pa_cons pe_int (pa_cons pe_int (pa_cons pe_int (pa_cons pe_int pa_nil))))))) (pe_op op_mod (pe_cd G__law_number hr (pa_cons (pv 2) (pa_cons (pe_op op_add (pv 1) (pv 0)) pa_nil))) pe_int) (fun _ _ => rfl)))))
      (pss_one (ps_ret (pe_tup (pa_cons (pv 2) (pa_cons (pe_callTy call_tuple_of (by rfl) z_tuple bt_tuple (pa_cons (pv 5) pa_nil)) (pa_cons (pe_callTy call_tuple_of (by rfl) z_tuple bt_tuple (pa_cons (pe_comp rfl bk__law_machine_1 (pi_range1 rfl z_range (pa_cons (pv 3) pa_nil)) (fun _ _ _ _ => (pg_name (i := 0) bk__law_machine_1.nd rfl (Or.inl rfl))) (fun _ _ _ _ => (pe_ix (ix_listK K) (pv 1) (pe_cd G__law_rest hr (pa_cons (pv 2) (pa_cons (pv 0) pa_nil))) (fun _ _ => rfl)))) pa_nil)) pa_nil)))))))))), ?_⟩
  have hmw : many * wide + many ≤ 310 := by
    rcases Nat.lt_or_ge 10 wide with z | z
    · have := Nat.mul_le_mul (mw z) w1
      have := mw z
      omega
    · have := Nat.mul_le_mul m1 z
      omega
  have prod : ∀ i : Nat, i ≤ many → i * wide ≤ many * wide := fun i hi => Nat.mul_le_mul_right _ hi
  have prod1 : ∀ i : Nat, i < many → i * wide + wide ≤ many * wide := fun i hi => by
    have := Nat.mul_le_mul_right wide hi
    rw [Nat.succ_mul] at this
    exact this
  have cst : ∀ i : Nat, ((i : Int) * (wide : Int)) = ((i * wide : Nat) : Int) := fun i => by push_cast; rfl
  refine ⟨(by show 0 ≤ sizeLine; decide), fun R hR => ?_⟩
  try dsimp only [gName]
  refine cut_seq (t := tFor _ _ _) (fun σ' H' => ∃ (ras : List Addr) (rws : List (List Int)) (v1 v2 v3 v4 : Option V), σ' = [some (.ref l), some (.int st), some (.int wide), some (.int many), some (.bl lost), some (.ref R), v1, v2, v3, v4, none, none] ∧ Same H H' ∧ H' R = some (.lst (ras.map V.ref)) ∧ RowsAt H' ras rws ∧ RowsOk many wide rws) ?_ (fun nxt => ?_)
  rotate_left
  · refine ⟨_, rfl, (many : Int), rfl, by omega, by omega, for_range (fun i σ' H'' => ∃ (ras : List Addr) (rws : List (List Int)) (v1 v2 v3 v4 : Option V), σ' = [some (.ref l), some (.int st), some (.int wide), some (.int many), some (.bl lost), some (.ref R), v1, v2, v3, v4, none, none] ∧ Same H H'' ∧ H'' R = some (.lst (ras.map V.ref)) ∧ RowsAt H'' ras rws ∧
        (∀ r ∈ rws, r.length = wide) ∧ (∀ r ∈ rws, ∀ v ∈ r, 0 ≤ v ∧ v < (many : Int)) ∧ rws.length = i)
      ⟨[], [], none, none, none, none, rfl, same_new hR _, upd_same, .nil, (fun r h => by cases h), (fun r h => by cases h), rfl⟩ ?_ ?_⟩
    · rintro i σ' H3 hi ⟨ras, rws, v1, v2, v3, v4, rfl, hs3, hR3, hA3, hl3, hv3, hn3⟩
      have hi' : i < many := by omega
      have lenR : ras.length = i := by rw [hA3.length]; exact hn3
      have z0 : (0 : Int) + (i : Int) = (i : Int) := Int.zero_add _
      rw [z0]
      have pi := prod1 i hi'
      refine ⟨(by show 0 ≤ sizeLine; decide), fun W hW => ?_⟩
      have nRW : R ≠ W := ne_of_none hR3 hW
      try dsimp only [gName]
      refine cut_seq (t := tFor _ _ _) (fun σ' H'' => ∃ (row : List Int) (v3 v4 : Option V), σ' = [some (.ref l), some (.int st), some (.int wide), some (.int many), some (.bl lost), some (.ref R), some (.int i), some (.ref W), v3, v4, none, none] ∧ Same H3 H'' ∧ H'' W = some (.lst (row.map V.int)) ∧ row.length = wide ∧ ∀ v ∈ row, 0 ≤ v ∧ v < (many : Int)) ?_ (fun nxt2 => ?_)
      rotate_left
      · refine ⟨_, rfl, (wide : Int), rfl, by omega, by omega, for_range (fun j σ' H'' => ∃ (row : List Int) (v3 v4 : Option V), σ' = [some (.ref l), some (.int st), some (.int wide), some (.int many), some (.bl lost), some (.ref R), some (.int i), some (.ref W), v3, v4, none, none] ∧ Same H3 H'' ∧ H'' W = some (.lst (row.map V.int)) ∧ row.length = j ∧ ∀ v ∈ row, 0 ≤ v ∧ v < (many : Int))
          ⟨[], v3, v4, rfl, same_new hW _, upd_same, rfl, (fun v h => by cases h)⟩ ?_ ?_⟩
        · rintro j σ' H4 hj ⟨row, v3, v4, rfl, hs4, hW4, hl4, hv4⟩
          have hj' : j < wide := by omega
          have z1 : (0 : Int) + (j : Int) = (j : Int) := Int.zero_add _
          rw [z1]
          have app : ∀ (v : Int) (u4 : Option V), 0 ≤ v → v < (many : Int) → ∃ (row' : List Int) (v3 v4 : Option V), [some (V.ref l), some (.int st), some (.int wide), some (.int many), some (.bl lost), some (.ref R), some (.int i), some (.ref W), some (.int j), u4, none, none] = [some (V.ref l), some (.int st), some (.int wide), some (.int many), some (.bl lost), some (.ref R), some (.int i), some (.ref W), v3, v4, none, none] ∧ Same H3 (upd H4 W (.lst (row.map V.int ++ [.int v]))) ∧
              (upd H4 W (.lst (row.map V.int ++ [.int v]))) W = some (.lst (row'.map V.int)) ∧ row'.length = j + 1 ∧ ∀ v ∈ row', 0 ≤ v ∧ v < (many : Int) := fun v u4 h0 h1 =>
            ⟨row ++ [v], _, _, rfl, same_upd hs4 hW, by rw [upd_same, List.map_append]; rfl, by simp [hl4], fun y hy => by
              rcases List.mem_append.mp hy with q | q
              · exact hv4 y q
              · rw [List.mem_singleton.mp q]; exact ⟨h0, h1⟩⟩
          have fit : (row.map V.int).length < sizeLine := small1000 (by rw [List.length_map]; omega)
          refine ⟨_, rfl, _, rfl, _, rfl, _, rfl, _, _, rfl, rfl, .inl ⟨by omega, by omega⟩, _, _, rfl, rfl, _, rfl, _, _, rfl, rfl, l, _, xs, rfl, (hs3.trans hs4) _ _ hl, h320, by rw [cst]; omega, by rw [cst]; omega, fun v v0 v1 => ?_⟩
          have r3 := mod_in (a := v / 2) (b := (many : Int)) (by omega)
          refine ⟨_, rfl, rfl, _, rfl, iteI (fun c => ?_) (fun c => ?_)⟩
          · refine ⟨_, rfl, _, _, rfl, rfl, ⟨by decide, by decide⟩, _, _, rfl, rfl, (by show (0 : Int) < 3; decide), rfl, _, rfl, iteI (fun _ => ?_) (fun _ => ?_)⟩
            · exact ⟨_, rfl, .inl ⟨rfl, _, SqL.of hW4⟩, _, rfl, W, _, _, rfl, rfl, hW4, fit, app _ _ (by omega) (by omega)⟩
            · refine ⟨_, rfl, _, rfl, ?_⟩
              cases lost with
              | false => exact iteF ⟨_, rfl, .inl ⟨rfl, _, SqL.of hW4⟩, _, rfl, _, _, rfl, rfl, ⟨by decide, by decide⟩, _, rfl, _, _, rfl, rfl, (by omega), W, _, _, rfl, rfl, hW4, fit, app _ _ r3.1 r3.2⟩
              | true =>
                refine iteT ⟨_, rfl, _, rfl, _, _, rfl, rfl, rfl, _, rfl, iteI (fun _ => iteT ?_) (fun _ => ?_)⟩
                · exact ⟨_, rfl, .inl ⟨rfl, _, SqL.of hW4⟩, _, rfl, _, _, rfl, rfl, W, _, _, rfl, rfl, hW4, fit, app _ _ (by omega) (by omega)⟩
                · refine ⟨_, rfl, _, _, rfl, rfl, (by show (0 : Int) < 2; decide), rfl, _, rfl, iteI (fun _ => ?_) (fun _ => ?_)⟩
                  · exact ⟨_, rfl, .inl ⟨rfl, _, SqL.of hW4⟩, _, rfl, _, _, rfl, rfl, W, _, _, rfl, rfl, hW4, fit, app _ _ (by omega) (by omega)⟩
                  · exact ⟨_, rfl, .inl ⟨rfl, _, SqL.of hW4⟩, _, rfl, _, _, rfl, rfl, ⟨by decide, by decide⟩, _, rfl, _, _, rfl, rfl, (by omega), W, _, _, rfl, rfl, hW4, fit, app _ _ r3.1 r3.2⟩
          · refine ⟨_, rfl, _, rfl, ?_⟩
            cases lost with
            | false => exact iteF ⟨_, rfl, .inl ⟨rfl, _, SqL.of hW4⟩, _, rfl, _, _, rfl, rfl, ⟨by decide, by decide⟩, _, rfl, _, _, rfl, rfl, (by omega), W, _, _, rfl, rfl, hW4, fit, app _ _ r3.1 r3.2⟩
            | true =>
              refine iteT ⟨_, rfl, _, rfl, _, _, rfl, rfl, rfl, _, rfl, iteI (fun _ => iteT ?_) (fun _ => ?_)⟩
              · exact ⟨_, rfl, .inl ⟨rfl, _, SqL.of hW4⟩, _, rfl, _, _, rfl, rfl, W, _, _, rfl, rfl, hW4, fit, app _ _ (by omega) (by omega)⟩
              · refine ⟨_, rfl, _, _, rfl, rfl, (by show (0 : Int) < 2; decide), rfl, _, rfl, iteI (fun _ => ?_) (fun _ => ?_)⟩
                · exact ⟨_, rfl, .inl ⟨rfl, _, SqL.of hW4⟩, _, rfl, _, _, rfl, rfl, W, _, _, rfl, rfl, hW4, fit, app _ _ (by omega) (by omega)⟩
                · exact ⟨_, rfl, .inl ⟨rfl, _, SqL.of hW4⟩, _, rfl, _, _, rfl, rfl, ⟨by decide, by decide⟩, _, rfl, _, _, rfl, rfl, (by omega), W, _, _, rfl, rfl, hW4, fit, app _ _ r3.1 r3.2⟩
        · rintro σ' H4 ⟨row, v3, v4, rfl, hs4, hW4, hl4, hv4⟩
          rw [Int.toNat_natCast] at hl4
          exact nxt2 _ _ ⟨row, v3, v4, rfl, hs4, hW4, hl4, hv4⟩
      rintro σ' H4 ⟨row, v3, v4, rfl, hs4, hW, hl4, hrow⟩
      have hR4 := hs4 _ _ hR3
      refine ⟨_, rfl, .inl ⟨rfl, _, SqL.of hR4⟩, _, rfl, W, _, rfl, .inl ⟨SqL.of hW, fun tp htp => ?_⟩⟩
      have nR : R ≠ tp := ne_of_none hR4 htp
      refine ⟨R, _, _, rfl, rfl, by rw [upd_ne nR]; exact hR4, small1000 (by rw [List.length_map]; omega), ?_⟩
      have sT : ∀ b xs, H3 b = some (.tup xs) → (upd (upd H4 tp (.tup (row.map V.int))) R (.lst (ras.map V.ref ++ [V.ref tp]))) b = some (.tup xs) := fun b xs e => by
        have e4 := hs4 _ _ e
        rw [upd_ne (ne_of e4 hR4 (by intro z; cases z)), upd_ne (ne_of_none e4 htp)]
        exact e4
      refine ⟨ras ++ [tp], rws ++ [row], _, _, _, _, rfl, same_upd (same_upd (hs3.trans hs4) ((hs3.trans hs4).free htp)) hR, ?_, RowsAt.snoc (hA3.same sT) ?_, ?_, ?_, by simp [hn3]⟩
      · rw [upd_same, List.map_append]; rfl
      · rw [upd_ne (Ne.symm nR), upd_same]
      · intro r hr'
        rcases List.mem_append.mp hr' with z | z
        · exact hl3 r z
        · rw [List.mem_singleton.mp z]; omega
      · intro r hr'
        rcases List.mem_append.mp hr' with z | z
        · exact hv3 r z
        · rw [List.mem_singleton.mp z]; exact hrow
    · rintro σ' H3 ⟨ras, rws, v1, v2, v3, v4, rfl, hs3, hR3, hA3, hl3, hv3, hn3⟩
      exact nxt _ _ ⟨ras, rws, v1, v2, v3, v4, rfl, hs3, hR3, hA3, ⟨by omega, hl3, hv3⟩⟩
  rintro σ' H3 ⟨ras, rws, v1, v2, v3, v4, rfl, hs3, hR3, hA3, RO⟩
  refine ⟨_, rfl, _, rfl, _, rfl, _, _, rfl, rfl, .inl ⟨by omega, by omega⟩, _, _, rfl, rfl, ?_⟩
  rw [cst]
  -- drawn
  refine ⟨_, rfl, (many : Int), rfl, by omega, by omega, ?_⟩
  refine comp_range (fun D j ys H'' => Same H3 H'' ∧ ys.length = j ∧ ∀ y ∈ ys, ∃ z, y = V.int z ∧ In4 z) (fun D hD => ⟨same_new hD _, rfl, (fun y h => by cases h)⟩) ?_ ?_
  · rintro D j ys H4 Q' hD hj hy ⟨hs4, hl4, hall4⟩ k'
    refine ⟨(by show 6 ≤ sizeLine; decide), fun L6 hL6 => ?_⟩
    have s6 := same_new hL6 (HO.lst [V.int 0, V.int 1, V.int 2, V.int 1, V.int 0, V.int 999999])
    have nD : D ≠ L6 := ne_of_none hy hL6
    refine ⟨_, rfl, _, rfl, _, rfl, _, _, rfl, rfl, l, _, xs, rfl, (hs3.trans (hs4.trans s6)) _ _ hl, h320, by omega, by omega, fun v v0 v1 => ?_⟩
    have r6 := mod_in (a := v) (b := 6) (by decide)
    have pick : ∃ z, atI [V.int 0, V.int 1, V.int 2, V.int 1, V.int 0, V.int 999999] (v % 6) = some (V.int z) ∧ In4 z := by
      have h6 : v % 6 = 0 ∨ v % 6 = 1 ∨ v % 6 = 2 ∨ v % 6 = 3 ∨ v % 6 = 4 ∨ v % 6 = 5 := by omega
      rcases h6 with e | e | e | e | e | e <;> rw [e]
      · exact ⟨0, rfl, .inl rfl⟩
      · exact ⟨1, rfl, .inr (.inl rfl)⟩
      · exact ⟨2, rfl, .inr (.inr (.inl rfl))⟩
      · exact ⟨1, rfl, .inr (.inl rfl)⟩
      · exact ⟨0, rfl, .inl rfl⟩
      · exact ⟨999999, rfl, .inr (.inr (.inr rfl))⟩
    obtain ⟨z, ez, hz⟩ := pick
    refine ⟨_, _, rfl, rfl, (by show (0 : Int) < 6; decide), L6, _, _, _, rfl, rfl, SqL.of upd_same, ez, k' _ _ (by rw [upd_ne nD]; exact hy) (small1000 (by omega)) ⟨same_upd (same_upd hs4 (hs4.free hL6)) hD, by simp [hl4], ?_⟩⟩
    intro y hy'
    rcases List.mem_append.mp hy' with q | q
    · exact hall4 y q
    · rw [List.mem_singleton.mp q]; exact ⟨z, rfl, hz⟩
  rintro D ys H4 fD hD ⟨hs4, hl4, hall4⟩
  have hd := in4_ints hall4
  obtain ⟨drawn, rfl, hdr⟩ := hd
  rw [List.length_map] at hl4
  try dsimp only [gName]
  refine ⟨_, rfl, _, rfl, R, _, rfl, .inl ⟨SqL.of (hs4 _ _ hR3), fun rt hrt => ?_⟩⟩
  have s5 := same_new hrt (HO.tup (ras.map V.ref))
  have s35 := hs4.trans s5
  refine ⟨_, rfl, (many : Int), rfl, by omega, by omega, ?_⟩
  refine comp_range (fun D2 j ys H'' => Same (upd H4 rt (HO.tup (ras.map V.ref))) H'' ∧ ys = ((List.range j).map fun q : Nat => drawn.getD (restI rws many q).toNat 0).map V.int) (fun D2 hD2 => ⟨same_new hD2 _, rfl⟩) ?_ ?_
  · rintro D2 j ys H5 Q' hD2 hj hy ⟨hs5, rfl⟩ k'
    have hj' : (j : Int) < many := by omega
    have z0 : (0 : Int) + (j : Int) = (j : Int) := Int.zero_add _
    rw [z0]
    have s3' := s35.trans hs5
    have rr := restI_in RO (by omega) (show (0 : Int) ≤ (j : Int) by omega) hj'
    refine ⟨_, rfl, _, rfl, _, rfl, R, _, many, wide, ras, rws, rfl, s3' _ _ hR3, hA3.same fun b xs e => s3' _ _ e, RO, by omega, by omega, ⟨by omega, hj'⟩, D, _, _, _, rfl, rfl, SqL.of (hs5 _ _ (s5 _ _ hD)), atI_ints rr.1 (by omega), k' _ _ hy (small1000 (by rw [List.length_map, List.length_map, List.length_range]; omega)) ⟨same_upd hs5 hD2, ?_⟩⟩
    rw [List.range_succ, List.map_append, List.map_append]
    rfl
  rintro G ys H5 fG hG ⟨hs5, rfl⟩
  rw [Int.toNat_natCast] at hG
  refine ⟨G, _, rfl, .inl ⟨SqL.of hG, fun gt hgt => ?_⟩⟩
  have s6 := same_new hgt (HO.tup (((List.range many).map fun q : Nat => drawn.getD (restI rws many q).toNat 0).map V.int))
  refine ⟨(by show 3 ≤ sizeLine; decide), fun m hm => ?_⟩
  have s7 := same_new hm (HO.tup [V.int wide, V.ref rt, V.ref gt])
  have s57 := hs5.trans (s6.trans s7)
  refine k m rt gt _ rws ((List.range many).map fun q : Nat => drawn.getD (restI rws many q).toNat 0) (hs3.trans (s35.trans s57)) ⟨upd_same, ⟨ras, s57 _ _ upd_same, (hA3.same fun b xs e => s57 _ _ (s35 _ _ e))⟩, s7 _ _ upd_same⟩ RO (by simp) (steady_of (drawn := drawn) RO (by omega) rfl) ?_
  intro z hz
  obtain ⟨q, hq, rfl⟩ := List.mem_map.mp hz
  have hq' : (q : Int) < many := by have := List.mem_range.mp hq; omega
  have rr := restI_in RO (by omega) (show (0 : Int) ≤ (q : Int) by omega) hq'
  have hx : (restI rws many q).toNat < drawn.length := by omega
  rw [getD_at hx]
  exact hdr _ (List.getElem_mem hx)
end
end My

set_option Elab.async false
set_option linter.all false
set_option maxRecDepth 100000
set_option maxHeartbeats 8000000
namespace My
open PySem L2
/-! ### the law -/
def spLaw (K : PySem.W.Frag) : Sp := fun vs H Q _ => ∃ (a : Addr) (ns : List Int), vs = [.ref a] ∧ SqL K H a (ns.map V.int) ∧ ns.length ≤ 63 ∧ ∀ H', Q (.bl true) H'
def spWholeN : Sp := fun vs H Q _ => ∃ z : Int, vs = [.int z] ∧ Q (.bl true) H
def Big18 (b : Nat) : Prop := b ≤ 10 ^ 18
structure MachOk (H : Hp) (m r g : Addr) (many wide : Nat) (rows : List (List Int)) (signs : List Int) : Prop where
  at_ : MachAt H m r g wide rows signs
  ok : RowsOk many wide rows
  len : signs.length = many
  st : SteadyS many rows signs
  m1 : 1 ≤ many ∧ many ≤ 1000
  w2 : 2 ≤ wide ∧ wide ≤ 1000
theorem MachOk.same {H H' : Hp} {m r g : Addr} {many wide : Nat} {rows : List (List Int)} {signs : List Int} (M : MachOk H m r g many wide rows signs) (s : Same H H') : MachOk H' m r g many wide rows signs := ⟨M.at_.same fun b xs e => s _ _ e, M.ok, M.len, M.st, M.m1, M.w2⟩
def spSignAtL : Sp := fun vs H Q _ => ∃ (m r g : Addr) (many wide n : Nat) (rows : List (List Int)) (signs : List Int), vs = [.ref m, .int n] ∧ MachOk H m r g many wide rows signs ∧ (n : Int) < NB ∧ Q (.int (sgnAt rows wide signs n)) H
def spOneMore : Sp := fun vs H Q _ => ∃ (m r g : Addr) (many wide b : Nat) (rows : List (List Int)) (signs : List Int) (s : Int), vs = [.ref m, .int b, .int s] ∧ MachOk H m r g many wide rows signs ∧ b ≤ 10 ^ 18 ∧ ∀ H', Same H H' → Q (.bl true) H'
def spFew : Sp := fun vs H Q _ => ∃ (m r g : Addr) (many wide : Nat) (rows : List (List Int)) (signs : List Int) (s : Int), vs = [.ref m, .int s] ∧ MachOk H m r g many wide rows signs ∧ ∀ H', Same H H' → Q (.bl true) H'
def spAllL : Sp := fun vs H Q _ => ∃ (m r g : Addr) (many wide b : Nat) (rows : List (List Int)) (signs : List Int), vs = [.ref m, .int b] ∧ MachOk H m r g many wide rows signs ∧ (∀ z ∈ signs, In4 z) ∧ b ≤ 10 ^ 18 ∧ ∀ H', Same H H' → Q (.bl true) H'
theorem NB18 {b : Nat} (h : b ≤ 10 ^ 18 + 1) : (b : Int) < NB := by
  have : ((10 ^ 18 + 1 : Nat) : Int) < NB := by decide +kernel
  omega
theorem cnt_four {many wide : Nat} {rows : List (List Int)} {signs : List Int} (R : RowsOk many wide rows) (m1 : 1 ≤ many) (w1 : 1 ≤ wide) (ls : signs.length = many) (h4 : ∀ z ∈ signs, In4 z) : ∀ b : Nat, 0 + cntB rows wide signs 0 b + cntB rows wide signs 1 b + cntB rows wide signs 2 b + cntB rows wide signs 999999 b = (b : Int)
  | 0 => rfl
  | b + 1 => by
    have ih := cnt_four R m1 w1 ls h4 b
    have q := wk_in R w1 b b 0 (by decide) (by omega)
    have hs : In4 (sgnAt rows wide signs b) := by
      unfold sgnAt sgnI
      have hx : (wk rows wide b b 0).toNat < signs.length := by omega
      rw [getD_at hx]
      exact h4 _ (List.getElem_mem hx)
    unfold cntB at ih ⊢
    show 0 + (preSum _ b + ind _) + (preSum _ b + ind _) + (preSum _ b + ind _) + (preSum _ b + ind _) = _
    have e : ind (sgnAt rows wide signs b = 0) + ind (sgnAt rows wide signs b = 1) + ind (sgnAt rows wide signs b = 2) + ind (sgnAt rows wide signs b = 999999) = 1 := by
      unfold ind
      rcases hs with z | z | z | z <;> rw [z] <;> decide
    push_cast
    omega
section
variable {P : Program} {w : World} {K : PySem.W.Frag} {mg : Str → Option Value} {base : Heap} {f : Addr} {fd : FuncData} {dV : Value}
theorem sc__law_whole : FnScope ["_law_found"] ["_law_found"] (defScope s__law_whole) := ⟨rfl, rfl, rfl, by decide +kernel, rfl, by decide +kernel, by decide +kernel⟩
theorem sc__law_sign_at : FnScope ["_law_machine_here", "_law_number_here", "_law_here"] ["_law_machine_here", "_law_number_here"] (defScope s__law_sign_at) := ⟨rfl, rfl, rfl, by decide +kernel, rfl, by decide +kernel, by decide +kernel⟩
theorem sc__law_one_more : FnScope ["_law_machine_here", "_law_below", "_law_sign", "_law_one", "_law_other"] ["_law_machine_here", "_law_below", "_law_sign"] (defScope s__law_one_more) := ⟨rfl, rfl, rfl, by decide +kernel, rfl, by decide +kernel, by decide +kernel⟩
theorem sc__law_few : FnScope ["_law_machine_here", "_law_sign", "_law_due", "_law_below", "_law_found"] ["_law_machine_here", "_law_sign"] (defScope s__law_few) := ⟨rfl, rfl, rfl, by decide +kernel, rfl, by decide +kernel, by decide +kernel⟩
theorem sc__law_all : FnScope ["_law_machine_here", "_law_below", "_law_total", "_law_sign"] ["_law_machine_here", "_law_below"] (defScope s__law_all) := ⟨rfl, rfl, rfl, by decide +kernel, rfl, by decide +kernel, by decide +kernel⟩
theorem sc_law : FnScope ["_law_script", "_law_spread_here", "_law_wide", "_law_many", "_law_lost", "_law_machine_here", "_law_signs", "_law_sign", "_law_below"] ["_law_script"] (defScope s_law) := ⟨rfl, rfl, rfl, by decide +kernel, rfl, by decide +kernel, by decide +kernel⟩
theorem ok_wholeN (F : FunD K "_law_whole" "_law_whole" s__law_whole dV f fd) (z_isinstance : mg "isinstance" = none) (z_int : mg "int" = none) (z_bool : mg "bool" = none) : FnOk P w K mg base CX0 1 f fd ["_law_found"] spWholeN := by
  refine F.ok sc__law_whole (fun vs H Q E h => ?_) (fun cdv A outer s H vs Q E hr h => ?_)
  · obtain ⟨z, rfl, _⟩ := h
    rfl
  obtain ⟨z, rfl, q⟩ := h
  refine ⟨_, (pss_one (ps_ret (pe_and (pe_callB call_isi (by rfl) z_isinstance bt_isinstance (pa_cons (pv 0) (pa_cons (pe_bltn (v := .ty "int") rfl z_int bt_int rfl) pa_nil))) (pe_one (pe_not (pe_callB call_isi (by rfl) z_isinstance bt_isinstance (pa_cons (pv 0) (pa_cons (pe_bltn (v := .ty "bool") rfl z_bool bt_bool rfl) pa_nil)))))))), ?_⟩
  refine ⟨_, rfl, _, _, _, _, rfl, TyOf.int z, kit_int_int K, _, rfl, iteT ?_⟩
  exact ⟨_, rfl, _, _, _, _, rfl, TyOf.int z, kit_int_bool K, _, rfl, q⟩
theorem ok_sign_atL (F : FunD K "_law_sign_at" "_law_sign_at" s__law_sign_at dV f fd) : FnOk P w K mg base CX0 1 f fd ["_law_machine_here", "_law_number_here"] spSignAtL := by
  refine F.ok sc__law_sign_at (fun vs H Q E h => ?_) (fun cdv A outer s H vs Q E hr h => ?_)
  · obtain ⟨m, r, g, many, wide, n, rows, signs, rfl, _⟩ := h
    rfl
  obtain ⟨m, r, g, many, wide, n, rows, signs, rfl, M, hn, k⟩ := h
  obtain ⟨ras, hr', hA⟩ := M.at_.rows
  have m1 := M.m1
  have w2 := M.w2
  refine ⟨_, (pss_cons (ps_set (i := 2) sc__law_sign_at.nd rfl (Or.inl rfl) pe_int)
      (pss_cons (ps_while PassesOwn.never (pt_cmpR op_gt (pv 1) pe_int (nomark _)) (pss_cons (ps_set (i := 2) sc__law_sign_at.nd rfl (Or.inl rfl) (pe_ix ix_tup (pe_ix ix_tup (pe_ix ix_tup (pv 0) pe_int (fun _ _ => rfl)) (pv 2) (fun _ _ => rfl)) (pe_op op_mod (pv 1) (pe_ix ix_tup (pv 0) pe_int (fun _ _ => rfl))) (fun _ _ => rfl)))
      (pss_one (ps_set (i := 1) sc__law_sign_at.nd rfl (Or.inl rfl) (pe_op op_fdivB (pv 1) (pe_ix ix_tup (pv 0) pe_int (fun _ _ => rfl)))))))
      (pss_one (ps_ret (pe_ix ix_tup (pe_ix ix_tup (pv 0) pe_int (fun _ _ => rfl)) (pv 2) (fun _ _ => rfl)))))), ?_⟩
  try dsimp only [gName]
  refine cut_seq (t := tWhile _ _) (fun σ' H' => ∃ q : Int, σ' = [some (.ref m), some (.int 0), some (.int q)] ∧ H' = H ∧ (0 ≤ q ∧ q < (many : Int)) ∧ sgnI signs q = sgnAt rows wide signs n) ?_ (fun nxt => ?_)
  rotate_left
  · refine while_W (fun mm σ' H' => ∃ (x : Nat) (q : Int), mm = x ∧ x ≤ n ∧ σ' = [some (.ref m), some (.int x), some (.int q)] ∧ H' = H ∧ (0 ≤ q ∧ q < (many : Int)) ∧ ∃ k, x < wide ^ k ∧ sgnI signs (wk rows wide k x q) = sgnAt rows wide signs n)
      ⟨n, n, 0, rfl, Nat.le_refl _, rfl, rfl, ⟨by decide, by omega⟩, n, lt_self_pow w2.1 n, rfl⟩ ?_
    rintro x σ' H' ⟨_, q, rfl, hx, rfl, rfl, ⟨q0, q1⟩, kk, hk, e⟩
    refine ⟨_, rfl, _, _, rfl, rfl, _, rfl, iteD (fun c => ?_) (fun c => ?_)⟩
    · refine ⟨fun σ' H'' => ∃ m', m' < x ∧ ∃ (x : Nat) (q : Int), m' = x ∧ x ≤ n ∧ σ' = [some (.ref m), some (.int x), some (.int q)] ∧ H'' = H' ∧ (0 ≤ q ∧ q < (many : Int)) ∧ ∃ k, x < wide ^ k ∧ sgnI signs (wk rows wide k x q) = sgnAt rows wide signs n, fun σ' H'' h => h, ?_⟩
      have x0 : 0 < x := by omega
      have hm : x % wide < wide := Nat.mod_lt _ (by omega)
      have ce : ((x : Int) % (wide : Int)) = ((x % wide : Nat) : Int) := by push_cast; rfl
      have cd : ((x : Int) / (wide : Int)) = ((x / wide : Nat) : Int) := by push_cast; rfl
      obtain ⟨ra, rr, e1, e2, e3⟩ := row_step hA M.ok q0 q1 (f := ((x % wide : Nat) : Int)) (by omega) (by omega)
      have st := stepI_ok M.ok q0 q1 (f := ((x % wide : Nat) : Int)) (by omega) (by omega)
      refine ⟨_, rfl, m, _, _, _, rfl, rfl, SqT.of M.at_.tup, rfl, _, rfl, r, _, _, _, rfl, rfl, SqT.of hr', e1, _, rfl, _, rfl, m, _, _, _, rfl, rfl, SqT.of M.at_.tup, rfl, _, _, rfl, rfl, (by omega), ra, _, _, _, rfl, rfl, SqT.of e2, by rw [ce]; exact e3, ?_⟩
      refine ⟨_, rfl, _, rfl, m, _, _, _, rfl, rfl, SqT.of M.at_.tup, rfl, _, _, rfl, rfl, ⟨by omega, Int.lt_of_le_of_lt (show (wide : Int) ≤ 1000 by omega) (by decide +kernel)⟩, ?_⟩
      have lt : x / wide < x := Nat.div_lt_self x0 (by omega)
      refine ⟨x / wide, lt, x / wide, stepI rows q ((x % wide : Nat) : Int), rfl, by omega, by rw [← cd]; rfl, rfl, st, ?_⟩
      cases kk with
      | zero => rw [Nat.pow_zero] at hk; omega
      | succ kk =>
        refine ⟨kk, ?_, e⟩
        rw [Nat.div_lt_iff_lt_mul (by omega), ← Nat.pow_succ]
        exact hk
    · have x0 : x = 0 := by omega
      subst x0
      refine nxt _ _ ⟨q, rfl, rfl, ⟨q0, q1⟩, ?_⟩
      rw [← e, wk_zero M.ok (by omega) M.st kk q q0 q1]
  rintro σ' H' ⟨q, rfl, rfl, ⟨q0, q1⟩, e⟩
  have lg := M.len
  refine ⟨_, rfl, m, _, _, _, rfl, rfl, SqT.of M.at_.tup, rfl, _, rfl, g, _, _, _, rfl, rfl, SqT.of M.at_.sgn, atI_ints q0 (by omega), ?_⟩
  have e' : signs.getD q.toNat 0 = sgnAt rows wide signs n := e
  rw [e']
  exact k
theorem ok_one_more (F : FunD K "_law_one_more" "_law_one_more" s__law_one_more dV f fd) (G_count_below : DefOk P w K mg base "count_below" 5 ["machine", "below", "sign"] [] (spCount K)) (G__law_whole : DefOk P w K mg base "_law_whole" 1 ["_law_found"] [] spWholeN)
    (G__law_sign_at : DefOk P w K mg base "_law_sign_at" 1 ["_law_machine_here", "_law_number_here"] [] spSignAtL) (z_int : mg "int" = none) : FnOk P w K mg base CX0 6 f fd ["_law_machine_here", "_law_below", "_law_sign"] spOneMore := by
  refine F.ok sc__law_one_more (fun vs H Q E h => ?_) (fun cdv A outer s H vs Q E hr h => ?_)
  · obtain ⟨m, r, g, many, wide, b, rows, signs, s, rfl, _⟩ := h
    rfl
  obtain ⟨m, r, g, many, wide, b, rows, signs, s, rfl, M, hb, k⟩ := h
  refine ⟨_, (pss_cons (ps_set (i := 3) sc__law_one_more.nd rfl (Or.inl rfl) (pe_cd G_count_below hr (pa_cons (pv 0) (pa_cons (pv 1) (pa_cons (pv 2) pa_nil)))))
      (pss_cons (ps_set (i := 4) sc__law_one_more.nd rfl (Or.inl rfl) (pe_cd G_count_below hr (pa_cons (pv 0) (pa_cons (pe_op op_add (pv 1) pe_int) (pa_cons (pv 2) pa_nil)))))
      (pss_cons (ps_if (PW.pt (pw_or (pt_not (pt_val (pe_cd G__law_whole hr (pa_cons (pv 3) pa_nil)))) (pw_or1 (pt_not (pt_val (pe_cd G__law_whole hr (pa_cons (pv 4) pa_nil))))))) (pss_one (ps_ret pe_bl)) pss_nil)
      (pss_one (ps_ret (pe_cmpR op_eq (pv 4) (pe_op op_add (pv 3) (pe_callTy call_int1 (by rfl) z_int bt_int (pa_cons (pe_cmpR op_eq (pe_cd G__law_sign_at hr (pa_cons (pv 0) (pa_cons (pv 1) pa_nil))) (pv 2) (nomark _)) pa_nil))) (nomark _))))))), ?_⟩
  refine ⟨_, rfl, _, rfl, _, rfl, m, r, g, many, wide, b, rows, signs, s, rfl, M.at_, M.ok, M.len, M.st, M.m1, M.w2, NB18 (by omega), fun H1 s1 => ?_⟩
  have M1 := M.same s1
  have cb : ((b : Int) + 1) = ((b + 1 : Nat) : Int) := by push_cast; rfl
  refine ⟨_, rfl, _, rfl, _, _, rfl, rfl, _, rfl, ?_⟩
  refine ⟨m, r, g, many, wide, b + 1, rows, signs, s, by rw [← cb]; rfl, M1.at_, M.ok, M.len, M.st, M.m1, M.w2, NB18 (by omega), fun H2 s2 => ?_⟩
  have M2 := M1.same s2
  refine ⟨_, rfl, _, rfl, _, rfl, iteF ?_⟩
  refine ⟨_, rfl, _, rfl, _, rfl, iteF ?_⟩
  refine ⟨_, rfl, _, rfl, _, rfl, _, rfl, m, r, g, many, wide, b, rows, signs, rfl, M2, NB18 (by omega), _, rfl, rfl, .inr ⟨_, rfl, _, _, rfl, rfl, rfl, ?_⟩⟩
  have e : decide (V.int (cntB rows wide signs s (b + 1)) = V.int (cntB rows wide signs s b + if decide (V.int (sgnAt rows wide signs b) = V.int s) = true then 1 else 0)) = true := by
    refine decide_eq_true (congrArg V.int ?_)
    show cntB rows wide signs s b + ind (sgnAt rows wide signs b = s) = _
    unfold ind
    by_cases z : sgnAt rows wide signs b = s
    · rw [if_pos z, if_pos (decide_eq_true (congrArg V.int z))]
    · rw [if_neg z, if_neg (fun q => z (V.int.inj (of_decide_eq_true q)))]
  show Q (V.bl (decide _)) _
  rw [e]
  exact k _ (s1.trans s2)
theorem ok_few (F : FunD K "_law_few" "_law_few" s__law_few dV f fd) (G_count_below : DefOk P w K mg base "count_below" 5 ["machine", "below", "sign"] [] (spCount K)) (G__law_whole : DefOk P w K mg base "_law_whole" 1 ["_law_found"] [] spWholeN)
    (G__law_sign_at : DefOk P w K mg base "_law_sign_at" 1 ["_law_machine_here", "_law_number_here"] [] spSignAtL) (z_int : mg "int" = none) (z_range : mg "range" = none) : FnOk P w K mg base CX0 6 f fd ["_law_machine_here", "_law_sign"] spFew := by
  refine F.ok sc__law_few (fun vs H Q E h => ?_) (fun cdv A outer s H vs Q E hr h => ?_)
  · obtain ⟨m, r, g, many, wide, rows, signs, s, rfl, _⟩ := h
    rfl
  obtain ⟨m, r, g, many, wide, rows, signs, s, rfl, M, k⟩ := h
  refine ⟨_, (pss_cons (ps_set (i := 2) sc__law_few.nd rfl (Or.inl rfl) pe_int)
      (pss_cons (ps_for PassesOwn.never rfl (pi_range1 rfl z_range (pa_cons pe_int pa_nil)) (pg_name (i := 3) sc__law_few.nd rfl (Or.inl rfl)) (pss_cons (ps_set (i := 4) sc__law_few.nd rfl (Or.inl rfl) (pe_cd G_count_below hr (pa_cons (pv 0) (pa_cons (pv 3) (pa_cons (pv 1) pa_nil)))))
      (pss_cons (ps_if (PW.pt (pw_or (pt_not (pt_val (pe_cd G__law_whole hr (pa_cons (pv 4) pa_nil)))) (pw_or1 (pt_cmpR op_ne (pv 4) (pv 2) (nomark _))))) (pss_one (ps_ret pe_bl)) pss_nil)
      (pss_one (ps_set (i := 2) sc__law_few.nd rfl (Or.inl rfl) (pe_op op_add (pv 2) (pe_callTy call_int1 (by rfl) z_int bt_int (pa_cons (pe_cmpR op_eq (pe_cd G__law_sign_at hr (pa_cons (pv 0) (pa_cons (pv 3) pa_nil))) (pv 1) (nomark _)) pa_nil))))))))
      (pss_one (ps_ret pe_bl)))), ?_⟩
  refine ⟨(13 : Int), rfl, by decide, by decide, for_range (fun i σ' H' => ∃ (v1 v2 : Option V), σ' = [some (.ref m), some (.int s), some (.int (cntB rows wide signs s i)), v1, v2] ∧ Same H H') ⟨none, none, rfl, Same.refl _⟩ ?_ ?_⟩
  · rintro i σ' H1 hi ⟨v1, v2, rfl, s1⟩
    have hi' : i < 13 := hi
    have z0 : (0 : Int) + (i : Int) = (i : Int) := Int.zero_add _
    rw [z0]
    have M1 := M.same s1
    refine ⟨_, rfl, _, rfl, _, rfl, m, r, g, many, wide, i, rows, signs, s, rfl, M1.at_, M.ok, M.len, M.st, M.m1, M.w2, NB18 (by omega), fun H2 s2 => ?_⟩
    have M2 := M1.same s2
    refine ⟨_, rfl, _, rfl, _, rfl, iteF ?_⟩
    refine ⟨_, rfl, _, rfl, rfl, _, rfl, iteDn (fun c => absurd rfl c) (fun _ => ?_)⟩
    refine ⟨_, rfl, _, rfl, _, rfl, m, r, g, many, wide, i, rows, signs, rfl, M2, NB18 (by omega), _, rfl, rfl, .inr ⟨_, rfl, _, _, rfl, rfl, ?_⟩⟩
    refine ⟨some (.int i), some (.int (cntB rows wide signs s i)), ?_, s1.trans s2⟩
    have e : cntB rows wide signs s i + (if decide (V.int (sgnAt rows wide signs i) = V.int s) = true then 1 else 0) = cntB rows wide signs s (i + 1) := by
      show _ = cntB rows wide signs s i + ind (sgnAt rows wide signs i = s)
      unfold ind
      by_cases z : sgnAt rows wide signs i = s
      · rw [if_pos z, if_pos (decide_eq_true (congrArg V.int z))]
      · rw [if_neg z, if_neg (fun q => z (V.int.inj (of_decide_eq_true q)))]
    rw [← e]
    rfl
  · rintro σ' H1 ⟨v1, v2, rfl, s1⟩
    exact k _ s1
theorem ok_allL (F : FunD K "_law_all" "_law_all" s__law_all dV f fd) (G_count_below : DefOk P w K mg base "count_below" 5 ["machine", "below", "sign"] [] (spCount K)) : FnOk P w K mg base CX0 6 f fd ["_law_machine_here", "_law_below"] spAllL := by
  refine F.ok sc__law_all (fun vs H Q E h => ?_) (fun cdv A outer s H vs Q E hr h => ?_)
  · obtain ⟨m, r, g, many, wide, b, rows, signs, rfl, _⟩ := h
    rfl
  obtain ⟨m, r, g, many, wide, b, rows, signs, rfl, M, h4, hb, k⟩ := h
  refine ⟨_, (pss_cons (ps_set (i := 2) sc__law_all.nd rfl (Or.inl rfl) pe_int)
      (pss_cons (ps_for PassesOwn.never rfl (pi_list (pe_lst (pa_cons pe_int (pa_cons pe_int (pa_cons pe_int (pa_cons pe_int pa_nil)))))) (pg_name (i := 3) sc__law_all.nd rfl (Or.inl rfl)) (pss_one (ps_set (i := 2) sc__law_all.nd rfl (Or.inl rfl) (pe_op op_add (pv 2) (pe_cd G_count_below hr (pa_cons (pv 0) (pa_cons (pv 1) (pa_cons (pv 3) pa_nil))))))))
      (pss_one (ps_ret (pe_cmpR op_eq (pv 2) (pv 1) (nomark _)))))), ?_⟩
  refine ⟨(by show 4 ≤ sizeLine; decide), fun L hL => ?_⟩
  have sL := same_new hL (HO.lst [V.int 0, V.int 1, V.int 2, V.int 999999])
  have tot : ∀ i : Nat, Int := fun i => preSum (fun j => cntB rows wide signs ([0, 1, 2, 999999].getD j 0) b) i
  refine ⟨L, rfl, ⟨_, SqL.of upd_same⟩, for_list (K := K) (xs := [V.int 0, V.int 1, V.int 2, V.int 999999]) (fun i σ' H' => ∃ (v : Option V), σ' = [some (.ref m), some (.int b), some (.int (preSum (fun j => cntB rows wide signs (([0, 1, 2, 999999] : List Int).getD j 0) b) i)), v] ∧ Same (upd H L (HO.lst [V.int 0, V.int 1, V.int 2, V.int 999999])) H')
    ⟨none, rfl, Same.refl _⟩ (fun i σ' H' _ ⟨_, _, e⟩ => SqL.of (e _ _ upd_same)) ?_ ?_⟩
  · rintro i y σ' H1 hi ⟨v, rfl, s1⟩
    obtain ⟨z, rfl, hz⟩ := ints_at (ns := [0, 1, 2, 999999]) hi
    have M1 := M.same (sL.trans s1)
    refine ⟨_, rfl, _, rfl, _, rfl, _, rfl, m, r, g, many, wide, b, rows, signs, z, rfl, M1.at_, M.ok, M.len, M.st, M.m1, M.w2, NB18 (by omega), fun H2 s2 => ?_⟩
    refine ⟨_, _, rfl, rfl, ?_⟩
    refine ⟨some (.int z), ?_, s1.trans s2⟩
    have ez : ([0, 1, 2, 999999] : List Int).getD i 0 = z := by rw [List.getD_eq_getElem?_getD, hz]; rfl
    show _ = [some (V.ref m), some (V.int b), some (V.int (preSum _ i + cntB rows wide signs (([0, 1, 2, 999999] : List Int).getD i 0) b)), _]
    rw [ez]
    rfl
  · rintro σ' H1 ⟨v, rfl, s1⟩
    have M1 := M.m1
    have W1 := M.w2
    have e := cnt_four M.ok M1.1 (by omega) M.len h4 b
    refine ⟨_, rfl, _, rfl, rfl, ?_⟩
    have e2 : preSum (fun j => cntB rows wide signs (([0, 1, 2, 999999] : List Int).getD j 0) b) [V.int 0, V.int 1, V.int 2, V.int 999999].length = (b : Int) := e
    rw [e2]
    show Q (V.bl (decide _)) _
    rw [decide_eq_true rfl]
    exact k _ (sL.trans s1)
end
end My

set_option Elab.async false
set_option linter.all false
set_option maxRecDepth 100000
set_option maxHeartbeats 8000000
namespace My
open PySem L2
section
variable {P : Program} {w : World} {K : PySem.W.Frag} {mg : Str → Option Value} {base : Heap} {f : Addr} {fd : FuncData} {dV : Value}
theorem ok_law (F : FunD K "law" "law" s_law dV f fd) (G__law_spread : DefOk P w K mg base "_law_spread" 2 ["_law_script"] [] (spSpread K)) (G__law_number : DefOk P w K mg base "_law_number" 1 ["_law_spread_here", "_law_k"] [] (spNumS K)) (G__law_great : DefOk P w K mg base "_law_great" 1 ["_law_spread_here", "_law_k", "_law_below"] [] (spGreatS K))
    (G__law_machine : DefOk P w K mg base "_law_machine" 2 ["_law_spread_here", "_law_start", "_law_wide", "_law_many", "_law_lost"] [] (spMachS K)) (G_count_below : DefOk P w K mg base "count_below" 5 ["machine", "below", "sign"] [] (spCount K)) (G_count_below_d : DefOk P w K mg base "count_below" 5 ["machine", "below", "sign"] [.int 1] (spCount K))
    (G__law_one_more : DefOk P w K mg base "_law_one_more" 6 ["_law_machine_here", "_law_below", "_law_sign"] [] spOneMore) (G__law_few : DefOk P w K mg base "_law_few" 6 ["_law_machine_here", "_law_sign"] [] spFew) (G__law_all : DefOk P w K mg base "_law_all" 6 ["_law_machine_here", "_law_below"] [] spAllL)
    (z_len : mg "len" = none) (z_int : mg "int" = none) : FnOk P w K mg base CX0 7 f fd ["_law_script"] (spLaw K) := by
  refine F.ok sc_law (fun vs H Q E h => ?_) (fun cdv A outer s H vs Q E hr h => ?_)
  · obtain ⟨a, ns, rfl, _⟩ := h
    rfl
  obtain ⟨a, ns, rfl, hS, h63, q⟩ := h
  refine body_w (ws_cons (PSW.mk (ps_set (i := 1) sc_law.nd rfl (Or.inl rfl) (pe_cd G__law_spread hr (pa_cons (pv 0) pa_nil))))
      (ws_cons (w_set (i := 2) sc_law.nd rfl (Or.inl rfl) (w_ix ix_list (w_lst (wa_cons (PEW.mk pe_int) (wa_cons (PEW.mk pe_int) (wa_cons (PEW.mk pe_int) (wa_cons (PEW.mk pe_int) (wa_cons (PEW.mk pe_int) (wa_cons (PEW.mk pe_int) (wa_cons (PEW.mk pe_int) (wa_cons (PEW.mk (pe_op op_add pe_int (pe_op op_mod (pe_op op_fdiv (pe_cd G__law_number hr (pa_cons (pv 1) (pa_cons pe_int pa_nil))) pe_int) pe_int))) wa_nil))))))))) (PEW.mk (pe_op op_mod (pe_cd G__law_number hr (pa_cons (pv 1) (pa_cons pe_int pa_nil))) pe_int)) (fun _ _ => rfl)))
      (ws_cons (PSW.mk (ps_set (i := 3) sc_law.nd rfl (Or.inl rfl) (pe_op op_add pe_int (pe_op op_mod (pe_cd G__law_number hr (pa_cons (pv 1) (pa_cons pe_int pa_nil))) (pe_ix ix_list (pe_lst (pa_cons pe_int (pa_cons pe_int pa_nil))) (pe_callTy call_int1 (by rfl) z_int bt_int (pa_cons (pe_cmpR op_gt (pv 2) pe_int (nomark _)) pa_nil)) (fun _ _ => rfl))))))
      (ws_cons (PSW.mk (ps_set (i := 4) sc_law.nd rfl (Or.inl rfl) (pe_cmpR op_eq (pe_op op_mod (pe_cd G__law_number hr (pa_cons (pv 1) (pa_cons pe_int pa_nil))) pe_int) pe_int (nomark _))))
      (ws_cons (PSW.mk (ps_set (i := 5) sc_law.nd rfl (Or.inl rfl) (pe_cd G__law_machine hr (pa_cons (pv 1) (pa_cons pe_int (pa_cons (pv 2) (pa_cons (pv 3) (pa_cons (pv 4) pa_nil))))))))
      (ws_cons (w_set (i := 6) sc_law.nd rfl (Or.inl rfl) (w_lst (wa_cons (PEW.mk pe_int) (wa_cons (PEW.mk (pe_ix ix_tup (pe_ix ix_tup (pv 5) pe_int (fun _ _ => rfl)) (pe_op op_mod (pe_op op_fdiv (pe_cd G__law_number hr (pa_cons (pv 1) (pa_cons pe_int pa_nil))) pe_int) (pe_callB call_len_seq (by rfl) z_len bt_len (pa_cons (pe_ix ix_tup (pv 5) pe_int (fun _ _ => rfl)) pa_nil))) (fun _ _ => rfl))) (wa_cons (PEW.mk pe_int) (wa_cons (PEW.mk pe_int) wa_nil))))))
      (ws_cons (PSW.mk (ps_set (i := 7) sc_law.nd rfl (Or.inl rfl) (pe_ix ix_list (pv 6) (pe_op op_mod (pe_cd G__law_number hr (pa_cons (pv 1) (pa_cons pe_int pa_nil))) pe_int) (fun _ _ => rfl))))
      (ws_cons (w_for PassesOwn.never rfl (pi_list (pe_lst (pa_cons (pe_cd G__law_great hr (pa_cons (pv 1) (pa_cons pe_int (pa_cons (pe_op op_pow pe_int pe_int) pa_nil)))) (pa_cons (pe_cd G__law_great hr (pa_cons (pv 1) (pa_cons pe_int (pa_cons pe_int pa_nil)))) (pa_cons (pe_cd G__law_great hr (pa_cons (pv 1) (pa_cons pe_int (pa_cons (pe_op op_pow pe_int pe_int) pa_nil)))) pa_nil))))) (pg_name (i := 8) sc_law.nd rfl (Or.inl rfl)) (ws_one (PSW.mk (ps_if (pt_not (pt_val (pe_cd G__law_one_more hr (pa_cons (pv 5) (pa_cons (pv 8) (pa_cons (pv 7) pa_nil)))))) (pss_one (ps_ret pe_bl)) pss_nil))))
      (ws_cons (PSW.mk (ps_if (PW.pt (pw_or (pt_not (pt_val (pe_cd G__law_few hr (pa_cons (pv 5) (pa_cons (pv 7) pa_nil))))) (pw_or1 (pt_not (pt_val (pe_cd G__law_all hr (pa_cons (pv 5) (pa_cons (pe_cd G__law_great hr (pa_cons (pv 1) (pa_cons pe_int (pa_cons (pe_op op_pow pe_int pe_int) pa_nil)))) pa_nil)))))))) (pss_one (ps_ret pe_bl)) pss_nil))
      (ws_cons (PSW.mk (ps_set (i := 8) sc_law.nd rfl (Or.inl rfl) (pe_cd G__law_great hr (pa_cons (pv 1) (pa_cons pe_int (pa_cons pe_int pa_nil))))))
      (ws_one (PSW.mk (ps_ret (pe_cmpR op_eq (pe_cd G_count_below_d hr (pa_cons (pv 5) (pa_cons (pv 8) pa_nil))) (pe_cd G_count_below hr (pa_cons (pv 5) (pa_cons (pv 8) (pa_cons pe_int pa_nil)))) (nomark _))))))))))))))) ?_
  refine ⟨_, rfl, a, ns, rfl, hS, h63, fun l H1 xs s1 hl h320 hx => ?_⟩
  -- wide
  refine ⟨_, rfl, l, _, xs, rfl, hl, h320, by decide, by decide, fun x x0 x1 => ?_⟩
  have r90 := mod_in (a := x / 8) (b := 90) (by decide)
  refine ⟨_, _, rfl, rfl, ⟨by decide, by decide⟩, _, _, rfl, rfl, (by show (0 : Int) < 90; decide), _, _, rfl, rfl, (by show 8 ≤ sizeLine; decide), fun L8 hL8 => ?_⟩
  have s2 := same_new hL8 (HO.lst [V.int 2, V.int 3, V.int 2, V.int 4, V.int 10, V.int 5, V.int 7, V.int (11 + x / 8 % 90)])
  refine ⟨_, rfl, l, _, xs, rfl, s2 _ _ hl, h320, by decide, by decide, fun y y0 y1 => ?_⟩
  have pick : ∃ wide : Nat, atI [V.int 2, V.int 3, V.int 2, V.int 4, V.int 10, V.int 5, V.int 7, V.int (11 + x / 8 % 90)] (y % 8) = some (V.int wide) ∧ 2 ≤ wide ∧ wide ≤ 100 := by
    have r8 := mod_in (a := y) (b := 8) (by decide)
    obtain ⟨n, en⟩ := nat_of (x := 11 + x / 8 % 90) (by omega)
    have h8 : y % 8 = 0 ∨ y % 8 = 1 ∨ y % 8 = 2 ∨ y % 8 = 3 ∨ y % 8 = 4 ∨ y % 8 = 5 ∨ y % 8 = 6 ∨ y % 8 = 7 := by omega
    rcases h8 with e | e | e | e | e | e | e | e <;> rw [e]
    · exact ⟨2, rfl, by decide, by decide⟩
    · exact ⟨3, rfl, by decide, by decide⟩
    · exact ⟨2, rfl, by decide, by decide⟩
    · exact ⟨4, rfl, by decide, by decide⟩
    · exact ⟨10, rfl, by decide, by decide⟩
    · exact ⟨5, rfl, by decide, by decide⟩
    · exact ⟨7, rfl, by decide, by decide⟩
    · exact ⟨n, by rw [← en]; rfl, by omega, by omega⟩
  obtain ⟨wide, ew, w2, w3⟩ := pick
  refine ⟨_, _, rfl, rfl, (by show (0 : Int) < 8; decide), L8, _, _, _, rfl, rfl, SqL.of upd_same, ew, ?_⟩
  have S2 := s1.trans s2
  have hl2 := s2 _ _ hl
  -- many
  refine ⟨_, rfl, l, _, xs, rfl, hl2, h320, by decide, by decide, fun x2 x20 x21 => ?_⟩
  refine ⟨(by show 2 ≤ sizeLine; decide), fun L2 hL2 => ?_⟩
  have s3 := same_new hL2 (HO.lst [V.int 5, V.int 3])
  have pick2 : ∃ c : Int, atI [V.int 5, V.int 3] (if decide ((10 : Int) < (wide : Int)) = true then 1 else 0) = some (V.int c) ∧ 1 ≤ c ∧ c ≤ 5 ∧ (10 < wide → c ≤ 3) := by
    by_cases z : (10 : Int) < (wide : Int)
    · rw [if_pos (decide_eq_true z)]
      exact ⟨3, rfl, by decide, by decide, fun _ => by decide⟩
    · rw [if_neg (fun q => z (of_decide_eq_true q))]
      exact ⟨5, rfl, by decide, by decide, fun q => by omega⟩
  obtain ⟨c, ec, c1, c5, c3⟩ := pick2
  have rc := mod_in (a := x2) (b := c) (by omega)
  obtain ⟨many, em⟩ := nat_of (x := 1 + x2 % c) (by omega)
  refine ⟨_, rfl, _, _, rfl, rfl, .inr ⟨_, rfl, L2, _, _, _, rfl, rfl, SqL.of upd_same, ec, _, _, rfl, rfl, (by omega), _, _, rfl, rfl, ?_⟩⟩
  dsimp only [gName]
  rw [em]
  have hl3 := s3 _ _ hl2
  -- lost
  refine ⟨_, rfl, l, _, xs, rfl, hl3, h320, by decide, by decide, fun x3 x30 x31 => ?_⟩
  refine ⟨_, _, rfl, rfl, (by show (0 : Int) < 2; decide), rfl, ?_⟩
  -- the machine
  refine ⟨_, rfl, _, rfl, _, rfl, _, rfl, l, 7, many, wide, _, xs, rfl, hl3, h320, ⟨by decide, by decide⟩, ⟨by omega, by omega⟩, ⟨by omega, by omega⟩, fun z => by have := c3 z; omega, fun m r g H4 rows signs s4 M R lsg S h4 => ?_⟩
  have MO : MachOk H4 m r g many wide rows signs := ⟨M, R, lsg, S, ⟨by omega, by omega⟩, ⟨by omega, by omega⟩⟩
  have hl4 := s4 _ _ hl3
  have lg' : (signs.map V.int).length = many := by rw [List.length_map, lsg]
  -- signs
  refine ⟨_, rfl, m, _, _, _, rfl, rfl, SqT.of M.tup, rfl, _, rfl, l, _, xs, rfl, hl4, h320, by decide, by decide, fun x5 x50 x51 => ?_⟩
  have r5 := mod_in (a := x5 / 4) (b := (many : Int)) (by omega)
  refine ⟨_, _, rfl, rfl, ⟨by decide, by decide⟩, _, rfl, m, _, _, _, rfl, rfl, SqT.of M.tup, rfl, g, _, rfl, .inr (SqT.of M.sgn), ?_⟩
  rw [lg']
  refine ⟨_, _, rfl, rfl, (by omega), g, _, _, _, rfl, rfl, SqT.of M.sgn, atI_ints r5.1 (by omega), (by show 4 ≤ sizeLine; decide), fun L4 hL4 => ?_⟩
  have s5 := same_new hL4 (HO.lst [V.int 1, V.int (signs.getD (x5 / 4 % (many : Int)).toNat 0), V.int 1, V.int 77])
  have hl5 := s5 _ _ hl4
  refine ⟨_, rfl, _, rfl, l, _, xs, rfl, hl5, h320, by decide, by decide, fun x6 x60 x61 => ?_⟩
  have pick4 : ∃ sg : Int, atI [V.int 1, V.int (signs.getD (x5 / 4 % (many : Int)).toNat 0), V.int 1, V.int 77] (x6 % 4) = some (V.int sg) := by
    have r8 := mod_in (a := x6) (b := 4) (by decide)
    have h8 : x6 % 4 = 0 ∨ x6 % 4 = 1 ∨ x6 % 4 = 2 ∨ x6 % 4 = 3 := by omega
    rcases h8 with e | e | e | e <;> rw [e]
    · exact ⟨1, rfl⟩
    · exact ⟨_, rfl⟩
    · exact ⟨1, rfl⟩
    · exact ⟨77, rfl⟩
  obtain ⟨sg, es⟩ := pick4
  refine ⟨_, _, rfl, rfl, (by show (0 : Int) < 4; decide), L4, _, _, _, rfl, rfl, SqL.of upd_same, es, ?_⟩
  -- the bounds
  have gr : ∀ (k : Nat) (b : Int), k < 320 → 0 < b → b ≤ 10 ^ 18 → ∃ n : Nat, xs.getD k 0 % b = (n : Int) ∧ n ≤ 10 ^ 18 := fun k b hk b0 b1 => by
    have r := mod_in (a := xs.getD k 0) (b := b) b0
    obtain ⟨n, en⟩ := nat_of r.1
    exact ⟨n, en, by omega⟩
  obtain ⟨b4, e4, h44⟩ := gr 4 (10 ^ 18) (by decide) (by decide) (Int.le_refl _)
  obtain ⟨b5, e5, h45⟩ := gr 5 1000 (by decide) (by decide) (by decide)
  obtain ⟨b6, e6, h46⟩ := gr 6 (10 ^ 18) (by decide) (by decide) (Int.le_refl _)
  try dsimp only [gName]
  refine cut_seq (t := tFor _ _ _) (fun σ' H' => ∃ v : Option V, σ' = [some (.ref a), some (.ref l), some (.int wide), some (.int many), some (.bl (decide (V.int (x3 % 2) = V.int 0))), some (.ref m), some (.ref L4), some (.int sg), v] ∧ Same H4 H') ?_ (fun nxt => ?_)
  rotate_left
  · refine ⟨_, rfl, _, _, rfl, rfl, ⟨by decide, by decide, by decide⟩, l, _, _, xs, rfl, hl5, h320, by decide, by decide, by decide, ?_⟩
    refine ⟨_, rfl, l, _, _, xs, rfl, hl5, h320, by decide, by decide, by decide, ?_⟩
    refine ⟨_, rfl, _, _, rfl, rfl, ⟨by decide, by decide, by decide⟩, l, _, _, xs, rfl, hl5, h320, by decide, by decide, by decide, ?_⟩
    rw [show xs.getD (4 : Int).toNat 0 % 10 ^ (18 : Int).toNat = (b4 : Int) from e4, show xs.getD (5 : Int).toNat 0 % 1000 = (b5 : Int) from e5, show xs.getD (6 : Int).toNat 0 % 10 ^ (18 : Int).toNat = (b6 : Int) from e6]
    refine ⟨(by show 3 ≤ sizeLine; decide), fun L3 hL3 => ?_⟩
    have s6 := same_new hL3 (HO.lst [V.int b4, V.int b5, V.int b6])
    refine ⟨L3, rfl, ⟨_, SqL.of upd_same⟩, for_list (K := K) (xs := [V.int b4, V.int b5, V.int b6]) (fun i σ' H' => ∃ v : Option V, σ' = [some (.ref a), some (.ref l), some (.int wide), some (.int many), some (.bl (decide (V.int (x3 % 2) = V.int 0))), some (.ref m), some (.ref L4), some (.int sg), v] ∧ Same (upd (upd H4 L4 (HO.lst [V.int 1, V.int (signs.getD (x5 / 4 % (many : Int)).toNat 0), V.int 1, V.int 77])) L3 (HO.lst [V.int b4, V.int b5, V.int b6])) H')
      ⟨none, rfl, Same.refl _⟩ (fun i σ' H' _ ⟨_, _, e⟩ => SqL.of (e _ _ upd_same)) ?_ ?_⟩
    · rintro i y σ' H6 hi ⟨v, rfl, s7⟩
      have hb : ∃ b : Nat, y = V.int b ∧ b ≤ 10 ^ 18 := by
        have hm := List.mem_of_getElem? hi
        simp only [List.mem_cons, List.not_mem_nil, or_false] at hm
        rcases hm with z | z | z
        · exact ⟨b4, z, h44⟩
        · exact ⟨b5, z, h45⟩
        · exact ⟨b6, z, h46⟩
      obtain ⟨b, rfl, hb⟩ := hb
      exact ⟨_, rfl, _, rfl, _, rfl, m, r, g, many, wide, b, rows, signs, sg, rfl, MO.same (s5.trans (s6.trans s7)), hb, fun H7 s8 => ⟨_, rfl, iteF ⟨_, rfl, s7.trans s8⟩⟩⟩
    · rintro σ' H6 ⟨v, rfl, s7⟩
      exact nxt _ _ ⟨v, rfl, s5.trans (s6.trans s7)⟩
  rintro σ' H6 ⟨v, rfl, s6⟩
  refine ⟨_, rfl, _, rfl, m, r, g, many, wide, rows, signs, sg, rfl, MO.same s6, fun H7 s7 => ⟨_, rfl, iteF ?_⟩⟩
  have S7 := s6.trans s7
  refine ⟨_, rfl, _, rfl, _, _, rfl, rfl, ⟨by decide, by decide, by decide⟩, l, _, _, xs, rfl, S7 _ _ hl4, h320, by decide, by decide, by decide, ?_⟩
  rw [show xs.getD (6 : Int).toNat 0 % 10 ^ (18 : Int).toNat = (b6 : Int) from e6]
  refine ⟨m, r, g, many, wide, b6, rows, signs, rfl, MO.same S7, h4, h46, fun H8 s8 => ⟨_, rfl, iteF ?_⟩⟩
  have S8 := S7.trans s8
  refine ⟨_, rfl, l, _, _, xs, rfl, S8 _ _ hl4, h320, by decide, by decide, by decide, ?_⟩
  rw [show xs.getD (5 : Int).toNat 0 % 1000 = (b5 : Int) from e5]
  have M8 := MO.same S8
  refine ⟨_, rfl, _, rfl, m, r, g, many, wide, b5, rows, signs, 1, rfl, M8.at_, M8.ok, M8.len, M8.st, M8.m1, M8.w2, NB18 (by omega), fun H9 s9 => ?_⟩
  have M9 := M8.same s9
  refine ⟨_, rfl, _, rfl, m, r, g, many, wide, b5, rows, signs, 1, rfl, M9.at_, M9.ok, M9.len, M9.st, M9.m1, M9.w2, NB18 (by omega), fun H10 s10 => ?_⟩
  refine ⟨rfl, ?_⟩
  show Q (V.bl (decide _)) _
  rw [decide_eq_true rfl]
  exact q _
end
end My

set_option Elab.async false
set_option linter.all false
set_option maxRecDepth 100000
set_option maxHeartbeats 8000000
namespace My
open PySem L2
theorem all_mk {l : PySem.W.OpenLaw} {w : World} {K : PySem.W.Frag} {h : Heap} {mg : Str → Option Value} {fa : Addr} (X : K.In h) (G : h.Ns mainGlobals mg) (hfa : mg "law" = some (.ref fa))
    {f_is_whole f_is_whole_from f_need_whole f_halved f_figures f_goals_along f_counted_onward f_no_figures_yet f_counts_on f_count_below f__law_mixed f__law_spread f__law_number f__law_great f__law_whole f__law_rest f__law_machine f__law_sign_at f__law_one_more f__law_few f__law_all f_law : Addr} {od_is_whole an_is_whole od_is_whole_from an_is_whole_from od_need_whole an_need_whole od_halved an_halved od_figures an_figures od_goals_along an_goals_along od_counted_onward an_counted_onward od_no_figures_yet an_no_figures_yet od_counts_on an_counts_on od_count_below an_count_below od__law_mixed an__law_mixed od__law_spread an__law_spread od__law_number an__law_number od__law_great an__law_great od__law_whole an__law_whole od__law_rest an__law_rest od__law_machine an__law_machine od__law_sign_at an__law_sign_at od__law_one_more an__law_one_more od__law_few an__law_few od__law_all an__law_all od_law an_law : Option Addr} {sl_is_whole sl_is_whole_from sl_need_whole sl_halved sl_figures sl_goals_along sl_counted_onward sl_no_figures_yet sl_counts_on sl_count_below sl__law_mixed sl__law_spread sl__law_number sl__law_great sl__law_whole sl__law_rest sl__law_machine sl__law_sign_at sl__law_one_more sl__law_few sl__law_all sl_law : Array (Option Value)} {oc_is_whole kV_is_whole dc_is_whole pm_is_whole cd_is_whole ct_is_whole oc_is_whole_from kV_is_whole_from dc_is_whole_from pm_is_whole_from cd_is_whole_from ct_is_whole_from oc_need_whole kV_need_whole dc_need_whole pm_need_whole cd_need_whole ct_need_whole oc_halved kV_halved dc_halved pm_halved cd_halved ct_halved oc_figures kV_figures dc_figures pm_figures cd_figures ct_figures oc_goals_along kV_goals_along dc_goals_along pm_goals_along cd_goals_along ct_goals_along oc_counted_onward kV_counted_onward dc_counted_onward pm_counted_onward cd_counted_onward ct_counted_onward oc_no_figures_yet kV_no_figures_yet dc_no_figures_yet pm_no_figures_yet cd_no_figures_yet ct_no_figures_yet oc_counts_on kV_counts_on dc_counts_on pm_counts_on cd_counts_on ct_counts_on oc_count_below kV_count_below dc_count_below pm_count_below cd_count_below ct_count_below oc__law_mixed kV__law_mixed dc__law_mixed pm__law_mixed cd__law_mixed ct__law_mixed oc__law_spread kV__law_spread dc__law_spread pm__law_spread cd__law_spread ct__law_spread oc__law_number kV__law_number dc__law_number pm__law_number cd__law_number ct__law_number oc__law_great kV__law_great dc__law_great pm__law_great cd__law_great ct__law_great oc__law_whole kV__law_whole dc__law_whole pm__law_whole cd__law_whole ct__law_whole oc__law_rest kV__law_rest dc__law_rest pm__law_rest cd__law_rest ct__law_rest oc__law_machine kV__law_machine dc__law_machine pm__law_machine cd__law_machine ct__law_machine oc__law_sign_at kV__law_sign_at dc__law_sign_at pm__law_sign_at cd__law_sign_at ct__law_sign_at oc__law_one_more kV__law_one_more dc__law_one_more pm__law_one_more cd__law_one_more ct__law_one_more oc__law_few kV__law_few dc__law_few pm__law_few cd__law_few ct__law_few oc__law_all kV__law_all dc__law_all pm__law_all cd__law_all ct__law_all oc_law kV_law dc_law pm_law cd_law ct_law : Value}
    (a_is_whole : PySem.W.nsIn K mainGlobals "is_whole" = some (some (.ref f_is_whole))) (l_is_whole : K.lookup f_is_whole = some ⟨oc_is_whole, od_is_whole, .func (PySem.W.fnOf "is_whole" "is_whole" (defArgs s_is_whole) (defBody s_is_whole) (defScope s_is_whole) .none kV_is_whole dc_is_whole pm_is_whole an_is_whole cd_is_whole ct_is_whole), sl_is_whole⟩) (c_is_whole : PySem.W.codeIn K cd_is_whole "is_whole" = true) (k_is_whole : PySem.W.keepIn K (.ref f_is_whole) = true)
    (a_is_whole_from : PySem.W.nsIn K mainGlobals "is_whole_from" = some (some (.ref f_is_whole_from))) (l_is_whole_from : K.lookup f_is_whole_from = some ⟨oc_is_whole_from, od_is_whole_from, .func (PySem.W.fnOf "is_whole_from" "is_whole_from" (defArgs s_is_whole_from) (defBody s_is_whole_from) (defScope s_is_whole_from) .none kV_is_whole_from dc_is_whole_from pm_is_whole_from an_is_whole_from cd_is_whole_from ct_is_whole_from), sl_is_whole_from⟩) (c_is_whole_from : PySem.W.codeIn K cd_is_whole_from "is_whole_from" = true) (k_is_whole_from : PySem.W.keepIn K (.ref f_is_whole_from) = true)
    (a_need_whole : PySem.W.nsIn K mainGlobals "need_whole" = some (some (.ref f_need_whole))) (l_need_whole : K.lookup f_need_whole = some ⟨oc_need_whole, od_need_whole, .func (PySem.W.fnOf "need_whole" "need_whole" (defArgs s_need_whole) (defBody s_need_whole) (defScope s_need_whole) .none kV_need_whole dc_need_whole pm_need_whole an_need_whole cd_need_whole ct_need_whole), sl_need_whole⟩) (c_need_whole : PySem.W.codeIn K cd_need_whole "need_whole" = true) (k_need_whole : PySem.W.keepIn K (.ref f_need_whole) = true)
    (a_halved : PySem.W.nsIn K mainGlobals "halved" = some (some (.ref f_halved))) (l_halved : K.lookup f_halved = some ⟨oc_halved, od_halved, .func (PySem.W.fnOf "halved" "halved" (defArgs s_halved) (defBody s_halved) (defScope s_halved) .none kV_halved dc_halved pm_halved an_halved cd_halved ct_halved), sl_halved⟩) (c_halved : PySem.W.codeIn K cd_halved "halved" = true) (k_halved : PySem.W.keepIn K (.ref f_halved) = true)
    {T_figures tn_figures : Nat} {tc_figures : Value} {td_figures : Option Addr} {tsl_figures : Array (Option Value)} {tk0_figures : Tok}
    (a_figures : PySem.W.nsIn K mainGlobals "figures" = some (some (.ref f_figures))) (l_figures : K.lookup f_figures = some ⟨oc_figures, od_figures, .func (PySem.W.fnOf "figures" "figures" (defArgs s_figures) (defBody s_figures) (defScope s_figures) (.ref T_figures) kV_figures dc_figures pm_figures an_figures cd_figures ct_figures), sl_figures⟩) (c_figures : PySem.W.codeIn K cd_figures "figures" = true) (k_figures : PySem.W.keepIn K (.ref f_figures) = true)
    (t_figures : K.lookup T_figures = some ⟨tc_figures, td_figures, .seq #[Value.int 10 tk0_figures] tn_figures, tsl_figures⟩)
    (a_goals_along : PySem.W.nsIn K mainGlobals "goals_along" = some (some (.ref f_goals_along))) (l_goals_along : K.lookup f_goals_along = some ⟨oc_goals_along, od_goals_along, .func (PySem.W.fnOf "goals_along" "goals_along" (defArgs s_goals_along) (defBody s_goals_along) (defScope s_goals_along) .none kV_goals_along dc_goals_along pm_goals_along an_goals_along cd_goals_along ct_goals_along), sl_goals_along⟩) (c_goals_along : PySem.W.codeIn K cd_goals_along "goals_along" = true) (k_goals_along : PySem.W.keepIn K (.ref f_goals_along) = true)
    (a_counted_onward : PySem.W.nsIn K mainGlobals "counted_onward" = some (some (.ref f_counted_onward))) (l_counted_onward : K.lookup f_counted_onward = some ⟨oc_counted_onward, od_counted_onward, .func (PySem.W.fnOf "counted_onward" "counted_onward" (defArgs s_counted_onward) (defBody s_counted_onward) (defScope s_counted_onward) .none kV_counted_onward dc_counted_onward pm_counted_onward an_counted_onward cd_counted_onward ct_counted_onward), sl_counted_onward⟩) (c_counted_onward : PySem.W.codeIn K cd_counted_onward "counted_onward" = true) (k_counted_onward : PySem.W.keepIn K (.ref f_counted_onward) = true)
    (a_no_figures_yet : PySem.W.nsIn K mainGlobals "no_figures_yet" = some (some (.ref f_no_figures_yet))) (l_no_figures_yet : K.lookup f_no_figures_yet = some ⟨oc_no_figures_yet, od_no_figures_yet, .func (PySem.W.fnOf "no_figures_yet" "no_figures_yet" (defArgs s_no_figures_yet) (defBody s_no_figures_yet) (defScope s_no_figures_yet) .none kV_no_figures_yet dc_no_figures_yet pm_no_figures_yet an_no_figures_yet cd_no_figures_yet ct_no_figures_yet), sl_no_figures_yet⟩) (c_no_figures_yet : PySem.W.codeIn K cd_no_figures_yet "no_figures_yet" = true) (k_no_figures_yet : PySem.W.keepIn K (.ref f_no_figures_yet) = true)
    (a_counts_on : PySem.W.nsIn K mainGlobals "counts_on" = some (some (.ref f_counts_on))) (l_counts_on : K.lookup f_counts_on = some ⟨oc_counts_on, od_counts_on, .func (PySem.W.fnOf "counts_on" "counts_on" (defArgs s_counts_on) (defBody s_counts_on) (defScope s_counts_on) .none kV_counts_on dc_counts_on pm_counts_on an_counts_on cd_counts_on ct_counts_on), sl_counts_on⟩) (c_counts_on : PySem.W.codeIn K cd_counts_on "counts_on" = true) (k_counts_on : PySem.W.keepIn K (.ref f_counts_on) = true)
    {T_count_below tn_count_below : Nat} {tc_count_below : Value} {td_count_below : Option Addr} {tsl_count_below : Array (Option Value)} {tk0_count_below : Tok}
    (a_count_below : PySem.W.nsIn K mainGlobals "count_below" = some (some (.ref f_count_below))) (l_count_below : K.lookup f_count_below = some ⟨oc_count_below, od_count_below, .func (PySem.W.fnOf "count_below" "count_below" (defArgs s_count_below) (defBody s_count_below) (defScope s_count_below) (.ref T_count_below) kV_count_below dc_count_below pm_count_below an_count_below cd_count_below ct_count_below), sl_count_below⟩) (c_count_below : PySem.W.codeIn K cd_count_below "count_below" = true) (k_count_below : PySem.W.keepIn K (.ref f_count_below) = true)
    (t_count_below : K.lookup T_count_below = some ⟨tc_count_below, td_count_below, .seq #[Value.int 1 tk0_count_below] tn_count_below, tsl_count_below⟩)
    (a__law_mixed : PySem.W.nsIn K mainGlobals "_law_mixed" = some (some (.ref f__law_mixed))) (l__law_mixed : K.lookup f__law_mixed = some ⟨oc__law_mixed, od__law_mixed, .func (PySem.W.fnOf "_law_mixed" "_law_mixed" (defArgs s__law_mixed) (defBody s__law_mixed) (defScope s__law_mixed) .none kV__law_mixed dc__law_mixed pm__law_mixed an__law_mixed cd__law_mixed ct__law_mixed), sl__law_mixed⟩) (c__law_mixed : PySem.W.codeIn K cd__law_mixed "_law_mixed" = true) (k__law_mixed : PySem.W.keepIn K (.ref f__law_mixed) = true)
    (a__law_spread : PySem.W.nsIn K mainGlobals "_law_spread" = some (some (.ref f__law_spread))) (l__law_spread : K.lookup f__law_spread = some ⟨oc__law_spread, od__law_spread, .func (PySem.W.fnOf "_law_spread" "_law_spread" (defArgs s__law_spread) (defBody s__law_spread) (defScope s__law_spread) .none kV__law_spread dc__law_spread pm__law_spread an__law_spread cd__law_spread ct__law_spread), sl__law_spread⟩) (c__law_spread : PySem.W.codeIn K cd__law_spread "_law_spread" = true) (k__law_spread : PySem.W.keepIn K (.ref f__law_spread) = true)
    (a__law_number : PySem.W.nsIn K mainGlobals "_law_number" = some (some (.ref f__law_number))) (l__law_number : K.lookup f__law_number = some ⟨oc__law_number, od__law_number, .func (PySem.W.fnOf "_law_number" "_law_number" (defArgs s__law_number) (defBody s__law_number) (defScope s__law_number) .none kV__law_number dc__law_number pm__law_number an__law_number cd__law_number ct__law_number), sl__law_number⟩) (c__law_number : PySem.W.codeIn K cd__law_number "_law_number" = true) (k__law_number : PySem.W.keepIn K (.ref f__law_number) = true)
    (a__law_great : PySem.W.nsIn K mainGlobals "_law_great" = some (some (.ref f__law_great))) (l__law_great : K.lookup f__law_great = some ⟨oc__law_great, od__law_great, .func (PySem.W.fnOf "_law_great" "_law_great" (defArgs s__law_great) (defBody s__law_great) (defScope s__law_great) .none kV__law_great dc__law_great pm__law_great an__law_great cd__law_great ct__law_great), sl__law_great⟩) (c__law_great : PySem.W.codeIn K cd__law_great "_law_great" = true) (k__law_great : PySem.W.keepIn K (.ref f__law_great) = true)
    (a__law_whole : PySem.W.nsIn K mainGlobals "_law_whole" = some (some (.ref f__law_whole))) (l__law_whole : K.lookup f__law_whole = some ⟨oc__law_whole, od__law_whole, .func (PySem.W.fnOf "_law_whole" "_law_whole" (defArgs s__law_whole) (defBody s__law_whole) (defScope s__law_whole) .none kV__law_whole dc__law_whole pm__law_whole an__law_whole cd__law_whole ct__law_whole), sl__law_whole⟩) (c__law_whole : PySem.W.codeIn K cd__law_whole "_law_whole" = true) (k__law_whole : PySem.W.keepIn K (.ref f__law_whole) = true)
    (a__law_rest : PySem.W.nsIn K mainGlobals "_law_rest" = some (some (.ref f__law_rest))) (l__law_rest : K.lookup f__law_rest = some ⟨oc__law_rest, od__law_rest, .func (PySem.W.fnOf "_law_rest" "_law_rest" (defArgs s__law_rest) (defBody s__law_rest) (defScope s__law_rest) .none kV__law_rest dc__law_rest pm__law_rest an__law_rest cd__law_rest ct__law_rest), sl__law_rest⟩) (c__law_rest : PySem.W.codeIn K cd__law_rest "_law_rest" = true) (k__law_rest : PySem.W.keepIn K (.ref f__law_rest) = true)
    (a__law_machine : PySem.W.nsIn K mainGlobals "_law_machine" = some (some (.ref f__law_machine))) (l__law_machine : K.lookup f__law_machine = some ⟨oc__law_machine, od__law_machine, .func (PySem.W.fnOf "_law_machine" "_law_machine" (defArgs s__law_machine) (defBody s__law_machine) (defScope s__law_machine) .none kV__law_machine dc__law_machine pm__law_machine an__law_machine cd__law_machine ct__law_machine), sl__law_machine⟩) (c__law_machine : PySem.W.codeIn K cd__law_machine "_law_machine" = true) (k__law_machine : PySem.W.keepIn K (.ref f__law_machine) = true)
    (a__law_sign_at : PySem.W.nsIn K mainGlobals "_law_sign_at" = some (some (.ref f__law_sign_at))) (l__law_sign_at : K.lookup f__law_sign_at = some ⟨oc__law_sign_at, od__law_sign_at, .func (PySem.W.fnOf "_law_sign_at" "_law_sign_at" (defArgs s__law_sign_at) (defBody s__law_sign_at) (defScope s__law_sign_at) .none kV__law_sign_at dc__law_sign_at pm__law_sign_at an__law_sign_at cd__law_sign_at ct__law_sign_at), sl__law_sign_at⟩) (c__law_sign_at : PySem.W.codeIn K cd__law_sign_at "_law_sign_at" = true) (k__law_sign_at : PySem.W.keepIn K (.ref f__law_sign_at) = true)
    (a__law_one_more : PySem.W.nsIn K mainGlobals "_law_one_more" = some (some (.ref f__law_one_more))) (l__law_one_more : K.lookup f__law_one_more = some ⟨oc__law_one_more, od__law_one_more, .func (PySem.W.fnOf "_law_one_more" "_law_one_more" (defArgs s__law_one_more) (defBody s__law_one_more) (defScope s__law_one_more) .none kV__law_one_more dc__law_one_more pm__law_one_more an__law_one_more cd__law_one_more ct__law_one_more), sl__law_one_more⟩) (c__law_one_more : PySem.W.codeIn K cd__law_one_more "_law_one_more" = true) (k__law_one_more : PySem.W.keepIn K (.ref f__law_one_more) = true)
    (a__law_few : PySem.W.nsIn K mainGlobals "_law_few" = some (some (.ref f__law_few))) (l__law_few : K.lookup f__law_few = some ⟨oc__law_few, od__law_few, .func (PySem.W.fnOf "_law_few" "_law_few" (defArgs s__law_few) (defBody s__law_few) (defScope s__law_few) .none kV__law_few dc__law_few pm__law_few an__law_few cd__law_few ct__law_few), sl__law_few⟩) (c__law_few : PySem.W.codeIn K cd__law_few "_law_few" = true) (k__law_few : PySem.W.keepIn K (.ref f__law_few) = true)
    (a__law_all : PySem.W.nsIn K mainGlobals "_law_all" = some (some (.ref f__law_all))) (l__law_all : K.lookup f__law_all = some ⟨oc__law_all, od__law_all, .func (PySem.W.fnOf "_law_all" "_law_all" (defArgs s__law_all) (defBody s__law_all) (defScope s__law_all) .none kV__law_all dc__law_all pm__law_all an__law_all cd__law_all ct__law_all), sl__law_all⟩) (c__law_all : PySem.W.codeIn K cd__law_all "_law_all" = true) (k__law_all : PySem.W.keepIn K (.ref f__law_all) = true)
    (a_law : PySem.W.nsIn K mainGlobals "law" = some (some (.ref f_law))) (l_law : K.lookup f_law = some ⟨oc_law, od_law, .func (PySem.W.fnOf "law" "law" (defArgs s_law) (defBody s_law) (defScope s_law) .none kV_law dc_law pm_law an_law cd_law ct_law), sl_law⟩) (c_law : PySem.W.codeIn K cd_law "law" = true) (k_law : PySem.W.keepIn K (.ref f_law) = true)
    (y_len : PySem.W.nsIn K mainGlobals "len" = some none)
    (y_range : PySem.W.nsIn K mainGlobals "range" = some none)
    (y_int : PySem.W.nsIn K mainGlobals "int" = some none)
    (y_tuple : PySem.W.nsIn K mainGlobals "tuple" = some none)
    (y_list : PySem.W.nsIn K mainGlobals "list" = some none)
    (y_isinstance : PySem.W.nsIn K mainGlobals "isinstance" = some none)
    (y_bool : PySem.W.nsIn K mainGlobals "bool" = some none)
    (y_enumerate : PySem.W.nsIn K mainGlobals "enumerate" = some none)
    (y_reversed : PySem.W.nsIn K mainGlobals "reversed" = some none)
    (y_min : PySem.W.nsIn K mainGlobals "min" = some none)
    (y_divmod : PySem.W.nsIn K mainGlobals "divmod" = some none) :
    ∃ fd : FuncData, (∀ (s : Shared) (v : Value), BindsTo s fd ⟨[v], []⟩ [("_law_script", v)]) ∧ ∀ base : Heap, K.In base → base.Ns mainGlobals mg → FnOk l.prog w K mg base CX0 7 fa fd ["_law_script"] (spLaw K) := by
  have e := hfa.symm.trans (PySem.W.mg_of X G a_law)
  cases e
  have F_is_whole := fund_mk (st := s_is_whole) l_is_whole c_is_whole k_is_whole
  have b_is_whole := F_is_whole.binds (ps := ["thing"]) fun _ _ _ _ _ _ us hl => match us, hl with | [_], _ => rfl
  have m_is_whole := PySem.W.mg_of X G a_is_whole
  have F_is_whole_from := fund_mk (st := s_is_whole_from) l_is_whole_from c_is_whole_from k_is_whole_from
  have b_is_whole_from := F_is_whole_from.binds (ps := ["thing", "least"]) fun _ _ _ _ _ _ us hl => match us, hl with | [_, _], _ => rfl
  have m_is_whole_from := PySem.W.mg_of X G a_is_whole_from
  have F_need_whole := fund_mk (st := s_need_whole) l_need_whole c_need_whole k_need_whole
  have b_need_whole := F_need_whole.binds (ps := ["thing", "least", "called"]) fun _ _ _ _ _ _ us hl => match us, hl with | [_, _, _], _ => rfl
  have m_need_whole := PySem.W.mg_of X G a_need_whole
  have F_halved := fund_mk (st := s_halved) l_halved c_halved k_halved
  have b_halved := F_halved.binds (ps := ["parts", "middle"]) fun _ _ _ _ _ _ us hl => match us, hl with | [_, _], _ => rfl
  have m_halved := PySem.W.mg_of X G a_halved
  have F_figures := fund_mk (st := s_figures) l_figures c_figures k_figures
  have b_figures : Binds K _ ["number", "wide"] [] := F_figures.bindsD t_figures rfl 2 rfl fun _ _ _ _ _ _ us hl => match us, hl with | [_, _], _ => ⟨_, rfl, rfl⟩
  have b_figures_d : Binds K _ ["number", "wide"] [Value.int 10 tk0_figures] := F_figures.bindsD t_figures rfl 1 rfl fun _ _ _ _ _ _ us hl => match us, hl with | [_], _ => ⟨_, rfl, rfl⟩
  have m_figures := PySem.W.mg_of X G a_figures
  have F_goals_along := fund_mk (st := s_goals_along) l_goals_along c_goals_along k_goals_along
  have b_goals_along := F_goals_along.binds (ps := ["machine", "row", "sign"]) fun _ _ _ _ _ _ us hl => match us, hl with | [_, _, _], _ => rfl
  have m_goals_along := PySem.W.mg_of X G a_goals_along
  have F_counted_onward := fund_mk (st := s_counted_onward) l_counted_onward c_counted_onward k_counted_onward
  have b_counted_onward := F_counted_onward.binds (ps := ["machine"]) fun _ _ _ _ _ _ us hl => match us, hl with | [_], _ => rfl
  have m_counted_onward := PySem.W.mg_of X G a_counted_onward
  have F_no_figures_yet := fund_mk (st := s_no_figures_yet) l_no_figures_yet c_no_figures_yet k_no_figures_yet
  have b_no_figures_yet := F_no_figures_yet.binds (ps := ["machine"]) fun _ _ _ _ _ _ us hl => match us, hl with | [_], _ => rfl
  have m_no_figures_yet := PySem.W.mg_of X G a_no_figures_yet
  have F_counts_on := fund_mk (st := s_counts_on) l_counts_on c_counts_on k_counts_on
  have b_counts_on := F_counts_on.binds (ps := ["onward", "counts"]) fun _ _ _ _ _ _ us hl => match us, hl with | [_, _], _ => rfl
  have m_counts_on := PySem.W.mg_of X G a_counts_on
  have F_count_below := fund_mk (st := s_count_below) l_count_below c_count_below k_count_below
  have b_count_below : Binds K _ ["machine", "below", "sign"] [] := F_count_below.bindsD t_count_below rfl 3 rfl fun _ _ _ _ _ _ us hl => match us, hl with | [_, _, _], _ => ⟨_, rfl, rfl⟩
  have b_count_below_d : Binds K _ ["machine", "below", "sign"] [Value.int 1 tk0_count_below] := F_count_below.bindsD t_count_below rfl 2 rfl fun _ _ _ _ _ _ us hl => match us, hl with | [_, _], _ => ⟨_, rfl, rfl⟩
  have m_count_below := PySem.W.mg_of X G a_count_below
  have F__law_mixed := fund_mk (st := s__law_mixed) l__law_mixed c__law_mixed k__law_mixed
  have b__law_mixed := F__law_mixed.binds (ps := ["_law_script", "_law_k"]) fun _ _ _ _ _ _ us hl => match us, hl with | [_, _], _ => rfl
  have m__law_mixed := PySem.W.mg_of X G a__law_mixed
  have F__law_spread := fund_mk (st := s__law_spread) l__law_spread c__law_spread k__law_spread
  have b__law_spread := F__law_spread.binds (ps := ["_law_script"]) fun _ _ _ _ _ _ us hl => match us, hl with | [_], _ => rfl
  have m__law_spread := PySem.W.mg_of X G a__law_spread
  have F__law_number := fund_mk (st := s__law_number) l__law_number c__law_number k__law_number
  have b__law_number := F__law_number.binds (ps := ["_law_spread_here", "_law_k"]) fun _ _ _ _ _ _ us hl => match us, hl with | [_, _], _ => rfl
  have m__law_number := PySem.W.mg_of X G a__law_number
  have F__law_great := fund_mk (st := s__law_great) l__law_great c__law_great k__law_great
  have b__law_great := F__law_great.binds (ps := ["_law_spread_here", "_law_k", "_law_below"]) fun _ _ _ _ _ _ us hl => match us, hl with | [_, _, _], _ => rfl
  have m__law_great := PySem.W.mg_of X G a__law_great
  have F__law_whole := fund_mk (st := s__law_whole) l__law_whole c__law_whole k__law_whole
  have b__law_whole := F__law_whole.binds (ps := ["_law_found"]) fun _ _ _ _ _ _ us hl => match us, hl with | [_], _ => rfl
  have m__law_whole := PySem.W.mg_of X G a__law_whole
  have F__law_rest := fund_mk (st := s__law_rest) l__law_rest c__law_rest k__law_rest
  have b__law_rest := F__law_rest.binds (ps := ["_law_rows", "_law_here"]) fun _ _ _ _ _ _ us hl => match us, hl with | [_, _], _ => rfl
  have m__law_rest := PySem.W.mg_of X G a__law_rest
  have F__law_machine := fund_mk (st := s__law_machine) l__law_machine c__law_machine k__law_machine
  have b__law_machine := F__law_machine.binds (ps := ["_law_spread_here", "_law_start", "_law_wide", "_law_many", "_law_lost"]) fun _ _ _ _ _ _ us hl => match us, hl with | [_, _, _, _, _], _ => rfl
  have m__law_machine := PySem.W.mg_of X G a__law_machine
  have F__law_sign_at := fund_mk (st := s__law_sign_at) l__law_sign_at c__law_sign_at k__law_sign_at
  have b__law_sign_at := F__law_sign_at.binds (ps := ["_law_machine_here", "_law_number_here"]) fun _ _ _ _ _ _ us hl => match us, hl with | [_, _], _ => rfl
  have m__law_sign_at := PySem.W.mg_of X G a__law_sign_at
  have F__law_one_more := fund_mk (st := s__law_one_more) l__law_one_more c__law_one_more k__law_one_more
  have b__law_one_more := F__law_one_more.binds (ps := ["_law_machine_here", "_law_below", "_law_sign"]) fun _ _ _ _ _ _ us hl => match us, hl with | [_, _, _], _ => rfl
  have m__law_one_more := PySem.W.mg_of X G a__law_one_more
  have F__law_few := fund_mk (st := s__law_few) l__law_few c__law_few k__law_few
  have b__law_few := F__law_few.binds (ps := ["_law_machine_here", "_law_sign"]) fun _ _ _ _ _ _ us hl => match us, hl with | [_, _], _ => rfl
  have m__law_few := PySem.W.mg_of X G a__law_few
  have F__law_all := fund_mk (st := s__law_all) l__law_all c__law_all k__law_all
  have b__law_all := F__law_all.binds (ps := ["_law_machine_here", "_law_below"]) fun _ _ _ _ _ _ us hl => match us, hl with | [_, _], _ => rfl
  have m__law_all := PySem.W.mg_of X G a__law_all
  have F_law := fund_mk (st := s_law) l_law c_law k_law
  have b_law := F_law.binds (ps := ["_law_script"]) fun _ _ _ _ _ _ us hl => match us, hl with | [_], _ => rfl
  have m_law := PySem.W.mg_of X G a_law
  have z_len := PySem.W.mg_none_of X G y_len
  have z_range := PySem.W.mg_none_of X G y_range
  have z_int := PySem.W.mg_none_of X G y_int
  have z_tuple := PySem.W.mg_none_of X G y_tuple
  have z_list := PySem.W.mg_none_of X G y_list
  have z_isinstance := PySem.W.mg_none_of X G y_isinstance
  have z_bool := PySem.W.mg_none_of X G y_bool
  have z_enumerate := PySem.W.mg_none_of X G y_enumerate
  have z_reversed := PySem.W.mg_none_of X G y_reversed
  have z_min := PySem.W.mg_none_of X G y_min
  have z_divmod := PySem.W.mg_none_of X G y_divmod
  refine ⟨PySem.W.fnOf "law" "law" (defArgs s_law) (defBody s_law) (defScope s_law) .none kV_law dc_law pm_law an_law cd_law ct_law, fun s v => .of_eq rfl, fun base _ _ => ?_⟩
  have G_is_whole : DefOk l.prog w K mg base "is_whole" 1 ["thing"] [] (spWhole) := ⟨_, _, [], m_is_whole, k_is_whole, .nil, b_is_whole, ok_is_whole F_is_whole z_isinstance z_int z_bool⟩
  have G_is_whole_from : DefOk l.prog w K mg base "is_whole_from" 2 ["thing", "least"] [] (spFrom) := ⟨_, _, [], m_is_whole_from, k_is_whole_from, .nil, b_is_whole_from, ok_from F_is_whole_from G_is_whole⟩
  have G_need_whole : DefOk l.prog w K mg base "need_whole" 3 ["thing", "least", "called"] [] (spNeed) := ⟨_, _, [], m_need_whole, k_need_whole, .nil, b_need_whole, ok_need F_need_whole G_is_whole_from⟩
  have G_halved : DefOk l.prog w K mg base "halved" 1 ["parts", "middle"] [] (spHalved K) := ⟨_, _, [], m_halved, k_halved, .nil, b_halved, ok_halved F_halved ⟩
  have G_figures : DefOk l.prog w K mg base "figures" 4 ["number", "wide"] [] (spFigures K) := ⟨_, _, [], m_figures, k_figures, .nil, b_figures, ok_figures F_figures G_need_whole G_halved z_reversed z_tuple⟩
  have G_goals_along : DefOk l.prog w K mg base "goals_along" 1 ["machine", "row", "sign"] [] (spGoals K) := ⟨_, _, [], m_goals_along, k_goals_along, .nil, b_goals_along, ok_goals F_goals_along z_reversed⟩
  have G_counted_onward : DefOk l.prog w K mg base "counted_onward" 1 ["machine"] [] (spOnward K) := ⟨_, _, [], m_counted_onward, k_counted_onward, .nil, b_counted_onward, ok_onward F_counted_onward z_list⟩
  have G_no_figures_yet : DefOk l.prog w K mg base "no_figures_yet" 1 ["machine"] [] (spNoFig K) := ⟨_, _, [], m_no_figures_yet, k_no_figures_yet, .nil, b_no_figures_yet, ok_nofig F_no_figures_yet z_len⟩
  have G_counts_on : DefOk l.prog w K mg base "counts_on" 1 ["onward", "counts"] [] (spCountsOn K) := ⟨_, _, [], m_counts_on, k_counts_on, .nil, b_counts_on, ok_counts_on F_counts_on z_len z_enumerate⟩
  have G_count_below : DefOk l.prog w K mg base "count_below" 5 ["machine", "below", "sign"] [] (spCount K) := ⟨_, _, [], m_count_below, k_count_below, .nil, b_count_below, ok_count F_count_below G_figures G_goals_along G_counted_onward G_no_figures_yet G_counts_on z_enumerate z_len⟩
  have G_count_below_d : DefOk l.prog w K mg base "count_below" 5 ["machine", "below", "sign"] [.int 1] (spCount K) := ⟨_, _, _, m_count_below, k_count_below, .cons ⟨_, rfl⟩ (.nil), b_count_below_d, ok_count F_count_below G_figures G_goals_along G_counted_onward G_no_figures_yet G_counts_on z_enumerate z_len⟩
  have G__law_mixed : DefOk l.prog w K mg base "_law_mixed" 1 ["_law_script", "_law_k"] [] (spMixed K) := ⟨_, _, [], m__law_mixed, k__law_mixed, .nil, b__law_mixed, ok_mixed F__law_mixed z_len⟩
  have G__law_spread : DefOk l.prog w K mg base "_law_spread" 2 ["_law_script"] [] (spSpread K) := ⟨_, _, [], m__law_spread, k__law_spread, .nil, b__law_spread, ok_spread F__law_spread G__law_mixed z_len z_range z_divmod⟩
  have G__law_number : DefOk l.prog w K mg base "_law_number" 1 ["_law_spread_here", "_law_k"] [] (spNumS K) := ⟨_, _, [], m__law_number, k__law_number, .nil, b__law_number, ok_numS F__law_number ⟩
  have G__law_great : DefOk l.prog w K mg base "_law_great" 1 ["_law_spread_here", "_law_k", "_law_below"] [] (spGreatS K) := ⟨_, _, [], m__law_great, k__law_great, .nil, b__law_great, ok_greatS F__law_great ⟩
  have G__law_whole : DefOk l.prog w K mg base "_law_whole" 1 ["_law_found"] [] (spWholeN) := ⟨_, _, [], m__law_whole, k__law_whole, .nil, b__law_whole, ok_wholeN F__law_whole z_isinstance z_int z_bool⟩
  have G__law_rest : DefOk l.prog w K mg base "_law_rest" 1 ["_law_rows", "_law_here"] [] (spRest K) := ⟨_, _, [], m__law_rest, k__law_rest, .nil, b__law_rest, ok_rest F__law_rest z_len z_range z_min⟩
  have G__law_machine : DefOk l.prog w K mg base "_law_machine" 2 ["_law_spread_here", "_law_start", "_law_wide", "_law_many", "_law_lost"] [] (spMachS K) := ⟨_, _, [], m__law_machine, k__law_machine, .nil, b__law_machine, ok_machS F__law_machine G__law_number G__law_rest z_range z_tuple⟩
  have G__law_sign_at : DefOk l.prog w K mg base "_law_sign_at" 1 ["_law_machine_here", "_law_number_here"] [] (spSignAtL) := ⟨_, _, [], m__law_sign_at, k__law_sign_at, .nil, b__law_sign_at, ok_sign_atL F__law_sign_at ⟩
  have G__law_one_more : DefOk l.prog w K mg base "_law_one_more" 6 ["_law_machine_here", "_law_below", "_law_sign"] [] (spOneMore) := ⟨_, _, [], m__law_one_more, k__law_one_more, .nil, b__law_one_more, ok_one_more F__law_one_more G_count_below G__law_whole G__law_sign_at z_int⟩
  have G__law_few : DefOk l.prog w K mg base "_law_few" 6 ["_law_machine_here", "_law_sign"] [] (spFew) := ⟨_, _, [], m__law_few, k__law_few, .nil, b__law_few, ok_few F__law_few G_count_below G__law_whole G__law_sign_at z_int z_range⟩
  have G__law_all : DefOk l.prog w K mg base "_law_all" 6 ["_law_machine_here", "_law_below"] [] (spAllL) := ⟨_, _, [], m__law_all, k__law_all, .nil, b__law_all, ok_allL F__law_all G_count_below⟩
  exact ok_law F_law G__law_spread G__law_number G__law_great G__law_machine G_count_below G_count_below_d G__law_one_more G__law_few G__law_all z_len z_int
theorem walk {l : PySem.W.OpenLaw} {q : Program} {loose : List Str} {XP : (Str → Option Value) → Heap → Prop} {YP : World → Heap → Prop} {d : DefRec} {K : Params → PySem.W.Frag} (hn : l.most = some 63) (hdf : d.params.defaults = [])
    (hY : ∀ (w : World) (h : Heap), YP w h → (K w.params).In h)
    (F : ∀ (w : World) (mg : Str → Option Value) (fa : Addr) (h : Heap), (K w.params).In h → h.Ns mainGlobals mg → mg d.name = some (.ref fa) →
      ∃ fd : FuncData, (∀ (s : Shared) (u : Value), BindsTo s fd ⟨[u], []⟩ [("_law_script", u)]) ∧ ∀ base : Heap, (K w.params).In base → base.Ns mainGlobals mg → FnOk l.prog w (K w.params) mg base CX0 7 fa fd ["_law_script"] (spLaw (K w.params))) :
    PySem.W.WalkO q loose XP YP l.row.toRowW d [] (fun f vs => PySem.call f vs) :=
  L2.walk_of (n := 63) (k := 7) (x := "_law_script") (CX := fun _ => CX0) (sp := fun w => spLaw (K w.params)) hn (by decide) hdf ⟨rfl, by decide, by decide⟩ hY F (fun _ _ a ns hl _ hS => ⟨a, ns, rfl, hS, hl, fun _ => rfl⟩) fun _ _ _ _ _ z => z
end My
open PySem PySem.W PyProof.Rows
set_option maxRecDepth 100000 in
set_option maxHeartbeats 0 in
theorem PySem.Challenge.cw_figuretell_k44_whole_counted_holds : PySem.Challenge.rw_figuretell_k44_whole_counted.Holds := by
  w_on; o_law; k_head; (case hw => w_witness2)
  k_fill
  refine My.walk (l := PySem.Challenge.rw_figuretell_k44_whole_counted) rfl rfl (fun w h Y => PySem.W.kIn_of Y) ?F
  case F =>
    intro w mg fa h KX G hmg
    refine' My.all_mk KX G hmg ?a_is_whole ?l_is_whole ?c_is_whole ?k_is_whole ?a_is_whole_from ?l_is_whole_from ?c_is_whole_from ?k_is_whole_from ?a_need_whole ?l_need_whole ?c_need_whole ?k_need_whole ?a_halved ?l_halved ?c_halved ?k_halved ?a_figures ?l_figures ?c_figures ?k_figures ?t_figures ?a_goals_along ?l_goals_along ?c_goals_along ?k_goals_along ?a_counted_onward ?l_counted_onward ?c_counted_onward ?k_counted_onward ?a_no_figures_yet ?l_no_figures_yet ?c_no_figures_yet ?k_no_figures_yet ?a_counts_on ?l_counts_on ?c_counts_on ?k_counts_on ?a_count_below ?l_count_below ?c_count_below ?k_count_below ?t_count_below ?a__law_mixed ?l__law_mixed ?c__law_mixed ?k__law_mixed ?a__law_spread ?l__law_spread ?c__law_spread ?k__law_spread ?a__law_number ?l__law_number ?c__law_number ?k__law_number ?a__law_great ?l__law_great ?c__law_great ?k__law_great ?a__law_whole ?l__law_whole ?c__law_whole ?k__law_whole ?a__law_rest ?l__law_rest ?c__law_rest ?k__law_rest ?a__law_machine ?l__law_machine ?c__law_machine ?k__law_machine ?a__law_sign_at ?l__law_sign_at ?c__law_sign_at ?k__law_sign_at ?a__law_one_more ?l__law_one_more ?c__law_one_more ?k__law_one_more ?a__law_few ?l__law_few ?c__law_few ?k__law_few ?a__law_all ?l__law_all ?c__law_all ?k__law_all ?a_law ?l_law ?c_law ?k_law ?y_len ?y_range ?y_int ?y_tuple ?y_list ?y_isinstance ?y_bool ?y_enumerate ?y_reversed ?y_min ?y_divmod
    (case a_is_whole => k_is); (case l_is_whole => k_is); (case c_is_whole => k_is); (case k_is_whole => k_is)
    (case a_is_whole_from => k_is); (case l_is_whole_from => k_is); (case c_is_whole_from => k_is); (case k_is_whole_from => k_is)
    (case a_need_whole => k_is); (case l_need_whole => k_is); (case c_need_whole => k_is); (case k_need_whole => k_is)
    (case a_halved => k_is); (case l_halved => k_is); (case c_halved => k_is); (case k_halved => k_is)
    (case a_figures => k_is); (case l_figures => k_is); (case c_figures => k_is); (case k_figures => k_is); (case t_figures => k_is)
    (case a_goals_along => k_is); (case l_goals_along => k_is); (case c_goals_along => k_is); (case k_goals_along => k_is)
    (case a_counted_onward => k_is); (case l_counted_onward => k_is); (case c_counted_onward => k_is); (case k_counted_onward => k_is)
    (case a_no_figures_yet => k_is); (case l_no_figures_yet => k_is); (case c_no_figures_yet => k_is); (case k_no_figures_yet => k_is)
    (case a_counts_on => k_is); (case l_counts_on => k_is); (case c_counts_on => k_is); (case k_counts_on => k_is)
    (case a_count_below => k_is); (case l_count_below => k_is); (case c_count_below => k_is); (case k_count_below => k_is); (case t_count_below => k_is)
    (case a__law_mixed => k_is); (case l__law_mixed => k_is); (case c__law_mixed => k_is); (case k__law_mixed => k_is)
    (case a__law_spread => k_is); (case l__law_spread => k_is); (case c__law_spread => k_is); (case k__law_spread => k_is)
    (case a__law_number => k_is); (case l__law_number => k_is); (case c__law_number => k_is); (case k__law_number => k_is)
    (case a__law_great => k_is); (case l__law_great => k_is); (case c__law_great => k_is); (case k__law_great => k_is)
    (case a__law_whole => k_is); (case l__law_whole => k_is); (case c__law_whole => k_is); (case k__law_whole => k_is)
    (case a__law_rest => k_is); (case l__law_rest => k_is); (case c__law_rest => k_is); (case k__law_rest => k_is)
    (case a__law_machine => k_is); (case l__law_machine => k_is); (case c__law_machine => k_is); (case k__law_machine => k_is)
    (case a__law_sign_at => k_is); (case l__law_sign_at => k_is); (case c__law_sign_at => k_is); (case k__law_sign_at => k_is)
    (case a__law_one_more => k_is); (case l__law_one_more => k_is); (case c__law_one_more => k_is); (case k__law_one_more => k_is)
    (case a__law_few => k_is); (case l__law_few => k_is); (case c__law_few => k_is); (case k__law_few => k_is)
    (case a__law_all => k_is); (case l__law_all => k_is); (case c__law_all => k_is); (case k__law_all => k_is)
    (case a_law => k_is); (case l_law => k_is); (case c_law => k_is); (case k_law => k_is)
    (case y_len => k_is); (case y_range => k_is); (case y_int => k_is); (case y_tuple => k_is); (case y_list => k_is); (case y_isinstance => k_is); (case y_bool => k_is); (case y_enumerate => k_is); (case y_reversed => k_is); (case y_min => k_is); (case y_divmod => k_is)

