import PyProof.Rows.All
import Wide.All
import OpenK.AllK
import Wide.FinOn
import Lean
import PyProof.EqAt
import PyProof.EqKinds
import PyProof.TupleCall
import PyProof.NeKinds
import PyProof.ExcBaseAll.ValueError
import PyProof.ExcClass3
import OpenK.KOwn
import PyProof.Rows.FStr
import KE.KTryMore
import PyProof.ExcAttrAll.ValueError
import KE.KDictList
import PyProof.CompMap
import PyProof.Draws
import PyProof.ListRange
import PyProof.ZipIter
import PyProof.EnumMake
import PySem.Challenge.RW_figuretell_k62_looking
set_option Elab.async false
set_option linter.all false
set_option maxRecDepth 100000
/-! THE HAND LAYER, for ints, bools, texts, own classes, LISTS and tuples (index, slices, in, append, pop ..), calls, loops. Paste it whole ahead of your own text; what your proof does not reach may be deleted. -/
namespace L2
open PySem PySem.Spec PyProof.Rows

/-- a key: an int or a str -/
abbrev Key := Sum Int Str
def keyIs : Key → Value → Bool
  | .inl k, v => Value.isInt k v
  | .inr x, v => Value.isStrOf x v
def keyH (w : World) : Key → Int
  | .inl k => hashInt k
  | .inr x => hashStr w x
theorem keyIs_shape : ∀ {k : Key} {v : Value}, keyIs k v = true → (∃ i t, k = Sum.inl i ∧ v = Value.int i t) ∨ (∃ x t, k = Sum.inr x ∧ v = Value.str x t)
  | .inl i, v, h => by
    obtain ⟨t, e⟩ := Value.isInt_shape (k := i) (v := v) h
    exact .inl ⟨i, t, rfl, e⟩
  | .inr x, v, h => by
    obtain ⟨t, e⟩ := Value.isStrOf_shape (x := x) (v := v) h
    exact .inr ⟨x, t, rfl, e⟩
theorem key_ll (a b : Int) : decide ((Sum.inl a : Key) = Sum.inl b) = (a == b) := by
  by_cases e : a = b
  · subst e; simp
  · have h : ¬ (Sum.inl a : Key) = Sum.inl b := fun q => e (Sum.inl.inj q)
    rw [decide_eq_false h]
    exact (beq_eq_false_iff_ne.mpr e).symm
theorem key_rr (a b : Str) : decide ((Sum.inr a : Key) = Sum.inr b) = decide (a = b) := by
  by_cases e : a = b
  · subst e; simp
  · have h : ¬ (Sum.inr a : Key) = Sum.inr b := fun q => e (Sum.inr.inj q)
    rw [decide_eq_false h, decide_eq_false e]
theorem key_lr (a : Int) (b : Str) : decide ((Sum.inl a : Key) = Sum.inr b) = false := decide_eq_false (fun q => nomatch q)
theorem key_rl (a : Str) (b : Int) : decide ((Sum.inr a : Key) = Sum.inl b) = false := decide_eq_false (fun q => nomatch q)

def mixKind (prog : Program) (w : World) : PySem.KeyKind prog w Key where
  is := keyIs
  hash := keyH w
  inj := fun v a b ha hb => by
    rcases keyIs_shape ha with ⟨i, t, rfl, rfl⟩ | ⟨x, t, rfl, rfl⟩
    · rcases keyIs_shape hb with ⟨j, u, rfl, e⟩ | ⟨y, u, rfl, e⟩
      · injection e with e1 _; rw [e1]
      · exact nomatch e
    · rcases keyIs_shape hb with ⟨j, u, rfl, e⟩ | ⟨y, u, rfl, e⟩
      · exact nomatch e
      · injection e with e1 _; rw [e1]
  byValue := fun k v h => by
    rcases keyIs_shape h with ⟨i, t, rfl, rfl⟩ | ⟨x, t, rfl, rfl⟩ <;> rfl
  pyHash := fun hv h => by
    rcases keyIs_shape hv with ⟨i, t, rfl, rfl⟩ | ⟨x, t, rfl, rfl⟩
    · exact wpAny_pyHash_int h
    · exact wpAny_pyHash_str h
  eqBool := fun hu hv h => by
    rcases keyIs_shape hu with ⟨i, t, rfl, rfl⟩ | ⟨x, t, rfl, rfl⟩
    · rcases keyIs_shape hv with ⟨j, u, rfl, rfl⟩ | ⟨y, u, rfl, rfl⟩
      · rw [key_ll] at h; exact wpAny_eqBool_int h
      · rw [key_lr] at h; exact SeqAt.EqAt.int_str i t y u _ _ _ _ h
    · rcases keyIs_shape hv with ⟨j, u, rfl, rfl⟩ | ⟨y, u, rfl, rfl⟩
      · rw [key_rl] at h; exact SeqAt.EqAt.str_int x t j u _ _ _ _ h
      · rw [key_rr] at h; exact wpAny_eqBool_str h
  «strs» := fun k x t v h => by
    rcases keyIs_shape h with ⟨i, u, rfl, e⟩ | ⟨y, u, rfl, e⟩
    · exact nomatch e
    · injection e with e1 _
      subst e1
      cases v <;> rfl

end L2

namespace L2
open PySem PySem.Spec PyProof.Rows

/-- a value, without the heap -/
inductive V where
  | non | bl (b : Bool) | int (i : Int) | str (x : Str) | byt (b : Array UInt8) | flt (b : UInt64) | ref (a : Addr) | ty (n : String)
  deriving DecidableEq

def RelV : V → Value → Prop
  | .non, u => u = Value.none
  | .bl b, u => u = Value.bool b
  | .int i, u => ∃ t, u = Value.int i t
  | .str x, u => ∃ t, u = Value.str x t
  | .byt b, u => ∃ t, u = Value.bytes b t
  | .flt b, u => ∃ t, u = Value.float b t
  | .ref a, u => u = Value.ref a
  | .ty n, u => u = Value.type n

abbrev Vals : List V → List Value → Prop := Paired RelV
theorem Vals.length {xs : List V} {us : List Value} (r : Vals xs us) : xs.length = us.length := Paired.length r
theorem Vals.get : ∀ {xs : List V} {us : List Value} {i : Nat} {x : V}, Vals xs us → xs[i]? = some x → ∃ u, us[i]? = some u ∧ RelV x u
  | _, _, _, _, .nil, e => by simp at e
  | _, _, 0, _, .cons r _, e => by simp at e; subst e; exact ⟨_, rfl, r⟩
  | _, _, i + 1, x, .cons _ t, e => by
    obtain ⟨u, h1, h2⟩ := Vals.get (i := i) (x := x) t (by simpa using e)
    exact ⟨u, by simpa using h1, h2⟩
theorem Vals.set {x : V} {u : Value} (r : RelV x u) : ∀ {xs : List V} {us : List Value} (i : Nat), Vals xs us → Vals (xs.set i x) (us.set i u)
  | _, _, _, .nil => .nil
  | _, _, 0, .cons _ t => .cons r t
  | _, _, i + 1, .cons q t => .cons q (Vals.set r i t)
theorem Vals.append : ∀ {xs ys : List V} {us ws : List Value}, Vals xs us → Vals ys ws → Vals (xs ++ ys) (us ++ ws)
  | _, _, _, _, .nil, s => s
  | _, _, _, _, .cons r t, s => .cons r (Vals.append t s)
theorem Vals.take : ∀ {xs : List V} {us : List Value} (n : Nat), Vals xs us → Vals (xs.take n) (us.take n)
  | _, _, 0, _ => .nil
  | _, _, _ + 1, .nil => .nil
  | _, _, n + 1, .cons r t => .cons r (Vals.take n t)
theorem Vals.drop : ∀ {xs : List V} {us : List Value} (n : Nat), Vals xs us → Vals (xs.drop n) (us.drop n)
  | _, _, 0, r => r
  | _, _, _ + 1, .nil => .nil
  | _, _, n + 1, .cons _ t => Vals.drop n t
theorem Vals.none_of : ∀ {xs : List V} {us : List Value} {i : Nat}, Vals xs us → xs[i]? = none → us[i]? = none := fun {xs us i} r e => by
  have h1 := r.length
  have h2 : xs.length ≤ i := List.getElem?_eq_none_iff.mp e
  exact List.getElem?_eq_none_iff.mpr (by omega)

def RelO : Option V → Option Value → Prop
  | some v, some u => RelV v u
  | none, none => True
  | _, _ => False
def KV {κ : Type} : List (κ × V) → List (κ × Value) → Prop := Paired fun (p : κ × V) (q : κ × Value) => p.1 = q.1 ∧ RelV p.2 q.2

/-- a key of a dict (00_mix): an int or a text -/
def kV : Key → V
  | .inl i => .int i
  | .inr x => .str x

/-- what stands at a tracked address -/
inductive HO where
  /-- a list -/
  | lst (xs : List V)
  /-- a tuple (never changes) -/
  | tup (xs : List V)
  /-- a dict whose keys are ints and texts; one whose keys are tuples of ints and texts (the empty one is both) -/
  | dK (kvs : List (Key × V)) | dT (kvs : List (List Key × V))
  /-- a set of ints: its members, its size -/
  | set (S : Int → Bool) (n : Nat)
  /-- an instance of the class at C, its dict at dx, its attributes -/
  | ins (C dx : Addr) (fs : List (Str × V))
  /-- the dict of the instance at x -/
  | own (x : Addr)
  /-- the dict of an exception -/
  | xd (fs : List (Str × V))
  /-- a bound method, f of x -/
  | met (f x : Addr)
  /-- a range object lo, lo + 1, .. below hi -/
  | rng (lo hi : Int)
  /-- a thing that is known to the object (the script; a dict while a loop walks it): read, never written while it is so -/
  | frz (o : Obj) (u : HO)
  /-- a code object's table -/
  | tbl (ps : Array Value)
  /-- any other thing, by what is true of its one object (a def of one's own: SetO a S n := HO.ext fun h => ..) -/
  | ext (φ : Heap → Prop)

abbrev Hp := Addr → Option HO
def upd (H : Hp) (a : Addr) (o : HO) : Hp := fun b => if b = a then some o else H b
theorem upd_same {H : Hp} {a : Addr} {o : HO} : upd H a o a = some o := by unfold upd; rw [if_pos rfl]
theorem upd_ne {H : Hp} {a b : Addr} {o : HO} (h : b ≠ a) : upd H a o b = H b := by unfold upd; rw [if_neg h]
/-- two objects of different content stand apart -/
theorem ne_of {H : Hp} {a b : Addr} {o u : HO} (h : H a = some o) (h' : H b = some u) (d : o ≠ u) : a ≠ b := by
  intro e; subst e; rw [h] at h'; exact d (Option.some.inj h')
theorem ne_of_none {H : Hp} {a b : Addr} {o : HO} (h : H a = some o) (h' : H b = none) : a ≠ b := by
  intro e; subst e; rw [h] at h'; cases h'

section
variable (P : Program) (w : World)
def ObjOk (H : Hp) (h : Heap) (a : Addr) : HO → Prop
  | .lst xs => xs.length ≤ sizeLine ∧ ∃ (its : List Value) (n : Nat), Vals xs its ∧ h.get? a = some { cls := .type "list", data := .seq its.toArray n }
  | .tup xs => xs.length ≤ sizeLine ∧ ∃ its : List Value, Vals xs its ∧ IsTup h a its.toArray
  | .dK kvs => kvs.length ≤ sizeLine ∧ (a == sysModules) = false ∧ ∃ vs, KV kvs vs ∧ h.DictOf (mixKind P w) a vs
  | .dT kvs => kvs.length ≤ sizeLine ∧ (a == sysModules) = false ∧ ∃ xs : List (List Key × Addr × Value),
      Paired (fun (p : List Key × V) (q : List Key × Addr × Value) => p.1 = q.1 ∧ H q.2.1 = some (.tup (p.1.map kV)) ∧ RelV p.2 q.2.2) kvs xs ∧
      ∃ o es ep, h.get? a = some o ∧ o.ExactDict ∧ o.data = .dict es ep ∧ es.toList = xs.map (entryOfKey (tupleKind (mixKind P w))) ∧ (xs.map (·.1)).Nodup
  | .set S n => h.SetOf (intKind P w) a S n
  | .ins C dx fs => H dx = some (.own a) ∧ fs.length ≤ 1000 ∧ dx ≠ a ∧ h.get? a = some (PySem.W.instObj C dx) ∧
      ∃ mA, h.Ns1 dx mA ∧ (∀ f, RelO (fs.lookup f) (mA f)) ∧ PySem.Within mA (fs.map (·.1))
  | .own _ => ∃ o, h.get? a = some o
  | .xd fs => ∃ mA, h.Ns1 a mA ∧ ∀ f, RelO (fs.lookup f) (mA f)
  | .rng lo hi => ∃ t u v, h.get? a = some { cls := .type "range", data := .fields #[.int lo t, .int hi u, .int 1 v] }
  | .frz o u => h.get? a = some o ∧ ObjOk H h a u
  | .tbl ps => h.get? a = some { cls := .none, data := .fields ps }
  | .met f x => h.get? a = some (PySem.W.methodObj (.ref f) (.ref x))
  | .ext φ => φ h ∧ (∃ o, h.get? a = some o) ∧ ∀ h1 h2 : Heap, φ h1 → (∀ o, h1.get? a = some o → h2.get? a = some o) → φ h2
/-- the abstract heap is held -/
def HOk (H : Hp) (h : Heap) : Prop := ∀ a o, H a = some o → ObjOk P w H h a o
end

section
variable {P : Program} {w : World} {H H' : Hp} {h h' : Heap} {a : Addr} {o : HO}
theorem ObjOk.lt (x : ObjOk P w H h a o) : a < h.objs.size := by
  cases o with
  | lst xs => obtain ⟨_, _, _, _, e⟩ := x; exact Heap.lt_size e
  | tup xs => obtain ⟨_, _, _, p⟩ := x; exact p.lt
  | dK kvs => obtain ⟨_, _, _, _, o, _, _, e, _⟩ := x; exact Heap.lt_size e
  | dT kvs => obtain ⟨_, _, _, _, o, _, _, e, _⟩ := x; exact Heap.lt_size e
  | set S n => obtain ⟨o, _, _, _, e, _⟩ := x; exact Heap.lt_size e
  | ins C dx fs => obtain ⟨_, _, _, e, _⟩ := x; exact Heap.lt_size e
  | own y => obtain ⟨_, e⟩ := x; exact Heap.lt_size e
  | xd fs => obtain ⟨_, ⟨_, _, _, e, _⟩, _⟩ := x; exact Heap.lt_size e
  | rng lo hi => obtain ⟨_, _, _, e⟩ := x; exact Heap.lt_size e
  | frz ob u => obtain ⟨e, _⟩ := x; exact Heap.lt_size e
  | tbl ps => exact Heap.lt_size (show h.get? a = some _ from x)
  | met f y => exact Heap.lt_size (show h.get? a = some _ from x)
  | ext φ => obtain ⟨_, ⟨_, e⟩, _⟩ := x; exact Heap.lt_size e
theorem Paired.mapP {α β : Type} {F G : α → β → Prop} : ∀ {l₁ : List α} {l₂ : List β}, Paired F l₁ l₂ → (∀ a b, F a b → G a b) → Paired G l₁ l₂
  | _, _, .nil, _ => .nil
  | _, _, .cons r t, f => .cons (f _ _ r) (Paired.mapP t f)
/-- what an object's description leans on: its own object, its own dict, the tuples -/
theorem ObjOk.stay (x : ObjOk P w H h a o) (k : ∀ b u, (b = a ∨ H b = some (.own a)) → h.get? b = some u → h'.get? b = some u)
    (ho : ∀ b, H b = some (.own a) → H' b = some (.own a)) (ht : ∀ b xs, H b = some (.tup xs) → H' b = some (.tup xs)) : ObjOk P w H' h' a o := by
  induction o with
  | lst xs => obtain ⟨z, its, n, r, e⟩ := x; exact ⟨z, its, n, r, k _ _ (.inl rfl) e⟩
  | tup xs => obtain ⟨z, its, r, ob, e, c⟩ := x; exact ⟨z, its, r, ob, k _ _ (.inl rfl) e, c⟩
  | dK kvs => obtain ⟨z, y, vs, r, ob, es, ep, e, c⟩ := x; exact ⟨z, y, vs, r, ob, es, ep, k _ _ (.inl rfl) e, c⟩
  | dT kvs =>
    obtain ⟨z, y, xs, r, ob, es, ep, e, c⟩ := x
    exact ⟨z, y, xs, Paired.mapP r fun p q z => ⟨z.1, ht _ _ z.2.1, z.2.2⟩, ob, es, ep, k _ _ (.inl rfl) e, c⟩
  | set S n => obtain ⟨ob, es, ep, t, e, c⟩ := x; exact ⟨ob, es, ep, t, k _ _ (.inl rfl) e, c⟩
  | ins C dx fs =>
    obtain ⟨d, z, ne, e, mA, ⟨od, es, ep, e2, c⟩, r⟩ := x
    exact ⟨ho _ d, z, ne, k _ _ (.inl rfl) e, mA, ⟨od, es, ep, k _ _ (.inr d) e2, c⟩, r⟩
  | own y => obtain ⟨ob, e⟩ := x; exact ⟨ob, k _ _ (.inl rfl) e⟩
  | xd fs => obtain ⟨mA, ⟨od, es, ep, e, c⟩, r⟩ := x; exact ⟨mA, ⟨od, es, ep, k _ _ (.inl rfl) e, c⟩, r⟩
  | rng lo hi => obtain ⟨t, u, v, e⟩ := x; exact ⟨t, u, v, k _ _ (.inl rfl) e⟩
  | frz ob u ih => obtain ⟨e, q⟩ := x; exact ⟨k _ _ (.inl rfl) e, ih q⟩
  | tbl ps =>
    have e : h.get? a = some { cls := .none, data := .fields ps } := x
    show h'.get? a = some { cls := .none, data := .fields ps }
    exact k a _ (.inl rfl) e
  | met f y =>
    have e : h.get? a = some (PySem.W.methodObj (.ref f) (.ref y)) := x
    show h'.get? a = some (PySem.W.methodObj (.ref f) (.ref y))
    exact k a _ (.inl rfl) e
  | ext φ => obtain ⟨p, ⟨o, e⟩, st⟩ := x; exact ⟨st _ _ p fun o q => k _ _ (.inl rfl) q, ⟨o, k _ _ (.inl rfl) e⟩, st⟩
theorem HOk.lt (x : HOk P w H h) (e : H a = some o) : a < h.objs.size := (x a o e).lt
theorem HOk.fresh (x : HOk P w H h) (e : h.objs.size ≤ a) : H a = none := by
  cases q : H a with
  | none => rfl
  | some u => exact absurd (Nat.lt_of_lt_of_le (x.lt q) e) (Nat.lt_irrefl _)
/-- every object of the heap is kept -/
theorem HOk.kept (x : HOk P w H h) (k : ∀ b u, h.get? b = some u → h'.get? b = some u) : HOk P w H h' := fun a o e =>
  (x a o e).stay (fun b u _ q => k b u q) (fun _ q => q) fun _ _ q => q
/-- a new object is laid and tracked -/
theorem HOk.laid (x : HOk P w H h) (k : ∀ b u, h.get? b = some u → h'.get? b = some u) (hp : h.objs.size ≤ a) (new : ObjOk P w (upd H a o) h' a o) : HOk P w (upd H a o) h' := fun b u e => by
  have hn := x.fresh hp
  by_cases hb : b = a
  · subst hb; rw [upd_same] at e; cases e; exact new
  · rw [upd_ne hb] at e
    exact (x b u e).stay (fun c v _ q => k c v q) (fun c q => by rw [upd_ne (ne_of_none q hn)]; exact q) fun c xs q => by rw [upd_ne (ne_of_none q hn)]; exact q
end

/-- what may be read as u: it is u, or a known u -/
def Rd (H : Hp) (a : Addr) (u : HO) : Prop := H a = some u ∨ ∃ o, H a = some (.frz o u)
theorem Rd.of {H : Hp} {a : Addr} {u : HO} (h : H a = some u) : Rd H a u := .inl h
theorem Rd.ok {P : Program} {w : World} {H : Hp} {h : Heap} {a : Addr} {u : HO} (r : Rd H a u) (x : HOk P w H h) : ObjOk P w H h a u := by
  rcases r with r | ⟨o, r⟩
  · exact x a u r
  · obtain ⟨_, q⟩ := x a _ r
    exact q
/-- what may be written -/
def Mut : Option HO → Prop
  | some (.lst _) => True
  | some (.dK _) => True
  | some (.dT _) => True
  | some (.set _ _) => True
  | some (.ins _ _ _) => True
  | some (.ext _) => True
  | _ => False
section
variable {P : Program} {w : World} {H : Hp} {h h' : Heap} {x e : Addr} {o' : HO}
/-- the object at e is changed: x itself, or the dict of the instance x -/
theorem HOk.write (ok : HOk P w H h) (mu : Mut (H x)) (he : e = x ∨ H e = some (.own x)) (k : ∀ b u, b ≠ e → h.get? b = some u → h'.get? b = some u) (heo : ∃ u, h'.get? e = some u)
    (new : ObjOk P w (upd H x o') h' x o') : HOk P w (upd H x o') h' := fun b u q => by
  have nown : ∀ c y, H c = some (.own y) → c ≠ x := fun c y r z => by subst z; rw [r] at mu; exact mu
  have ntup : ∀ c xs, H c = some (.tup xs) → c ≠ x := fun c xs r z => by subst z; rw [r] at mu; exact mu
  by_cases hb : b = x
  · subst hb; rw [upd_same] at q; cases q; exact new
  · rw [upd_ne hb] at q
    by_cases hbe : b = e
    · have q' : H b = some (.own x) := by
        rcases he with z | z
        · exact absurd (hbe.trans z) hb
        · rw [hbe]; exact z
      rw [q] at q'; cases q'
      obtain ⟨v, hv⟩ := heo
      exact ⟨v, by rw [hbe]; exact hv⟩
    · refine (ok b u q).stay (fun c v hc r => k c v ?_ r) (fun c r => by rw [upd_ne (nown c b r)]; exact r) fun c xs r => by rw [upd_ne (ntup c xs r)]; exact r
      rcases hc with rfl | hc
      · exact hbe
      · rintro rfl
        rcases he with z | z
        · exact nown c b hc z
        · rw [hc] at z; cases z; exact hb rfl
end

/-! ### kept unless tracked; of the frames at fs (the callers') the slots may change (an exception that passes writes there); of the records at ex (iterators) nothing is said -/
structure Un (fs ex : List Addr) (H H' : Hp) (h h' : Heap) : Prop where
  keep : ∀ b o, h.get? b = some o → H b = none → b ∉ fs → b ∉ ex → h'.get? b = some o
  slot : ∀ b o, h.get? b = some o → H b = none → b ∈ fs → b ∉ ex → ∃ sl, h'.get? b = some { o with slots := sl }
  free : ∀ b o, h.get? b = some o → H b = none → b ∉ ex → H' b = none
  there : ∀ b o, h.get? b = some o → b ∉ ex → ∃ o', h'.get? b = some o'
  tups : ∀ b xs, H b = some (.tup xs) → H' b = some (.tup xs)
  frzs : ∀ b o u, H b = some (.frz o u) → H' b = some (.frz o u)
  tbls : ∀ b ps, H b = some (.tbl ps) → ∃ more, H' b = some (.tbl (ps ++ more))
section
variable {fs fs' ex ex' : List Addr} {H H1 H2 : Hp} {h h1 h2 h' : Heap} {a x e : Addr} {o : HO}
theorem Un.any (u : Un fs ex H H1 h h1) {b : Addr} {ob : Obj} (q : h.get? b = some ob) (n : H b = none) (hx : b ∉ ex) : ∃ sl, h1.get? b = some { ob with slots := sl } := by
  by_cases hb : b ∈ fs
  · exact u.slot b ob q n hb hx
  · exact ⟨ob.slots, u.keep b ob q n hb hx⟩
theorem Un.trans (a : Un fs ex H H1 h h1) (b : Un fs ex H1 H2 h1 h2) : Un fs ex H H2 h h2 where
  keep := fun c ob q n hc hx => b.keep c ob (a.keep c ob q n hc hx) (a.free c ob q n hx) hc hx
  slot := fun c ob q n hc hx => by
    obtain ⟨sl, e1⟩ := a.slot c ob q n hc hx
    obtain ⟨sl', e2⟩ := b.slot c _ e1 (a.free c ob q n hx) hc hx
    exact ⟨sl', e2⟩
  free := fun c ob q n hx => by
    obtain ⟨o', e1⟩ := a.there c ob q hx
    exact b.free c o' e1 (a.free c ob q n hx) hx
  there := fun c ob q hx => by
    obtain ⟨o', e1⟩ := a.there c ob q hx
    exact b.there c o' e1 hx
  tups := fun c xs q => b.tups c xs (a.tups c xs q)
  frzs := fun c ob xs q => b.frzs c ob xs (a.frzs c ob xs q)
  tbls := fun c ps q => by
    obtain ⟨m1, e1⟩ := a.tbls c ps q
    obtain ⟨m2, e2⟩ := b.tbls c _ e1
    exact ⟨m1 ++ m2, by rw [e2, Array.append_assoc]⟩
theorem Un.kept (k : ∀ b u, h.get? b = some u → h'.get? b = some u) : Un fs ex H H h h' :=
  ⟨fun b ob q _ _ _ => k b ob q, fun b ob q _ _ _ => ⟨ob.slots, k b ob q⟩, fun _ _ _ n _ => n, fun b ob q _ => ⟨ob, k b ob q⟩, fun _ _ q => q, fun _ _ _ q => q, fun _ ps q => ⟨#[], by rw [q]; simp⟩⟩
theorem Un.refl : Un fs ex H H h h := Un.kept fun _ _ q => q
theorem Un.laid (k : ∀ b u, h.get? b = some u → h'.get? b = some u) (hp : h.objs.size ≤ a) (hn : H a = none) : Un fs ex H (upd H a o) h h' where
  keep := fun b u q _ _ _ => k b u q
  slot := fun b u q _ _ _ => ⟨u.slots, k b u q⟩
  free := fun b u q n _ => by rw [upd_ne (Nat.ne_of_lt (Nat.lt_of_lt_of_le (Heap.lt_size q) hp))]; exact n
  there := fun b u q _ => ⟨u, k b u q⟩
  tups := fun b xs q => by rw [upd_ne (ne_of_none q hn)]; exact q
  frzs := fun b u xs q => by rw [upd_ne (ne_of_none q hn)]; exact q
  tbls := fun b ps q => ⟨#[], by rw [upd_ne (ne_of_none q hn), q]; simp⟩
theorem Un.write (mu : Mut (H x)) (he : e = x ∨ H e = some (.own x)) (k : ∀ b u, b ≠ e → h.get? b = some u → h'.get? b = some u) (heo : ∃ u, h'.get? e = some u) : Un fs ex H (upd H x o) h h' := by
  have hx : ∀ b, H b = none → b ≠ x := fun b n z => by subst z; rw [n] at mu; exact mu
  have hb : ∀ b, H b = none → b ≠ e := fun b n z => by
    subst z
    rcases he with r | r
    · exact hx b n r
    · rw [n] at r; cases r
  have hm : ∀ b u, H b = some u → ¬ Mut (some u) → b ≠ x := fun b u q nm z => by subst z; rw [q] at mu; exact nm mu
  refine ⟨fun b u q n _ _ => k b u (hb b n) q, fun b u q n _ _ => ⟨u.slots, k b u (hb b n) q⟩, fun b u q n _ => by rw [upd_ne (hx b n)]; exact n, fun b u q _ => ?_,
    fun b xs q => by rw [upd_ne (hm b _ q fun z => z)]; exact q, fun b u xs q => by rw [upd_ne (hm b _ q fun z => z)]; exact q, fun b ps q => ⟨#[], by rw [upd_ne (hm b _ q fun z => z), q]; simp⟩⟩
  by_cases hbe : b = e
  · subst hbe; exact heo
  · exact ⟨u, k b u hbe q⟩
theorem Un.mono (u : Un fs ex H H1 h h1) (hs : ∀ b ∈ fs, b ∈ fs') (hx : ∀ b ∈ ex, b ∈ ex') : Un fs' ex' H H1 h h1 :=
  ⟨fun b ob q n hb he => u.keep b ob q n (fun z => hb (hs b z)) fun z => he (hx b z), fun _ _ q n _ he => u.any q n fun z => he (hx _ z), fun b ob q n he => u.free b ob q n fun z => he (hx b z), fun b ob q he => u.there b ob q fun z => he (hx b z), u.tups, u.frzs, u.tbls⟩
end

/-! ### the heap without what is tracked -/
def trk (h : Heap) (H : Hp) : List Addr := (List.range h.objs.size).filter fun a => (H a).isSome
def hidT (h : Heap) (H : Hp) : Heap := PySem.W.hideAll h (trk h H)
theorem hidT_size (h : Heap) (H : Hp) : (hidT h H).objs.size = h.objs.size := PySem.W.hideAll_size _ _
theorem hidT_get {h : Heap} {H : Hp} {b : Addr} {o : Obj} (e : h.get? b = some o) (n : H b = none) : (hidT h H).get? b = some o :=
  PySem.W.hideAll_get _ e fun hm => by
    have q : (H b).isSome = true := (List.mem_filter.mp hm).2
    rw [n] at q; simp at q
theorem of_hidT {h : Heap} {H : Hp} {b : Addr} {o : Obj} (e : (hidT h H).get? b = some o) : h.get? b = some o ∧ H b = none := by
  have e' : h.get? b = some o := PySem.W.of_hideAll (trk h H) e
  refine ⟨e', ?_⟩
  cases q : H b with
  | none => rfl
  | some x =>
    have hm : b ∈ trk h H := List.mem_filter.mpr ⟨List.mem_range.mpr (Heap.lt_size e'), by simp [q]⟩
    have z : (hidT h H).get? b = none := PySem.W.hideAll_none (trk h H) hm
    rw [z] at e; cases e

/-! ### OpenK's ledger, filled with every new object but one -/
def allNews (g h : Heap) (L : Addr) : List (Addr × Obj) := (List.range h.objs.size).filterMap fun a => if a = L ∨ (g.get? a).isSome = true then none else (h.get? a).map fun o => (a, o)
def rest (g h : Heap) (L d : Addr) : List (Addr × Obj) := (allNews g h L).filter fun p => decide (p.1 ≠ d)
end L2

namespace L2
open PySem PySem.Spec PyProof.Rows

/-- the module's facts, over the base: the heap at the law's entry without what is tracked there -/
structure Mod (K : PySem.W.Frag) (mg : Str → Option Value) (base : Heap) : Prop where
  kin : K.In base
  glob : base.Ns mainGlobals mg
  blt : ∃ mb, base.Ns builtinsNs mb ∧ ∀ x : Str, x ≠ "__name__" → mb x = bootBuiltins x
  nolimit : base.NoLimit

/-- the context: a def's body (or a comprehension's block) running. base: fixed through the whole law; s₀, H₀: the entry; outer: the frames whose slots others may change (a def's callers); stack: all frames that run;
   ex: iterators that were made ahead of the entry and are walked here (a comprehension's); fn: the names whose cells were made at the entry (a def: all; a comprehension's block: its own); calm: not within an except suite; pn: pins that every state bears; xe: what is wanted of an exception that leaves the code -/
structure Cx where
  prog : Program
  w : World
  K : PySem.W.Frag
  mg : Str → Option Value
  base : Heap
  A : Around
  N : List Str
  s₀ : Shared
  H₀ : Hp
  env : Env
  outer : List Env
  stack : List Env
  ex : List Addr
  fn : Str → Bool
  calm : Bool
  pn : List (Addr × Obj)
  xe : Value → Shared → Prop
/-- the callers' frames -/
def frs (l : List Env) : List Addr := l.filterMap (·.frame)
abbrev Cx.fs (X : Cx) : List Addr := frs X.outer

def Vis (sc : Scope) (x : Str) : Prop := sc.names.lookup x = some .local ∨ sc.names.lookup x = some .cell ∨ sc.names.lookup x = some .free
def Loc (sc : Scope) (x : Str) : Prop := sc.names.lookup x = some .local ∨ sc.names.lookup x = some .cell
def Look (env : Env) (h : Heap) (m : Str → Option Value) (x : Str) (u : Value) : Prop :=
  (env.kindOf x = some .local ∧ m x = some u) ∨ ((env.kindOf x = some .cell ∨ env.kindOf x = some .free) ∧ ∃ c, env.cells.lookup x = some c ∧ h.IsCell c (some u))

structure Cx.Ok (X : Cx) : Prop where
  mod : Mod X.K X.mg X.base
  kind : X.env.scope.kind = .function
  glob : X.env.globals = mainGlobals
  blt : X.env.builtins = builtinsNs
  above : X.s₀.heap.objs.size ≤ X.env.locals
  inj : ∀ x y c, X.env.cells.lookup x = some c → X.env.cells.lookup y = some c → x = y
  has : ∀ x, (X.env.kindOf x = some .cell ∨ X.env.kindOf x = some .free) → ∃ c, X.env.cells.lookup x = some c
  cab : ∀ x c, X.fn x = true → X.env.cells.lookup x = some c → X.s₀.heap.objs.size ≤ c
  hd : X.calm = true → X.A.handled = none
  frames : X.A.frames = some X.stack
  stk : X.stack = X.outer ∨ (X.stack = X.env :: X.outer ∧ X.env.frame = some X.env.locals)
  exf : ∀ b ∈ X.ex, b ≠ X.env.locals ∧ ∀ x c, X.env.cells.lookup x = some c → c ≠ b
  bs : ∀ b o, X.base.get? b = some o → X.s₀.heap.get? b = some o ∧ X.H₀ b = none
  bsz : X.base.objs.size ≤ X.s₀.heap.objs.size
  noex : ∀ b o, X.base.get? b = some o → b ∉ X.ex
  exfs : ∀ b ∈ X.ex, b ∉ X.fs
  funs : X.s₀.heap.FunFrames X.base X.outer
  frf : ∀ b ∈ X.fs, X.H₀ b = none

structure Inv (X : Cx) (pins : List (Addr × Obj)) (σ : List (Option V)) (H : Hp) (s : Shared) : Prop where
  ok : X.Ok
  os : s.os = X.s₀.os
  bare : AllBare s.gens
  base : Un X.fs X.ex X.H₀ H X.s₀.heap s.heap
  loc : ∃ m, s.heap.Ns X.env.locals m ∧ ∀ (i : Nat) (x : Str) (v : V), X.N[i]? = some x → σ[i]? = some (some v) → Vis X.env.scope x → ∃ u, RelV v u ∧ Look X.env s.heap m x u
  cell : ∀ x c, X.env.cells.lookup x = some c → ∃ v, s.heap.IsCell c v
  free : H X.env.locals = none
  freeC : ∀ x c, X.env.cells.lookup x = some c → H c = none
  pin : ∀ p ∈ X.pn ++ pins, s.heap.get? p.1 = some p.2 ∧ H p.1 = none ∧ p.1 ≠ X.env.locals ∧ p.1 ∉ X.fs ∧ ∀ v, p.2.data ≠ .cell v
  hok : HOk X.prog X.w H s.heap
  len : σ.length = X.N.length

section
variable {X : Cx} {pins : List (Addr × Obj)} {σ : List (Option V)} {H H' : Hp} {s : Shared} {h' : Heap}

theorem Cx.Ok.nofr (ok : X.Ok) {b : Addr} {o : Obj} (e : X.base.get? b = some o) : b ∉ X.fs := fun hb => by
  have := (ok.funs.mem hb).1
  rw [e] at this; cases this
theorem Inv.bs (I : Inv X pins σ H s) : ∀ b o, X.base.get? b = some o → s.heap.get? b = some o ∧ H b = none := fun b o e =>
  ⟨I.base.keep b o (I.ok.bs b o e).1 (I.ok.bs b o e).2 (I.ok.nofr e) (I.ok.noex b o e), I.base.free b o (I.ok.bs b o e).1 (I.ok.bs b o e).2 (I.ok.noex b o e)⟩
theorem Inv.bk (I : Inv X pins σ H s) : ∀ b o, X.base.get? b = some o → s.heap.get? b = some o := fun b o e => (I.bs b o e).1
theorem Inv.mod (I : Inv X pins σ H s) : Mod X.K X.mg X.base := I.ok.mod
theorem Inv.kIn (I : Inv X pins σ H s) : X.K.In s.heap := I.ok.mod.kin.keeps I.bk
theorem Inv.nolimit (I : Inv X pins σ H s) : s.heap.NoLimit := I.ok.mod.nolimit.keeps I.bk
/-- the frame over the base: for OpenK's rules (K.In X.base is I.mod.kin) -/
theorem Inv.fr (I : Inv X pins σ H s) : ∃ m, Fr X.base X.env.locals s.heap m :=
  let ⟨m, hn, _⟩ := I.loc
  ⟨m, hn, I.bk, Nat.le_trans I.ok.bsz I.ok.above⟩
theorem Inv.lt (I : Inv X pins σ H s) : X.env.locals < s.heap.objs.size := let ⟨_, hn, _⟩ := I.loc; hn.lt
theorem Inv.sz (I : Inv X pins σ H s) : X.s₀.heap.objs.size ≤ s.heap.objs.size := Nat.le_trans I.ok.above (Nat.le_of_lt I.lt)
theorem Inv.nofs (I : Inv X pins σ H s) {a : Addr} (h : s.heap.objs.size ≤ a) : a ∉ X.fs := fun hb => by
  obtain ⟨_, o, ho, _⟩ := I.ok.funs.mem hb
  exact absurd (Nat.lt_of_lt_of_le (Heap.lt_size ho) (Nat.le_trans I.sz h)) (Nat.lt_irrefl _)
theorem Inv.cne (I : Inv X pins σ H s) : ∀ x c, X.env.cells.lookup x = some c → c ≠ X.env.locals := fun x c e z => by
  obtain ⟨v, o, ho, hd⟩ := I.cell x c e
  obtain ⟨m, ⟨o', es, ep, ho', hd', _⟩, _⟩ := I.loc
  rw [z, ho'] at ho; cases ho; rw [hd'] at hd; cases hd
theorem Inv.funs (I : Inv X pins σ H s) : s.heap.FunFrames X.base X.outer := by
  have all : ∀ (l : List Env), (∀ b ∈ frs l, b ∈ X.fs) → X.s₀.heap.FunFrames X.base l → s.heap.FunFrames X.base l := by
    intro l
    induction l with
    | nil => intro _ _; trivial
    | cons env r ih =>
      intro hs hl
      obtain ⟨hk, ⟨L, o, hf, hn, ho, hd⟩, hr⟩ := hl
      have hL : L ∈ X.fs := hs L (by unfold frs; rw [List.filterMap_cons, hf]; exact List.mem_cons_self)
      obtain ⟨sl, e⟩ := I.base.slot L o ho (I.ok.frf L hL) hL fun z => I.ok.exfs L z hL
      exact ⟨hk, ⟨L, _, hf, hn, e, hd⟩, ih (fun b hb => hs b (by unfold frs; rw [List.filterMap_cons, hf]; exact List.mem_cons_of_mem _ hb)) hr⟩
  exact all X.outer (fun _ hb => hb) I.ok.funs

/-- the frames that run, for a call -/
theorem Inv.stack (I : Inv X pins σ H s) : s.heap.FunFrames X.base X.stack := by
  rcases I.ok.stk with e | ⟨e, hf⟩
  · rw [e]; exact I.funs
  · rw [e]
    obtain ⟨m, hn, _⟩ := I.loc
    refine .cons (by rw [I.ok.kind]; decide) hf hn ?_ I.funs
    exact Heap.get?_none_of_le (Nat.le_trans I.ok.bsz I.ok.above)
theorem Inv.stkSub (I : Inv X pins σ H s) : ∀ b ∈ frs X.stack, b ∈ X.env.locals :: X.fs := fun b hb => by
  rcases I.ok.stk with e | ⟨e, hf⟩
  · rw [e] at hb; exact List.mem_cons_of_mem _ hb
  · rw [e] at hb
    unfold frs at hb
    rw [List.filterMap_cons, hf] at hb
    exact hb
theorem Inv.stkFree (I : Inv X pins σ H s) : ∀ b ∈ frs X.stack, H b = none := fun b hb => by
  rcases List.mem_cons.mp (I.stkSub b hb) with e | hb
  · rw [e]; exact I.free
  · obtain ⟨_, o, ho, _⟩ := I.ok.funs.mem hb
    exact I.base.free b o ho (I.ok.frf b hb) fun z => I.ok.exfs b z hb

/-- THE STEP: the untracked objects but the frame and the records at ch are kept (the callers' frames up to slots), the frame's map is kept, the new abstract heap is held -/
theorem Inv.step {g' : Array GenState} {t' : Nat} {d' : Drawn} {ch : List Addr} (I : Inv X pins σ H s)
    (hch : ∀ b ∈ ch, (b ∈ X.ex ∨ X.s₀.heap.objs.size ≤ b) ∧ b ≠ X.env.locals ∧ (∀ x c, X.env.cells.lookup x = some c → c ≠ b) ∧ ∀ p ∈ X.pn ++ pins, p.1 ≠ b)
    (keep : ∀ b o, b ≠ X.env.locals → b ∉ X.fs → b ∉ ch → s.heap.get? b = some o → H b = none → h'.get? b = some o)
    (slot : ∀ b o, b ≠ X.env.locals → b ∈ X.fs → b ∉ ch → s.heap.get? b = some o → H b = none → ∃ sl, h'.get? b = some { o with slots := sl }) (free : ∀ b o, b ∉ ch → s.heap.get? b = some o → H b = none → H' b = none)
    (there : ∀ b o, b ∉ ch → s.heap.get? b = some o → ∃ o', h'.get? b = some o')
    (tups : ∀ b xs, H b = some (.tup xs) → H' b = some (.tup xs)) (frzs : ∀ b o u, H b = some (.frz o u) → H' b = some (.frz o u)) (tbls : ∀ b ps, H b = some (.tbl ps) → ∃ more, H' b = some (.tbl (ps ++ more)))
    (ns : ∀ m, s.heap.Ns X.env.locals m → h'.Ns X.env.locals m) (hok : HOk X.prog X.w H' h') (hg : AllBare g') :
    Inv X pins σ H' { s with heap := h', gens := g', drawn := d', toks := t' } := by
  have neL : ∀ b o, X.s₀.heap.get? b = some o → b ≠ X.env.locals := fun b o e => Nat.ne_of_lt (Nat.lt_of_lt_of_le (Heap.lt_size e) I.ok.above)
  have neC : ∀ b o, X.s₀.heap.get? b = some o → b ∉ X.ex → b ∉ ch := fun b o e hx hb => by
    rcases (hch b hb).1 with z | z
    · exact hx z
    · exact absurd (Nat.lt_of_lt_of_le (Heap.lt_size e) z) (Nat.lt_irrefl _)
  have cellK : ∀ x c, X.env.cells.lookup x = some c → ∀ v, s.heap.IsCell c v → h'.IsCell c v := fun x c e v ⟨o, ho, hd⟩ => by
    have nch : c ∉ ch := fun z => (hch c z).2.2.1 x c e rfl
    by_cases hc : c ∈ X.fs
    · obtain ⟨sl, q⟩ := slot c o (I.cne x c e) hc nch ho (I.freeC x c e)
      exact ⟨_, q, hd⟩
    · exact ⟨o, keep c o (I.cne x c e) hc nch ho (I.freeC x c e), hd⟩
  refine ⟨I.ok, I.os, hg, ⟨fun b o e n hb hx => ?_, fun b o e n hb hx => ?_, fun b o e n hx => ?_, fun b o e hx => ?_, fun b xs e => tups b xs (I.base.tups b xs e), fun b o xs e => frzs b o xs (I.base.frzs b o xs e), fun b ps e => ?_⟩, ?_, fun x c e => ?_, ?_, fun x c e => ?_, fun p hp => ?_, hok, I.len⟩
  · exact keep b o (neL b o e) hb (neC b o e hx) (I.base.keep b o e n hb hx) (I.base.free b o e n hx)
  · obtain ⟨sl, e1⟩ := I.base.slot b o e n hb hx
    obtain ⟨sl', e2⟩ := slot b _ (neL b o e) hb (neC b o e hx) e1 (I.base.free b o e n hx)
    exact ⟨sl', e2⟩
  · obtain ⟨o', e1⟩ := I.base.there b o e hx
    exact free b o' (neC b o e hx) e1 (I.base.free b o e n hx)
  · obtain ⟨o', e1⟩ := I.base.there b o e hx
    exact there b o' (neC b o e hx) e1
  · obtain ⟨m1, e1⟩ := I.base.tbls b ps e
    obtain ⟨m2, e2⟩ := tbls b _ e1
    exact ⟨m1 ++ m2, by rw [e2, Array.append_assoc]⟩
  · obtain ⟨m, hn, hl⟩ := I.loc
    refine ⟨m, ns m hn, fun i x v e1 e2 e3 => ?_⟩
    obtain ⟨u, r, l⟩ := hl i x v e1 e2 e3
    refine ⟨u, r, ?_⟩
    rcases l with l | ⟨k, c, e, z⟩
    · exact .inl l
    · exact .inr ⟨k, c, e, cellK x c e _ z⟩
  · obtain ⟨v, z⟩ := I.cell x c e
    exact ⟨v, cellK x c e v z⟩
  · obtain ⟨m, ⟨o, _, _, ho, _⟩, _⟩ := I.loc
    exact free _ o (fun z => (hch _ z).2.1 rfl) ho I.free
  · obtain ⟨v, o, ho, hd⟩ := I.cell x c e
    exact free c o (fun z => (hch c z).2.2.1 x c e rfl) ho (I.freeC x c e)
  · obtain ⟨e, n, ne, nf, d⟩ := I.pin p hp
    have nch : p.1 ∉ ch := fun z => (hch p.1 z).2.2.2 p hp rfl
    exact ⟨keep p.1 p.2 ne nf nch e n, free p.1 p.2 nch e n, ne, nf, d⟩
/-- .. where the frame's own object is kept too -/
theorem Inv.un {t' : Nat} (I : Inv X pins σ H s) (u : Un X.fs [] H H' s.heap h') (hok : HOk X.prog X.w H' h') : Inv X pins σ H' { s with heap := h', toks := t' } := by
  obtain ⟨m, ⟨o, es, ep, ho, r⟩, _⟩ := id I.loc
  obtain ⟨sl, hL⟩ := u.any ho I.free (by simp)
  exact I.step (g' := s.gens) (d' := s.drawn) (ch := []) (fun _ z => nomatch z) (fun b o _ hb _ e n => u.keep b o e n hb (by simp)) (fun b o _ hb _ e n => u.slot b o e n hb (by simp)) (fun b o _ e n => u.free b o e n (by simp)) (fun b o _ e => u.there b o e (by simp)) u.tups u.frzs u.tbls (fun m' hm => by
    obtain ⟨o', es', ep', ho', r'⟩ := hm
    rw [ho] at ho'; cases ho'
    exact ⟨_, es', ep', hL, r'⟩) hok I.bare
/-- behind a call (or a comprehension's block): the slots of this frame may have changed too, the records at ch may have turned -/
theorem Inv.call {g' : Array GenState} {t' : Nat} {d' : Drawn} {ch : List Addr} (I : Inv X pins σ H s) (u : Un (frs X.stack) ch H H' s.heap h') (hok : HOk X.prog X.w H' h') (hg : AllBare g')
    (hch : ∀ b ∈ ch, (b ∈ X.ex ∨ X.s₀.heap.objs.size ≤ b) ∧ b ≠ X.env.locals ∧ (∀ x c, X.env.cells.lookup x = some c → c ≠ b) ∧ ∀ p ∈ X.pn ++ pins, p.1 ≠ b) :
    Inv X pins σ H' { s with heap := h', gens := g', drawn := d', toks := t' } := by
  obtain ⟨m, ⟨o, es, ep, ho, r⟩, _⟩ := id I.loc
  obtain ⟨sl, hL⟩ := u.any ho I.free fun z => (hch _ z).2.1 rfl
  exact I.step (ch := ch) hch (fun b o hL hb hc e n => u.keep b o e n (fun z => (List.mem_cons.mp (I.stkSub b z)).elim hL hb) hc) (fun b o _ _ hc e n => u.any e n hc) (fun b o hc e n => u.free b o e n hc) (fun b o hc e => u.there b o e hc) u.tups u.frzs u.tbls (fun m' hm => by
    obtain ⟨o', es', ep', ho', r'⟩ := hm
    rw [ho] at ho'; cases ho'
    exact ⟨_, es', ep', hL, r'⟩) hok hg
/-- an untracked record of ours (an iterator) has turned -/
theorem Inv.turned {t' : Nat} {it : Addr} (I : Inv X pins σ H s) (k : ∀ b o, b ≠ it → s.heap.get? b = some o → h'.get? b = some o) (hn : H it = none) (hL : it ≠ X.env.locals)
    (h1 : it ∈ X.ex ∨ X.s₀.heap.objs.size ≤ it) (h2 : ∀ x c, X.env.cells.lookup x = some c → c ≠ it) (h3 : ∀ p ∈ X.pn ++ pins, p.1 ≠ it) : Inv X pins σ H { s with heap := h', toks := t' } := by
  have nit : ∀ b u, H b = some u → b ≠ it := fun b u e z => by rw [z, hn] at e; cases e
  refine I.step (g' := s.gens) (d' := s.drawn) (ch := [it]) (fun b hb => ?_) (fun b o _ _ hc e _ => k b o (fun z => hc (by simp [z])) e) (fun b o _ _ hc e _ => ⟨o.slots, k b o (fun z => hc (by simp [z])) e⟩) (fun _ _ _ _ n => n)
    (fun b o hc e => ⟨o, k b o (fun z => hc (by simp [z])) e⟩) (fun _ _ e => e) (fun _ _ _ e => e) (fun b ps e => ⟨#[], by rw [e]; simp⟩) (fun m hm => ?_) (fun b u e => ?_) I.bare
  · have e : b = it := by simpa using hb
    subst e
    exact ⟨h1, hL, h2, h3⟩
  · obtain ⟨o, es, ep, ho, r⟩ := hm
    exact ⟨o, es, ep, k _ o (Ne.symm hL) ho, r⟩
  · refine (I.hok b u e).stay (fun c v hc q => k c v ?_ q) (fun _ q => q) fun _ _ q => q
    rcases hc with z | z
    · rw [z]; exact nit b u e
    · exact nit c _ z
theorem Inv.tok (I : Inv X pins σ H s) (t : Nat) : Inv X pins σ H { s with toks := t } := I.un (h' := s.heap) (t' := t) Un.refl I.hok
/-- all objects kept -/
theorem Inv.kept {t' : Nat} (I : Inv X pins σ H s) (k : ∀ b u, s.heap.get? b = some u → h'.get? b = some u) : Inv X pins σ H { s with heap := h', toks := t' } := I.un (Un.kept k) (I.hok.kept k)
/-- a new object laid and tracked -/
theorem Inv.laid {a : Addr} {o : HO} {t' : Nat} (I : Inv X pins σ H s) (k : ∀ b u, s.heap.get? b = some u → h'.get? b = some u) (hp : s.heap.objs.size ≤ a) (new : ObjOk X.prog X.w (upd H a o) h' a o) :
    Inv X pins σ (upd H a o) { s with heap := h', toks := t' } := I.un (Un.laid k hp (I.hok.fresh hp)) (I.hok.laid k hp new)
/-- an object written -/
theorem Inv.write {x e : Addr} {o : HO} {t' : Nat} (I : Inv X pins σ H s) (mu : Mut (H x)) (he : e = x ∨ H e = some (.own x)) (k : ∀ b u, b ≠ e → s.heap.get? b = some u → h'.get? b = some u) (heo : ∃ u, h'.get? e = some u)
    (new : ObjOk X.prog X.w (upd H x o) h' x o) : Inv X pins σ (upd H x o) { s with heap := h', toks := t' } := I.un (Un.write mu he k heo) (I.hok.write mu he k heo new)
theorem Inv.pins_of {pins' : List (Addr × Obj)} (I : Inv X pins σ H s) (h : ∀ p ∈ pins', s.heap.get? p.1 = some p.2 ∧ H p.1 = none ∧ p.1 ≠ X.env.locals ∧ p.1 ∉ X.fs ∧ ∀ v, p.2.data ≠ .cell v) : Inv X pins' σ H s :=
  ⟨I.ok, I.os, I.bare, I.base, I.loc, I.cell, I.free, I.freeC, fun p hp => (List.mem_append.mp hp).elim (fun z => I.pin p (List.mem_append_left _ z)) (h p), I.hok, I.len⟩

theorem nodup_ix {N : List Str} (hN : N.Nodup) {i j : Nat} {x : Str} (a : N[i]? = some x) (b : N[j]? = some x) : i = j := by
  obtain ⟨h1, e1⟩ := List.getElem?_eq_some_iff.mp a
  obtain ⟨h2, e2⟩ := List.getElem?_eq_some_iff.mp b
  exact (List.getElem_inj hN).mp (e1.trans e2.symm)

/-- a name is stored; what changed -/
theorem store_ok2 {M : Model} {A : Around} {E : Value → Shared → Prop} {i : Nat} {x : Str} {v : V} {u : Value} {Q : Unit → Shared → Prop} (I : Inv X pins σ H s) (hN : X.N.Nodup) (hi : X.N[i]? = some x) (hx : Loc X.env.scope x) (r : RelV v u)
    (h : ∀ s', Inv X pins (σ.set i (some v)) H s' → (∃ a, Heap.SameBut a s.heap s'.heap ∧ (a = X.env.locals ∨ X.env.cells.lookup x = some a)) → Q () s') (hf : X.fn x = true ∨ X.env.scope.names.lookup x = some .local := by first | exact .inl rfl | exact .inr rfl | assumption) : wpAny M A (storeName X.env x u) Q E s := by
  obtain ⟨m, hn, hl⟩ := id I.loc
  have hcls : (X.env.scope.kind == .class || (X.env.scope.kind == .module && X.env.locals != X.env.globals)) = false := by rw [I.ok.kind]; rfl
  have hiσ : i < σ.length := by rw [I.len]; exact (List.getElem?_eq_some_iff.mp hi).1
  have cne := I.cne
  have tracked : ∀ {a : Addr} {h' : Heap}, (∃ o, s.heap.get? a = some o ∧ H a = none) → Heap.SameBut a s.heap h' → HOk X.prog X.w H h' := fun {a h'} ha hs b ob e => by
    obtain ⟨_, _, hfree⟩ := ha
    refine (I.hok b ob e).stay (fun c w' hc q => (hs.2 c ?_).trans q) (fun _ q => q) fun _ _ q => q
    rintro rfl
    rcases hc with rfl | hc
    · rw [hfree] at e; cases e
    · rw [hfree] at hc; cases hc
  rcases hx with hk | hk
  · refine wpAny_storeName_local hk hn (fun h' hn' hs => ?_) hcls
    obtain ⟨oL, _, _, hoL, _⟩ := id hn
    refine h _ ⟨I.ok, I.os, I.bare, ⟨fun b o e n hb hx => ?_, fun b o e n hb hx => ?_, I.base.free, fun b o e hx => ?_, I.base.tups, I.base.frzs, I.base.tbls⟩, ⟨_, hn', fun j y v' e1 e2 e3 => ?_⟩, fun y c e => ?_, I.free, I.freeC, fun p hp => ?_, tracked ⟨oL, hoL, I.free⟩ hs, by simpa using I.len⟩ ⟨_, hs, .inl rfl⟩
    · exact (hs.2 b (Nat.ne_of_lt (Nat.lt_of_lt_of_le (Heap.lt_size e) I.ok.above))).trans (I.base.keep b o e n hb hx)
    · obtain ⟨sl, e1⟩ := I.base.slot b o e n hb hx
      exact ⟨sl, (hs.2 b (Nat.ne_of_lt (Nat.lt_of_lt_of_le (Heap.lt_size e) I.ok.above))).trans e1⟩
    · obtain ⟨o', e1⟩ := I.base.there b o e hx
      exact ⟨o', (hs.2 b (Nat.ne_of_lt (Nat.lt_of_lt_of_le (Heap.lt_size e) I.ok.above))).trans e1⟩
    · by_cases hj : j = i
      · subst hj
        rw [hi] at e1; cases e1
        rw [List.getElem?_set_self hiσ] at e2
        cases e2
        exact ⟨u, r, .inl ⟨hk, by simp⟩⟩
      · rw [List.getElem?_set_ne (Ne.symm hj)] at e2
        obtain ⟨u', r', q⟩ := hl j y v' e1 e2 e3
        refine ⟨u', r', ?_⟩
        rcases q with ⟨k, e⟩ | ⟨k, c, e, z⟩
        · refine .inl ⟨k, ?_⟩
          have : y ≠ x := fun e => hj (nodup_ix hN e1 (e ▸ hi))
          simp [this, e]
        · exact .inr ⟨k, c, e, z.sameBut hs (cne y c e)⟩
    · obtain ⟨w', z⟩ := I.cell y c e
      exact ⟨w', z.sameBut hs (cne y c e)⟩
    · obtain ⟨e, n, ne, nf, d⟩ := I.pin p hp
      exact ⟨(hs.2 p.1 ne).trans e, n, ne, nf, d⟩
  · have hfn : X.fn x = true := by
      rcases hf with z | z
      · exact z
      · rw [z] at hk; cases hk
    obtain ⟨c, hc⟩ := I.ok.has x (.inl hk)
    obtain ⟨w', z⟩ := I.cell x c hc
    refine wpAny_storeName_cell I.ok.kind hk hc z (fun h' hc' hs => ?_)
    obtain ⟨oc, hoc, hocd⟩ := id z
    refine h { s with heap := h' } ⟨I.ok, I.os, I.bare, ⟨fun b o e n hb hx => ?_, fun b o e n hb hx => ?_, I.base.free, fun b o e hx => ?_, I.base.tups, I.base.frzs, I.base.tbls⟩, ⟨m, hn.sameBut hs (Ne.symm (cne x c hc)), fun j y v' e1 e2 e3 => ?_⟩, fun y c' e => ?_, I.free, I.freeC, fun p hp => ?_, tracked ⟨oc, hoc, I.freeC x c hc⟩ hs, by simpa using I.len⟩ ⟨c, hs, .inr hc⟩
    · exact (hs.2 b (Nat.ne_of_lt (Nat.lt_of_lt_of_le (Heap.lt_size e) (I.ok.cab x c hfn hc)))).trans (I.base.keep b o e n hb hx)
    · obtain ⟨sl, e1⟩ := I.base.slot b o e n hb hx
      exact ⟨sl, (hs.2 b (Nat.ne_of_lt (Nat.lt_of_lt_of_le (Heap.lt_size e) (I.ok.cab x c hfn hc)))).trans e1⟩
    · obtain ⟨o', e1⟩ := I.base.there b o e hx
      exact ⟨o', (hs.2 b (Nat.ne_of_lt (Nat.lt_of_lt_of_le (Heap.lt_size e) (I.ok.cab x c hfn hc)))).trans e1⟩
    · by_cases hj : j = i
      · subst hj
        rw [hi] at e1; cases e1
        rw [List.getElem?_set_self hiσ] at e2
        cases e2
        exact ⟨u, r, .inr ⟨.inl hk, c, hc, hc'⟩⟩
      · rw [List.getElem?_set_ne (Ne.symm hj)] at e2
        obtain ⟨u', r', q⟩ := hl j y v' e1 e2 e3
        refine ⟨u', r', ?_⟩
        rcases q with q | ⟨k, c', e, z'⟩
        · exact .inl q
        · refine .inr ⟨k, c', e, z'.sameBut hs ?_⟩
          rintro rfl
          exact hj (nodup_ix hN e1 (I.ok.inj _ _ _ e hc ▸ hi))
    · by_cases hcc : c' = c
      · subst hcc; exact ⟨_, hc'⟩
      · obtain ⟨w2, z2⟩ := I.cell y c' e
        exact ⟨w2, z2.sameBut hs hcc⟩
    · obtain ⟨e, n, ne, nf, d⟩ := I.pin p hp
      refine ⟨(hs.2 p.1 ?_).trans e, n, ne, nf, d⟩
      intro q
      rw [q, hoc] at e
      have q' : oc = p.2 := Option.some.inj e
      exact d w' (by rw [← q']; exact hocd)
theorem store_ok {M : Model} {A : Around} {E : Value → Shared → Prop} {i : Nat} {x : Str} {v : V} {u : Value} {Q : Unit → Shared → Prop} (I : Inv X pins σ H s) (hN : X.N.Nodup) (hi : X.N[i]? = some x) (hx : Loc X.env.scope x) (r : RelV v u)
    (h : ∀ s', Inv X pins (σ.set i (some v)) H s' → Q () s') (hf : X.fn x = true ∨ X.env.scope.names.lookup x = some .local := by first | exact .inl rfl | exact .inr rfl | assumption) : wpAny M A (storeName X.env x u) Q E s :=
  store_ok2 I hN hi hx r (fun s' I' _ => h s' I') hf
/-- behind a call or a block, the state as it is -/
theorem Inv.call' {s' : Shared} {ch : List Addr} (I : Inv X pins σ H s) (ho : s'.os = s.os) (u : Un (frs X.stack) ch H H' s.heap s'.heap) (hok : HOk X.prog X.w H' s'.heap) (hg : AllBare s'.gens)
    (hch : ∀ b ∈ ch, (b ∈ X.ex ∨ X.s₀.heap.objs.size ≤ b) ∧ b ≠ X.env.locals ∧ (∀ x c, X.env.cells.lookup x = some c → c ≠ b) ∧ ∀ p ∈ X.pn ++ pins, p.1 ≠ b) : Inv X pins σ H' s' := by
  obtain ⟨h', g', d', t', o'⟩ := s'
  have e : o' = s.os := ho
  subst e
  exact I.call (g' := g') (t' := t') (d' := d') u hok hg hch
end

/-! ### the judgements -/
/-- an exception: its class, its own dict's address (where it has one), the abstract heap behind it -/
abbrev XK := Value → Option Addr → Hp → Prop
abbrev St := List (Option V)
abbrev VK := V → Hp → Prop
/-- an expression's reading; a test's; an argument list's -/
abbrev TE := St → Hp → VK → Prop
abbrev TT := St → Hp → (Bool → Hp → Prop) → Prop
abbrev TA := St → Hp → (List V → Hp → Prop) → Prop
/-- what is wanted behind a statement -/
structure Ends where
  nx : St → Hp → Prop
  rt : VK
  bk : St → Hp → Prop := fun _ _ => False
  ct : St → Hp → Prop := fun _ _ => False
abbrev TS := Ends → St → Hp → Prop

def EP (X : Cx) (pins : List (Addr × Obj)) (σ : St) (Q : VK) (u : Value) (s' : Shared) : Prop := ∃ v H', Inv X pins σ H' s' ∧ RelV v u ∧ Q v H'
def TP (X : Cx) (pins : List (Addr × Obj)) (σ : St) (Q : Bool → Hp → Prop) (b : Bool) (s' : Shared) : Prop := ∃ H', Inv X pins σ H' s' ∧ Q b H'
def AP (X : Cx) (pins : List (Addr × Obj)) (σ : St) (Q : List V → Hp → Prop) (us : List Value) (s' : Shared) : Prop := ∃ vs H', Inv X pins σ H' s' ∧ Vals vs us ∧ Q vs H'
def SP (X : Cx) (pins : List (Addr × Obj)) (D : Ends) (f : Flow) (s' : Shared) : Prop :=
  match f with
  | .next => ∃ σ' H', Inv X pins σ' H' s' ∧ D.nx σ' H'
  | .brk => ∃ σ' H', Inv X pins σ' H' s' ∧ D.bk σ' H'
  | .cont => ∃ σ' H', Inv X pins σ' H' s' ∧ D.ct σ' H'
  | .ret u => ∃ v σ' H', Inv X pins σ' H' s' ∧ RelV v u ∧ D.rt v H'

def PE (X : Cx) (e : Expr) (t : TE) : Prop :=
  ∀ (pins : List (Addr × Obj)) (s : Shared) (σ : St) (H : Hp) (Q : VK), Inv X pins σ H s → t σ H Q → wpAny (model X.prog X.w) X.A (eval e X.env) (EP X pins σ Q) X.xe s
def PT (X : Cx) (e : Expr) (t : TT) : Prop :=
  ∀ (pins : List (Addr × Obj)) (s : Shared) (σ : St) (H : Hp) (Q : Bool → Hp → Prop), Inv X pins σ H s → t σ H Q → wpAny (model X.prog X.w) X.A (isTrue e X.env (eval e X.env)) (TP X pins σ Q) X.xe s
/-- a test whatever its 'whole' is (and, or) -/
def PW (X : Cx) (e : Expr) (t : TT) : Prop :=
  ∀ (whole : Sem Value) (pins : List (Addr × Obj)) (s : Shared) (σ : St) (H : Hp) (Q : Bool → Hp → Prop), Inv X pins σ H s → t σ H Q → wpAny (model X.prog X.w) X.A (isTrue e X.env whole) (TP X pins σ Q) X.xe s
theorem PW.pt {X : Cx} {e : Expr} {t : TT} (h : PW X e t) : PT X e t := h _
/-- an argument list (no star), from the left -/
def PA (X : Cx) (es : List Expr) (t : TA) : Prop :=
  ∀ (pos : Pos) (pins : List (Addr × Obj)) (s : Shared) (σ : St) (H : Hp) (Q : List V → Hp → Prop), Inv X pins σ H s → t σ H Q → wpAny (model X.prog X.w) X.A (spliced (backTo pos (starEach es X.env))) (AP X pins σ Q) X.xe s
def PS (X : Cx) (st : Stmt) (t : TS) : Prop :=
  ∀ (pins : List (Addr × Obj)) (s : Shared) (σ : St) (H : Hp) (D : Ends), Inv X pins σ H s → t D σ H → wpAny (model X.prog X.w) X.A (exec st X.env) (SP X pins D) X.xe s
def PSs (X : Cx) (st : List Stmt) (t : TS) : Prop :=
  ∀ (pins : List (Addr × Obj)) (s : Shared) (σ : St) (H : Hp) (D : Ends), Inv X pins σ H s → t D σ H → wpAny (model X.prog X.w) X.A (execs st X.env) (SP X pins D) X.xe s
/-- weaken the end -/
theorem thn {α : Type} {t : Sem α} {Q Q' : α → Shared → Prop} {M : Model} {A : Around} {E : Value → Shared → Prop} {s : Shared} (h : wpAny M A t Q E s) (hQ : ∀ a s, Q a s → Q' a s) : wpAny M A t Q' E s := wpAny_mono h hQ fun _ _ x => x
end L2

namespace L2
open PySem PySem.Spec PyProof.Rows
section
variable {X : Cx}

/-! ### names and constants -/
def tVar (i : Nat) : TE := fun σ H Q => ∃ v, σ[i]? = some (some v) ∧ Q v H
def tC (v : V) : TE := fun _ H Q => Q v H
theorem pe_var {i : Nat} {x : Str} {pos : Pos} (hN : X.N[i]? = some x) (hv : Vis X.env.scope x) (hd : (x == ("__debug__" : Str)) = false := by decide) (hcd : (x == ("__classdict__" : Str)) = false := by decide) : PE X (.Name x pos) (tVar i) := by
  intro pins s σ H Q I h
  obtain ⟨v, e, h⟩ := h
  obtain ⟨m, hn, hl⟩ := I.loc
  obtain ⟨u, r, l⟩ := hl i x v hN e hv
  have fin : EP X pins σ Q u s := ⟨v, H, I, r, h⟩
  rcases l with ⟨hk, hm⟩ | ⟨hk, c, hc, hcell⟩
  · exact wpAny_Name (wpAny_loadName_local I.ok.kind hk hn hm fin) hd
  · rcases hk with hk | hk
    · exact wpAny_Name (wpAny_loadName_cell I.ok.kind hk hc hcell fin) hd
    · exact wpAny_Name (wpAny_loadName_free I.ok.kind hk hc hcell fin hcd) hd
theorem pe_int {i j pos} : PE X (.Constant (.int i) j pos) (tC (.int i)) := fun _ _ _ H _ I h => wpAny_Constant_int ⟨.int i, H, I.tok _, ⟨_, rfl⟩, h⟩
theorem pe_bl {b j pos} : PE X (.Constant (.bool b) j pos) (tC (.bl b)) := fun _ _ _ H _ I h => Constant_bool ⟨.bl b, H, I, rfl, h⟩
theorem pe_str {x j pos} : PE X (.Constant (.str x) j pos) (tC (.str x)) := fun _ _ _ H _ I h => Calls.Constant_str ⟨.str x, H, I.tok _, ⟨_, rfl⟩, h⟩

/-- a global name of the def -/
def Gl (X : Cx) (x : Str) : Prop := X.env.kindOf x = some .globalImplicit
theorem ld_glob {E : Value → Shared → Prop} {pins : List (Addr × Obj)} {s : Shared} {σ : St} {H : Hp} {x : Str} {u : Value} {pos : Pos} {Q : Value → Shared → Prop} (I : Inv X pins σ H s) (hg : Gl X x) (hm : X.mg x = some u) (h : Q u s)
    (hd : (x == ("__debug__" : Str)) = false := by decide) : wpAny (model X.prog X.w) X.A (eval (.Name x pos) X.env) Q E s :=
  Calls.Name_function_global I.ok.kind hg (Calls.loadGlobal_global (by rw [I.ok.glob]; exact I.mod.glob.keeps I.bk) hm h) hd
theorem ld_blt {E : Value → Shared → Prop} {pins : List (Addr × Obj)} {s : Shared} {σ : St} {H : Hp} {x : Str} {u : Value} {pos : Pos} {Q : Value → Shared → Prop} (I : Inv X pins σ H s) (hg : Gl X x) (hm : X.mg x = none) (hv : bootBuiltins x = some u) (h : Q u s)
    (hn : x ≠ "__name__" := by decide) (hd : (x == ("__debug__" : Str)) = false := by decide) : wpAny (model X.prog X.w) X.A (eval (.Name x pos) X.env) Q E s := by
  obtain ⟨mb, h1, h2⟩ := I.mod.blt
  exact Calls.Name_function_global I.ok.kind hg (Calls.loadGlobal_builtin (by rw [I.ok.glob]; exact I.mod.glob.keeps I.bk) hm (by rw [I.ok.blt]; exact h1.keeps I.bk) ((h2 x hn).trans hv) h) hd
/-- a module's constant, a class, a function, as a value -/
theorem pe_glob {x : Str} {v : V} {u : Value} {pos : Pos} (hg : Gl X x) (hm : X.mg x = some u) (r : RelV v u) (hd : (x == ("__debug__" : Str)) = false := by decide) : PE X (.Name x pos) (tC v) :=
  fun _ _ _ H _ I h => ld_glob I hg hm ⟨v, H, I, r, h⟩ hd
theorem pe_bltn {x : Str} {v : V} {u : Value} {pos : Pos} (hg : Gl X x) (hm : X.mg x = none) (hv : bootBuiltins x = some u) (r : RelV v u) (hn : x ≠ "__name__" := by decide) (hd : (x == ("__debug__" : Str)) = false := by decide) : PE X (.Name x pos) (tC v) :=
  fun _ _ _ H _ I h => ld_blt I hg hm hv ⟨v, H, I, r, h⟩ hn hd

/-! ### arithmetic -/
/-- two ints -/
def t2I (ta tb : TE) (k : Int → Int → Hp → Prop) : St → Hp → Prop := fun σ H => ta σ H fun x H1 => tb σ H1 fun y H2 => ∃ i j, x = .int i ∧ y = .int j ∧ k i j H2
def tAdd (ta tb : TE) : TE := fun σ H Q => t2I ta tb (fun i j H2 => Q (.int (i + j)) H2) σ H
def tSub (ta tb : TE) : TE := fun σ H Q => t2I ta tb (fun i j H2 => Q (.int (i - j)) H2) σ H
/-- the left factor below 2^64 -/
def tMul (ta tb : TE) : TE := fun σ H Q => t2I ta tb (fun i j H2 => (-(2 ^ 64) < i ∧ i < 2 ^ 64) ∧ Q (.int (i * j)) H2) σ H
variable {a b : Expr} {ta tb : TE} {pos : Pos}
/-! ### comparisons -/
def PC (X : Cx) (op : CmpOp) (a b : Expr) (t : TE) : Prop :=
  ∀ (pins : List (Addr × Obj)) (s : Shared) (σ : St) (H : Hp) (Q : VK), Inv X pins σ H s → t σ H Q →
    wpAny (model X.prog X.w) X.A (eval a X.env) (fun v s₁ => wpAny (model X.prog X.w) X.A (eval b X.env) (fun u s₂ => wpAny (model X.prog X.w) X.A (compareOp op v u) (EP X pins σ Q) X.xe s₂) X.xe s₁) X.xe s
def tCmp (p : Int → Int → Bool) (ta tb : TE) : TE := fun σ H Q => t2I ta tb (fun i j H2 => Q (.bl (p i j)) H2) σ H
abbrev tLt : TE → TE → TE := tCmp fun i j => decide (i < j)
abbrev tLe : TE → TE → TE := tCmp fun i j => decide (i ≤ j)
abbrev tGt : TE → TE → TE := tCmp fun i j => decide (j < i)
abbrev tGe : TE → TE → TE := tCmp fun i j => decide (j ≤ i)
abbrev tEqI : TE → TE → TE := tCmp fun i j => decide (i = j)
abbrev tNeI : TE → TE → TE := tCmp fun i j => !decide (i = j)
/-- is None -/
def tIsN (ta : TE) : TE := fun σ H Q => ta σ H fun x H1 => Q (.bl (decide (x = .non))) H1
def tNotN (ta : TE) : TE := fun σ H Q => ta σ H fun x H1 => Q (.bl (!decide (x = .non))) H1
/-- a comparison as a value, as a test -/
def tB (t : TE) : TT := fun σ H Q => t σ H fun x H1 => ∃ c, x = .bl c ∧ Q c H1
/-- an expression whose value is a bool, as a test -/
theorem pt_val {e : Expr} {t : TE} (h : PE X e t) (he : ∀ whole, isTrue e X.env whole = (do let v ← whole; standAt e.pos; holding [v] (truthy v)) := by intro _; rfl) : PT X e (tB t) := by
  intro pins s σ H Q I hw
  refine isTrue_plain (thn (h pins s σ H _ I hw) fun v s1 ⟨x, H1, I1, r1, q1⟩ => ?_) (he _)
  obtain ⟨d, rfl, q⟩ := q1
  cases r1
  exact wpAny_truthy_bool ⟨H1, I1, q⟩

/-! ### and, or, not -/
variable {tA tB' : TT} {rest : List Expr}
def tAnd (t u : TT) : TT := fun σ H Q => t σ H fun c H1 => if c = true then u σ H1 Q else Q false H1
def tOr (t u : TT) : TT := fun σ H Q => t σ H fun c H1 => if c = true then Q true H1 else u σ H1 Q
def tNot (t : TT) : TT := fun σ H Q => t σ H fun c H1 => Q (!c) H1
theorem pw_and1 (ha : PT X a tA) : PW X (.BoolOp .And [a] pos) tA := by
  intro wh pins s σ H Q I h
  refine isTrue_and (thn (ha pins s σ H Q I h) fun c s1 e => ?_)
  cases c with
  | true => exact isTrue_and_nil e
  | false => exact e
theorem pw_or1 (ha : PT X a tA) : PW X (.BoolOp .Or [a] pos) tA := by
  intro wh pins s σ H Q I h
  refine isTrue_or (thn (ha pins s σ H Q I h) fun c s1 e => ?_)
  cases c with
  | false => exact isTrue_or_nil e
  | true => exact e
theorem pw_and (ha : PT X a tA) (hb : PW X (.BoolOp .And (b :: rest) pos) tB') : PW X (.BoolOp .And (a :: b :: rest) pos) (tAnd tA tB') := by
  intro wh pins s σ H Q I h
  refine isTrue_and (thn (ha pins s σ H _ I h) fun c s1 ⟨H1, I1, q1⟩ => ?_)
  cases c with
  | true => exact hb wh pins s1 σ H1 Q I1 q1
  | false => exact ⟨H1, I1, q1⟩
theorem pw_or (ha : PT X a tA) (hb : PW X (.BoolOp .Or (b :: rest) pos) tB') : PW X (.BoolOp .Or (a :: b :: rest) pos) (tOr tA tB') := by
  intro wh pins s σ H Q I h
  refine isTrue_or (thn (ha pins s σ H _ I h) fun c s1 ⟨H1, I1, q1⟩ => ?_)
  cases c with
  | true => exact ⟨H1, I1, q1⟩
  | false => exact hb wh pins s1 σ H1 Q I1 q1
theorem pt_not (ha : PT X a tA) : PT X (.UnaryOp .Not a pos) (tNot tA) := by
  intro pins s σ H Q I h
  exact isTrue_not (ha pins s σ H (fun c H1 => Q (!c) H1) I h)
/-- .. as values (bools) -/
def tAndV (ta tb : TE) : TE := fun σ H Q => ta σ H fun x H1 => ∃ c, x = .bl c ∧ if c = true then tb σ H1 Q else Q (.bl false) H1
def tOrV (ta tb : TE) : TE := fun σ H Q => ta σ H fun x H1 => ∃ c, x = .bl c ∧ if c = true then Q (.bl true) H1 else tb σ H1 Q
def tNotV (ta : TE) : TE := fun σ H Q => ta σ H fun x H1 => ∃ c, x = .bl c ∧ Q (.bl (!c)) H1
theorem pe_one {op} {t : TE} (h : PE X a t) : PE X (.BoolOp op [a] pos) t := fun pins s σ H Q I hw => BoolOp_one (h pins s σ H Q I hw)
theorem pe_and (ha : PE X a ta) (hb : PE X (.BoolOp .And (b :: rest) pos) tb) : PE X (.BoolOp .And (a :: b :: rest) pos) (tAndV ta tb) := by
  intro pins s σ H Q I h
  refine BoolOp_and (thn (ha pins s σ H _ I h) fun v s1 ⟨x, H1, I1, r1, q1⟩ => ?_)
  obtain ⟨c, rfl, q1⟩ := q1
  cases r1
  refine wpAny_truthy_bool ?_
  cases c with
  | true => exact hb pins s1 σ H1 Q I1 q1
  | false => exact ⟨.bl false, H1, I1, rfl, q1⟩
theorem pe_not (ha : PE X a ta) : PE X (.UnaryOp .Not a pos) (tNotV ta) := by
  intro pins s σ H Q I h
  refine UnaryOp_ (thn (ha pins s σ H _ I h) fun v s1 ⟨x, H1, I1, r1, q1⟩ => ?_)
  obtain ⟨c, rfl, q1⟩ := q1
  cases r1
  exact not_of (wpAny_truthy_bool ⟨.bl (!c), H1, I1, rfl, q1⟩)
/-- a if t else b -/
def tIf (t : TT) (ta tb : TE) : TE := fun σ H Q => t σ H fun c H1 => if c = true then ta σ H1 Q else tb σ H1 Q
end
end L2

namespace L2
open PySem PySem.Spec PyProof.Rows

/-! ### a list, a tuple that is read: tracked, frozen, or an object of the module -/
def SqL (K : PySem.W.Frag) (H : Hp) (a : Addr) (xs : List V) : Prop :=
  Rd H a (.lst xs) ∨
    ∃ (o : Obj) (its : Array Value) (n : Nat), K.lookup a = some o ∧ o.cls = .type "list" ∧ o.dict = none ∧ o.data = .seq its n ∧ its.size ≤ sizeLine ∧ Vals xs its.toList
def SqT (K : PySem.W.Frag) (H : Hp) (a : Addr) (xs : List V) : Prop :=
  Rd H a (.tup xs) ∨
    ∃ (o : Obj) (its : Array Value) (n : Nat), K.lookup a = some o ∧ o.cls = .type "tuple" ∧ o.data = .seq its n ∧ its.size ≤ sizeLine ∧ Vals xs its.toList
def absV : Value → Option V
  | .none => some .non
  | .bool b => some (.bl b)
  | .int i _ => some (.int i)
  | .str x _ => some (.str x)
  | .bytes b _ => some (.byt b)
  | .float b _ => some (.flt b)
  | .ref a => some (.ref a)
  | .type n => some (.ty n)
  | _ => none
theorem RelV.abs {x : V} {u : Value} (r : RelV x u) : absV u = some x := by
  cases x with
  | non => cases r; rfl
  | bl _ => cases r; rfl
  | int _ => obtain ⟨t, rfl⟩ := r; rfl
  | str _ => obtain ⟨t, rfl⟩ := r; rfl
  | byt _ => obtain ⟨t, rfl⟩ := r; rfl
  | flt _ => obtain ⟨t, rfl⟩ := r; rfl
  | ref _ => cases r; rfl
  | ty _ => cases r; rfl
theorem RelV.inj {x y : V} {u : Value} (r : RelV x u) (q : RelV y u) : x = y := Option.some.inj (r.abs.symm.trans q.abs)
theorem Vals.inj : ∀ {xs ys : List V} {us : List Value}, Vals xs us → Vals ys us → xs = ys
  | _, _, _, .nil, .nil => rfl
  | _, _, _, .cons r t, .cons r' t' => by rw [r.inj r', Vals.inj t t']
section
variable {X : Cx} {pins : List (Addr × Obj)} {σ : St} {H : Hp} {s : Shared} {a : Addr} {xs ys : List V}
theorem SqL.of {K : PySem.W.Frag} (h : H a = some (.lst xs)) : SqL K H a xs := .inl (.inl h)
theorem SqT.of {K : PySem.W.Frag} (h : H a = some (.tup xs)) : SqT K H a xs := .inl (.inl h)
theorem Inv.list (I : Inv X pins σ H s) (h : SqL X.K H a xs) : ∃ its : List Value, Vals xs its ∧ PlainL s.heap a its.toArray ∧ xs.length ≤ sizeLine := by
  rcases h with h | ⟨o, its, n, hk, hc, hd, hs, hz, r⟩
  · obtain ⟨z, its, n, r, e⟩ := h.ok I.hok
    exact ⟨its, r, ⟨_, n, e, rfl, rfl, rfl⟩, z⟩
  · refine ⟨its.toList, r, ⟨o, n, I.kIn a o hk, hc, hd, by simpa using hs⟩, ?_⟩
    have e := r.length
    simp only [Array.length_toList] at e
    omega
theorem Inv.tuple (I : Inv X pins σ H s) (h : SqT X.K H a xs) : ∃ its : List Value, Vals xs its ∧ IsTup s.heap a its.toArray ∧ xs.length ≤ sizeLine := by
  rcases h with h | ⟨o, its, n, hk, hc, hs, hz, r⟩
  · obtain ⟨z, its, r, p⟩ := h.ok I.hok
    exact ⟨its, r, p, z⟩
  · refine ⟨its.toList, r, ⟨o, I.kIn a o hk, hc, n, by simpa using hs⟩, ?_⟩
    have e := r.length
    simp only [Array.length_toList] at e
    omega
theorem Inv.list_inj (I : Inv X pins σ H s) (h : SqL X.K H a xs) (h' : SqL X.K H a ys) : xs = ys := by
  obtain ⟨its, r, ⟨o, n, e, _, _, d⟩, _⟩ := I.list h
  obtain ⟨its', r', ⟨o', n', e', _, _, d'⟩, _⟩ := I.list h'
  rw [e] at e'; cases e'
  rw [d] at d'
  injection d' with d1 _
  have : its = its' := by simpa using congrArg Array.toList d1
  subst this
  exact r.inj r'
theorem Inv.tuple_inj (I : Inv X pins σ H s) (h : SqT X.K H a xs) (h' : SqT X.K H a ys) : xs = ys := by
  obtain ⟨its, r, ⟨o, e, _, n, d⟩, _⟩ := I.tuple h
  obtain ⟨its', r', ⟨o', e', _, n', d'⟩, _⟩ := I.tuple h'
  rw [e] at e'; cases e'
  rw [d] at d'
  injection d' with d1 _
  have : its = its' := by simpa using congrArg Array.toList d1
  subst this
  exact r.inj r'
end

/-! ### another wish about exceptions -/
abbrev Cx.wish (X : Cx) (E : Value → Shared → Prop) : Cx := { X with xe := E }
/-- no exception leaves -/
abbrev Cx.nox (X : Cx) : Cx := X.wish fun _ _ => False
theorem Cx.Ok.wish {X : Cx} (ok : X.Ok) (E : Value → Shared → Prop) : (X.wish E).Ok :=
  ⟨ok.mod, ok.kind, ok.glob, ok.blt, ok.above, ok.inj, ok.has, ok.cab, ok.hd, ok.frames, ok.stk, ok.exf, ok.bs, ok.bsz, ok.noex, ok.exfs, ok.funs, ok.frf⟩
theorem Cx.Ok.unwish {X : Cx} {E : Value → Shared → Prop} (ok : (X.wish E).Ok) : X.Ok :=
  ⟨ok.mod, ok.kind, ok.glob, ok.blt, ok.above, ok.inj, ok.has, ok.cab, ok.hd, ok.frames, ok.stk, ok.exf, ok.bs, ok.bsz, ok.noex, ok.exfs, ok.funs, ok.frf⟩
section
variable {X : Cx} {pins : List (Addr × Obj)} {σ : St} {H : Hp} {s : Shared} {E : Value → Shared → Prop}
theorem Inv.wish (I : Inv X pins σ H s) (E : Value → Shared → Prop) : Inv (X.wish E) pins σ H s := ⟨I.ok.wish E, I.os, I.bare, I.base, I.loc, I.cell, I.free, I.freeC, I.pin, I.hok, I.len⟩
theorem Inv.unwish (I : Inv (X.wish E) pins σ H s) : Inv X pins σ H s := ⟨I.ok.unwish, I.os, I.bare, I.base, I.loc, I.cell, I.free, I.freeC, I.pin, I.hok, I.len⟩
theorem SP.unwish {D : Ends} {f : Flow} {s' : Shared} (h : SP (X.wish E) pins D f s') : SP X pins D f s' := by
  cases f with
  | next => obtain ⟨σ', H', I, q⟩ := h; exact ⟨σ', H', I.unwish, q⟩
  | brk => obtain ⟨σ', H', I, q⟩ := h; exact ⟨σ', H', I.unwish, q⟩
  | cont => obtain ⟨σ', H', I, q⟩ := h; exact ⟨σ', H', I.unwish, q⟩
  | ret u => obtain ⟨v, σ', H', I, r, q⟩ := h; exact ⟨v, σ', H', I.unwish, r, q⟩
theorem PE.nox {e : Expr} {t : TE} (h : PE X.nox e t) : PE X e t := fun pins s σ H Q I hw =>
  wpAny_mono (h pins s σ H Q (I.wish _) hw) (fun _ _ ⟨v, H', I', r, q⟩ => ⟨v, H', I'.unwish, r, q⟩) fun _ _ z => False.elim z
theorem PT.nox {e : Expr} {t : TT} (h : PT X.nox e t) : PT X e t := fun pins s σ H Q I hw =>
  wpAny_mono (h pins s σ H Q (I.wish _) hw) (fun _ _ ⟨H', I', q⟩ => ⟨H', I'.unwish, q⟩) fun _ _ z => False.elim z
theorem PSs.nox {st : List Stmt} {t : TS} (h : PSs X.nox st t) : PSs X st t := fun pins s σ H D I hw =>
  wpAny_mono (h pins s σ H D (I.wish _) hw) (fun _ _ q => q.unwish) fun _ _ z => False.elim z
end

/-! ### blocks and small statements -/
section
variable {X : Cx} {st : Stmt} {rest : List Stmt} {t u : TS} {e : Expr} {te : TE} {pos : Pos}
def tNext : TS := fun D σ H => D.nx σ H
def tSeq (t u : TS) : TS := fun D σ H => t { D with nx := u D } σ H
theorem pss_nil : PSs X [] tNext := fun _ _ σ H _ I h => wpAny_execs_nil ⟨σ, H, I, h⟩
theorem pss_cons (h1 : PS X st t) (h2 : PSs X rest u) : PSs X (st :: rest) (tSeq t u) := by
  intro pins s σ H D I h
  refine wpAny_execs_cons (thn (h1 pins s σ H { D with nx := u D } I h) fun f s1 q => ?_)
  cases f with
  | next =>
    obtain ⟨σ', H', I', q⟩ := q
    exact h2 pins s1 σ' H' D I' q
  | ret v => exact q
  | brk => exact q
  | cont => exact q
theorem pss_one (h1 : PS X st t) : PSs X [st] t := by
  intro pins s σ H D I h
  refine wpAny_execs_cons (thn (h1 pins s σ H D I h) fun f s1 q => ?_)
  cases f with
  | next => exact wpAny_execs_nil q
  | ret v => exact q
  | brk => exact q
  | cont => exact q
def tBreak : TS := fun D σ H => D.bk σ H
def tCont : TS := fun D σ H => D.ct σ H
/-- in a def's body nothing is shown -/
theorem Inv.quiet {pins : List (Addr × Obj)} {σ : St} {H : Hp} {s : Shared} (I : Inv X pins σ H s) : interactive X.env = false := by simp [interactive, I.ok.kind]
/-- an expression whose value is dropped -/
def tDrop (te : TE) : TS := fun D σ H => te σ H fun _ H1 => D.nx σ H1
theorem ps_expr (he : PE X e te) (hs : swapsWith e none pos.line X.env = pure false := by rfl) : PS X (.Expr e pos) (tDrop te) := by
  intro pins s σ H D I h
  exact wpAny_Expr_any (thn (he pins s σ H _ I h) fun v s1 ⟨x, H1, I1, r1, q1⟩ => ⟨σ, H1, I1, q1⟩) I.quiet hs
def tRet (te : TE) : TS := fun D σ H => te σ H D.rt
theorem ps_ret (he : PE X e te) : PS X (.Return (some e) pos) (tRet te) := by
  intro pins s σ H D I h
  exact wpAny_Return_some (thn (he pins s σ H _ I h) fun v s1 ⟨x, H1, I1, r1, q1⟩ => ⟨x, σ, H1, I1, r1, q1⟩)
def tRetN : TS := fun D _ H => D.rt .non H
def tIfS (c : TT) (t u : TS) : TS := fun D σ H => c σ H fun b H1 => if b = true then t D σ H1 else u D σ H1
theorem ps_if {c : Expr} {a b : List Stmt} {tc : TT} (hc : PT X c tc) (ha : PSs X a t) (hb : PSs X b u) : PS X (.If c a b pos) (tIfS tc t u) := by
  intro pins s σ H D I h
  refine wpAny_If (thn (hc pins s σ H _ I h) fun d s1 ⟨H1, I1, q1⟩ => ?_)
  cases d with
  | true => exact ha pins s1 σ H1 D I1 q1
  | false => exact hb pins s1 σ H1 D I1 q1
/-- code that the proof never comes to -/
def tNever : TS := fun _ _ _ => False
theorem ps_never : PS X st tNever := fun _ _ _ _ _ _ h => h.elim
end

/-! ### targets -/
abbrev TG := V → St → Hp → (St → Hp → Prop) → Prop
abbrev TGs := List V → St → Hp → (St → Hp → Prop) → Prop
def PG (X : Cx) (target : Expr) (t : TG) : Prop :=
  ∀ (pins : List (Addr × Obj)) (s : Shared) (σ : St) (H : Hp) (v : V) (u : Value) (Q : St → Hp → Prop), Inv X pins σ H s → RelV v u → t v σ H Q →
    wpAny (model X.prog X.w) X.A (assign target X.env u) (fun _ s' => ∃ σ' H', Inv X pins σ' H' s' ∧ Q σ' H') X.xe s
/-- several targets, one after another -/
def PGs (X : Cx) (ts : List Expr) (t : TGs) : Prop :=
  ∀ (pins : List (Addr × Obj)) (s : Shared) (σ : St) (H : Hp) (vs : List V) (us : List Value) (Q : St → Hp → Prop), Inv X pins σ H s → Vals vs us → t vs σ H Q →
    wpAny (model X.prog X.w) X.A (assignInOrder ((assignEach ts X.env).map (·.2)) us) (fun _ s' => ∃ σ' H', Inv X pins σ' H' s' ∧ Q σ' H') X.xe s
/-- o[i] = v, by values -/
abbrev TSet := V → V → V → Hp → (Hp → Prop) → Prop
def PSet (X : Cx) (t : TSet) : Prop :=
  ∀ (pins : List (Addr × Obj)) (s : Shared) (σ : St) (H : Hp) (o i v : V) (ov iv u : Value) (Q : Hp → Prop), Inv X pins σ H s → RelV o ov → RelV i iv → RelV v u → t o i v H Q →
    wpAny (model X.prog X.w) X.A (setItem ov iv u) (fun _ s' => ∃ H', Inv X pins σ H' s' ∧ Q H') X.xe s
/-- a op= b, by values -/
abbrev TIp := V → V → Hp → VK → Prop
def PIp (X : Cx) (op : Operator) (t : TIp) : Prop :=
  ∀ (pins : List (Addr × Obj)) (s : Shared) (σ : St) (H : Hp) (x y : V) (v u : Value) (Q : VK), Inv X pins σ H s → RelV x v → RelV y u → t x y H Q →
    wpAny (model X.prog X.w) X.A (inplaceOp op v u) (EP X pins σ Q) X.xe s
section
variable {X : Cx} {pos : Pos}
def gName (i : Nat) : TG := fun v σ H Q => Q (σ.set i (some v)) H
theorem pg_name {i : Nat} {x : Str} (hN : X.N.Nodup) (hi : X.N[i]? = some x) (hx : Loc X.env.scope x) (hf : X.fn x = true ∨ X.env.scope.names.lookup x = some .local := by first | exact .inl rfl | exact .inr rfl | assumption) : PG X (.Name x pos) (gName i) := by
  intro pins s σ H v u Q I r h
  exact wpAny_assign_Name (store_ok I hN hi hx r (fun s' I' => ⟨_, H, I', h⟩) hf)
def gNil : TGs := fun vs σ H Q => vs = [] ∧ Q σ H
def gCons (t : TG) (u : TGs) : TGs := fun vs σ H Q => ∃ v r, vs = v :: r ∧ t v σ H fun σ' H' => u r σ' H' Q
theorem pgs_nil : PGs X [] gNil := by
  intro pins s σ H vs us Q I r h
  obtain ⟨e, h⟩ := h
  subst e
  cases r
  exact assignInOrder_nil ⟨σ, H, I, h⟩
theorem pgs_cons {e : Expr} {es : List Expr} {t : TG} {u : TGs} (h1 : PG X e t) (h2 : PGs X es u)
    (hs : (assignEach (e :: es) X.env).map (·.2) = assign e X.env :: (assignEach es X.env).map (·.2) := by rfl) : PGs X (e :: es) (gCons t u) := by
  intro pins s σ H vs us Q I r h
  obtain ⟨v, vr, e1, h⟩ := h
  subst e1
  cases r with
  | cons r rr =>
    rw [hs]
    refine assignInOrder_cons (thn (h1 pins s σ H _ _ _ I r h) fun _ s1 ⟨σ1, H1, I1, q1⟩ => ?_)
    exact h2 pins s1 σ1 H1 _ _ Q I1 rr q1
/-- (a, b, ..) = a tuple of that length -/
def gTup (K : PySem.W.Frag) (n : Nat) (t : TGs) : TG := fun v σ H Q => ∃ a xs, v = .ref a ∧ SqT K H a xs ∧ xs.length = n ∧ t xs σ H Q
theorem pg_tup {es : List Expr} {k : Nat} {t : TGs} {n : Nat} (hc : X.calm = true) (h : PGs X es t)
    (hn : (assignEach es X.env).length = n := by rfl) (hst : (assignEach es X.env).findIdx? (·.1) = none := by rfl) : PG X (.Tuple es k pos) (gTup X.K n t) := by
  intro pins s σ H v u Q I r hw
  obtain ⟨a, xs, e1, hq, hl, hw⟩ := hw
  subst e1
  cases r
  obtain ⟨its, rv, ht, hz⟩ := I.tuple hq
  refine assign_Tuple_tuple (I.ok.hd hc) ht (by simp [hn, ← hl, rv.length]) hst fun h' hx => ?_
  have I1 : Inv X pins σ H { s with heap := h' } := I.kept (t' := s.toks) fun b o e => hx b o (Nat.ne_of_lt (Heap.lt_size e)) e
  exact h pins _ σ H xs _ Q I1 (by simpa using rv) hw
/-- o[i] = .. -/
def gSub (to ti : TE) (t : TSet) : TG := fun v σ H Q => to σ H fun o H1 => ti σ H1 fun i H2 => t o i v H2 fun H3 => Q σ H3
/-- target = value -/
def tAsg (te : TE) (g : TG) : TS := fun D σ H => te σ H fun x H1 => g x σ H1 D.nx
/-- name = value -/
theorem ps_set {i : Nat} {x : Str} {e : Expr} {te : TE} {pos' : Pos} (hN : X.N.Nodup) (hi : X.N[i]? = some x) (hx : Loc X.env.scope x) (he : PE X e te) (hs : swapsWith e (some (.Name x pos')) pos.line X.env = pure false := by rfl) (hf : X.fn x = true ∨ X.env.scope.names.lookup x = some .local := by first | exact .inl rfl | exact .inr rfl | assumption) :
    PS X (.Assign [.Name x pos'] e pos) (tAsg te (gName i)) := by
  intro pins s σ H D I h
  refine wpAny_Assign_Name (thn (he pins s σ H _ I h) fun v s1 ⟨y, H1, I1, r1, q1⟩ => ?_) hs
  exact store_ok I1 hN hi hx r1 (fun s2 I2 => ⟨_, H1, I2, q1⟩) hf
/-- a, b = x, y with plain local names: stored from the right; the pair itself is not tracked (the opening rows as in PyProof/Rows/TupAssign.lean:23) -/
def tPar (i j : Nat) (ta : TA) : TS := fun D σ H => ta σ H fun vs H1 => ∃ v w, vs = [v, w] ∧ D.nx ((σ.set i (some v)).set j (some w)) H1
/-- name op= e -/
def tAug (i : Nat) (te : TE) (ti : TIp) : TS := fun D σ H => ∃ x, σ[i]? = some (some x) ∧ te σ H fun y H1 => ti x y H1 fun z H2 => D.nx (σ.set i (some z)) H2
/-- o[i] op= e -/
def tAugS (to ti te : TE) (tget : V → V → Hp → VK → Prop) (tip : TIp) (tset : TSet) : TS := fun D σ H => to σ H fun o H1 => ti σ H1 fun i H2 => tget o i H2 fun x H3 => te σ H3 fun y H4 => tip x y H4 fun z H5 => tset o i z H5 fun H6 => D.nx σ H6
/-- o[i], by values -/
def PGet (X : Cx) (t : V → V → Hp → VK → Prop) : Prop :=
  ∀ (pins : List (Addr × Obj)) (s : Shared) (σ : St) (H : Hp) (o i : V) (ov iv : Value) (Q : VK), Inv X pins σ H s → RelV o ov → RelV i iv → t o i H Q →
    wpAny (model X.prog X.w) X.A (getItem ov iv) (EP X pins σ Q) X.xe s
/-- ints -/
def ipI (f : Int → Int → Int) : TIp := fun x y H Q => ∃ i j, x = .int i ∧ y = .int j ∧ Q (.int (f i j)) H
end

/-! ### while -/
section
variable {X : Cx} {pos : Pos}
/-- the invariant W with its measure -/
def tWhile (c : TT) (tb : TS) : TS := fun D σ H => ∃ W : Nat → St → Hp → Prop, (∃ m, W m σ H) ∧ ∀ m σ H, W m σ H →
  c σ H fun b H1 => if b = true then ∃ N : St → Hp → Prop, (∀ σ' H', N σ' H' → ∃ m', m' < m ∧ W m' σ' H') ∧ tb { D with nx := N, ct := N, bk := D.nx } σ H1 else D.nx σ H1
theorem ps_while {c : Expr} {body : List Stmt} {tc : TT} {tb : TS} (hp : PassesOwn (model X.prog X.w) X.A X.env X.xe) (hc : PT X c tc) (hb : PSs X body tb) : PS X (.While c body [] pos) (tWhile tc tb) := by
  intro pins s σ H D I h
  obtain ⟨W, ⟨m0, w0⟩, turn⟩ := h
  refine wpAny_While (codeAny_whileLoop (fun n s' => ∃ σ' H', Inv X pins σ' H' s' ∧ W n σ' H') ?_ m0 ⟨σ, H, I, w0⟩)
  rintro n s1 ⟨σ1, H1, I1, w1⟩
  refine wpAny_passesOwn hp (thn (hc pins s1 σ1 H1 _ I1 (turn n σ1 H1 w1)) fun b s2 ⟨H2, I2, q2⟩ => ?_)
  cases b with
  | true =>
    obtain ⟨N, hN, q2⟩ := q2
    rw [if_pos rfl]
    refine wpAny_passesOwn hp (thn (hb pins s2 σ1 H2 _ I2 q2) fun f s3 q3 => ?_)
    cases f with
    | next =>
      obtain ⟨σ3, H3, I3, n3⟩ := q3
      obtain ⟨m', hm, w3⟩ := hN σ3 H3 n3
      exact ⟨m', hm, σ3, H3, I3, w3⟩
    | cont =>
      obtain ⟨σ3, H3, I3, n3⟩ := q3
      obtain ⟨m', hm, w3⟩ := hN σ3 H3 n3
      exact ⟨m', hm, σ3, H3, I3, w3⟩
    | brk => exact q3
    | ret v => exact q3
  | false =>
    rw [if_neg Bool.false_ne_true]
    exact wpAny_execs_nil ⟨σ1, H2, I2, q2⟩
end

/-! ### what a loop or a comprehension walks -/
/-- at turn i: it yields x (the heap may grow), or it stops -/
structure It where
  go : Nat → Hp → Prop
  yld : Nat → Hp → V → Hp → Prop
  stop : Nat → Hp → Prop
/-- the iterator's own objects may turn: they are not the frame's, not pinned, younger than the entry (or a comprehension's own) -/
def FpOk (X : Cx) (pins : List (Addr × Obj)) (H : Hp) (b : Addr) : Prop :=
  H b = none ∧ b ≠ X.env.locals ∧ b ∉ X.fs ∧ (b ∈ X.ex ∨ X.s₀.heap.objs.size ≤ b) ∧ (∀ x c, X.env.cells.lookup x = some c → c ≠ b) ∧ ∀ p ∈ X.pn ++ pins, p.1 ≠ b
theorem Inv.fpOk {X : Cx} {pins : List (Addr × Obj)} {σ : St} {H H' : Hp} {s : Shared} {b : Addr} (I : Inv X pins σ H s) (hb : s.heap.objs.size ≤ b) (hn : H' b = none) : FpOk X pins H' b := by
  refine ⟨hn, Nat.ne_of_gt (Nat.lt_of_lt_of_le I.lt hb), I.nofs hb, .inr (Nat.le_trans I.sz hb), fun x c e z => ?_, fun p hp z => ?_⟩
  · obtain ⟨v, q⟩ := I.cell x c e
    exact absurd (Nat.lt_of_lt_of_le q.lt (by rw [z]; exact hb)) (Nat.lt_irrefl _)
  · exact absurd (Nat.lt_of_lt_of_le (Heap.lt_size (I.pin p hp).1) (by rw [z]; exact hb)) (Nat.lt_irrefl _)
structure Turn (P : Program) (w : World) (K : PySem.W.Frag) (tg : Expr) (J : It) (fp : List Addr) (it : Addr) (tn : Nat → Heap → Prop) : Prop where
  mem : it ∈ fp
  obj : ∀ i h, tn i h → ∀ b ∈ fp, ∃ o, h.get? b = some o ∧ ∀ v, o.data ≠ .cell v
  keep : ∀ i h h', tn i h → (∀ b ∈ fp, ∀ o, h.get? b = some o → h'.get? b = some o) → tn i h'
  item : ∀ (X : Cx), X.prog = P → X.w = w → X.K = K → X.calm = true → ∀ (i : Nat) (pins : List (Addr × Obj)) (s : Shared) (σ : St) (H : Hp) (E : Value → Shared → Prop), Inv X pins σ H s → (∀ b ∈ fp, FpOk X pins H b) → tn i s.heap → J.go i H →
    wpAny (model P w) X.A (pyNext (.ref it)) (fun r s1 => ∃ u, r = some u ∧
      wpAny (model P w) X.A (letOwnedTupleGo tg (.ref it) u) (fun _ s2 => ∃ x H', Inv X pins σ H' s2 ∧ RelV x u ∧ J.yld i H x H' ∧ tn (i + 1) s2.heap ∧ ∀ b ∈ fp, H' b = none) E s1) E s
  done : ∀ (X : Cx), X.prog = P → X.w = w → X.K = K → X.calm = true → ∀ (i : Nat) (pins : List (Addr × Obj)) (s : Shared) (σ : St) (H : Hp) (E : Value → Shared → Prop), Inv X pins σ H s → (∀ b ∈ fp, FpOk X pins H b) → tn i s.heap → J.stop i H →
    wpAny (model P w) X.A (pyNext (.ref it)) (fun r s1 => r = none ∧ Inv X pins σ H s1) E s
  self : ∀ (A : Around) (i : Nat) (s : Shared) (Q : Value → Shared → Prop) (E : Value → Shared → Prop), tn i s.heap → Q (.ref it) s → wpAny (model P w) A (pyIter (.ref it)) Q E s
abbrev TI := St → Hp → (It → Hp → Prop) → Prop
/-- an iterator has come -/
def PIE (X : Cx) (pins : List (Addr × Obj)) (σ : St) (tg : Expr) (R : It → Hp → Prop) (itv : Value) (s2 : Shared) : Prop :=
  ∃ (it : Addr) (fp : List Addr) (tn : Nat → Heap → Prop) (J : It) (H' : Hp), itv = .ref it ∧ Inv X pins σ H' s2 ∧ Turn X.prog X.w X.K tg J fp it tn ∧ tn 0 s2.heap ∧ (∀ b ∈ fp, FpOk X pins H' b) ∧ R J H'
def PI (X : Cx) (tg iter : Expr) (wi : TI) : Prop :=
  ∀ (pins : List (Addr × Obj)) (s : Shared) (σ : St) (H : Hp) (R : It → Hp → Prop), Inv X pins σ H s → wi σ H R →
    wpAny (model X.prog X.w) X.A (eval iter X.env) (fun v s1 => wpAny (model X.prog X.w) X.A (pyIter v) (PIE X pins σ tg R) X.xe s1) X.xe s

/-- the step ahead of the store is nothing for an iterator that keeps no tuple -/
theorem go_of {M : Model} {A : Around} {E : Value → Shared → Prop} {s : Shared} {tg : Expr} {it : Addr} {u : Value} {o : Obj} {n : String} {vs : Array Value} {Q : Unit → Shared → Prop} (ho : s.heap.get? it = some o) (hc : o.cls = .type n) (hd : o.data = .fields vs)
    (hn : ["enumerate", "zip", "dict_itemiterator", "dict_reverseitemiterator", "odict_iterator", "itertools.zip_longest", "itertools.pairwise"].contains n = false) (hQ : Q () s) : wpAny M A (letOwnedTupleGo tg (.ref it) u) Q E s := by
  unfold letOwnedTupleGo
  cases tg <;> first
    | exact wpAny_pure hQ
    | (cases u <;> first
        | exact wpAny_pure hQ
        | (refine wpAny_bind (wpAny_load ho ?_)
           rw [hc, hd]
           show wpAny M A (if (["enumerate", "zip", "dict_itemiterator", "dict_reverseitemiterator", "odict_iterator", "itertools.zip_longest", "itertools.pairwise"].contains n && vs[0]? == some (rawInt _)) = true then _ else _) Q E s
           rw [if_neg (by intro h; rw [hn, Bool.false_and] at h; cases h)]
           exact wpAny_pure hQ))

/-- the list at a, as it stands at each turn (a loop may append to it) -/
def Itl (K : PySem.W.Frag) (a : Addr) : It :=
  ⟨fun i H => ∃ xs x, SqL K H a xs ∧ xs[i]? = some x, fun i H x H' => H' = H ∧ ∀ xs, SqL K H a xs → xs[i]? = some x, fun i H => ∃ xs, SqL K H a xs ∧ xs.length ≤ i⟩
def Itt (K : PySem.W.Frag) (a : Addr) : It :=
  ⟨fun i H => ∃ xs x, SqT K H a xs ∧ xs[i]? = some x, fun i H x H' => H' = H ∧ ∀ xs, SqT K H a xs → xs[i]? = some x, fun i H => ∃ xs, SqT K H a xs ∧ xs.length ≤ i⟩
/-- lo, lo + 1, .. (n of them) -/
def Itr (lo : Int) (n : Nat) : It := ⟨fun i _ => i < n, fun i H x H' => H' = H ∧ x = .int (lo + i), fun i _ => n ≤ i⟩
theorem turn_list {P : Program} {w : World} {K : PySem.W.Frag} {tg : Expr} (a it : Addr) : Turn P w K tg (Itl K a) [it] it (fun i h => h.IsListIter it a i) where
  mem := by simp
  obj := fun i h st b hb => by
    have e : b = it := by simpa using hb
    subst e
    obtain ⟨o, e, c, d⟩ := st
    exact ⟨o, e, fun v z => by rw [d] at z; cases z⟩
  keep := fun i h h' st k => st.at fun o e => k it (by simp) o e
  item := by
    intro X hP hw hK hc i pins s σ H E I hf st hg
    subst hP hw hK
    obtain ⟨xs, x, hq, hx⟩ := hg
    obtain ⟨its, rv, p, hz⟩ := I.list hq
    obtain ⟨u, hu, ru⟩ := rv.get hx
    obtain ⟨f0, f1, f2, f3, f4, f5⟩ := hf it (by simp)
    refine wpAny_pyNext_list_item st p.isList (x := u) (by simpa using hu) fun h' st' sb => ?_
    have I1 : Inv X pins σ H { s with heap := h' } := I.turned (t' := s.toks) (fun b o hb e => (sb.2 b hb).trans e) f0 f1 f3 f4 f5
    obtain ⟨o, e, c, d⟩ := id st'
    exact ⟨u, rfl, go_of (s := { s with heap := h' }) e c d (by decide) ⟨x, H, I1, ru, ⟨rfl, fun ys hy => by rw [I.list_inj hy hq]; exact hx⟩, st', fun b hb => (hf b hb).1⟩⟩
  done := by
    intro X hP hw hK hc i pins s σ H E I hf st hg
    subst hP hw hK
    obtain ⟨xs, hq, hx⟩ := hg
    obtain ⟨its, rv, p, hz⟩ := I.list hq
    obtain ⟨f0, f1, f2, f3, f4, f5⟩ := hf it (by simp)
    have hl := rv.length
    exact wpAny_pyNext_list_end (I.ok.hd hc) st p.isList (by simp; omega) fun h' eb => ⟨rfl, I.turned (t' := s.toks) (fun b o hb e => eb b o hb e) f0 f1 f3 f4 f5⟩
  self := fun _ _ _ _ _ st h => wpAny_pyIter_listiter st h
theorem turn_tuple {P : Program} {w : World} {K : PySem.W.Frag} {tg : Expr} (a it : Addr) : Turn P w K tg (Itt K a) [it] it (fun i h => h.IsTupleIter it a i) where
  mem := by simp
  obj := fun i h st b hb => by
    have e : b = it := by simpa using hb
    subst e
    obtain ⟨o, e, c, d⟩ := st
    exact ⟨o, e, fun v z => by rw [d] at z; cases z⟩
  keep := fun i h h' st k => st.at fun o e => k it (by simp) o e
  item := by
    intro X hP hw hK hc i pins s σ H E I hf st hg
    subst hP hw hK
    obtain ⟨xs, x, hq, hx⟩ := hg
    obtain ⟨its, rv, p, hz⟩ := I.tuple hq
    obtain ⟨u, hu, ru⟩ := rv.get hx
    obtain ⟨f0, f1, f2, f3, f4, f5⟩ := hf it (by simp)
    refine wpAny_pyNext_tuple_item st (show s.heap.IsTuple a its.toArray from p) (x := u) (by simpa using hu) fun h' st' sb => ?_
    have I1 : Inv X pins σ H { s with heap := h' } := I.turned (t' := s.toks) (fun b o hb e => (sb.2 b hb).trans e) f0 f1 f3 f4 f5
    obtain ⟨o, e, c, d⟩ := id st'
    exact ⟨u, rfl, go_of (s := { s with heap := h' }) e c d (by decide) ⟨x, H, I1, ru, ⟨rfl, fun ys hy => by rw [I.tuple_inj hy hq]; exact hx⟩, st', fun b hb => (hf b hb).1⟩⟩
  done := by
    intro X hP hw hK hc i pins s σ H E I hf st hg
    subst hP hw hK
    obtain ⟨xs, hq, hx⟩ := hg
    obtain ⟨its, rv, p, hz⟩ := I.tuple hq
    obtain ⟨f0, f1, f2, f3, f4, f5⟩ := hf it (by simp)
    have hl := rv.length
    exact wpAny_pyNext_tuple_end (I.ok.hd hc) st (show s.heap.IsTuple a its.toArray from p) (by simp; omega) fun h' eb => ⟨rfl, I.turned (t' := s.toks) (fun b o hb e => eb b o hb e) f0 f1 f3 f4 f5⟩
  self := fun _ _ _ _ _ st h => wpAny_pyIter_tupleiter st h
theorem turn_range {P : Program} {w : World} {K : PySem.W.Frag} {tg : Expr} (it : Addr) (lo : Int) (n : Nat) : Turn P w K tg (Itr lo n) [it] it (fun i h => IsRangeIter h it (lo + (i : Nat) * 1) ((n : Int) - (i : Nat)) 1) where
  mem := by simp
  obj := fun i h st b hb => by
    have e : b = it := by simpa using hb
    subst e
    exact ⟨_, st, fun v z => by
      have z' : Data.fields _ = Data.cell v := z
      cases z'⟩
  keep := fun i h h' st k => k it (by simp) _ st
  item := by
    intro X hP hw hK hc i pins s σ H E I hf st hg
    subst hP hw hK
    obtain ⟨f0, f1, f2, f3, f4, f5⟩ := hf it (by simp)
    have W := Walks.range (prog := X.prog) (w := X.w) (I.ok.hd hc) it lo 1 n
    refine W.item i s _ _ hg st fun v h' tk hv st' kk => ?_
    obtain ⟨t, rfl⟩ := hv
    have I1 : Inv X pins σ H { s with heap := h', toks := tk } := I.turned (fun b o hb e => kk b o (by simpa using hb) e) f0 f1 f3 f4 f5
    refine ⟨_, rfl, go_of (s := { s with heap := h', toks := tk }) (n := "range_iterator") st' rfl rfl (by decide) ⟨.int (lo + i), H, I1, ⟨t, ?_⟩, ⟨rfl, rfl⟩, st', fun b hb => (hf b hb).1⟩⟩
    rw [Int.mul_one]
  done := by
    intro X hP hw hK hc i pins s σ H E I hf st hg
    subst hP hw hK
    obtain ⟨f0, f1, f2, f3, f4, f5⟩ := hf it (by simp)
    exact wpAny_pyNext_range_end (I.ok.hd hc) st (by have : n ≤ i := hg; omega) fun h' eb => ⟨rfl, I.turned (t' := s.toks) (fun b o hb e => eb b o hb e) f0 f1 f3 f4 f5⟩
  self := fun _ _ _ _ _ st h => wpAny_pyIter_rangeiter st h
end L2

namespace L2
open PySem PySem.Spec PyProof.Rows
section
variable {X : Cx} {tg : Expr}
def iList (K : PySem.W.Frag) (tl : TE) : TI := fun σ H R => tl σ H fun x H1 => ∃ a, x = .ref a ∧ (∃ xs, SqL K H1 a xs) ∧ R (Itl K a) H1
def iTup (K : PySem.W.Frag) (tl : TE) : TI := fun σ H R => tl σ H fun x H1 => ∃ a, x = .ref a ∧ (∃ xs, SqT K H1 a xs) ∧ R (Itt K a) H1
theorem pi_list {l : Expr} {tl : TE} (hl : PE X l tl) : PI X tg l (iList X.K tl) := by
  intro pins s σ H R I h
  refine thn (hl pins s σ H _ I h) fun v s1 ⟨x, H1, I1, r1, q1⟩ => ?_
  obtain ⟨a, e, ⟨xs, hq⟩, q⟩ := q1
  subst e
  cases r1
  obtain ⟨its, rv, p, hz⟩ := I1.list hq
  refine wpAny_pyIter_list p.isList ?_
  refine ⟨s1.heap.objs.size, [s1.heap.objs.size], _, _, H1, rfl, I1.kept (t' := s1.toks) fun b o e => Heap.get?_push_of_some _ e, turn_list a _, ⟨_, Heap.get?_push_size _ rfl, rfl, rfl⟩, fun b hb => ?_, q⟩
  have e : b = s1.heap.objs.size := by simpa using hb
  subst e
  exact I1.fpOk (Nat.le_refl _) (I1.hok.fresh (Nat.le_refl _))
theorem pi_tup {l : Expr} {tl : TE} (hl : PE X l tl) : PI X tg l (iTup X.K tl) := by
  intro pins s σ H R I h
  refine thn (hl pins s σ H _ I h) fun v s1 ⟨x, H1, I1, r1, q1⟩ => ?_
  obtain ⟨a, e, ⟨xs, hq⟩, q⟩ := q1
  subst e
  cases r1
  obtain ⟨its, rv, p, hz⟩ := I1.tuple hq
  refine wpAny_pyIter_tuple (show s1.heap.IsTuple a its.toArray from p) ?_
  refine ⟨s1.heap.objs.size, [s1.heap.objs.size], _, _, H1, rfl, I1.kept (t' := s1.toks) fun b o e => Heap.get?_push_of_some _ e, turn_tuple a _, ⟨_, Heap.get?_push_size _ rfl, rfl, rfl⟩, fun b hb => ?_, q⟩
  have e : b = s1.heap.objs.size := by simpa using hb
  subst e
  exact I1.fpOk (Nat.le_refl _) (I1.hok.fresh (Nat.le_refl _))
/-- a range object just made, walked -/
theorem range_it {pins : List (Addr × Obj)} {σ : St} {H : Hp} {s : Shared} {R : It → Hp → Prop} {E : Value → Shared → Prop} {lo hi : Int} {t u v : Tok} {tk : Nat} (I : Inv X pins σ H s) (h1 : -(2 ^ 62) ≤ lo) (h2 : lo < 2 ^ 62) (h3 : -(2 ^ 62) ≤ hi) (h4 : hi < 2 ^ 62)
    (q : R (Itr lo (hi - lo).toNat) H) : wpAny (model X.prog X.w) X.A (pyIter (.ref s.heap.objs.size)) (PIE X pins σ tg R) E { s with heap := s.heap.push { cls := .type "range", data := .fields #[.int lo t, .int hi u, .int 1 v] }, toks := tk } := by
  refine wpAny_pyIter_range (IsRange.new ..) (small_one h1 h2 h3 h4) ?_
  have I1 : Inv X pins σ H { s with heap := s.heap.push { cls := .type "range", data := .fields #[.int lo t, .int hi u, .int 1 v] }, toks := tk } := I.kept fun b o e => Heap.get?_push_of_some _ e
  refine ⟨(s.heap.push { cls := .type "range", data := .fields #[.int lo t, .int hi u, .int 1 v] }).objs.size, [(s.heap.push { cls := .type "range", data := .fields #[.int lo t, .int hi u, .int 1 v] }).objs.size], _, _, H, rfl,
    I1.kept (t' := tk) fun b o e => Heap.get?_push_of_some _ e, turn_range _ lo (hi - lo).toNat, ?_, fun b hb => ?_, q⟩
  · have e1 : lo + ((0 : Nat) : Int) * 1 = lo := by simp
    have e2 : (((hi - lo).toNat : Nat) : Int) - ((0 : Nat) : Int) = Builtin.Range.rangeSize lo hi 1 := by rw [rangeSize_one]; split <;> omega
    show IsRangeIter _ _ (lo + ((0 : Nat) : Int) * 1) ((((hi - lo).toNat : Nat) : Int) - ((0 : Nat) : Int)) 1
    rw [e1, e2]
    exact Heap.get?_push_size _ rfl
  · have e : b = (s.heap.push { cls := .type "range", data := .fields #[.int lo t, .int hi u, .int 1 v] }).objs.size := by simpa using hb
    subst e
    exact I1.fpOk (Nat.le_refl _) (I1.hok.fresh (Nat.le_refl _))
def iRng1 (ta : TA) : TI := fun σ H R => ta σ H fun vs H1 => ∃ j : Int, vs = [.int j] ∧ -(2 ^ 62) ≤ j ∧ j < 2 ^ 62 ∧ R (Itr 0 j.toNat) H1
def iRng2 (ta : TA) : TI := fun σ H R => ta σ H fun vs H1 => ∃ i j : Int, vs = [.int i, .int j] ∧ (-(2 ^ 62) ≤ i ∧ i < 2 ^ 62 ∧ -(2 ^ 62) ≤ j ∧ j < 2 ^ 62) ∧ R (Itr i (j - i).toNat) H1
theorem pi_range1 {a : Expr} {ta : TA} {p pos : Pos} (hg : Gl X "range") (hm : X.mg "range" = none) (ha : PA X [a] ta) (hs : starEach [a] X.env = [(false, eval a X.env)] := by rfl) : PI X tg (.Call (.Name "range" p) [a] [] pos) (iRng1 ta) := by
  intro pins s σ H R I h
  refine Call_ (ld_blt I hg hm boot_range (PyProof.Rows.callWith_type1 (thn (ha pos pins s σ H _ I h) fun us s1 ⟨vs, H1, I1, r1, q1⟩ => ?_) hs rfl))
  obtain ⟨j, e, q1, q2, q⟩ := q1
  subst e
  cases r1 with
  | cons r rr =>
    cases rr
    obtain ⟨t, rfl⟩ := r
    exact call_range_1 (range_it I1 (by omega) (by omega) q1 q2 (by simpa using q))
/-! ### for -/
/-- W: the invariant by the turn and a measure; N: what the body is to reach -/
def tFor (wi : TI) (g : TG) (tb : TS) : TS := fun D σ H => wi σ H fun J H1 => ∃ W : Nat → Nat → St → Hp → Prop, (∃ m, W 0 m σ H1) ∧ ∀ i m σ H, W i m σ H →
  (J.stop i H ∧ D.nx σ H) ∨ (J.go i H ∧ ∃ N : St → Hp → Prop, (∀ σ' H', N σ' H' → ∃ m', m' < m ∧ W (i + 1) m' σ' H') ∧ ∀ x H', J.yld i H x H' → g x σ H' fun σ2 H2 => tb { D with nx := N, ct := N, bk := D.nx } σ2 H2)
/-- the records at fp as they stand -/
def pinsAt (fp : List Addr) (h : Heap) : List (Addr × Obj) := fp.filterMap fun b => (h.get? b).map fun o => (b, o)
theorem mem_pinsAt {fp : List Addr} {h : Heap} {b : Addr} {o : Obj} (hb : b ∈ fp) (e : h.get? b = some o) : (b, o) ∈ pinsAt fp h := List.mem_filterMap.mpr ⟨b, hb, by rw [e]; rfl⟩
theorem of_pinsAt {fp : List Addr} {h : Heap} {p : Addr × Obj} (hp : p ∈ pinsAt fp h) : p.1 ∈ fp ∧ h.get? p.1 = some p.2 := by
  obtain ⟨b, hb, e⟩ := List.mem_filterMap.mp hp
  cases q : h.get? b with
  | none => rw [q] at e; cases e
  | some o =>
    rw [q] at e
    have e' : (b, o) = p := Option.some.inj e
    subst e'
    exact ⟨hb, q⟩
theorem Inv.pinned {pins : List (Addr × Obj)} {σ : St} {H : Hp} {s : Shared} {fp : List Addr} (I : Inv X pins σ H s) (hf : ∀ b ∈ fp, FpOk X pins H b) (ho : ∀ b ∈ fp, ∃ o, s.heap.get? b = some o ∧ ∀ v, o.data ≠ .cell v) : Inv X (pins ++ pinsAt fp s.heap) σ H s :=
  I.pins_of fun p hp => (List.mem_append.mp hp).elim (fun z => I.pin p (List.mem_append_right _ z)) fun z => by
    obtain ⟨hb, e⟩ := of_pinsAt z
    obtain ⟨f0, f1, f2, _⟩ := hf p.1 hb
    obtain ⟨o, e', d⟩ := ho p.1 hb
    rw [e] at e'; cases e'
    exact ⟨e, f0, f1, f2, d⟩
theorem Inv.unpinned {pins pl : List (Addr × Obj)} {σ : St} {H : Hp} {s : Shared} (I : Inv X (pins ++ pl) σ H s) : Inv X pins σ H s := I.pins_of fun p hp => I.pin p (List.mem_append_right _ (List.mem_append_left _ hp))
theorem ps_for {iter : Expr} {body : List Stmt} {wi : TI} {g : TG} {tb : TS} {pos : Pos} (hp : PassesOwn (model X.prog X.w) X.A X.env X.xe) (hc : X.calm = true) (hi : PI X tg iter wi) (hg : PG X tg g) (hb : PSs X body tb)
    (hs : ∀ x, foldedSetIterable iter X.env x = pure x := by intro _; rfl) : PS X (.For tg iter body [] pos) (tFor wi g tb) := by
  intro pins s σ H D I h
  refine wpAny_For (thn (hi pins s σ H _ I h) fun v s1 h1 => thn h1 fun itv s2 h2 => ?_) hs
  obtain ⟨it, fp, tn, J, H2, e, I2, T, st2, f2, W, ⟨m0, w0⟩, turn⟩ := h2
  subst e
  -- what stays true of the iterator's objects through the loop
  have stat : ∀ {H' : Hp}, (∀ b ∈ fp, H' b = none) → ∀ b ∈ fp, FpOk X pins H' b := fun hn b hb => ⟨hn b hb, (f2 b hb).2⟩
  refine codeAny_forLoop_any (fun n s' => ∃ i σ' H', Inv X pins σ' H' s' ∧ tn i s'.heap ∧ (∀ b ∈ fp, H' b = none) ∧ W i n σ' H') ?_ m0 ⟨0, σ, H2, I2, st2, fun b hb => (f2 b hb).1, w0⟩
  rintro n s3 ⟨i, σ3, H3, I3, st3, fr3, w3⟩
  rcases turn i n σ3 H3 w3 with ⟨stop, qn⟩ | ⟨go, N, hN, step⟩
  · refine wpAny_passesOwn hp (thn (T.done X rfl rfl rfl hc i pins s3 σ3 H3 X.xe I3 (stat fr3) st3 stop) fun r s4 ⟨hr, I4⟩ => ?_)
    subst hr
    exact wpAny_execs_nil ⟨σ3, H3, I4, qn⟩
  · refine wpAny_passesOwn hp (thn (T.item X rfl rfl rfl hc i pins s3 σ3 H3 X.xe I3 (stat fr3) st3 go) fun r s4 ⟨u, hr, h4⟩ => ?_)
    subst hr
    refine wpAny_passesOwn hp (thn h4 fun _ s5 ⟨x, H5, I5, r5, y5, st5, fr5⟩ => ?_)
    have I5' := I5.pinned (stat fr5) (T.obj _ _ st5)
    refine wpAny_passesOwn hp (thn (hg _ s5 σ3 H5 x u _ I5' r5 (step x H5 y5)) fun _ s6 ⟨σ6, H6, I6, q6⟩ => ?_)
    refine wpAny_passesOwn hp (thn (hb _ s6 σ6 H6 _ I6 q6) fun f s7 q7 => ?_)
    have again : ∀ {σ7 : St} {H7 : Hp}, Inv X (pins ++ pinsAt fp s5.heap) σ7 H7 s7 → N σ7 H7 → ∃ m, m < n ∧ ∃ i σ' H', Inv X pins σ' H' s7 ∧ tn i s7.heap ∧ (∀ b ∈ fp, H' b = none) ∧ W i m σ' H' := fun {σ7 H7} I7 n7 => by
      obtain ⟨m', hm, w7⟩ := hN σ7 H7 n7
      refine ⟨m', hm, i + 1, σ7, H7, I7.unpinned, T.keep _ _ _ st5 fun b hb o e => (I7.pin (b, o) (List.mem_append_right _ (List.mem_append_right _ (mem_pinsAt hb e)))).1, fun b hb => ?_, w7⟩
      obtain ⟨o, e, d⟩ := T.obj _ _ st5 b hb
      exact (I7.pin (b, o) (List.mem_append_right _ (List.mem_append_right _ (mem_pinsAt hb e)))).2.1
    cases f with
    | next => obtain ⟨σ7, H7, I7, n7⟩ := q7; exact again I7 n7
    | cont => obtain ⟨σ7, H7, I7, n7⟩ := q7; exact again I7 n7
    | brk => obtain ⟨σ7, H7, I7, q7⟩ := q7; exact ⟨σ7, H7, I7.unpinned, q7⟩
    | ret v => obtain ⟨x7, σ7, H7, I7, r7, q7⟩ := q7; exact ⟨x7, σ7, H7, I7.unpinned, r7, q7⟩
end

/-! ### the forms one uses -/
/-- over a list that the body leaves as it is -/
theorem for_list {K : PySem.W.Frag} {a : Addr} {xs : List V} {g : TG} {tb : TS} {D : Ends} {σ : St} {H : Hp} (Pv : Nat → St → Hp → Prop) (h0 : Pv 0 σ H) (hl : ∀ i σ H, i ≤ xs.length → Pv i σ H → SqL K H a xs)
    (hs : ∀ i x σ H, xs[i]? = some x → Pv i σ H → g x σ H fun σ2 H2 => tb { D with nx := Pv (i + 1), ct := Pv (i + 1), bk := D.nx } σ2 H2) (hd : ∀ σ H, Pv xs.length σ H → D.nx σ H) :
    ∃ W : Nat → Nat → St → Hp → Prop, (∃ m, W 0 m σ H) ∧ ∀ i m σ H, W i m σ H →
      ((Itl K a).stop i H ∧ D.nx σ H) ∨ ((Itl K a).go i H ∧ ∃ N : St → Hp → Prop, (∀ σ' H', N σ' H' → ∃ m', m' < m ∧ W (i + 1) m' σ' H') ∧ ∀ x H', (Itl K a).yld i H x H' → g x σ H' fun σ2 H2 => tb { D with nx := N, ct := N, bk := D.nx } σ2 H2) := by
  refine ⟨fun i m σ H => m = xs.length - i ∧ i ≤ xs.length ∧ Pv i σ H, ⟨xs.length, by simp, Nat.zero_le _, h0⟩, ?_⟩
  rintro i m σ H ⟨rfl, hi, p⟩
  have q := hl i σ H hi p
  by_cases hlt : i < xs.length
  · refine .inr ⟨⟨xs, xs[i], q, by simp [hlt]⟩, Pv (i + 1), fun σ' H' p' => ⟨xs.length - (i + 1), by omega, rfl, hlt, p'⟩, fun x H' y => ?_⟩
    obtain ⟨e, y⟩ := y
    subst e
    exact hs i x σ _ (y xs q) p
  · have e : i = xs.length := by omega
    subst e
    exact .inl ⟨⟨xs, q, Nat.le_refl _⟩, hd σ H p⟩
theorem for_tup {K : PySem.W.Frag} {a : Addr} {xs : List V} {g : TG} {tb : TS} {D : Ends} {σ : St} {H : Hp} (Pv : Nat → St → Hp → Prop) (h0 : Pv 0 σ H) (hl : ∀ i σ H, i ≤ xs.length → Pv i σ H → SqT K H a xs)
    (hs : ∀ i x σ H, xs[i]? = some x → Pv i σ H → g x σ H fun σ2 H2 => tb { D with nx := Pv (i + 1), ct := Pv (i + 1), bk := D.nx } σ2 H2) (hd : ∀ σ H, Pv xs.length σ H → D.nx σ H) :
    ∃ W : Nat → Nat → St → Hp → Prop, (∃ m, W 0 m σ H) ∧ ∀ i m σ H, W i m σ H →
      ((Itt K a).stop i H ∧ D.nx σ H) ∨ ((Itt K a).go i H ∧ ∃ N : St → Hp → Prop, (∀ σ' H', N σ' H' → ∃ m', m' < m ∧ W (i + 1) m' σ' H') ∧ ∀ x H', (Itt K a).yld i H x H' → g x σ H' fun σ2 H2 => tb { D with nx := N, ct := N, bk := D.nx } σ2 H2) := by
  refine ⟨fun i m σ H => m = xs.length - i ∧ i ≤ xs.length ∧ Pv i σ H, ⟨xs.length, by simp, Nat.zero_le _, h0⟩, ?_⟩
  rintro i m σ H ⟨rfl, hi, p⟩
  have q := hl i σ H hi p
  by_cases hlt : i < xs.length
  · refine .inr ⟨⟨xs, xs[i], q, by simp [hlt]⟩, Pv (i + 1), fun σ' H' p' => ⟨xs.length - (i + 1), by omega, rfl, hlt, p'⟩, fun x H' y => ?_⟩
    obtain ⟨e, y⟩ := y
    subst e
    exact hs i x σ _ (y xs q) p
  · have e : i = xs.length := by omega
    subst e
    exact .inl ⟨⟨xs, q, Nat.le_refl _⟩, hd σ H p⟩
theorem for_range {lo : Int} {n : Nat} {g : TG} {tb : TS} {D : Ends} {σ : St} {H : Hp} (Pv : Nat → St → Hp → Prop) (h0 : Pv 0 σ H)
    (hs : ∀ i σ H, i < n → Pv i σ H → g (.int (lo + i)) σ H fun σ2 H2 => tb { D with nx := Pv (i + 1), ct := Pv (i + 1), bk := D.nx } σ2 H2) (hd : ∀ σ H, Pv n σ H → D.nx σ H) :
    ∃ W : Nat → Nat → St → Hp → Prop, (∃ m, W 0 m σ H) ∧ ∀ i m σ H, W i m σ H →
      ((Itr lo n).stop i H ∧ D.nx σ H) ∨ ((Itr lo n).go i H ∧ ∃ N : St → Hp → Prop, (∀ σ' H', N σ' H' → ∃ m', m' < m ∧ W (i + 1) m' σ' H') ∧ ∀ x H', (Itr lo n).yld i H x H' → g x σ H' fun σ2 H2 => tb { D with nx := N, ct := N, bk := D.nx } σ2 H2) := by
  refine ⟨fun i m σ H => m = n - i ∧ i ≤ n ∧ Pv i σ H, ⟨n, by simp, Nat.zero_le _, h0⟩, ?_⟩
  rintro i m σ H ⟨rfl, hi, p⟩
  by_cases hlt : i < n
  · refine .inr ⟨hlt, Pv (i + 1), fun σ' H' p' => ⟨n - (i + 1), by omega, rfl, hlt, p'⟩, fun x H' y => ?_⟩
    obtain ⟨e, y⟩ := y
    subst e y
    exact hs i σ _ hlt p
  · have e : i = n := by omega
    subst e
    exact .inl ⟨Nat.le_refl _, hd σ H p⟩
end L2

namespace L2
open PySem PySem.Spec PyProof.Rows

abbrev R2 := V → V → Hp → VK → Prop
/-- a two-place operation on values: f is binaryOp op, inplaceOp op or compareOp op -/
def OpR (X : Cx) (f : Value → Value → Sem Value) (r : R2) : Prop :=
  ∀ (pins : List (Addr × Obj)) (s : Shared) (σ : St) (H : Hp) (x y : V) (v u : Value) (Q : VK), Inv X pins σ H s → RelV x v → RelV y u → r x y H Q →
    wpAny (model X.prog X.w) X.A (f v u) (EP X pins σ Q) X.xe s
/-- a one-place operation -/
def UnR (X : Cx) (f : Value → Sem Value) (r : V → Hp → VK → Prop) : Prop :=
  ∀ (pins : List (Addr × Obj)) (s : Shared) (σ : St) (H : Hp) (x : V) (v : Value) (Q : VK), Inv X pins σ H s → RelV x v → r x H Q →
    wpAny (model X.prog X.w) X.A (f v) (EP X pins σ Q) X.xe s
/-- a call of a value that is known (a builtin, a type) with values -/
def CallR (X : Cx) (f : Value) (r : List V → Hp → VK → Prop) : Prop :=
  ∀ (pins : List (Addr × Obj)) (s : Shared) (σ : St) (H : Hp) (xs : List V) (us : List Value) (Q : VK), Inv X pins σ H s → Vals xs us → r xs H Q →
    wpAny (model X.prog X.w) X.A (call f us) (EP X pins σ Q) X.xe s
/-- a value's truth -/
def TruR (X : Cx) (r : V → Hp → (Bool → Hp → Prop) → Prop) : Prop :=
  ∀ (pins : List (Addr × Obj)) (s : Shared) (σ : St) (H : Hp) (x : V) (v : Value) (Q : Bool → Hp → Prop), Inv X pins σ H s → RelV x v → r x H Q →
    wpAny (model X.prog X.w) X.A (truthy v) (TP X pins σ Q) X.xe s

def tOp (r : R2) (ta tb : TE) : TE := fun σ H Q => ta σ H fun x H1 => tb σ H1 fun y H2 => r x y H2 Q
def tUn (r : V → Hp → VK → Prop) (ta : TE) : TE := fun σ H Q => ta σ H fun x H1 => r x H1 Q
/-- ints in, under C, and a value out -/
def rI (C : Int → Int → Prop) (g : Int → Int → V) : R2 := fun x y H Q => ∃ i j, x = .int i ∧ y = .int j ∧ C i j ∧ Q (g i j) H
def rI0 (g : Int → Int → V) : R2 := fun x y H Q => ∃ i j, x = .int i ∧ y = .int j ∧ Q (g i j) H
def rU (g : Int → V) : V → Hp → VK → Prop := fun x H Q => ∃ i, x = .int i ∧ Q (g i) H

section
variable {X : Cx} {a b c : Expr} {ta tb tc : TE} {pos : Pos}

theorem binT (ha : PE X a ta) (hb : PE X b tb) {pins : List (Addr × Obj)} {s : Shared} {σ : St} {H : Hp} {R : V → V → Hp → Prop} (I : Inv X pins σ H s)
    (h : ta σ H fun x H1 => tb σ H1 fun y H2 => R x y H2) {Q : Value → Shared → Prop} {f : Value → Value → Sem Value}
    (hf : ∀ v u s2 x y H2, Inv X pins σ H2 s2 → RelV x v → RelV y u → R x y H2 → wpAny (model X.prog X.w) X.A (f v u) Q X.xe s2) :
    wpAny (model X.prog X.w) X.A (eval a X.env) (fun v s₁ => wpAny (model X.prog X.w) X.A (eval b X.env) (fun u s₂ => wpAny (model X.prog X.w) X.A (f v u) Q X.xe s₂) X.xe s₁) X.xe s := by
  refine thn (ha pins s σ H _ I h) fun v s1 ⟨x, H1, I1, r1, q1⟩ => ?_
  refine thn (hb pins s1 σ H1 _ I1 q1) fun u s2 ⟨y, H2, I2, r2, q2⟩ => ?_
  exact hf v u s2 x y H2 I2 r1 r2 q2

theorem pe_op {op : Operator} {r : R2} (ho : OpR X (binaryOp op) r) (ha : PE X a ta) (hb : PE X b tb) : PE X (.BinOp a op b pos) (tOp r ta tb) := by
  intro pins s σ H Q I h
  exact wpAny_BinOp (binT ha hb I h fun v u s2 x y H2 I2 rx ry q => ho pins s2 σ H2 x y v u Q I2 rx ry q)
theorem pe_un {op : UnaryOp} {r : V → Hp → VK → Prop} (ho : UnR X (unaryOp op) r) (ha : PE X a ta) : PE X (.UnaryOp op a pos) (tUn r ta) := by
  intro pins s σ H Q I h
  exact UnaryOp_ (thn (ha pins s σ H _ I h) fun v s1 ⟨x, H1, I1, r1, q1⟩ => ho pins s1 σ H1 x v Q I1 r1 q1)
/-! ### ints -/
theorem opI {f : Value → Value → Sem Value} {C : Int → Int → Prop} {g : Int → Int → Int}
    (rule : ∀ (i j : Int) (t u : Tok) (s : Shared) (Q : Value → Shared → Prop) (E : Value → Shared → Prop), C i j → Q (.int (g i j) s.toks) { s with toks := s.toks + 1 } → wpAny (model X.prog X.w) X.A (f (.int i t) (.int j u)) Q E s) :
    OpR X f (rI C fun i j => .int (g i j)) := by
  intro pins s σ H x y v u Q I rx ry h
  obtain ⟨i, j, rfl, rfl, hc, q⟩ := h
  obtain ⟨t, rfl⟩ := rx
  obtain ⟨t', rfl⟩ := ry
  exact rule i j t t' s _ _ hc ⟨.int (g i j), H, I.tok _, ⟨_, rfl⟩, q⟩
theorem opI0 {f : Value → Value → Sem Value} {g : Int → Int → Int}
    (rule : ∀ (i j : Int) (t u : Tok) (s : Shared) (Q : Value → Shared → Prop) (E : Value → Shared → Prop), Q (.int (g i j) s.toks) { s with toks := s.toks + 1 } → wpAny (model X.prog X.w) X.A (f (.int i t) (.int j u)) Q E s) :
    OpR X f (rI0 fun i j => .int (g i j)) := by
  intro pins s σ H x y v u Q I rx ry h
  obtain ⟨i, j, rfl, rfl, q⟩ := h
  obtain ⟨t, rfl⟩ := rx
  obtain ⟨t', rfl⟩ := ry
  exact rule i j t t' s _ _ ⟨.int (g i j), H, I.tok _, ⟨_, rfl⟩, q⟩
theorem opB0 {f : Value → Value → Sem Value} {g : Int → Int → Bool}
    (rule : ∀ (i j : Int) (t u : Tok) (s : Shared) (Q : Value → Shared → Prop) (E : Value → Shared → Prop), Q (.bool (g i j)) s → wpAny (model X.prog X.w) X.A (f (.int i t) (.int j u)) Q E s) :
    OpR X f (rI0 fun i j => .bl (g i j)) := by
  intro pins s σ H x y v u Q I rx ry h
  obtain ⟨i, j, rfl, rfl, q⟩ := h
  obtain ⟨t, rfl⟩ := rx
  obtain ⟨t', rfl⟩ := ry
  exact rule i j t t' s _ _ ⟨.bl (g i j), H, I, rfl, q⟩

def CDiv (i j : Int) : Prop := 0 < j ∧ j < 1073741824
def CDivN (i j : Int) : Prop := j ≠ 0 ∧ j.natAbs < 1073741824
def CPow (i j : Int) : Prop := 0 ≤ j ∧ j ≤ 1000000 ∧ i.natAbs < 2 ^ 64
def CMul (i j : Int) : Prop := (-(2 ^ 64) < i ∧ i < 2 ^ 64) ∨ (-(2 ^ 64) < j ∧ j < 2 ^ 64)
theorem CMul.ok {i j : Int} (h : CMul i j) : IntMulOk i j := by
  rcases h with ⟨h1, h2⟩ | ⟨h1, h2⟩
  · exact .of_left (intBits_le_64 h1 h2)
  · exact .of_right (intBits_le_64 h1 h2)
theorem op_add : OpR X (binaryOp .Add) (rI0 fun i j => .int (i + j)) := opI0 fun _ _ _ _ _ _ _ q => add_int q
theorem op_sub : OpR X (binaryOp .Sub) (rI0 fun i j => .int (i - j)) := opI0 fun _ _ _ _ _ _ _ q => sub_int q
theorem op_mul : OpR X (binaryOp .Mult) (rI CMul fun i j => .int (i * j)) := opI fun _ _ _ _ _ _ _ hc q => mul_int q hc.ok
/-- // by a positive divisor -/
theorem op_fdiv : OpR X (binaryOp .FloorDiv) (rI CDiv fun i j => .int (i / j)) := opI fun i j _ _ _ _ _ hc q => by
  have h1 : (0 : Int) < j := hc.1
  have h2 : j < 1073741824 := hc.2
  exact floordiv_int (by omega) (by rw [Int.fdiv_eq_ediv_of_nonneg i (by omega)]; exact q) (.inl (PyProof.noPylong_small (by omega)))
/-- % by a positive divisor of any size -/
theorem op_mod : OpR X (binaryOp .Mod) (rI (fun _ j => 0 < j) fun i j => .int (i % j)) := opI fun i j _ _ _ _ _ hc q => by
  have h1 : (0 : Int) < j := hc
  exact mod_int' (by omega) (by rw [Int.fmod_eq_emod_of_nonneg i (by omega)]; exact q)
theorem op_pow : OpR X (binaryOp .Pow) (rI CPow fun i j => .int (i ^ j.toNat)) := opI fun _ _ _ _ _ _ _ hc q => pow_int_small hc.1 hc.2.1 hc.2.2 q
theorem unI {f : Value → Sem Value} {g : Int → Int}
    (rule : ∀ (i : Int) (t : Tok) (s : Shared) (Q : Value → Shared → Prop) (E : Value → Shared → Prop), Q (.int (g i) s.toks) { s with toks := s.toks + 1 } → wpAny (model X.prog X.w) X.A (f (.int i t)) Q E s) :
    UnR X f (rU fun i => .int (g i)) := by
  intro pins s σ H x v Q I rx h
  obtain ⟨i, rfl, q⟩ := h
  obtain ⟨t, rfl⟩ := rx
  exact rule i t s _ _ ⟨.int (g i), H, I.tok _, ⟨_, rfl⟩, q⟩
theorem un_neg : UnR X (unaryOp .USub) (rU fun i => .int (-i)) := unI fun _ _ _ _ _ q => neg_int q
/-! ### bools among ints: n += (a < b) -/
end

/-! ### comparisons -/
/-- the scalars that == tells apart as data does -/
def scal : V → V → Bool
  | .non, .non => true | .non, .int _ => true | .int _, .non => true | .non, .bl _ => true | .bl _, .non => true | .non, .str _ => true | .str _, .non => true
  | .int _, .int _ => true | .bl _, .bl _ => true | .str _, .str _ => true | .byt _, .byt _ => true
  | .int _, .str _ => true | .str _, .int _ => true | .bl _, .str _ => true | .str _, .bl _ => true
  | _, _ => false
def rEq : R2 := fun x y H Q => scal x y = true ∧ Q (.bl (decide (x = y))) H
def rNe : R2 := fun x y H Q => scal x y = true ∧ Q (.bl (!decide (x = y))) H

theorem dec_int {i j : Int} : decide (V.int i = V.int j) = (i == j) := by
  rw [Bool.eq_iff_iff]
  simp
theorem dec_bl {i j : Bool} : decide (V.bl i = V.bl j) = (i == j) := by
  rw [Bool.eq_iff_iff]
  simp
theorem dec_str {i j : Str} : decide (V.str i = V.str j) = (i == j) := by
  rw [Bool.eq_iff_iff]
  simp
theorem dec_byt {i j : Array UInt8} : decide (V.byt i = V.byt j) = (i.toList == j.toList) := by
  rw [Bool.eq_iff_iff]
  cases i
  cases j
  simp

section
variable {X : Cx} {a b c : Expr} {ta tb tc : TE} {pos : Pos}
theorem fin_bl {pins : List (Addr × Obj)} {σ : St} {H : Hp} {s : Shared} {Q : VK} {k k' : Bool} (I : Inv X pins σ H s) (q : Q (.bl k) H) (e : k = k') : EP X pins σ Q (.bool k') s := by
  subst e
  exact ⟨.bl k, H, I, rfl, q⟩
theorem op_eq : OpR X (compareOp .Eq) rEq := by
  intro pins s σ H x y v u Q I rx ry h
  obtain ⟨hs, q⟩ := h
  cases x with
  | non =>
    cases rx
    cases y with
    | non => cases ry; exact PySem.EqNone.eq_none_none (fin_bl I q (by simp))
    | bl j => cases ry; exact PySem.EqNone.eq_none_bool (fin_bl I q (by simp))
    | int j => obtain ⟨t', rfl⟩ := ry; exact PySem.EqNone.eq_none_int (fin_bl I q (by simp))
    | str j => obtain ⟨t', rfl⟩ := ry; exact PySem.EqNone.eq_none_str (fin_bl I q (by simp))
    | _ => exact absurd (show false = true from hs) Bool.false_ne_true
  | bl i =>
    cases rx
    cases y with
    | non => cases ry; exact PySem.EqNone.eq_bool_none (fin_bl I q (by simp))
    | bl j => cases ry; exact eq_bool (fin_bl I q dec_bl)
    | str j => obtain ⟨t', rfl⟩ := ry; exact PySem.EqMixed.eq_bool_str (fin_bl I q (by simp))
    | _ => exact absurd (show false = true from hs) Bool.false_ne_true
  | int i =>
    obtain ⟨t, rfl⟩ := rx
    cases y with
    | non => cases ry; exact PySem.EqNone.eq_int_none (fin_bl I q (by simp))
    | int j => obtain ⟨t', rfl⟩ := ry; exact eq_int (fin_bl I q dec_int)
    | str j => obtain ⟨t', rfl⟩ := ry; exact PySem.EqMixed.eq_int_str (fin_bl I q (by simp))
    | _ => exact absurd (show false = true from hs) Bool.false_ne_true
  | str i =>
    obtain ⟨t, rfl⟩ := rx
    cases y with
    | non => cases ry; exact PySem.EqNone.eq_str_none (fin_bl I q (by simp))
    | bl j => cases ry; exact PySem.EqMixed.eq_str_bool (fin_bl I q (by simp))
    | int j => obtain ⟨t', rfl⟩ := ry; exact PySem.EqMixed.eq_str_int (fin_bl I q (by simp))
    | str j => obtain ⟨t', rfl⟩ := ry; exact eq_str (fin_bl I q dec_str)
    | _ => exact absurd (show false = true from hs) Bool.false_ne_true
  | byt i =>
    obtain ⟨t, rfl⟩ := rx
    cases y with
    | byt j => obtain ⟨t', rfl⟩ := ry; exact PySem.W.eq_bytes (fin_bl I q dec_byt)
    | _ => exact absurd (show false = true from hs) Bool.false_ne_true
  | _ => cases y <;> exact absurd (show false = true from hs) Bool.false_ne_true
theorem op_ne : OpR X (compareOp .NotEq) rNe := by
  intro pins s σ H x y v u Q I rx ry h
  obtain ⟨hs, q⟩ := h
  cases x with
  | non =>
    cases rx
    cases y with
    | non => cases ry; exact PySem.EqNone.ne_none_none (fin_bl I q (by simp))
    | bl j => cases ry; exact PySem.EqNone.ne_none_bool (fin_bl I q (by simp))
    | int j => obtain ⟨t', rfl⟩ := ry; exact PySem.EqNone.ne_none_int (fin_bl I q (by simp))
    | str j => obtain ⟨t', rfl⟩ := ry; exact PySem.EqNone.ne_none_str (fin_bl I q (by simp))
    | _ => exact absurd (show false = true from hs) Bool.false_ne_true
  | bl i =>
    cases rx
    cases y with
    | non => cases ry; exact PySem.EqNone.ne_bool_none (fin_bl I q (by simp))
    | bl j => cases ry; exact ne_bool (fin_bl I q (congrArg not dec_bl))
    | str j => obtain ⟨t', rfl⟩ := ry; exact PySem.EqMixed.ne_bool_str (fin_bl I q (by simp))
    | _ => exact absurd (show false = true from hs) Bool.false_ne_true
  | int i =>
    obtain ⟨t, rfl⟩ := rx
    cases y with
    | non => cases ry; exact PySem.EqNone.ne_int_none (fin_bl I q (by simp))
    | int j => obtain ⟨t', rfl⟩ := ry; exact ne_int (fin_bl I q (congrArg not dec_int))
    | str j => obtain ⟨t', rfl⟩ := ry; exact PySem.EqMixed.ne_int_str (fin_bl I q (by simp))
    | _ => exact absurd (show false = true from hs) Bool.false_ne_true
  | str i =>
    obtain ⟨t, rfl⟩ := rx
    cases y with
    | non => cases ry; exact PySem.EqNone.ne_str_none (fin_bl I q (by simp))
    | bl j => cases ry; exact PySem.EqMixed.ne_str_bool (fin_bl I q (by simp))
    | int j => obtain ⟨t', rfl⟩ := ry; exact PySem.EqMixed.ne_str_int (fin_bl I q (by simp))
    | str j => obtain ⟨t', rfl⟩ := ry; exact ne_str (fin_bl I q (congrArg not dec_str))
    | _ => exact absurd (show false = true from hs) Bool.false_ne_true
  | byt i =>
    obtain ⟨t, rfl⟩ := rx
    cases y with
    | byt j => obtain ⟨t', rfl⟩ := ry; exact PySem.W.ne_bytes (fin_bl I q (congrArg not dec_byt))
    | _ => exact absurd (show false = true from hs) Bool.false_ne_true
  | _ => cases y <;> exact absurd (show false = true from hs) Bool.false_ne_true

theorem op_lt : OpR X (compareOp .Lt) (rI0 fun i j => .bl (decide (i < j))) := opB0 fun _ _ _ _ _ _ _ q => lt_int q
theorem op_le : OpR X (compareOp .LtE) (rI0 fun i j => .bl (decide (i ≤ j))) := opB0 fun _ _ _ _ _ _ _ q => le_int q
theorem op_gt : OpR X (compareOp .Gt) (rI0 fun i j => .bl (decide (j < i))) := opB0 fun _ _ _ _ _ _ _ q => gt_int q
theorem op_ge : OpR X (compareOp .GtE) (rI0 fun i j => .bl (decide (j ≤ i))) := opB0 fun _ _ _ _ _ _ _ q => ge_int q
/-- is, is not of two objects that are tracked lists or instances -/
def isObj : HO → Bool
  | .lst _ => true
  | .ins _ _ _ => true
  | _ => false
/-- two rules for one operation: by cases -/
theorem OpR.or {f : Value → Value → Sem Value} {r r' : R2} (h : OpR X f r) (h' : OpR X f r') : OpR X f (fun x y H Q => r x y H Q ∨ r' x y H Q) := by
  intro pins s σ H x y v u Q I rx ry q
  rcases q with q | q
  · exact h pins s σ H x y v u Q I rx ry q
  · exact h' pins s σ H x y v u Q I rx ry q

theorem nomark (b : Expr) {op : CmpOp} (h : op ≠ .In := by decide) (h2 : op ≠ .NotIn := by decide) : behindInMarks op b = false := by
  have e1 : (op == CmpOp.In) = false := by cases op <;> first | rfl | exact absurd rfl h
  have e2 : (op == CmpOp.NotIn) = false := by cases op <;> first | rfl | exact absurd rfl h2
  cases b <;> simp [behindInMarks, e1, e2]
/-- a comparison as a value; hm: nomark b, or (for in, not in) by with_unfolding_all rfl -/
theorem pe_cmpR {op : CmpOp} {r : R2} (ho : OpR X (compareOp op) r) (ha : PE X a ta) (hb : PE X b tb) (hm : behindInMarks op b = false) : PE X (.Compare a [op] [b] pos) (tOp r ta tb) := by
  intro pins s σ H Q I h
  exact wpAny_Compare1 (binT ha hb I h fun v u s2 x y H2 I2 rx ry q => ho pins s2 σ H2 x y v u Q I2 rx ry q) hm
/-- a reading of a value as a test -/
def tTest (t : TE) : TT := fun σ H Q => t σ H fun x H' => ∃ k, x = .bl k ∧ Q k H'
theorem pt_cmpR {op : CmpOp} {r : R2} (ho : OpR X (compareOp op) r) (ha : PE X a ta) (hb : PE X b tb) (hm : behindInMarks op b = false) : PT X (.Compare a [op] [b] pos) (tTest (tOp r ta tb)) := by
  intro pins s σ H Q I h
  refine wpAny_isTrue_Compare1 (thn (ha pins s σ H _ I h) fun v s1 ⟨x, H1, I1, r1, q1⟩ => thn (hb pins s1 σ H1 _ I1 q1) fun u s2 ⟨y, H2, I2, r2, q2⟩ =>
    thn (ho pins s2 σ H2 x y v u _ I2 r1 r2 q2) fun c s3 ⟨z, H3, I3, r3, k, e, q3⟩ => ?_) hm
  subst e
  cases r3
  exact wpAny_truthy_bool ⟨H3, I3, q3⟩
/-- a op1 b op2 c -/
def tChain (r r' : R2) (ta tb tc : TE) : TE := fun σ H Q => ta σ H fun x H1 => tb σ H1 fun y H2 => r x y H2 fun z H3 => ∃ k, z = .bl k ∧
  (if k = true then tc σ H3 fun w' H4 => r' y w' H4 Q else Q (.bl false) H3)
/-! ### truth -/
/-- a value's truth by the abstract heap -/
def TruV (K : PySem.W.Frag) (x : V) (H : Hp) (k : Bool) : Prop :=
  match x with
  | .non => k = false
  | .bl b => k = b
  | .int i => k = (i != 0)
  | .str y => y.length ≤ sizeLine ∧ k = ((y.length : Int) != 0)
  | .byt y => y.size ≤ sizeLine ∧ k = ((y.size : Int) != 0)
  | .ref p => (∃ xs, SqL K H p xs ∧ k = !xs.isEmpty) ∨ (∃ xs, SqT K H p xs ∧ k = !xs.isEmpty) ∨ ∃ kvs, H p = some (.dK kvs) ∧ k = !kvs.isEmpty
  | _ => False
theorem isEmpty_kv {κ : Type} {kvs : List (κ × V)} {vs : List (κ × Value)} (r : KV kvs vs) : (!vs.isEmpty) = !kvs.isEmpty := by
  cases r <;> rfl
theorem isEmpty_of {xs : List V} {its : List Value} (r : Vals xs its) : (!its.toArray.isEmpty) = !xs.isEmpty := by
  cases r <;> simp
theorem line63 : (sizeLine : Nat) < 2 ^ 63 := by rw [sizeLine_eq]; decide
theorem tru_ok : TruR X (fun x H Q => ∃ k, TruV X.K x H k ∧ Q k H) := by
  intro pins s σ H x v Q I rx h
  obtain ⟨k, e, q⟩ := h
  have hl := line63
  have hs : sizeLine = 16777216 := sizeLine_eq
  cases x with
  | non =>
    cases rx
    have e' : k = false := e
    subst e'
    exact truthy_none ⟨H, I, q⟩
  | bl b =>
    cases rx
    have e' : k = b := e
    subst e'
    exact wpAny_truthy_bool ⟨H, I, q⟩
  | int i =>
    obtain ⟨t, rfl⟩ := rx
    have e' : k = (i != 0) := e
    subst e'
    exact PySem.P.truthy_int ⟨H, I, q⟩
  | str y =>
    obtain ⟨t, rfl⟩ := rx
    obtain ⟨hy, e'⟩ : y.length ≤ sizeLine ∧ k = ((y.length : Int) != 0) := e
    subst e'
    exact PySem.P.truthy_str (by omega) ⟨H, I.tok _, q⟩
  | byt y =>
    obtain ⟨t, rfl⟩ := rx
    obtain ⟨hy, e'⟩ : y.size ≤ sizeLine ∧ k = ((y.size : Int) != 0) := e
    subst e'
    exact PySem.W.truthy_bytes (by omega) ⟨H, I.tok _, q⟩
  | ref p =>
    cases rx
    have e' : (∃ xs, SqL X.K H p xs ∧ k = !xs.isEmpty) ∨ (∃ xs, SqT X.K H p xs ∧ k = !xs.isEmpty) ∨ ∃ kvs, H p = some (.dK kvs) ∧ k = !kvs.isEmpty := e
    rcases e' with ⟨xs, hx, e'⟩ | ⟨xs, hx, e'⟩ | ⟨kvs, hx, e'⟩
    · subst e'
      obtain ⟨its, r, pl, hz⟩ := I.list hx
      have hlen := r.length
      exact wpAny_truthy_list pl.isList (by simp only [List.size_toArray]; omega) ⟨H, I.tok _, by rw [isEmpty_of r]; exact q⟩
    · subst e'
      obtain ⟨its, r, pl, hz⟩ := I.tuple hx
      have hlen := r.length
      exact truthy_tuple pl (by simp only [List.size_toArray]; omega) ⟨H, I.tok _, by rw [isEmpty_of r]; exact q⟩
    · subst e'
      obtain ⟨hz, hS, vs, r, m⟩ : kvs.length ≤ sizeLine ∧ (p == sysModules) = false ∧ ∃ vs, KV kvs vs ∧ s.heap.DictOf (mixKind X.prog X.w) p vs := I.hok p _ hx
      have hlen : kvs.length = vs.length := Paired.length r
      exact wpAny_truthy_dict hS m (by omega) ⟨H, I.tok _, by rw [isEmpty_kv r]; exact q⟩
  | _ => exact (show False from e).elim
/-- any expression whose test is its value's truth (a name, a call, a subscript, a field ..: he by fun _ => rfl) -/
theorem pt_truth (ha : PE X a ta) (he : ∀ whole, isTrue a X.env whole = (do let v ← whole; standAt a.pos; holding [v] (truthy v))) :
    PT X a (fun σ H Q => ta σ H fun x H' => ∃ k, TruV X.K x H' k ∧ Q k H') := by
  intro pins s σ H Q I h
  exact isTrue_plain (thn (ha pins s σ H _ I h) fun v s1 ⟨x, H1, I1, r1, q1⟩ => tru_ok pins s1 σ H1 x v Q I1 r1 q1) (he _)

/-! ### strs and bytes -/
def PlainIxT (b : Expr) : Prop := ∀ o i, subscripted b false o i = operate [o, i] (getItem o i)
/-! ### scalar builtins, by CallR -/
theorem vals1 {x : V} {us : List Value} (r : Vals [x] us) : ∃ u, us = [u] ∧ RelV x u := by
  cases r with
  | cons r1 r2 => cases r2; exact ⟨_, rfl, r1⟩
theorem vals2 {x y : V} {us : List Value} (r : Vals [x, y] us) : ∃ u w', us = [u, w'] ∧ RelV x u ∧ RelV y w' := by
  cases r with
  | cons r1 r2 =>
    cases r2 with
    | cons r3 r4 => cases r4; exact ⟨_, _, rfl, r1, r3⟩
theorem call_min2 (hc : X.calm = true) : CallR X (.builtin "min") (fun xs H Q => ∃ i j, xs = [.int i, .int j] ∧ Q (.int (if j < i then j else i)) H) := by
  intro pins s σ H xs us Q I r h
  obtain ⟨i, j, rfl, q⟩ := h
  obtain ⟨u, w', rfl, ⟨t, rfl⟩, ⟨t', rfl⟩⟩ := vals2 r
  refine min_two_ints (I.ok.hd hc) fun h' tk k => ⟨_, H, I.kept k, ?_, q⟩
  by_cases hj : j < i
  · rw [if_pos hj, if_pos hj]; exact ⟨_, rfl⟩
  · rw [if_neg hj, if_neg hj]; exact ⟨_, rfl⟩
/-- len of a str, a bytes, a list, a tuple -/
def LenV (K : PySem.W.Frag) (x : V) (H : Hp) (n : Nat) : Prop :=
  match x with
  | .str y => y.length ≤ sizeLine ∧ n = y.length
  | .byt y => y.size ≤ sizeLine ∧ n = y.size
  | .ref p => (∃ xs, SqL K H p xs ∧ n = xs.length) ∨ ∃ xs, SqT K H p xs ∧ n = xs.length
  | _ => False
end
end L2

namespace L2
open PySem PySem.Spec PyProof.Rows

/-! ### an instance, its attributes a map -/
structure ObjM (h : Heap) (x dx C : Addr) (mA : Str → Option Value) : Prop where
  obj : h.get? x = some (PySem.W.instObj C dx)
  ns : h.Ns1 dx mA
  ne : dx ≠ x

theorem lookIn_ns {h : Heap} {dx : Addr} {mA : Str → Option Value} (n : h.Ns1 dx mA) : ∃ od, h.get? dx = some od ∧ ∀ name, PySem.W.lookIn name od = some (mA name) := by
  obtain ⟨o, es, ep, ho, hd, hk, _, hm⟩ := n
  refine ⟨o, ho, fun name => ?_⟩
  have e := hm name
  unfold nsFind findBy at e
  rw [← Array.find?_toList] at e
  unfold PySem.W.lookIn
  rw [hd]
  dsimp only
  split
  · rename_i y q
    rw [q] at e
    exact congrArg some e
  · rename_i q
    rw [q] at e
    have a : es.toList.any (·.refKey) = false := by
      rw [List.any_eq_false]
      intro y hy
      obtain ⟨z, t, hkey⟩ := hk y (Array.mem_toList_iff.mp hy)
      simp [DictEntry.refKey, hkey]
    have a' : ¬ es.toList.any (·.refKey) = true := by rw [a]; exact Bool.false_ne_true
    rw [if_neg a']
    exact congrArg some e

theorem ObjM.look {h : Heap} {x dx C : Addr} {mA : Str → Option Value} (I : ObjM h x dx C mA) : ∃ od, PySem.W.InstAt h x (PySem.W.instObj C dx) C (some od) ∧ ∀ name, PySem.W.lookIn name od = some (mA name) :=
  let ⟨od, ho, hl⟩ := lookIn_ns I.ns
  ⟨od, ⟨I.obj, rfl, rfl, ho⟩, hl⟩

section
variable {prog : Program} {w : World} {A : Around} {E : Value → Shared → Prop} {s : Shared} {K : PySem.W.Frag} {x dx C f : Addr} {mA : Str → Option Value} {name : Str} {v : Value}

theorem get_map {expr : Bool} {Q : Value → Shared → Prop} (X : K.In s.heap) (I : ObjM s.heap x dx C mA) (hg : PySem.W.plainGet K C name = true) (hh : PySem.W.hasDictIn K C = true)
    (ha : PySem.W.findIn K (.ref C) name = some none) (hv : mA name = some v) (hv' : PySem.W.handedIn v = true) (h : Q v { s with toks := s.toks + 1 }) :
    wpAny (model prog w) A (getAttr (.ref x) name expr) Q E s := by
  obtain ⟨od, J, hl⟩ := I.look
  exact PySem.W.get_value X J (PySem.W.plainGet_of hg).1 (PySem.W.findObj_own hh ha rfl (by rw [hl, hv])) hv' h

theorem get_meth {pl : Sem Bool} {Q : Value × List Value → Shared → Prop} (X : K.In s.heap) (I : ObjM s.heap x dx C mA) (hg : PySem.W.plainGet K C name = true)
    (hf : PySem.W.findIn K (.ref C) name = some (some (.ref f))) (ht : PySem.W.isFn K (.ref f) = true) (hv : mA name = none) (h : Q (.ref f, [.ref x]) s) :
    wpAny (model prog w) A (getMethod (.ref x) name pl) Q E s := by
  obtain ⟨od, J, hl⟩ := I.look
  exact PySem.W.method_fn X J (PySem.W.plainGet_of hg).1 (PySem.W.plainGet_of hg).2 hf (beq_iff_eq.mp ht) (by show (PySem.W.lookIn name od).map (·.isSome) = some false; rw [hl, hv]; rfl) h

theorem set_map {ns : List Str} {Q : Unit → Shared → Prop} (X : K.In s.heap) (I : ObjM s.heap x dx C mA)
    (hs : PySem.W.findIn K (.ref C) "__setattr__" = some (some (.builtin "object.__setattr__"))) (hp : PySem.W.plainOver K C = true) (ht : PySem.W.takerIn K C name = some none) (hh : PySem.W.hasDictIn K C = true)
    (hw : PySem.Within mA ns) (hsz : ns.length ≤ sizeLine)
    (h : ∀ h', ObjM h' x dx C (fun y => if y = name then some v else mA y) → Heap.SameBut dx s.heap h' → Q () { s with heap := h', toks := s.toks + 2 }) :
    wpAny (model prog w) A (setAttr (.ref x) name v) Q E s := by
  obtain ⟨od, J, hl⟩ := I.look
  refine PySem.W.set_plain X J hs (PySem.W.osa_open (s := { s with toks := s.toks + 1 }) (r := none) X J hp ht fun b => ?_)
  obtain ⟨cd, hc, hd'⟩ := PySem.W.any_some hh
  have hx : s.heap.get? x = some ⟨.ref C, some dx, .plain, #[]⟩ := I.obj
  refine wpAny_bind (wpAny_pure (wpAny_bind (wpAny_bind (wpAny_loadPart hx (wpAny_bind (PySem.W.Looks.here (s := { s with toks := s.toks + 1 }) (PySem.W.looks_clsIn X hc) ?_))))))
  rw [hd']
  refine wpAny_pure (a := some dx) (wpAny_bind (wpAny_pure (wpAny_bind ?_)))
  refine wpAny_nsSet1 (s := { s with toks := s.toks + 1 }) I.ns fun h' hn2 hs2 => ?_
  obtain ⟨oD, esD, epD, hoD, hdD, hcD⟩ := hn2.count (PySem.Within.cons name v hw)
  refine wpAny_bind (wpAny_lookBehind hoD (by rw [hdD]; exact pastItsLine_dict (Nat.le_trans hcD (by rw [List.length_cons]; omega))) ?_)
  exact wpAny_pure (h _ ⟨(hs2.2 _ (Ne.symm I.ne)).trans I.obj, hn2, I.ne⟩ hs2)

/-- C(..): the dict at the heap's end, the instance behind it; then its __init__ -/
theorem make_map {R : Result → Shared → Prop} {vs : List Value} {kw : List (Str × Value)} (X : K.In s.heap) (hm : PySem.W.makesIn K C = true)
    (hi : PySem.W.findIn K (.ref C) "__init__" = some (some (.ref f))) (hf : PySem.W.typeIn K (.ref f) = some (.type "function"))
    (h : codeAny (model prog w) (A.under (.builtin "type.__call__" ⟨.ref C :: vs, kw⟩)) (.call (.ref f) ⟨.ref (s.heap.objs.size + 1) :: vs, kw⟩) (PySem.W.InitBack (s.heap.objs.size + 1) R)
      { s with heap := (s.heap.push PySem.W.emptyDict).push (PySem.W.instObj C s.heap.objs.size) }) :
    codeAny (model prog w) A (.call (.ref C) ⟨vs, kw⟩) R s := by
  obtain ⟨hh, g, d, t, os⟩ := s
  exact PySem.W.make_core (PySem.W.makes_of X hm) (PySem.W.looks_findIn X hi) (fun self => PySem.W.bind_fn X self hf) (.inl rfl) h
end

/-! ### the attributes as a list of pairs -/
def putF (f : Str) (v : V) : List (Str × V) → List (Str × V)
  | [] => [(f, v)]
  | (g, x) :: r => if g = f then (g, v) :: r else (g, x) :: putF f v r
theorem lookup_putF (f g : Str) (v : V) : ∀ fs : List (Str × V), (putF f v fs).lookup g = if g = f then some v else fs.lookup g
  | [] => by
    show List.lookup g [(f, v)] = _
    by_cases h : g = f
    · have hb : (g == f) = true := beq_iff_eq.mpr h
      simp only [List.lookup, hb, if_pos h]
    · have hb : (g == f) = false := beq_eq_false_iff_ne.mpr h
      simp only [List.lookup, hb, if_neg h]
  | (k, x) :: r => by
    have ih := lookup_putF f g v r
    rw [show putF f v ((k, x) :: r) = (if k = f then (k, v) :: r else (k, x) :: putF f v r) from rfl]
    by_cases hk : k = f
    · rw [if_pos hk]
      by_cases h : g = k
      · have hb : (g == k) = true := beq_iff_eq.mpr h
        simp only [List.lookup, hb, if_pos (h.trans hk)]
      · have hb : (g == k) = false := beq_eq_false_iff_ne.mpr h
        simp only [List.lookup, hb, if_neg (fun e : g = f => h (e.trans hk.symm))]
    · rw [if_neg hk]
      by_cases h : g = k
      · have hb : (g == k) = true := beq_iff_eq.mpr h
        simp only [List.lookup, hb, if_neg (fun e : g = f => hk (h.symm.trans e))]
      · have hb : (g == k) = false := beq_eq_false_iff_ne.mpr h
        simp only [List.lookup, hb]
        exact ih
theorem keys_putF (f : Str) (v : V) : ∀ fs : List (Str × V), f ∈ (putF f v fs).map (·.1) ∧ ∀ g, g ∈ fs.map (·.1) → g ∈ (putF f v fs).map (·.1)
  | [] => ⟨by simp [putF], fun g h => by simp at h⟩
  | (k, x) :: r => by
    obtain ⟨i1, i2⟩ := keys_putF f v r
    rw [show putF f v ((k, x) :: r) = (if k = f then (k, v) :: r else (k, x) :: putF f v r) from rfl]
    by_cases hk : k = f
    · rw [if_pos hk]
      subst hk
      exact ⟨by simp, fun g h => by simpa using h⟩
    · rw [if_neg hk]
      refine ⟨?_, fun g h => ?_⟩
      · rw [List.map_cons]
        exact List.mem_cons_of_mem _ i1
      · rw [List.map_cons] at h ⊢
        rcases List.mem_cons.mp h with e | e
        · exact List.mem_cons.mpr (.inl e)
        · exact List.mem_cons_of_mem _ (i2 g e)
theorem length_putF (f : Str) (v : V) : ∀ fs : List (Str × V), (putF f v fs).length ≤ fs.length + 1
  | [] => by simp [putF]
  | (k, x) :: r => by
    have ih := length_putF f v r
    rw [show putF f v ((k, x) :: r) = (if k = f then (k, v) :: r else (k, x) :: putF f v r) from rfl]
    by_cases hk : k = f
    · rw [if_pos hk, List.length_cons, List.length_cons]; omega
    · rw [if_neg hk, List.length_cons, List.length_cons]; omega

theorem RelO.some_of {v : V} {o : Option Value} (r : RelO (some v) o) : ∃ u, o = some u ∧ RelV v u := by
  cases o with
  | none => exact (show False from r).elim
  | some u => exact ⟨u, rfl, r⟩
theorem RelO.none_of {o : Option Value} (r : RelO none o) : o = none := by
  cases o with
  | none => rfl
  | some u => exact (show False from r).elim
theorem handed_of {v : V} {u : Value} (r : RelV v u) : PySem.W.handedIn u = true := by
  cases v with
  | non => cases (show u = Value.none from r); rfl
  | bl b => cases (show u = Value.bool b from r); rfl
  | int i => obtain ⟨t, e⟩ := (show ∃ t, u = Value.int i t from r); cases e; rfl
  | str x => obtain ⟨t, e⟩ := (show ∃ t, u = Value.str x t from r); cases e; rfl
  | byt b => obtain ⟨t, e⟩ := (show ∃ t, u = Value.bytes b t from r); cases e; rfl
  | flt b => obtain ⟨t, e⟩ := (show ∃ t, u = Value.float b t from r); cases e; rfl
  | ref a => cases (show u = Value.ref a from r); rfl
  | ty n => cases (show u = Value.type n from r); rfl

section
variable {P : Program} {w : World} {H H' : Hp} {h h' : Heap} {a C dx : Addr} {fs fs' : List (Str × V)}
theorem ins_get (hok : HOk P w H h) (e : H a = some (.ins C dx fs)) : ∃ mA, ObjM h a dx C mA ∧ (∀ f, RelO (fs.lookup f) (mA f)) ∧ PySem.Within mA (fs.map (·.1)) ∧ fs.length ≤ 1000 ∧ H dx = some (.own a) := by
  obtain ⟨d, z, ne, ob, mA, n, r, q⟩ := (show ObjOk P w H h a (.ins C dx fs) from hok a _ e)
  exact ⟨mA, ⟨ob, n, ne⟩, r, q, z, d⟩
end

/-! ### what of the text a class must have -/
structure Cls (K : PySem.W.Frag) (C : Addr) : Prop where
  pg : PySem.W.plainGet K C Str.empty = true
  hd : PySem.W.hasDictIn K C = true
  po : PySem.W.plainOver K C = true
  sa : PySem.W.findIn K (.ref C) "__setattr__" = some (some (.builtin "object.__setattr__"))
theorem Cls.get {K : PySem.W.Frag} {C : Addr} (c : Cls K C) (f : Str) : PySem.W.plainGet K C f = true := c.pg
/-- no class of it has the name -/
def NoAttr (K : PySem.W.Frag) (C : Addr) (f : Str) : Prop := PySem.W.findIn K (.ref C) f = some none
theorem NoAttr.taker {K : PySem.W.Frag} {C : Addr} {f : Str} (n : NoAttr K C f) : PySem.W.takerIn K C f = some none := by
  unfold PySem.W.takerIn
  rw [show PySem.W.findIn K (.ref C) f = some none from n]
  rfl
/-- a constant of the class -/
structure Con (K : PySem.W.Frag) (C : Addr) (f : Str) (v : V) (u : Value) : Prop where
  at_ : PySem.W.findIn K (.ref C) f = some (some u)
  rel : RelV v u
  get : PySem.W.specialIn K u "__get__" = some none
  cp : PySem.W.copiedNames.contains f = false
/-- a method: a plain def of the class or of one above it -/
structure Meth (K : PySem.W.Frag) (C : Addr) (m : Str) (f : Addr) : Prop where
  at_ : PySem.W.findIn K (.ref C) m = some (some (.ref f))
  fn : PySem.W.isFn K (.ref f) = true
  kp : PySem.W.keepIn K (.ref f) = true

section
variable {X : Cx} {pins : List (Addr × Obj)} {σ : St} {H : Hp} {s : Shared} {a C dx : Addr} {fs : List (Str × V)} {f : Str} {v : V} {A : Around} {E : Value → Shared → Prop}

theorem getattr_ok {b : Bool} {Q : Value → Shared → Prop} (I : Inv X pins σ H s) (e : H a = some (.ins C dx fs)) (c : Cls X.K C) (n : NoAttr X.K C f) (l : fs.lookup f = some v)
    (h : ∀ u s', Inv X pins σ H s' → RelV v u → Q u s') : wpAny (model X.prog X.w) A (getAttr (.ref a) f b) Q E s := by
  obtain ⟨mA, O, r, _, _, _⟩ := ins_get I.hok e
  obtain ⟨u, hu, ru⟩ := RelO.some_of (v := v) (o := mA f) (by rw [← l]; exact r f)
  exact get_map I.kIn O (c.get f) c.hd n hu (handed_of ru) (h u _ (I.tok _) ru)

theorem getmeth_ok {m : Str} {g : Addr} {pl : Sem Bool} {Q : Value × List Value → Shared → Prop} (I : Inv X pins σ H s) (e : H a = some (.ins C dx fs)) (c : Cls X.K C) (k : Meth X.K C m g) (l : fs.lookup m = none)
    (h : Q (.ref g, [.ref a]) s) : wpAny (model X.prog X.w) A (getMethod (.ref a) m pl) Q E s := by
  obtain ⟨mA, O, r, _, _, _⟩ := ins_get I.hok e
  have hn : mA m = none := RelO.none_of (by rw [← l]; exact r m)
  exact get_meth I.kIn O (c.get m) k.at_ k.fn hn h

theorem setattr_ok {y : V} {u : Value} {Q : Unit → Shared → Prop} (I : Inv X pins σ H s) (e : H a = some (.ins C dx fs)) (c : Cls X.K C) (n : NoAttr X.K C f) (hl : fs.length < 1000) (ry : RelV y u)
    (h : ∀ s', Inv X pins σ (upd H a (.ins C dx (putF f y fs))) s' → Q () s') : wpAny (model X.prog X.w) A (setAttr (.ref a) f u) Q E s := by
  obtain ⟨mA, O, r, wi, _, ho⟩ := ins_get I.hok e
  have hz : (fs.map (·.1)).length ≤ sizeLine := by rw [List.length_map, sizeLine_eq]; omega
  refine set_map I.kIn O c.sa c.po n.taker c.hd wi hz fun h' O' sb => h _ ?_
  have hd : ∃ o, h'.get? dx = some o := let ⟨o, _, _, e', _⟩ := O'.ns; ⟨o, e'⟩
  refine I.write (x := a) (e := dx) (by rw [e]; exact True.intro) (.inr ho) (fun b q hb z => (sb.2 b hb).trans z) hd ?_
  refine ⟨by rw [upd_ne O.ne]; exact ho, ?_, O.ne, O'.obj, _, O'.ns, fun g => ?_, fun g hg => ?_⟩
  · have := length_putF f y fs; omega
  · show RelO ((putF f y fs).lookup g) (if g = f then some u else mA g)
    rw [lookup_putF]
    by_cases q : g = f
    · rw [if_pos q, if_pos q]; exact ry
    · rw [if_neg q, if_neg q]; exact r g
  · by_cases q : g = f
    · rw [q]; exact (keys_putF f y fs).1
    · refine (keys_putF f y fs).2 g (wi g fun z => hg ?_)
      show (if g = f then some u else mA g) = none
      rw [if_neg q]; exact z

/-- a new instance, tracked, without attributes -/
theorem Inv.made (I : Inv X pins σ H s) : Inv X pins σ (upd (upd H s.heap.objs.size (.own (s.heap.objs.size + 1))) (s.heap.objs.size + 1) (.ins C s.heap.objs.size []))
    { s with heap := (s.heap.push PySem.W.emptyDict).push (PySem.W.instObj C s.heap.objs.size) } := by
  have e1 : (s.heap.push PySem.W.emptyDict).get? s.heap.objs.size = some PySem.W.emptyDict := Heap.get?_push_size s.heap rfl
  have e2 : ((s.heap.push PySem.W.emptyDict).push (PySem.W.instObj C s.heap.objs.size)).get? (s.heap.objs.size + 1) = some (PySem.W.instObj C s.heap.objs.size) := by
    have := Heap.get?_push_size (s.heap.push PySem.W.emptyDict) (o := PySem.W.instObj C s.heap.objs.size) rfl
    rwa [Heap.size_push] at this
  have e3 : (s.heap.push PySem.W.emptyDict).Ns s.heap.objs.size (fun _ => none) := ⟨PySem.W.emptyDict, #[], _, e1, rfl, (fun e he => absurd he (by simp)), fun _ => rfl⟩
  have I1 := I.laid (a := s.heap.objs.size) (o := .own (s.heap.objs.size + 1)) (h' := s.heap.push PySem.W.emptyDict) (t' := s.toks) (fun b u q => Heap.get?_push_of_some _ q) (Nat.le_refl _) ⟨_, e1⟩
  refine I1.laid (a := s.heap.objs.size + 1) (o := .ins C s.heap.objs.size []) (t' := s.toks) (fun b u q => Heap.get?_push_of_some _ q) (Nat.le_of_eq (Heap.size_push _ _)) ?_
  have ne : s.heap.objs.size ≠ s.heap.objs.size + 1 := Nat.ne_of_lt (Nat.lt_succ_self _)
  refine ⟨by rw [upd_ne ne, upd_same], Nat.zero_le _, ne, e2, fun _ => none, (Heap.Ns1.of_empty e3).at fun o q => Heap.get?_push_of_some _ q, fun _ => True.intro, fun y hy => absurd rfl hy⟩

/-- e.f where nothing but the object is asked: through attributeBase (super) and the last hold -/
theorem attr_of {prog : Program} {w : World} {env : Env} {e : Expr} {f : Str} {pos : Pos} {s : Shared} {Q : Value → Shared → Prop} (hb : attributeBase e f env (eval e env) = eval e env)
    (h : wpAny (model prog w) A (eval e env) (fun o s₁ => wpAny (model prog w) A (getAttr o f true) Q E s₁) E s) : wpAny (model prog w) A (eval (.Attribute e f pos) env) Q E s :=
  Attribute_any_ h (by rw [arm_eval_Attribute, hb])
end

/-! ### readings and rules -/
/-- e.f, an attribute of the instance -/
def tFld (K : PySem.W.Frag) (ta : TE) (f : Str) : TE := fun σ H Q => ta σ H fun x H1 => ∃ a C dx fs v, x = .ref a ∧ H1 a = some (.ins C dx fs) ∧ Cls K C ∧ NoAttr K C f ∧ fs.lookup f = some v ∧ Q v H1
/-- e.f, a constant of the class -/
def tCon (K : PySem.W.Frag) (ta : TE) (f : Str) : TE := fun σ H Q => ta σ H fun x H1 => ∃ a C dx fs v u, x = .ref a ∧ H1 a = some (.ins C dx fs) ∧ Cls K C ∧ Con K C f v u ∧ fs.lookup f = none ∧ Q v H1
/-- e.f = value -/
def sFld (K : PySem.W.Frag) (ta tv : TE) (f : Str) : TS := fun D σ H => tv σ H fun y H1 => ta σ H1 fun x H2 => ∃ a C dx fs, x = .ref a ∧ H2 a = some (.ins C dx fs) ∧ Cls K C ∧ NoAttr K C f ∧ fs.length < 1000 ∧
  D.nx σ (upd H2 a (.ins C dx (putF f y fs)))
/-- an augmented operator on two values -/
def InOp (X : Cx) (op : Operator) (rd : V → V → Hp → VK → Prop) : Prop :=
  ∀ (pins : List (Addr × Obj)) (s : Shared) (σ : St) (H : Hp) (x y : V) (u v : Value) (Q : VK), Inv X pins σ H s → RelV x u → RelV y v → rd x y H Q → wpAny (model X.prog X.w) X.A (inplaceOp op u v) (EP X pins σ Q) X.xe s
/-- e.f op= value -/
def sFldAug (K : PySem.W.Frag) (ta tv : TE) (rd : V → V → Hp → VK → Prop) (f : Str) : TS := fun D σ H => ta σ H fun x H1 => ∃ a C dx fs v, x = .ref a ∧ H1 a = some (.ins C dx fs) ∧ Cls K C ∧ NoAttr K C f ∧ fs.lookup f = some v ∧
  tv σ H1 fun y H2 => rd v y H2 fun z H3 => ∃ dx' fs', H3 a = some (.ins C dx' fs') ∧ fs'.length < 1000 ∧ D.nx σ (upd H3 a (.ins C dx' (putF f z fs')))

section
variable {X : Cx} {o e value : Expr} {f : Str} {pos pos' tpos : Pos} {ta tv : TE}
theorem pe_fld (he : PE X e ta) (hb : attributeBase e f X.env (eval e X.env) = eval e X.env) : PE X (.Attribute e f pos) (tFld X.K ta f) := by
  intro pins s σ H Q I h
  refine attr_of hb (thn (he pins s σ H _ I h) fun u s1 ⟨x, H1, I1, rx, a, C, dx, fs, v, ex, ea, c, n, l, q⟩ => ?_)
  subst ex
  obtain rfl : u = Value.ref a := rx
  exact getattr_ok I1 ea c n l fun u' s2 I2 ru => ⟨v, H1, I2, ru, q⟩
theorem ps_fld (ha : PE X o ta) (hv : PE X value tv) (hs : swapsWith value (some (.Attribute o f pos')) pos.line X.env = pure false) : PS X (.Assign [.Attribute o f pos'] value pos) (sFld X.K ta tv f) := by
  intro pins s σ H D I h
  refine plainObj_wpAny_Assign_Attribute (thn (hv pins s σ H _ I h) fun u s1 ⟨y, H1, I1, ry, q⟩ => thn (ha pins s1 σ H1 _ I1 q) fun ov s2 ⟨x, H2, I2, rx, a, C, dx, fs, ex, ea, c, n, l, q2⟩ => ?_) hs
  subst ex
  obtain rfl : ov = Value.ref a := rx
  exact setattr_ok I2 ea c n l ry fun s3 I3 => ⟨σ, _, I3, q2⟩
def rAdd : V → V → Hp → VK → Prop := fun x y H Q => ∃ i j, x = .int i ∧ y = .int j ∧ Q (.int (i + j)) H
def rSub : V → V → Hp → VK → Prop := fun x y H Q => ∃ i j, x = .int i ∧ y = .int j ∧ Q (.int (i - j)) H
end

/-! ### isinstance -/
section
variable {X : Cx} {pins : List (Addr × Obj)} {σ : St} {H : Hp} {s : Shared} {A : Around} {E : Value → Shared → Prop} {Q : Value → Shared → Prop} {c : Value} {b : Bool}
/-- the type of a value, as the fragment's deciders take it; for an instance its class -/
inductive TyOf (K : PySem.W.Frag) (H : Hp) : V → Value → Prop where
  | non : TyOf K H .non (.type "NoneType")
  | bl (x : Bool) : TyOf K H (.bl x) (.type "bool")
  | int (i : Int) : TyOf K H (.int i) (.type "int")
  | str (x : Str) : TyOf K H (.str x) (.type "str")
  | flt (x : UInt64) : TyOf K H (.flt x) (.type "float")
  | lst {a : Addr} {xs : List V} (e : H a = some (.lst xs)) : TyOf K H (.ref a) (.type "list")
  | frz {a : Addr} {o : Obj} {xs : List V} (e : H a = some (.frz o (.lst xs))) : TyOf K H (.ref a) (.type "list")
  | tup {a : Addr} {xs : List V} (e : H a = some (.tup xs)) : TyOf K H (.ref a) (.type "tuple")
  | dK {a : Addr} {kvs : List (Key × V)} (e : H a = some (.dK kvs)) : TyOf K H (.ref a) (.type "dict")
  | dT {a : Addr} {kvs : List (List Key × V)} (e : H a = some (.dT kvs)) : TyOf K H (.ref a) (.type "dict")
  | ins {a C dx : Addr} {fs : List (Str × V)} (e : H a = some (.ins C dx fs)) (cl : Cls K C) (ha : PySem.W.findIn K (.ref C) "__class__" = some (some (.builtin "object.__class__")))
      (hn : PySem.W.specialIn K (.builtin "object.__class__") "__get__" = some (some (.builtin "getset_descriptor.__get__"))) (htk : PySem.W.takesIn K (.builtin "object.__class__") = some true)
      (hm : PySem.W.mroIn K C (.type "object") = some true) : TyOf K H (.ref a) (.ref C)
/-- isinstance(x, c) for one class c, a built-in or an own one: kitOne's answer -/
theorem isinst_ok {x : V} {u t : Value} (I : Inv X pins σ H s) (rx : RelV x u) (ty : TyOf X.K H x t) (e : PySem.W.kitOne X.K t c = some b) (h : ∀ tk, Q (.bool b) { s with toks := tk }) :
    wpAny (model X.prog X.w) A (call (.builtin "isinstance") [u, c]) Q E s := by
  cases ty with
  | non => cases (show u = Value.none from rx); exact PySem.W.kia_one PySem.W.kitx_none I.kIn True.intro e (fun z => nomatch z) h
  | bl y => cases (show u = Value.bool y from rx); exact PySem.W.kia_one PySem.W.kitx_bool I.kIn True.intro e (fun z => nomatch z) h
  | int i => obtain ⟨t, q⟩ := (show ∃ t, u = Value.int i t from rx); cases q; exact PySem.W.kia_one PySem.W.kitx_int I.kIn True.intro e (fun z => nomatch z) h
  | str y => obtain ⟨t, q⟩ := (show ∃ t, u = Value.str y t from rx); cases q; exact PySem.W.kia_one PySem.W.kitx_str I.kIn True.intro e (fun z => nomatch z) h
  | flt y => obtain ⟨t, q⟩ := (show ∃ t, u = Value.float y t from rx); cases q; exact PySem.W.kia_one PySem.W.kitx_float I.kIn True.intro e (fun z => nomatch z) h
  | @lst a xs ea =>
    cases (show u = Value.ref a from rx)
    obtain ⟨_, _, n, _, h1⟩ := (show ObjOk X.prog X.w H s.heap a (.lst xs) from I.hok a _ ea)
    exact PySem.W.kia_one PySem.W.kitx_list I.kIn ⟨_, h1, rfl⟩ e (fun z => nomatch z) h
  | @frz a ob xs ea =>
    cases (show u = Value.ref a from rx)
    obtain ⟨_, _, _, n, _, h1⟩ := (show ObjOk X.prog X.w H s.heap a (.frz ob (.lst xs)) from I.hok a _ ea)
    exact PySem.W.kia_one PySem.W.kitx_list I.kIn ⟨_, h1, rfl⟩ e (fun z => nomatch z) h
  | @tup a xs ea =>
    cases (show u = Value.ref a from rx)
    obtain ⟨_, _, _, p⟩ := (show ObjOk X.prog X.w H s.heap a (.tup xs) from I.hok a _ ea)
    obtain ⟨o, h1, h2, _⟩ := p
    exact PySem.W.kia_one PySem.W.kitx_tuple I.kIn ⟨o, h1, h2⟩ e (fun z => nomatch z) h
  | @dK a kvs ea =>
    cases (show u = Value.ref a from rx)
    obtain ⟨_, _, vs, _, p⟩ := (show ObjOk X.prog X.w H s.heap a (.dK kvs) from I.hok a _ ea)
    obtain ⟨o, es, ep, h1, h2, _⟩ := p
    exact PySem.W.kia_one PySem.W.kitx_dict I.kIn ⟨o, h1, h2.1⟩ e (fun z => nomatch z) h
  | @dT a kvs ea =>
    cases (show u = Value.ref a from rx)
    obtain ⟨_, _, xs, _, o, es, ep, h1, h2, _⟩ := (show ObjOk X.prog X.w H s.heap a (.dT kvs) from I.hok a _ ea)
    exact PySem.W.kia_one PySem.W.kitx_dict I.kIn ⟨o, h1, h2.1⟩ e (fun z => nomatch z) h
  | @ins a C dx fs ea cl ha hn htk hm =>
    cases (show u = Value.ref a from rx)
    obtain ⟨mA, O, _⟩ := ins_get I.hok ea
    obtain ⟨od, J, _⟩ := O.look
    exact PySem.W.kia_one (PySem.W.kitx_own (cl.get _) cl.hd ha hn htk hm) I.kIn J e (fun z => nomatch z) h
end
end L2

namespace L2
open PySem PySem.Spec PyProof.Rows

/-! ### room -/
structure Room (k : Nat) (A : Around) : Prop where
  hd : A.handled = none
  dp : A.depth + 3 * k + 5 < recursionLimit
  un : A.units + 16 * k + 200 < cLine
theorem Room.mono {j k : Nat} {A : Around} (r : Room k A) (h : j ≤ k) : Room j A := ⟨r.hd, by have := r.dp; omega, by have := r.un; omega⟩
theorem Room.deeper {k : Nat} {A : Around} (r : Room (k + 1) A) (env : Env) : Room k (A.deeper env) :=
  ⟨r.hd, by have := r.dp; show A.depth + 1 + 3 * k + 5 < _; omega, by have := r.un; show A.units + 3 + 16 * k + 200 < _; omega⟩
theorem Room.in1 {k : Nat} {A : Around} (r : Room (k + 1) A) : Room k A.in1 :=
  ⟨r.hd, by have := r.dp; show A.depth + 3 * k + 5 < _; omega, by have := r.un; show A.units + 1 + 16 * k + 200 < _; omega⟩
theorem make_depth {A : Around} {C : Addr} {us : List Value} {kw : List (Str × Value)} : (A.under (.builtin "type.__call__" ⟨.ref C :: us, kw⟩)).depth = A.depth + 1 := by
  first | rfl | simp [Around.under, Code.weight, Code.isCreation, Code.isGuard, Code.isCaller, Code.frames, Code.isFrame, guardIds]
theorem make_units {A : Around} {C : Addr} {us : List Value} {kw : List (Str × Value)} : (A.under (.builtin "type.__call__" ⟨.ref C :: us, kw⟩)).units = A.units + 1 := by
  first | rfl | simp [Around.under, Code.cUnits, Code.frames, Code.isFrame]
theorem Room.make {k : Nat} {A : Around} (r : Room (k + 1) A) (C : Addr) (us : List Value) (kw : List (Str × Value)) : Room k (A.under (.builtin "type.__call__" ⟨.ref C :: us, kw⟩)) :=
  ⟨r.hd, by have := r.dp; rw [make_depth]; omega, by have := r.un; rw [make_units]; omega⟩
theorem Room.depth {k : Nat} {A : Around} (r : Room k A) : A.depth < recursionLimit := by have := r.dp; omega
theorem Room.units {k : Nat} {A : Around} (r : Room k A) : A.units + 64 < cLine := by have := r.un; omega
theorem Room.units0 {k : Nat} {A : Around} (r : Room k A) : A.units < cLine := by have := r.un; omega

/-! ### argument lists and displays -/
def tNil : TA := fun _ H Q => Q [] H
def tCons (ta : TE) (tr : TA) : TA := fun σ H Q => ta σ H fun x H1 => tr σ H1 fun xs H2 => Q (x :: xs) H2
section
variable {X : Cx} {e : Expr} {es : List Expr} {te : TE} {t : TA} {pos : Pos}
theorem pa_nil : PA X [] tNil := fun _ _ _ _ H Q I h => Calls.spliced_nil ⟨[], H, I, .nil, h⟩
theorem pa_cons (ha : PE X e te) (hr : PA X es t) (hs : starEach (e :: es) X.env = (false, eval e X.env) :: starEach es X.env := by rfl) : PA X (e :: es) (tCons te t) := by
  intro pos pins s σ H Q I h
  rw [hs]
  show wpAny _ _ (spliced ((false, eval e X.env) :: backTo pos (starEach es X.env))) _ _ s
  refine Calls.spliced_cons (thn (ha pins s σ H _ I h) fun u s1 ⟨x, H1, I1, r1, q1⟩ => ?_)
  exact thn (hr pos pins s1 σ H1 _ I1 q1) fun us s2 ⟨xs, H2, I2, r2, q2⟩ => ⟨x :: xs, H2, I2, .cons r1 r2, q2⟩

/-- a tuple, a list of written items -/
def tTup (t : TA) : TE := fun σ H Q => t σ H fun xs H1 => xs.length ≤ sizeLine ∧ ∀ p, H1 p = none → Q (.ref p) (upd H1 p (.tup xs))
def tLst (t : TA) : TE := fun σ H Q => t σ H fun xs H1 => xs.length ≤ sizeLine ∧ ∀ p, H1 p = none → Q (.ref p) (upd H1 p (.lst xs))
theorem pe_tup {x1} (h : PA X es t) : PE X (.Tuple es x1 pos) (tTup t) := by
  intro pins s σ H Q I hq
  refine wpAny_Tuple_spliced (thn (h pos pins s σ H _ I hq) fun us s1 ⟨xs, H1, I1, r, z, q⟩ => ⟨by rw [← r.length]; exact z, ?_⟩)
  have hf : H1 s1.heap.objs.size = none := I1.hok.fresh (Nat.le_refl _)
  refine ⟨.ref s1.heap.objs.size, upd H1 s1.heap.objs.size (.tup xs), I1.laid (t' := s1.toks) (fun b u e => Heap.get?_push_of_some _ e) (Nat.le_refl _) ?_, rfl, q _ hf⟩
  exact ⟨z, us, r, ⟨_, Heap.get?_push_size _ rfl, rfl, _, rfl⟩⟩
theorem pe_lst (h : PA X es t) : PE X (.List es pos) (tLst t) := by
  intro pins s σ H Q I hq
  refine wpAny_List_spliced (thn (h pos pins s σ H _ I hq) fun us s1 ⟨xs, H1, I1, r, z, q⟩ => ⟨by rw [← r.length]; exact z, ?_⟩)
  have hf : H1 s1.heap.objs.size = none := I1.hok.fresh (Nat.le_refl _)
  refine ⟨.ref s1.heap.objs.size, upd H1 s1.heap.objs.size (.lst xs), I1.laid (t' := s1.toks) (fun b u e => Heap.get?_push_of_some _ e) (Nat.le_refl _) ?_, rfl, q _ hf⟩
  exact ⟨z, us, 0, r, Heap.get?_push_size _ rfl⟩
end

/-! ### what a def promises -/
/-- a def's promise: the bound arguments in the parameters' order, the heap, the wanted end, the wanted exception -/
abbrev Sp := List V → Hp → VK → XK → Prop
/-- how an exception lies behind a call (file 08 gives it): the callers' frames, abstract heap and state ahead of the call, the wish, the exception, the state -/
abbrev CXT := List Env → Hp → Shared → XK → Value → Shared → Prop

/-- the state at a call -/
structure Env0 (P : Program) (w : World) (K : PySem.W.Frag) (mg : Str → Option Value) (base : Heap) (A : Around) (outer : List Env) (s : Shared) (H : Hp) : Prop where
  frames : A.frames = some outer
  mod : Mod K mg base
  bs : ∀ b o, base.get? b = some o → s.heap.get? b = some o ∧ H b = none
  bsz : base.objs.size ≤ s.heap.objs.size
  funs : s.heap.FunFrames base outer
  frf : ∀ b ∈ frs outer, H b = none
  hok : HOk P w H s.heap
  bare : AllBare s.gens
/-- a call's end -/
def CE (outer : List Env) (P : Program) (w : World) (H : Hp) (s : Shared) (Q : VK) (u : Value) (s' : Shared) : Prop :=
  ∃ v H', s'.os = s.os ∧ AllBare s'.gens ∧ Un (frs outer) [] H H' s.heap s'.heap ∧ HOk P w H' s'.heap ∧ RelV v u ∧ Q v H'
def CR (CX : CXT) (outer : List Env) (P : Program) (w : World) (H : Hp) (s : Shared) (Q : VK) (E : XK) (r : Result) (s' : Shared) : Prop :=
  match r with
  | .ok (.ret u) => CE outer P w H s Q u s'
  | .ok _ => False
  | .error e => CX outer H s E e s'
structure FnOk (P : Program) (w : World) (K : PySem.W.Frag) (mg : Str → Option Value) (base : Heap) (CX : CXT) (k : Nat) (f : Addr) (fd : FuncData) (ps : List Str) (sp : Sp) : Prop where
  len : ∀ vs H Q E, sp vs H Q E → vs.length = ps.length
  run : ∀ (A : Around) (outer : List Env) (s : Shared) (H : Hp) (args : Args) (us : List Value) (vs : List V) (Q : VK) (E : XK), Room k A → Env0 P w K mg base A outer s H → BindsTo s fd args (ps.zip us) → Vals vs us → sp vs H Q E →
    codeAny (model P w) A (.call (.ref f) args) (CR CX outer P w H s Q E) s
theorem FnOk.mono {P : Program} {w : World} {K : PySem.W.Frag} {mg : Str → Option Value} {base : Heap} {CX : CXT} {j k : Nat} {f : Addr} {fd : FuncData} {ps : List Str} {sp : Sp} (F : FnOk P w K mg base CX j f fd ps sp) (h : j ≤ k) :
    FnOk P w K mg base CX k f fd ps sp := ⟨F.len, fun A outer s H args us vs Q E hr => F.run A outer s H args us vs Q E (hr.mono h)⟩
theorem Env0.make {P : Program} {w : World} {K : PySem.W.Frag} {mg : Str → Option Value} {base : Heap} {A : Around} {outer : List Env} {s : Shared} {H : Hp} (e : Env0 P w K mg base A outer s H) (C : Addr) (us : List Value) (kw : List (Str × Value)) :
    Env0 P w K mg base (A.under (.builtin "type.__call__" ⟨.ref C :: us, kw⟩)) outer s H := ⟨by first | exact e.frames | (simpa [Around.under, Code.envs, Code.isFrame, pushEnvs] using e.frames), e.mod, e.bs, e.bsz, e.funs, e.frf, e.hok, e.bare⟩
theorem Env0.in1 {P : Program} {w : World} {K : PySem.W.Frag} {mg : Str → Option Value} {base : Heap} {A : Around} {outer : List Env} {s : Shared} {H : Hp} (e : Env0 P w K mg base A outer s H) :
    Env0 P w K mg base A.in1 outer s H := ⟨e.frames, e.mod, e.bs, e.bsz, e.funs, e.frf, e.hok, e.bare⟩

section
variable {X : Cx} {pins : List (Addr × Obj)} {σ : St} {H : Hp} {s s' : Shared}
/-- from a body: what a callee wants -/
theorem Inv.env0 (I : Inv X pins σ H s) : Env0 X.prog X.w X.K X.mg X.base X.A X.stack s H :=
  ⟨I.ok.frames, I.ok.mod, I.bs, Nat.le_trans I.ok.bsz I.sz, I.stack, I.stkFree, I.hok, I.bare⟩
/-- behind a call -/
theorem Inv.after {Q : VK} {u : Value} (I : Inv X pins σ H s) (h : CE X.stack X.prog X.w H s Q u s') : EP X pins σ Q u s' := by
  obtain ⟨v, H', os, bare, un, hok, r, q⟩ := h
  obtain ⟨hh, g, d, t, os'⟩ := s'
  obtain rfl : os' = s.os := os
  exact ⟨v, H', I.call (h' := hh) (g' := g) (d' := d) (t' := t) (ch := []) un hok bare (fun b z => absurd z (by simp)), r, q⟩
end

/-! ### calls -/
/-- f(..): the written arguments, then the defaults dvs; E: what is wanted of an exception -/
def tCall (sp : Sp) (dvs : List V) (E : XK) (t : TA) : TE := fun σ H Q => t σ H fun vs H1 => sp (vs ++ dvs) H1 Q E
/-- o.m(..) of an instance of the class at C -/
def tMeth (C : Addr) (m : Str) (sp : Sp) (dvs : List V) (E : XK) (ta : TE) (t : TA) : TE := fun σ H Q => ta σ H fun x H1 => ∃ a dx fs, x = .ref a ∧ H1 a = some (.ins C dx fs) ∧ fs.lookup m = none ∧
  t σ H1 fun vs H2 => sp (x :: (vs ++ dvs)) H2 Q E
/-- C(..): a new instance and its dict, then __init__ -/
def tMake (C : Addr) (sp : Sp) (dvs : List V) (E : XK) (t : TA) : TE := fun σ H Q => t σ H fun vs H1 => ∀ x dx, H1 x = none → H1 dx = none → dx ≠ x →
  sp (.ref x :: (vs ++ dvs)) (upd (upd H1 dx (.own x)) x (.ins C dx [])) (fun v H2 => v = .non ∧ Q (.ref x) H2) E

/-- how the parameters are bound: us the positional arguments, kw the keywords' values by name, ds the defaults that fill up -/
def Binds (K : PySem.W.Frag) (fd : FuncData) (ps : List Str) (ds : List Value) : Prop :=
  ∀ (s : Shared) (us : List Value), K.In s.heap → (us ++ ds).length = ps.length → BindsTo s fd ⟨us, []⟩ (ps.zip (us ++ ds))
/-- every parameter is given -/
theorem Binds.all {K : PySem.W.Frag} {fd : FuncData} {ps : List Str} (h : ∀ us : List Value, us.length = ps.length → bindArgs fd ⟨us, []⟩ = pure (ps.zip us)) : Binds K fd ps [] := fun s us _ hl => by
  rw [List.append_nil] at hl ⊢
  exact .of_eq (h us hl)

/-- an exception of a callee reaches what this body wants of exceptions -/
def Passes (CX : CXT) (X : Cx) (E : XK) : Prop := ∀ (pins : List (Addr × Obj)) (σ : St) (H : Hp) (s : Shared) (e : Value) (s' : Shared), Inv X pins σ H s → CX X.stack H s E e s' → X.xe e s'

section
variable {X : Cx} {CX : CXT} {k : Nat} {f C : Addr} {fd : FuncData} {ps : List Str} {sp : Sp} {dvs : List V} {ds : List Value} {E : XK} {x m : Str} {p pos apos : Pos} {e o : Expr} {es : List Expr} {ta : TE} {t : TA}

/-- the callee runs -/
theorem run_fn {pins : List (Addr × Obj)} {σ : St} {H : Hp} {s : Shared} {Q : VK} {us : List Value} {vs : List V} (F : FnOk X.prog X.w X.K X.mg X.base CX k f fd ps sp) (hr : Room k X.A) (hb : Binds X.K fd ps ds) (hd : Vals dvs ds) (hx : Passes CX X E)
    (I : Inv X pins σ H s) (r : Vals vs us) (h : sp (vs ++ dvs) H Q E) : wpAny (model X.prog X.w) X.A (call (.ref f) us) (EP X pins σ Q) X.xe s := by
  have r2 : Vals (vs ++ dvs) (us ++ ds) := r.append hd
  have hl : (us ++ ds).length = ps.length := by rw [← r2.length]; exact F.len _ _ _ _ h
  refine wpAny_call (codeAny_mono (F.run X.A X.stack s H ⟨us, []⟩ (us ++ ds) (vs ++ dvs) Q E hr I.env0 (hb s us I.kIn hl) r2 h) fun r s' hq => ?_)
  cases r with
  | error e => exact hx pins σ H s e s' I hq
  | ok fl =>
    cases fl with
    | ret u => exact I.after hq
    | next => exact False.elim hq
    | brk => exact False.elim hq
    | cont => exact False.elim hq

theorem pe_call (F : FnOk X.prog X.w X.K X.mg X.base CX k f fd ps sp) (hr : Room k X.A) (hg : Gl X x) (hm : X.mg x = some (.ref f)) (hk : PySem.W.keepIn X.K (.ref f) = true) (hb : Binds X.K fd ps ds) (hd : Vals dvs ds) (hx : Passes CX X E)
    (ha : PA X (e :: es) t) (hdb : (x == ("__debug__" : Str)) = false := by decide) (he : starEach (e :: es) X.env = (false, eval e X.env) :: starEach es X.env := by rfl) (hpl : (backTo pos (starEach es X.env)).any (·.1) = false := by rfl) :
    PE X (.Call (.Name x p) (e :: es) [] pos) (tCall sp dvs E t) := by
  intro pins s σ H Q I h
  refine wpAny_Call_Name_kw (ld_glob I hg hm ?_ hdb)
  refine PySem.W.callWith_K (h₀ := X.base) I.ok.mod.kin hk (thn (ha pos pins s σ H _ I h) fun us s1 ⟨vs, H1, I1, r, q⟩ => ⟨I1.kIn, ?_⟩) he hpl
  exact run_fn F hr hb hd hx I1 r q
/-- o.m(e, ..) -/
theorem pe_meth {pl : Sem Bool} (he : PE X o ta) (c : Cls X.K C) (hm : Meth X.K C m f) (F : FnOk X.prog X.w X.K X.mg X.base CX k f fd ps sp) (hr : Room k X.A) (hb : Binds X.K fd ps ds) (hd : Vals dvs ds) (hx : Passes CX X E) (ha : PA X (e :: es) t)
    (hst : starEach (e :: es) X.env = (false, eval e X.env) :: starEach es X.env := by rfl) (hpl : (backTo pos (starEach es X.env)).any (·.1) = false := by rfl)
    (ht : eval (.Call (.Attribute o m apos) (e :: es) [] pos) X.env = (do
      let ov ← eval o X.env
      standAt apos.atName
      let (f, first) ← holding [ov] (getMethod ov m pl)
      callWith pos f first (backTo pos (starEach (e :: es) X.env)) (backToKw pos (keywordEach [] X.env))) := by rfl) :
    PE X (.Call (.Attribute o m apos) (e :: es) [] pos) (tMeth C m sp dvs E ta t) := by
  intro pins s σ H Q I h
  refine PySem.W.methodCall_KW (pl := pl) (thn (he pins s σ H _ I h) fun u s1 ⟨x, H1, I1, rx, a, dx, fs, ex, ea, l, q⟩ => ?_) ht
  subst ex
  obtain rfl : u = Value.ref a := rx
  refine getmeth_ok I1 ea c hm l ?_
  refine PySem.W.callWith_K (first := [.ref a]) (h₀ := X.base) I.ok.mod.kin hm.kp (thn (ha pos pins s1 σ H1 _ I1 q) fun us s2 ⟨vs, H2, I2, r, q2⟩ => ⟨I2.kIn, ?_⟩) hst hpl
  exact run_fn (us := .ref a :: us) (vs := .ref a :: vs) F hr hb hd hx I2 (.cons rfl r) q2
/-- o.m() -/
theorem pe_meth0 {pl : Sem Bool} (he : PE X o ta) (c : Cls X.K C) (hm : Meth X.K C m f) (F : FnOk X.prog X.w X.K X.mg X.base CX k f fd ps sp) (hr : Room k X.A) (hb : Binds X.K fd ps ds) (hd : Vals dvs ds) (hx : Passes CX X E)
    (ht : eval (.Call (.Attribute o m apos) [] [] pos) X.env = (do
      let ov ← eval o X.env
      standAt apos.atName
      let (f, first) ← holding [ov] (getMethod ov m pl)
      callWith pos f first (backTo pos (starEach [] X.env)) (backToKw pos (keywordEach [] X.env))) := by rfl) :
    PE X (.Call (.Attribute o m apos) [] [] pos) (tMeth C m sp dvs E ta tNil) := by
  intro pins s σ H Q I h
  refine PySem.W.methodCall_KW (pl := pl) (thn (he pins s σ H _ I h) fun u s1 ⟨x, H1, I1, rx, a, dx, fs, ex, ea, l, q⟩ => ?_) ht
  subst ex
  obtain rfl : u = Value.ref a := rx
  refine getmeth_ok I1 ea c hm l ?_
  exact PySem.W.callWith_K0 (first := [.ref a]) I1.kIn hm.kp (run_fn (us := [.ref a]) (vs := [.ref a]) F hr hb hd hx I1 (.cons rfl .nil) q)

/-- what a class must have to be made -/
structure Mk (K : PySem.W.Frag) (C f : Addr) : Prop where
  makes : PySem.W.makesIn K C = true
  init : PySem.W.findIn K (.ref C) "__init__" = some (some (.ref f))
  fn : PySem.W.isFn K (.ref f) = true
  kp : PySem.W.keepIn K (.ref C) = true

theorem run_make {pins : List (Addr × Obj)} {σ : St} {H : Hp} {s : Shared} {Q : VK} {us : List Value} {vs : List V} (M : Mk X.K C f) (F : FnOk X.prog X.w X.K X.mg X.base CX k f fd ps sp) (hr : Room (k + 1) X.A) (hb : Binds X.K fd ps ds) (hd : Vals dvs ds)
    (hx : Passes CX X E) (I : Inv X pins σ H s) (r : Vals vs us)
    (h : ∀ x dx, H x = none → H dx = none → dx ≠ x → sp (.ref x :: (vs ++ dvs)) (upd (upd H dx (.own x)) x (.ins C dx [])) (fun v H2 => v = .non ∧ Q (.ref x) H2) E) :
    wpAny (model X.prog X.w) X.A (call (.ref C) us) (EP X pins σ Q) X.xe s := by
  have hq := h (s.heap.objs.size + 1) s.heap.objs.size (I.hok.fresh (Nat.le_succ _)) (I.hok.fresh (Nat.le_refl _)) (Nat.ne_of_lt (Nat.lt_succ_self _))
  have I2 := Inv.made (C := C) I
  have r2 : Vals (V.ref (s.heap.objs.size + 1) :: (vs ++ dvs)) (Value.ref (s.heap.objs.size + 1) :: (us ++ ds)) := .cons rfl (r.append hd)
  have hl : (Value.ref (s.heap.objs.size + 1) :: us ++ ds).length = ps.length := by
    have e := r2.length
    rw [F.len _ _ _ _ hq] at e
    exact e.symm
  refine wpAny_call (make_map (f := f) I.kIn M.makes M.init (beq_iff_eq.mp M.fn) (codeAny_mono (F.run _ X.stack _ _ ⟨Value.ref (s.heap.objs.size + 1) :: us, []⟩ (Value.ref (s.heap.objs.size + 1) :: (us ++ ds)) _ _ E (hr.make C us [])
    (I2.env0.make C us []) (hb _ (Value.ref (s.heap.objs.size + 1) :: us) I2.kIn hl) r2 hq) fun r s' hq' => ?_))
  cases r with
  | error e => exact hx pins σ _ _ e s' I2 hq'
  | ok fl =>
    cases fl with
    | ret u =>
      obtain ⟨v, H', I3, rv, ev, q3⟩ := I2.after hq'
      subst ev
      exact ⟨rv, ⟨V.ref (s.heap.objs.size + 1), H', I3, rfl, q3⟩⟩
    | next => exact False.elim hq'
    | brk => exact False.elim hq'
    | cont => exact False.elim hq'
theorem pe_make (M : Mk X.K C f) (F : FnOk X.prog X.w X.K X.mg X.base CX k f fd ps sp) (hr : Room (k + 1) X.A) (hg : Gl X x) (hm : X.mg x = some (.ref C)) (hb : Binds X.K fd ps ds) (hd : Vals dvs ds) (hx : Passes CX X E)
    (ha : PA X (e :: es) t) (hdb : (x == ("__debug__" : Str)) = false := by decide) (he : starEach (e :: es) X.env = (false, eval e X.env) :: starEach es X.env := by rfl) (hpl : (backTo pos (starEach es X.env)).any (·.1) = false := by rfl) :
    PE X (.Call (.Name x p) (e :: es) [] pos) (tMake C sp dvs E t) := by
  intro pins s σ H Q I h
  refine wpAny_Call_Name_kw (ld_glob I hg hm ?_ hdb)
  refine PySem.W.callWith_K (h₀ := X.base) I.ok.mod.kin M.kp (thn (ha pos pins s σ H _ I h) fun us s1 ⟨vs, H1, I1, r, q⟩ => ⟨I1.kIn, ?_⟩) he hpl
  exact run_make M F hr hb hd hx I1 r q
end

/-! ### keywords -/
/-- the values of the keywords, from the left -/
def PK (X : Cx) (kws : List Keyword) (t : TA) : Prop :=
  ∀ (pos : Pos) (pins : List (Addr × Obj)) (s : Shared) (σ : St) (H : Hp) (Q : List V → Hp → Prop), Inv X pins σ H s → t σ H Q → wpAny (model X.prog X.w) X.A (evalAll ((backToKw pos (keywordEach kws X.env)).map (·.2))) (AP X pins σ Q) X.xe s
section
variable {X : Cx} {CX : CXT} {k : Nat} {f C : Addr} {fd : FuncData} {ps ks : List Str} {sp : Sp} {E : XK} {x m : Str} {p pos apos kpos : Pos} {e o : Expr} {es : List Expr} {kws : List Keyword} {te ta : TE} {t tk : TA} {nm : Option Str}
/-- how a call with keywords binds: g puts the positional values us and the keywords' values ws (names ks) in the parameters' order, defaults among them -/
structure KBinds (K : PySem.W.Frag) (fd : FuncData) (ps ks : List Str) (g : List Value → List Value → List Value) (gV : List V → List V → List V) : Prop where
  to : ∀ (s : Shared) (us ws : List Value), K.In s.heap → (g us ws).length = ps.length → BindsTo s fd ⟨us, ks.zip ws⟩ (ps.zip (g us ws))
  rel : ∀ {vs : List V} {us : List Value} {zs : List V} {ws : List Value}, Vals vs us → Vals zs ws → Vals (gV vs zs) (g us ws)
def tCallK (sp : Sp) (gV : List V → List V → List V) (E : XK) (t tk : TA) : TE := fun σ H Q => t σ H fun vs H1 => tk σ H1 fun zs H2 => sp (gV vs zs) H2 Q E
variable {g : List Value → List Value → List Value} {gV : List V → List V → List V}
end

/-! ### a def's body keeps its promise -/
/-- names: the parameters first -/
structure FnScope (N P : List Str) (sc : Scope) : Prop where
  kind : sc.kind = .function
  co : sc.isCoroutine = false
  gen : sc.isGenerator = false
  nd : N.Nodup
  pre : N.take P.length = P
  par : ∀ x ∈ P, sc.names.lookup x = some .local ∨ sc.names.lookup x = some .cell
  nofree : ∀ y ∈ sc.names, y.2 ≠ .free

theorem bindL_out {kindOf : Str → Option NameKind} {x : Str} : ∀ {binds : List (Str × Value)} {m : Str → Option Value}, (∀ v, (x, v) ∉ binds) → bindL kindOf binds m x = m x
  | [], _, _ => rfl
  | (n, v) :: r, m, h => by
    unfold bindL
    rw [bindL_out fun w hw => h w (List.mem_cons_of_mem _ hw)]
    split
    · have : x ≠ n := by rintro rfl; exact h v List.mem_cons_self
      simp [this]
    · rfl
theorem bindC_out {kindOf : Str → Option NameKind} {x : Str} : ∀ {binds : List (Str × Value)} {m : Str → Option Value}, (∀ v, (x, v) ∉ binds) → bindC kindOf binds m x = m x
  | [], _, _ => rfl
  | (n, v) :: r, m, h => by
    unfold bindC
    rw [bindC_out fun w hw => h w (List.mem_cons_of_mem _ hw)]
    split
    · rfl
    · have : x ≠ n := by rintro rfl; exact h v List.mem_cons_self
      simp [this]
theorem bindL_get {kindOf : Str → Option NameKind} {x : Str} {v : Value} : ∀ {P : List Str} {vs : List Value} {i : Nat} {m : Str → Option Value}, P.Nodup → P[i]? = some x → vs[i]? = some v → kindOf x = some .local →
    bindL kindOf (P.zip vs) m x = some v
  | [], _, _, _, _, h, _, _ => by simp at h
  | _ :: _, [], _, _, _, _, h, _ => by simp at h
  | p :: P, w :: vs, 0, m, nd, h1, h2, hk => by
    simp at h1 h2; subst h1; subst h2
    show bindL kindOf ((p, w) :: P.zip vs) m p = _
    unfold bindL
    rw [bindL_out fun v hv => (List.nodup_cons.mp nd).1 (List.of_mem_zip hv).1, if_pos hk]
    simp
  | p :: P, w :: vs, i + 1, m, nd, h1, h2, hk => by
    show bindL kindOf ((p, w) :: P.zip vs) m x = _
    unfold bindL
    exact bindL_get (i := i) (List.nodup_cons.mp nd).2 (by simpa using h1) (by simpa using h2) hk
theorem bindC_get {kindOf : Str → Option NameKind} {x : Str} {v : Value} : ∀ {P : List Str} {vs : List Value} {i : Nat} {m : Str → Option Value}, P.Nodup → P[i]? = some x → vs[i]? = some v → kindOf x ≠ some .local →
    bindC kindOf (P.zip vs) m x = some v
  | [], _, _, _, _, h, _, _ => by simp at h
  | _ :: _, [], _, _, _, _, h, _ => by simp at h
  | p :: P, w :: vs, 0, m, nd, h1, h2, hk => by
    simp at h1 h2; subst h1; subst h2
    show bindC kindOf ((p, w) :: P.zip vs) m p = _
    unfold bindC
    rw [bindC_out fun v hv => (List.nodup_cons.mp nd).1 (List.of_mem_zip hv).1, if_neg hk]
    simp
  | p :: P, w :: vs, i + 1, m, nd, h1, h2, hk => by
    show bindC kindOf ((p, w) :: P.zip vs) m x = _
    unfold bindC
    exact bindC_get (i := i) (List.nodup_cons.mp nd).2 (by simpa using h1) (by simpa using h2) hk

/-- the names' values at the entry -/
def start (N : List Str) (vs : List V) : St := vs.map some ++ List.replicate (N.length - vs.length) none

/-- the context of a def's body, at its entry; an exception leaves the frame, then lies as CX says -/
def cxOf (CX : CXT) (P : Program) (w : World) (K : PySem.W.Frag) (mg : Str → Option Value) (base : Heap) (N : List Str) (qual : Str) (scope : Scope) (f : Addr) (cd : Value) (A : Around) (outer : List Env) (s : Shared) (H : Hp) (E : XK) : Cx where
  prog := P
  w := w
  K := K
  mg := mg
  base := base
  A := A.deeper (envOfC qual scope s.heap.objs.size f cd)
  N := N
  s₀ := s
  H₀ := H
  env := envOfC qual scope s.heap.objs.size f cd
  outer := outer
  stack := envOfC qual scope s.heap.objs.size f cd :: outer
  ex := []
  calm := true
  fn := fun _ => true
  pn := []
  xe := fun e s' => wpAny (model P w) (A.deeper (envOfC qual scope s.heap.objs.size f cd)) (leaving (envOfC qual scope s.heap.objs.size f cd) e) (fun _ s'' => CX outer H s E e s'') (fun e' s'' => CX outer H s E e' s'') s'

theorem cell_has {sc : Scope} {n : Nat} {x : Str} (h : sc.names.lookup x = some .cell) : ∃ c, (cellsFrom n sc.names []).lookup x = some c := by
  have q := PySem.W.cellsFrom_some sc.names n [] (.inl h)
  exact Option.isSome_iff_exists.mp q

theorem inv_start {CX : CXT} {P : Program} {w : World} {K : PySem.W.Frag} {mg : Str → Option Value} {base : Heap} {N ps : List Str} {qual : Str} {scope : Scope} {f : Addr} {cd : Value} {A : Around} {outer : List Env} {s s1 : Shared} {H : Hp} {E : XK} {us : List Value} {vs : List V}
    (S : FnScope N ps scope) (hd : A.handled = none) (e0 : Env0 P w K mg base A outer s H) (hl : vs.length = ps.length) (r : Vals vs us)
    (x : InCallC s s.heap.objs.size (bindL (envOfC qual scope s.heap.objs.size f cd).kindOf (ps.zip us) fun _ => none) (cellsFrom (s.heap.objs.size + 1) scope.names []) (bindC (envOfC qual scope s.heap.objs.size f cd).kindOf (ps.zip us) fun _ => none) s1) :
    Inv (cxOf CX P w K mg base N qual scope f cd A outer s H E) [] (start N vs) H s1 := by
  have hpl : ps.length ≤ N.length := by have := congrArg List.length S.pre; rw [List.length_take] at this; omega
  obtain ⟨h1, tk, rfl, hk⟩ := x.done
  have noA : ∀ b : Addr, b ∉ (cxOf CX P w K mg base N qual scope f cd A outer s H E).ex := fun b z => absurd (show b ∈ ([] : List Addr) from z) (by simp)
  refine ⟨⟨e0.mod, S.kind, rfl, rfl, Nat.le_refl _, fun y z c h1 h2 => ?_, fun y hy => ?_, fun y c _ h => ?_, fun _ => hd, Around.frames_deeper e0.frames, .inr ⟨rfl, rfl⟩, fun b z => absurd z (noA b), e0.bs, e0.bsz, fun b _ _ => noA b, fun b z => absurd z (noA b), e0.funs, e0.frf⟩,
    rfl, e0.bare, Un.kept hk, ⟨_, x.toInCall.ns, fun i y v h1 h2 h3 => ?_⟩, fun y c h => ⟨_, x.cell y c h⟩, e0.hok.fresh (Nat.le_refl _), fun y c h => ?_, fun p hp => absurd (show p ∈ ([] : List (Addr × Obj)) from hp) (by simp), e0.hok.kept hk, ?_⟩
  · exact name_of_addr x.apart (PySem.mem_of_lookup h1) (PySem.mem_of_lookup h2)
  · have hy : scope.names.lookup y = some .cell ∨ scope.names.lookup y = some .free := hy
    rcases hy with hy | hy
    · exact cell_has hy
    · exact absurd rfl (S.nofree _ (PySem.mem_of_lookup hy))
  · exact Nat.le_of_lt (x.above y c (PySem.mem_of_lookup h))
  · have hi : i < vs.length := by
      unfold start at h2
      by_cases hi : i < vs.length
      · exact hi
      · rw [List.getElem?_append_right (by simpa using hi)] at h2
        rw [List.getElem?_replicate] at h2
        split at h2 <;> cases h2
    have ha : vs[i]? = some v := by
      unfold start at h2
      rw [List.getElem?_append_left (by simpa using hi), List.getElem?_map] at h2
      cases e : vs[i]? with
      | none => rw [e] at h2; cases h2
      | some a => rw [e] at h2; cases h2; rfl
    obtain ⟨u, hu, rv⟩ := r.get ha
    have hp : ps[i]? = some y := by
      rw [← S.pre, List.getElem?_take_of_lt (by omega)]; exact h1
    have ndP : ps.Nodup := by rw [← S.pre]; exact S.nd.sublist (List.take_sublist _ _)
    refine ⟨u, rv, ?_⟩
    rcases S.par y (List.mem_of_getElem? hp) with k | k
    · exact .inl ⟨k, bindL_get ndP hp hu k⟩
    · obtain ⟨c, e⟩ := cell_has (n := s.heap.objs.size + 1) k
      refine .inr ⟨.inl k, c, e, ?_⟩
      have q := x.cell y c e
      rw [bindC_get ndP hp hu (by show scope.names.lookup y ≠ _; rw [k]; decide)] at q
      exact q
  · exact e0.hok.fresh (Nat.le_of_lt (x.above y c (PySem.mem_of_lookup h)))
  · unfold start
    show _ = N.length
    rw [List.length_append, List.length_map, List.length_replicate]
    omega

/-- THE RULE: a def (or a method) of the text, by its body. The body's reading t is chosen for each entry; it is run at the parameters' values -/
theorem fn_of {CX : CXT} {P : Program} {w : World} {K : PySem.W.Frag} {mg : Str → Option Value} {base : Heap} {k : Nat} {f : Addr} {name qual : Str} {params : Arguments} {body : List Stmt} {scope : Scope} {dV kV doc pm cdv ct oc : Value} {an od : Option Addr}
    {osl : Array (Option Value)} {N ps : List Str} {sp : Sp} (lk : K.lookup f = some ⟨oc, od, .func (PySem.W.fnOf name qual params body scope dV kV doc pm an cdv ct), osl⟩) (hcd : PySem.W.codeIn K cdv qual = true) (S : FnScope N ps scope)
    (len : ∀ vs H Q E, sp vs H Q E → vs.length = ps.length)
    (hbody : ∀ (A : Around) (outer : List Env) (s : Shared) (H : Hp) (vs : List V) (Q : VK) (E : XK), Room k (A.deeper (envOfC qual scope s.heap.objs.size f cdv)) → sp vs H Q E →
      ∃ t, PSs (cxOf CX P w K mg base N qual scope f cdv A outer s H E) body t ∧ t { nx := fun _ H' => Q .non H', rt := Q } (start N vs) H) :
    FnOk P w K mg base CX (k + 1) f (PySem.W.fnOf name qual params body scope dV kV doc pm an cdv ct) ps sp := by
  refine ⟨len, fun A outer s H args us vs Q E hr e0 hb r hsp => ?_⟩
  have hl := len _ _ _ _ hsp
  have KX : K.In s.heap := e0.mod.kin.keeps fun b o e => (e0.bs b o e).1
  have lim : s.heap.NoLimit := e0.mod.nolimit.keeps fun b o e => (e0.bs b o e).1
  have hkind : ∀ y ∈ ps.zip us, scope.names.lookup y.1 = some .local ∨ (scope.names.lookup y.1 = some .cell ∧ ((cellsFrom (s.heap.objs.size + 1) scope.names []).lookup y.1).isSome = true) := fun ⟨n, v⟩ hy => by
    rcases S.par n (List.of_mem_zip hy).1 with q | q
    · exact .inl q
    · exact .inr ⟨q, PySem.W.cellsFrom_some _ _ _ (.inl q)⟩
  refine codeAny_call_function hr.depth (KX _ _ lk) rfl S.co S.gen rfl (PySem.W.codeRec_of KX hcd) (hb _ _ _ _ ?_)
  refine wpAny_newFunctionEnv_cells S.kind hkind fun env he s1 x => ?_
  subst he
  refine ⟨lim.keeps x.toInCall.keep, codeAny_func ?_⟩
  obtain ⟨t, ht, hq⟩ := hbody A outer s H vs Q E (hr.deeper _) hsp
  have I : Inv (cxOf CX P w K mg base N qual scope f cdv A outer s H E) [] (start N vs) H s1 := inv_start S hr.hd e0 hl r x
  refine wpAny_mono (ht [] s1 (start N vs) H _ I hq) (fun fl s' hs => ?_) fun e s' hs => hs
  have fin : ∀ {σ' : St} {H' : Hp} {v : V} {u : Value}, Inv (cxOf CX P w K mg base N qual scope f cdv A outer s H E) [] σ' H' s' → RelV v u → Q v H' → CE outer P w H s Q u s' :=
    fun {σ' H' v u} J rv q => ⟨v, H', J.os, J.bare, J.base, J.hok, rv, q⟩
  cases fl with
  | ret u =>
    obtain ⟨v, σ', H', J, rv, q⟩ := hs
    exact fin J rv q
  | next =>
    obtain ⟨σ', H', J, q⟩ := hs
    exact fin (v := V.non) (u := Value.none) J rfl q
  | brk =>
    obtain ⟨_, _, _, q⟩ := hs
    exact False.elim q
  | cont =>
    obtain ⟨_, _, _, q⟩ := hs
    exact False.elim q
end L2

namespace L2
open PySem PySem.Spec PyProof.Rows
section
variable {X : Cx} {x : Str} {p pos : Pos} {e : Expr} {es : List Expr} {t : TA} {id T : String} {r : List V → Hp → VK → Prop}

def tCB (r : List V → Hp → VK → Prop) (t : TA) : TE := fun σ H Q => t σ H fun vs H1 => r vs H1 Q
/-- f(e, ..), f a built-in function -/
theorem pe_callB (hc : CallR X (.builtin id) r) (hg : Gl X x) (hm : X.mg x = none) (hv : bootBuiltins x = some (.builtin id)) (ha : PA X (e :: es) t) (hn : x ≠ "__name__" := by decide) (hdb : (x == ("__debug__" : Str)) = false := by decide)
    (he : starEach (e :: es) X.env = (false, eval e X.env) :: starEach es X.env := by rfl) (hpl : (backTo pos (starEach es X.env)).any (·.1) = false := by rfl) : PE X (.Call (.Name x p) (e :: es) [] pos) (tCB r t) := by
  intro pins s σ H Q I h
  refine wpAny_Call_Name_kw (ld_blt I hg hm hv ?_ hn hdb)
  exact PyProof.Rows.callWith_builtin1 (thn (ha pos pins s σ H _ I h) fun us s1 ⟨vs, H1, I1, r1, q1⟩ => hc pins s1 σ H1 vs us Q I1 r1 q1) he hpl
/-- T(e, ..), T a built-in type -/
theorem pe_callTy (hc : CallR X (.type T) r) (hg : Gl X x) (hm : X.mg x = none) (hv : bootBuiltins x = some (.type T)) (ha : PA X (e :: es) t) (hn : x ≠ "__name__" := by decide) (hdb : (x == ("__debug__" : Str)) = false := by decide)
    (he : starEach (e :: es) X.env = (false, eval e X.env) :: starEach es X.env := by rfl) (hpl : (backTo pos (starEach es X.env)).any (·.1) = false := by rfl) : PE X (.Call (.Name x p) (e :: es) [] pos) (tCB r t) := by
  intro pins s σ H Q I h
  refine wpAny_Call_Name_kw (ld_blt I hg hm hv ?_ hn hdb)
  exact PyProof.Rows.callWith_type1 (thn (ha pos pins s σ H _ I h) fun us s1 ⟨vs, H1, I1, r1, q1⟩ => hc pins s1 σ H1 vs us Q I1 r1 q1) he hpl
end
end L2

namespace HT
open PySem PyProof.Rows

/-- t < u of tuples of ints -/
def lexLt : List Int → List Int → Bool
  | [], [] => false
  | [], _ :: _ => true
  | _ :: _, [] => false
  | x :: xs, y :: ys => if x = y then lexLt xs ys else decide (x < y)
section
open PySem.SeqAt
open PySem.AutoSeq1 (wpAny_loadPart')
open PySem.MeetsSeq PySem.MeetsSeq2 PySem.MeetsSeq3

end

section
variable {prog : Program} {w : World} {A : Around} {E : Value → Shared → Prop} {s : Shared}

/-! ### t[a:b], not the whole -/
/-- a slice's bound as a place among n (d where it is left out) -/
def sIx (n d : Nat) : Option Int → Nat
  | none => d
  | some v => if v < 0 then (v + (n : Int)).toNat else min v.toNat n
end
end HT

namespace L2
open PySem PySem.Spec PyProof.Rows

/-! ### the parts of a slice -/
abbrev TO := St → Hp → (Option Int → Hp → Prop) → Prop
/-- a slice's part (left out, or an int) -/
def PO (X : Cx) (e : Option Expr) (t : TO) : Prop :=
  ∀ (pins : List (Addr × Obj)) (s : Shared) (σ : St) (H : Hp) (Q : Option Int → Hp → Prop), Inv X pins σ H s → t σ H Q →
    wpAny (model X.prog X.w) X.A (evalPart e X.env) (fun u s' => ∃ o H', Inv X pins σ H' s' ∧ IsPart u o ∧ Q o H') X.xe s
def tNoPart : TO := fun _ H Q => Q none H
def tPart (t : TE) : TO := fun σ H Q => t σ H fun x H1 => ∃ i, x = .int i ∧ Q (some i) H1

section
variable {X : Cx} {e : Expr} {te : TE} {lo hi : Option Expr} {tl th : TO} {pos p2 : Pos}

theorem po_some (h : PE X e te) : PO X (some e) (tPart te) := by
  intro pins s σ H Q I hw
  rw [evalPart_some]
  refine thn (h pins s σ H _ I hw) fun u s1 ⟨x, H1, I1, r1, q1⟩ => ?_
  obtain ⟨i, rfl, q⟩ := q1
  obtain ⟨t, rfl⟩ := r1
  exact ⟨some i, H1, I1, .int i t, q⟩

/-- what a slice of a value is, by values: the slice object stands at sl -/
def SlR (X : Cx) (r : V → Option Int → Option Int → Hp → VK → Prop) : Prop :=
  ∀ (pins : List (Addr × Obj)) (s : Shared) (σ : St) (H : Hp) (x : V) (v vl vu : Value) (lo hi : Option Int) (sl : Addr) (Q : VK), Inv X pins σ H s → RelV x v → s.heap.IsSliceOf sl vl vu .none → IsPart vl lo → IsPart vu hi → r x lo hi H Q →
    ∃ T id, typeLookup (.type T) "__getitem__" = pure (some (.builtin id)) ∧ s.TypeIs v T ∧ wpAny (model X.prog X.w) X.A (getItem v (.ref sl)) (EP X pins σ Q) X.xe s
theorem SlR.or {r r' : V → Option Int → Option Int → Hp → VK → Prop} (h : SlR X r) (h' : SlR X r') : SlR X (fun x lo hi H Q => r x lo hi H Q ∨ r' x lo hi H Q) := by
  intro pins s σ H x v vl vu lo hi sl Q I rx hs pl pu q
  rcases q with q | q
  · exact h pins s σ H x v vl vu lo hi sl Q I rx hs pl pu q
  · exact h' pins s σ H x v vl vu lo hi sl Q I rx hs pl pu q
def tSl (r : V → Option Int → Option Int → Hp → VK → Prop) (te : TE) (tl th : TO) : TE := fun σ H Q => te σ H fun x H1 => tl σ H1 fun l H2 => th σ H2 fun u H3 => r x l u H3 Q
/-- a[lo:hi], any a -/
theorem pe_slice {r : V → Option Int → Option Int → Hp → VK → Prop} (hr : SlR X r) (he : PE X e te) (hl : PO X lo tl) (hu : PO X hi th) : PE X (.Subscript e (.Slice lo hi none p2) pos) (tSl r te tl th) := by
  intro pins s σ H Q I h
  refine Subscript_ (thn (he pins s σ H _ I h) fun v s1 ⟨x, H1, I1, r1, q1⟩ => ?_)
  refine wpAny_Slice (thn (hl pins s1 σ H1 _ I1 q1) fun vl s2 ⟨l, H2, I2, pl, q2⟩ => thn (hu pins s2 σ H2 _ I2 q2) fun vu s3 ⟨u, H3, I3, pu, q3⟩ => ?_)
  rw [evalPart_none]
  refine wpAny_pure ?_
  have I4 : Inv X pins σ H3 { s3 with heap := s3.heap.push { cls := .type "slice", data := .fields #[vl, vu, .none] } } := I3.kept (t' := s3.toks) fun b ob q => Heap.get?_push_of_some _ q
  obtain ⟨T, id, hT, ht, hg⟩ := hr pins { s3 with heap := s3.heap.push { cls := .type "slice", data := .fields #[vl, vu, .none] } } σ H3 x v vl vu l u s3.heap.objs.size Q I4 r1 (Heap.IsSliceOf.new ..) pl pu q3
  show wpAny (model X.prog X.w) X.A (subscriptTail e (.Slice lo hi none p2) v (.ref s3.heap.objs.size)) (EP X pins σ Q) X.xe { s3 with heap := s3.heap.push { cls := .type "slice", data := .fields #[vl, vu, .none] } }
  exact tail_any (ops := [.ref s3.heap.objs.size, v]) ht hT hg (by with_unfolding_all rfl)

/-- the items of xs[lo:hi] -/
def cutV (xs : List V) (lo hi : Option Int) : List V := (xs.drop (HT.sIx xs.length 0 lo)).take (HT.sIx xs.length xs.length hi - HT.sIx xs.length 0 lo)
theorem cutV_length (xs : List V) (lo hi : Option Int) : (cutV xs lo hi).length ≤ xs.length := by
  unfold cutV
  rw [List.length_take, List.length_drop]
  omega
/-- t[lo:hi], not the whole of it (the whole would be t itself) -/
def rSlT (K : PySem.W.Frag) : V → Option Int → Option Int → Hp → VK → Prop := fun x lo hi H Q => ∃ a xs, x = .ref a ∧ SqT K H a xs ∧
  ¬ (HT.sIx xs.length 0 lo = 0 ∧ HT.sIx xs.length xs.length hi = xs.length) ∧ ∀ p, H p = none → Q (.ref p) (upd H p (.tup (cutV xs lo hi)))
/-! ### t < u, t + u -/
def rLtT (K : PySem.W.Frag) : R2 := fun x y H Q => ∃ a b ns ms, x = .ref a ∧ y = .ref b ∧ SqT K H a (ns.map V.int) ∧ SqT K H b (ms.map V.int) ∧ Q (.bl (HT.lexLt ns ms)) H
/-- t + u, t not empty: u empty gives t itself -/
def rCatT (K : PySem.W.Frag) : R2 := fun x y H Q => ∃ a b xs ys, x = .ref a ∧ y = .ref b ∧ SqT K H a xs ∧ SqT K H b ys ∧ xs ≠ [] ∧ xs.length + ys.length ≤ sizeLine ∧
  (ys = [] → Q (.ref a) H) ∧ (ys ≠ [] → ∀ p, H p = none → Q (.ref p) (upd H p (.tup (xs ++ ys))))
end
end L2

namespace L2
open PySem PySem.Spec PyProof.Rows

/-! ### places -/
/-- the place that an index of any sign means -/
def ixN (n : Nat) (i : Int) : Option Nat := if 0 ≤ i then (if i < n then some i.toNat else none) else if -(n : Int) ≤ i then some (i + n).toNat else none
def atI {α : Type} (xs : List α) (i : Int) : Option α := (ixN xs.length i).bind fun j => xs[j]?
theorem ixN_seq {n : Nat} {i : Int} {j : Nat} (h : ixN n i = some j) : seqIndex? i n = some j ∧ j < n ∧ -(n : Int) ≤ i ∧ i < n := by
  unfold ixN at h
  by_cases h0 : 0 ≤ i
  · rw [if_pos h0] at h
    by_cases h1 : i < n
    · rw [if_pos h1] at h
      have e : i.toNat = j := Option.some.inj h
      exact ⟨by rw [seqIndex_of h0 h1, e], by omega, by omega, h1⟩
    · rw [if_neg h1] at h; cases h
  · rw [if_neg h0] at h
    by_cases h1 : -(n : Int) ≤ i
    · rw [if_pos h1] at h
      have e : (i + n).toNat = j := Option.some.inj h
      exact ⟨by rw [seqIndex_neg (by omega) h1, e], by omega, h1, by omega⟩
    · rw [if_neg h1] at h; cases h
theorem atI_get {α : Type} {xs : List α} {i : Int} {v : α} (h : atI xs i = some v) : ∃ j, seqIndex? i xs.length = some j ∧ xs[j]? = some v ∧ j < xs.length ∧ -(xs.length : Int) ≤ i ∧ i < xs.length := by
  unfold atI at h
  cases e : ixN xs.length i with
  | none => rw [e] at h; cases h
  | some j =>
    rw [e] at h
    obtain ⟨h1, h2, h3, h4⟩ := ixN_seq e
    exact ⟨j, h1, h, h2, h3, h4⟩
theorem atI_nat {α : Type} {xs : List α} {j : Nat} {v : α} (h : xs[j]? = some v) : atI xs (j : Int) = some v := by
  have hj : j < xs.length := (List.getElem?_eq_some_iff.mp h).1
  have e : ixN xs.length (j : Int) = some j := by
    unfold ixN
    rw [if_pos (by omega), if_pos (by omega)]; simp
  unfold atI; rw [e]; exact h
theorem atI_last {α : Type} (xs : List α) (v : α) : atI (xs ++ [v]) (-1) = some v := by
  have hl : (xs ++ [v]).length = xs.length + 1 := by simp
  have e : ixN (xs ++ [v]).length (-1) = some xs.length := by
    unfold ixN
    rw [hl, if_neg (by decide), if_pos (by omega)]
    congr 1
    omega
  unfold atI
  rw [e]
  show (xs ++ [v])[xs.length]? = some v
  simp

/-! ### what may be subscripted -/
/-- what stands as an index of a plain subscript -/
def PlainIx (b : Expr) : Prop := ∀ o i, subscripted b false o i = operate [o, i] (getItem o i)
/-- a subscript by values -/
def IxR (X : Cx) (r : R2) : Prop :=
  ∀ (value slice : Expr) (pins : List (Addr × Obj)) (s : Shared) (σ : St) (H : Hp) (x y : V) (v u : Value) (Q : VK), Inv X pins σ H s → RelV x v → RelV y u → r x y H Q →
    subscripted slice false v u = operate [v, u] (getItem v u) → wpAny (model X.prog X.w) X.A (subscriptTail value slice v u) (EP X pins σ Q) X.xe s
/-- a call of a builtin's method by values: the receiver, the arguments -/
def MtR (X : Cx) (id : String) (r : V → List V → Hp → VK → Prop) : Prop :=
  ∀ (pins : List (Addr × Obj)) (s : Shared) (σ : St) (H : Hp) (x : V) (xs : List V) (v : Value) (us : List Value) (Q : VK), Inv X pins σ H s → RelV x v → Vals xs us → r x xs H Q →
    wpAny (model X.prog X.w) X.A (call (.builtin id) (v :: us)) (EP X pins σ Q) X.xe s
section
variable {X : Cx} {a b : Expr} {ta tb : TE} {pos : Pos}
theorem IxR.or {r r' : R2} (h : IxR X r) (h' : IxR X r') : IxR X (fun x y H Q => r x y H Q ∨ r' x y H Q) := by
  intro value slice pins s σ H x y v u Q I rx ry q hs
  rcases q with q | q
  · exact h value slice pins s σ H x y v u Q I rx ry q hs
  · exact h' value slice pins s σ H x y v u Q I rx ry q hs
theorem MtR.or {id : String} {r r' : V → List V → Hp → VK → Prop} (h : MtR X id r) (h' : MtR X id r') : MtR X id (fun x xs H Q => r x xs H Q ∨ r' x xs H Q) := by
  intro pins s σ H x xs v us Q I rx rs q
  rcases q with q | q
  · exact h pins s σ H x xs v us Q I rx rs q
  · exact h' pins s σ H x xs v us Q I rx rs q
/-- a[b] -/
theorem pe_ix {r : R2} (hr : IxR X r) (ha : PE X a ta) (hb : PE X b tb) (hs : PlainIx b) : PE X (.Subscript a b pos) (tOp r ta tb) := by
  intro pins s σ H Q I h
  exact Subscript_ (binT ha hb I h fun v u s2 x y H2 I2 rx ry q => hr a b pins s2 σ H2 x y v u Q I2 rx ry q (hs _ _))

def rIxL (K : PySem.W.Frag) : R2 := fun x y H Q => ∃ p xs i v, x = .ref p ∧ y = .int i ∧ SqL K H p xs ∧ atI xs i = some v ∧ Q v H
def rIxT (K : PySem.W.Frag) : R2 := fun x y H Q => ∃ p xs i v, x = .ref p ∧ y = .int i ∧ SqT K H p xs ∧ atI xs i = some v ∧ Q v H
def rIxS : R2 := fun x y H Q => ∃ z i c, x = .str z ∧ y = .int i ∧ z.length ≤ sizeLine ∧ atI z.cps.toList i = some c ∧ Q (.str ⟨#[c]⟩) H
theorem ix_list : IxR X (rIxL X.K) := by
  intro value slice pins s σ H x y v u Q I rx ry h hs
  obtain ⟨p, xs, i, z, rfl, rfl, hq, he, q⟩ := h
  cases rx
  obtain ⟨t, rfl⟩ := ry
  obtain ⟨its, r, pl, hz⟩ := I.list hq
  obtain ⟨j, h1, h2, h3, h4, h5⟩ := atI_get he
  obtain ⟨w, ew, rw'⟩ := r.get h2
  have hl := r.length
  have hn := line63
  have fin : EP X pins σ Q w s := ⟨z, H, I, rw', q⟩
  by_cases h0 : 0 ≤ i
  · have hj : i.toNat = j := by
      rw [seqIndex_of h0 h5] at h1
      exact Option.some.inj h1
    exact item_listR pl.isList h0 (by omega) (by rw [hj]; simpa using ew) fin hs
  · have hj : (i + (its.toArray.size : Int)).toNat = j := by
      rw [seqIndex_neg (by omega) h4] at h1
      rw [List.size_toArray, ← hl]
      exact Option.some.inj h1
    exact subscriptTail_builtinR (x := w) pl.isList.typeIs slot_list_getitem.lookup
      (wpAny_getItem_list_neg (Q := fun r s' => r = w ∧ EP X pins σ Q r s') pl.isList (by omega) (by rw [List.size_toArray] <;> omega) (by omega) (by rw [hj]; simpa using ew) ⟨rfl, fin⟩) hs
theorem ix_tup : IxR X (rIxT X.K) := by
  intro value slice pins s σ H x y v u Q I rx ry h hs
  obtain ⟨p, xs, i, z, rfl, rfl, hq, he, q⟩ := h
  cases rx
  obtain ⟨t, rfl⟩ := ry
  obtain ⟨its, r, pl, hz⟩ := I.tuple hq
  obtain ⟨j, h1, h2, h3, h4, h5⟩ := atI_get he
  obtain ⟨w, ew, rw'⟩ := r.get h2
  have hl := r.length
  have hn := line63
  have fin : EP X pins σ Q w s := ⟨z, H, I, rw', q⟩
  exact subscriptTail_builtinR (x := w) pl.typeIs slot_tuple_getitem.lookup
    (getItem_tuple (j := j) (Q := fun r s' => r = w ∧ EP X pins σ Q r s') pl (by omega) (by omega) (by rw [List.size_toArray, ← hl]; exact h1) (by simpa using ew) ⟨rfl, fin⟩) hs
/-- list, tuple or str -/
def rIx (K : PySem.W.Frag) : R2 := fun x y H Q => rIxL K x y H Q ∨ rIxT K x y H Q ∨ rIxS x y H Q
/-! ### xs[i] = v, any sign -/
theorem Inv.lst {pins : List (Addr × Obj)} {σ : St} {H : Hp} {s : Shared} {p : Addr} {xs : List V} (I : Inv X pins σ H s) (h : H p = some (.lst xs)) :
    ∃ (its : List Value) (n : Nat), Vals xs its ∧ s.heap.get? p = some { cls := .type "list", data := .seq its.toArray n } ∧ xs.length ≤ sizeLine := by
  obtain ⟨z, its, n, r, e⟩ := I.hok p _ h
  exact ⟨its, n, r, e, z⟩
def rSetL : V → V → V → Hp → (Hp → Prop) → Prop := fun o i v H Q => ∃ p xs k j, o = .ref p ∧ i = .int k ∧ H p = some (.lst xs) ∧ ixN xs.length k = some j ∧ Q (upd H p (.lst (xs.set j v)))
/-! ### slices -/
theorem slice_bounds (lo hi : Option Int) (n : Nat) : (sliceBounds lo hi none n).1 = ((HT.sIx n 0 lo : Nat) : Int) ∧ (sliceBounds lo hi none n).2.1 = ((HT.sIx n n hi : Nat) : Int) ∧ (sliceBounds lo hi none n).2.2 = 1 := by
  refine ⟨?_, ?_, rfl⟩
  · cases lo with
    | none => simp [sliceBounds, HT.sIx]
    | some i =>
      simp only [sliceBounds, HT.sIx, Option.getD_none, show (1 : Int) > 0 by decide, if_true]
      by_cases h : i < 0
      · simp only [h, if_true] <;> omega
      · simp only [h, if_false] <;> omega
  · cases hi with
    | none => simp [sliceBounds, HT.sIx]
    | some i =>
      simp only [sliceBounds, HT.sIx, Option.getD_none, show (1 : Int) > 0 by decide, if_true]
      by_cases h : i < 0
      · simp only [h, if_true] <;> omega
      · simp only [h, if_false] <;> omega
theorem slicePick_cut (its : List Value) (lo hi : Option Int) : slicePick its.toArray lo hi none = ((its.drop (HT.sIx its.length 0 lo)).take (HT.sIx its.length its.length hi - HT.sIx its.length 0 lo)).toArray := by
  obtain ⟨h1, h2, h3⟩ := slice_bounds lo hi its.toArray.size
  unfold slicePick
  rw [h1, h2, h3]
  simp only [sliceRange_one, pick_run, List.size_toArray] <;> rfl
/-- xs[lo:hi] of a list: a new list -/
def rSlL (K : PySem.W.Frag) : V → Option Int → Option Int → Hp → VK → Prop := fun x lo hi H Q => ∃ a xs, x = .ref a ∧ SqL K H a xs ∧ ∀ p, H p = none → Q (.ref p) (upd H p (.lst (cutV xs lo hi)))
theorem sl_list : SlR X (rSlL X.K) := by
  intro pins s σ H x v vl vu lo hi sl Q I rx hs pl pu h
  obtain ⟨a, xs, rfl, hx, q⟩ := h
  cases rx
  obtain ⟨its, r, ht, hz⟩ := I.list hx
  have hlen := r.length
  refine ⟨"list", _, slot_list_getitem.lookup, ht.isList.typeIs, ?_⟩
  refine wpAny_getItem_list_slice ht.isList hs pl pu .none (by simp) ?_ (by rw [List.size_toArray] <;> omega)
  rw [slicePick_cut, ← hlen]
  refine ⟨.ref s.heap.objs.size, _, I.laid (t' := s.toks) (o := .lst (cutV xs lo hi)) (fun b ob q => Heap.get?_push_of_some _ q) (Nat.le_refl _) ?_, rfl, q _ (I.hok.fresh (Nat.le_refl _))⟩
  exact ⟨Nat.le_trans (cutV_length xs lo hi) hz, _, 0, (r.drop (HT.sIx xs.length 0 lo)).take (HT.sIx xs.length xs.length hi - HT.sIx xs.length 0 lo), Heap.get?_push_size _ rfl⟩

/-! ### in, not in: flat items -/
def flatV : V → Bool
  | .non => true
  | .bl _ => true
  | .int _ => true
  | .str _ => true
  | _ => false
/-- == of flat values -/
def eqV : V → V → Bool
  | .non, .non => true
  | .bl a, .bl b => a == b
  | .bl a, .int b => (if a then 1 else 0) == b
  | .int a, .bl b => a == (if b then 1 else 0)
  | .int a, .int b => a == b
  | .str a, .str b => a == b
  | _, _ => false
theorem eqAt_V {A : Around} {s : Shared} {y x : V} {u v : Value} (ry : RelV y u) (rx : RelV x v) (fy : flatV y = true) (fx : flatV x = true) : SeqAt.EqAt A s u v (eqV y x) := by
  cases y with
  | non =>
    cases ry
    cases x with
    | non => cases rx; exact SeqAt.EqAt.same _
    | bl b => cases rx; exact SeqAt.EqAt.none_bool b
    | int b => obtain ⟨t, rfl⟩ := rx; exact SeqAt.EqAt.none_int b t
    | str b => obtain ⟨t, rfl⟩ := rx; exact SeqAt.EqAt.none_str b t
    | _ => exact absurd (show false = true from fx) Bool.false_ne_true
  | bl a =>
    cases ry
    cases x with
    | non => cases rx; exact SeqAt.EqAt.bool_none a
    | bl b => cases rx; exact SeqAt.EqAt.bool_bool a b
    | int b => obtain ⟨t, rfl⟩ := rx; exact SeqAt.EqAt.bool_int a b t
    | str b => obtain ⟨t, rfl⟩ := rx; exact SeqAt.EqAt.bool_str a b t
    | _ => exact absurd (show false = true from fx) Bool.false_ne_true
  | int a =>
    obtain ⟨t', rfl⟩ := ry
    cases x with
    | non => cases rx; exact SeqAt.EqAt.int_none a t'
    | bl b => cases rx; exact SeqAt.EqAt.int_bool a t' b
    | int b => obtain ⟨t, rfl⟩ := rx; exact SeqAt.EqAt.int_int a t' b t
    | str b => obtain ⟨t, rfl⟩ := rx; exact SeqAt.EqAt.int_str a t' b t
    | _ => exact absurd (show false = true from fx) Bool.false_ne_true
  | str a =>
    obtain ⟨t', rfl⟩ := ry
    cases x with
    | non => cases rx; exact SeqAt.EqAt.str_none a t'
    | bl b => cases rx; exact SeqAt.EqAt.str_bool a t' b
    | int b => obtain ⟨t, rfl⟩ := rx; exact SeqAt.EqAt.str_int a t' b t
    | str b => obtain ⟨t, rfl⟩ := rx; exact SeqAt.EqAt.str_str a t' b t
    | _ => exact absurd (show false = true from fx) Bool.false_ne_true
  | _ => exact absurd (show false = true from fy) Bool.false_ne_true
/-- the items' answers, read off the values (a value's own answer does not lean on its token) -/
def eqU (x : V) (u : Value) : Bool := match u with
  | .none => eqV .non x
  | .bool b => eqV (.bl b) x
  | .int i _ => eqV (.int i) x
  | .str z _ => eqV (.str z) x
  | _ => false
def inV (x : V) (xs : List V) : Bool := xs.any fun y => eqV y x
/-- x in a list or tuple of flat items -/
def rIn (K : PySem.W.Frag) (neg : Bool) : R2 := fun x y H Q => ∃ p xs, y = .ref p ∧ (SqL K H p xs ∨ SqT K H p xs) ∧ flatV x = true ∧ xs.all flatV = true ∧ Q (.bl (if neg then !inV x xs else inV x xs)) H
/-! ### len, list(x), tuple(x) of any list or tuple that is read -/
theorem call_len_seq : CallR X (.builtin "len") (fun xs H Q => ∃ p ys, xs = [.ref p] ∧ (SqL X.K H p ys ∨ SqT X.K H p ys) ∧ Q (.int ys.length) H) := by
  intro pins s σ H xs us Q I r h
  obtain ⟨p, ys, rfl, hq, q⟩ := h
  obtain ⟨u, rfl, rx⟩ := vals1 r
  cases rx
  have hn := line63
  rcases hq with hq | hq
  · obtain ⟨its, r', pl, hz⟩ := I.list hq
    have hlen := r'.length
    exact Calls.call_len_list pl.isList (by simp only [List.size_toArray] <;> omega) ⟨.int ys.length, H, I.tok _, ⟨s.toks + 1, by rw [List.size_toArray, hlen]⟩, q⟩
  · obtain ⟨its, r', pl, hz⟩ := I.tuple hq
    have hlen := r'.length
    exact len_tuple pl (by simp only [List.size_toArray] <;> omega) ⟨.int ys.length, H, I.tok _, ⟨s.toks + 1, by rw [List.size_toArray, hlen]⟩, q⟩
theorem CallR.or {f : Value} {r r' : List V → Hp → VK → Prop} (h : CallR X f r) (h' : CallR X f r') : CallR X f (fun xs H Q => r xs H Q ∨ r' xs H Q) := by
  intro pins s σ H xs us Q I rs q
  rcases q with q | q
  · exact h pins s σ H xs us Q I rs q
  · exact h' pins s σ H xs us Q I rs q
theorem call_list_of : CallR X (.type "list") (fun xs H Q => ∃ p ys, xs = [.ref p] ∧ (SqL X.K H p ys ∨ SqT X.K H p ys) ∧ ∀ l, H l = none → Q (.ref l) (upd H l (.lst ys))) := by
  intro pins s σ H xs us Q I r h
  obtain ⟨p, ys, rfl, hq, q⟩ := h
  obtain ⟨u, rfl, rx⟩ := vals1 r
  cases rx
  have fin : ∀ (its : List Value), Vals ys its → ys.length ≤ sizeLine → ∀ (h' : Heap) (c' : Nat), (∀ b o', s.heap.get? b = some o' → h'.get? b = some o') →
      h'.get? s.heap.objs.size = some { cls := .type "list", dict := none, data := .seq its.toArray c', slots := #[] } → EP X pins σ Q (.ref s.heap.objs.size) { s with heap := h' } := fun its r' hz h' c' kp e =>
    ⟨.ref s.heap.objs.size, _, I.laid (t' := s.toks) kp (Nat.le_refl _) (show ObjOk X.prog X.w _ h' _ (.lst ys) from ⟨hz, its, c', r', e⟩), rfl, q _ (I.hok.fresh (Nat.le_refl _))⟩
  rcases hq with hq | hq
  · obtain ⟨its, r', pl, hz⟩ := I.list hq
    have hlen := r'.length
    obtain ⟨o, ho, hc, n, hd⟩ := pl.isList
    exact call_list_seq p (.inl rfl) ho hc hd (fun h' c' kp e => fin its r' hz h' c' kp e) (by simp only [List.size_toArray] <;> omega)
  · obtain ⟨its, r', pl, hz⟩ := I.tuple hq
    have hlen := r'.length
    obtain ⟨o, ho, hc, n, hd⟩ := pl
    exact call_list_seq p (.inr rfl) ho hc hd (fun h' c' kp e => fin its r' hz h' c' kp e) (by simp only [List.size_toArray] <;> omega)
theorem call_tuple_of : CallR X (.type "tuple") (fun xs H Q => ∃ p ys, xs = [.ref p] ∧ ((SqL X.K H p ys ∧ ∀ l, H l = none → Q (.ref l) (upd H l (.tup ys))) ∨ (SqT X.K H p ys ∧ Q (.ref p) H))) := by
  intro pins s σ H xs us Q I r h
  obtain ⟨p, ys, rfl, h⟩ := h
  obtain ⟨u, rfl, rx⟩ := vals1 r
  cases rx
  rcases h with ⟨hq, q⟩ | ⟨hq, q⟩
  · obtain ⟨its, r', pl, hz⟩ := I.list hq
    have hlen := r'.length
    refine call_tuple_list pl.isList (fun h' kp => ?_) (by simp only [List.size_toArray] <;> omega)
    have I1 : Inv X pins σ H { s with heap := h' } := I.kept (t' := s.toks) kp
    have I2 : Inv X pins σ (upd H h'.objs.size (.tup ys)) { s with heap := h'.push { cls := .type "tuple", data := .seq its.toArray } } :=
      I1.laid (t' := s.toks) (fun b o e => Heap.get?_push_of_some _ e) (Nat.le_refl _) (show ObjOk X.prog X.w _ _ _ (.tup ys) from ⟨hz, its, r', IsTup.new _ _⟩)
    exact ⟨.ref h'.objs.size, _, I2, rfl, q _ (I1.hok.fresh (Nat.le_refl _))⟩
  · obtain ⟨its, r', pl, hz⟩ := I.tuple hq
    exact call_tuple_same pl ⟨.ref p, H, I, rfl, q⟩

/-! ### the call of a builtin's method: o.m(..) -/
/-- the value is of that builtin type -/
def tyV (K : PySem.W.Frag) (T : String) (x : V) (H : Hp) : Prop := match x with
  | .str _ => T = "str"
  | .int _ => T = "int"
  | .ref p => (T = "list" ∧ ∃ xs, SqL K H p xs) ∨ (T = "tuple" ∧ ∃ o, K.lookup p = some o ∧ o.cls = .type "tuple" ∧ o.dict = none) ∨
      (T = "dict" ∧ ((∃ kvs, H p = some (.dK kvs)) ∨ ∃ kvs, H p = some (.dT kvs))) ∨ (T = "set" ∧ ∃ S n, H p = some (.set S n))
  | _ => False
theorem tyV_is {pins : List (Addr × Obj)} {σ : St} {H : Hp} {s : Shared} {T : String} {x : V} {v : Value} (I : Inv X pins σ H s) (r : RelV x v) (ty : tyV X.K T x H) :
    s.TypeIs v T ∧ ∀ a, v = .ref a → ∃ ob, s.heap.get? a = some ob ∧ ob.dict = none := by
  cases x with
  | str z =>
    obtain ⟨t, rfl⟩ := r
    cases (show T = "str" from ty)
    exact ⟨typeIs_str s z t, fun _ e => nomatch e⟩
  | int i =>
    obtain ⟨t, rfl⟩ := r
    cases (show T = "int" from ty)
    exact ⟨typeIs_int s i t, fun _ e => nomatch e⟩
  | ref p =>
    cases r
    rcases ty with ⟨rfl, xs, hq⟩ | ⟨rfl, o, hk, hc, hd⟩ | ⟨rfl, hk⟩ | ⟨rfl, S, n, hk⟩
    · obtain ⟨its, _, pl, _⟩ := I.list hq
      refine ⟨pl.isList.typeIs, fun a e => ?_⟩
      cases e
      obtain ⟨o, n, e, c, hd, _⟩ := pl
      exact ⟨o, e, hd⟩
    · refine ⟨⟨o, I.kIn p o hk, hc⟩, fun a e => ?_⟩
      cases e
      exact ⟨o, I.kIn _ o hk, hd⟩
    · have z : ∃ o, s.heap.get? p = some o ∧ o.ExactDict := by
        rcases hk with ⟨kvs, hk⟩ | ⟨kvs, hk⟩
        · obtain ⟨_, _, _, _, o, _, _, e, ex, _⟩ := I.hok p _ hk
          exact ⟨o, e, ex⟩
        · obtain ⟨_, _, _, _, o, _, _, e, ex, _⟩ := I.hok p _ hk
          exact ⟨o, e, ex⟩
      obtain ⟨o, e, ex⟩ := z
      refine ⟨⟨o, e, ex.1⟩, fun a e2 => ?_⟩
      cases e2
      exact ⟨o, e, ex.2.1⟩
    · obtain ⟨o, _, _, _, e, ex, _⟩ := I.hok p _ hk
      refine ⟨⟨o, e, ex.1⟩, fun a e2 => ?_⟩
      cases e2
      exact ⟨o, e, ex.2.1⟩
  | _ => exact False.elim ty
def tBM0 (K : PySem.W.Frag) (T : String) (r : V → List V → Hp → VK → Prop) (to : TE) : TE := fun σ H Q => to σ H fun x H1 => tyV K T x H1 ∧ r x [] H1 Q
def tBM (K : PySem.W.Frag) (T : String) (r : V → List V → Hp → VK → Prop) (to : TE) (t : TA) : TE := fun σ H Q => to σ H fun x H1 => tyV K T x H1 ∧ t σ H1 fun xs H2 => r x xs H2 Q
variable {o e : Expr} {es : List Expr} {to : TE} {t : TA} {name : Str} {apos cpos : Pos} {T id : String} {r : V → List V → Hp → VK → Prop}
theorem pe_bm0 (pa : PlainAttrs T) (slot : Slot T name id) (hty : typeOf (.builtin id) = pure (.type "method_descriptor")) (hm : MtR X id r) (ho : PE X o to)
    (hbase : attributeBase o name X.env (eval o X.env) = eval o X.env := by rfl) (hline : (apos.endLine == cpos.line) = true := by rfl) : PE X (.Call (.Attribute o name apos) [] [] cpos) (tBM0 X.K T r to) := by
  intro pins s σ H Q I h
  refine wpAny_Call_method0_late hbase hline (thn (ho pins s σ H _ I h) fun v s1 ⟨x, H1, I1, r1, ty, q1⟩ => ?_)
  obtain ⟨h1, h2⟩ := tyV_is I1 r1 ty
  exact ⟨T, id, pa, slot, hty, h1, h2, Calls.callWith_builtin rfl (PySem.evalArgs_none (hm pins s1 σ H1 x [] v [] Q I1 r1 .nil q1))⟩
theorem pe_bm (pa : PlainAttrs T) (slot : Slot T name id) (hty : typeOf (.builtin id) = pure (.type "method_descriptor")) (hm : MtR X id r) (ho : PE X o to) (ha : PA X (e :: es) t)
    (hbase : attributeBase o name X.env (eval o X.env) = eval o X.env := by rfl)
    (hfew : ((backTo cpos (starEach (e :: es) X.env)).all (fun x => !x.1) && (backToKw cpos (keywordEach [] X.env)).all (fun x => x.1.isSome)
      && decide ((e :: es).length + ([] : List Keyword).length + (if ([] : List Keyword).isEmpty then 0 else 1) < 30)) = true := by rfl)
    (hline : (apos.endLine == cpos.line) = true := by rfl) (hs : starEach (e :: es) X.env = (false, eval e X.env) :: starEach es X.env := by rfl) (hplain : (backTo cpos (starEach es X.env)).any (·.1) = false := by rfl) :
    PE X (.Call (.Attribute o name apos) (e :: es) [] cpos) (tBM X.K T r to t) := by
  intro pins s σ H Q I h
  refine wpAny_Call_method_late hbase hfew hline rfl (thn (ho pins s σ H _ I h) fun v s1 ⟨x, H1, I1, r1, ty, q1⟩ => ?_)
  obtain ⟨h1, h2⟩ := tyV_is I1 r1 ty
  refine ⟨T, id, pa, slot, hty, h1, h2, ?_⟩
  have hA := ha cpos pins s1 σ H1 _ I1 q1
  rw [hs] at hA ⊢
  refine Calls.callWith_builtin (by show (false || (backTo cpos (starEach es X.env)).any (·.1)) = false; rw [hplain] <;> rfl) (Calls.evalArgs_plain ?_)
  exact thn hA fun us s2 ⟨vs, H2, I2, r2, q2⟩ => hm pins s2 σ H2 x vs v us Q I2 r1 r2 q2
/- xs.append(e), list.index on a module's tuple .. are MtR facts of 06m -/
end
end L2

namespace L2
open PySem PySem.Spec PyProof.Rows

def MtM (X : Cx) (id : String) (r : V → List V → Hp → VK → Prop) : Prop :=
  ∀ (pins : List (Addr × Obj)) (s : Shared) (σ : St) (H : Hp) (x : V) (xs : List V) (v : Value) (us : List Value) (Q : VK), Inv X pins σ H s → RelV x v → Vals xs us → r x xs H Q →
    wpAny (model X.prog X.w) X.A (call (.builtin id) (v :: us)) (EP X pins σ Q) X.xe s

/-! ### lists of values -/
theorem Vals.one : ∀ {x : V} {us : List Value}, Vals [x] us → ∃ u, us = [u] ∧ RelV x u
  | _, _, .cons r .nil => ⟨_, rfl, r⟩
theorem Vals.two : ∀ {x y : V} {us : List Value}, Vals [x, y] us → ∃ u v, us = [u, v] ∧ RelV x u ∧ RelV y v
  | _, _, _, .cons r (.cons q .nil) => ⟨_, _, rfl, r, q⟩
theorem Vals.zero : ∀ {us : List Value}, Vals [] us → us = []
  | _, .nil => rfl
theorem Vals.dropLast {xs : List V} {us : List Value} (h : Vals xs us) : Vals xs.dropLast us.dropLast := by
  induction h with
  | nil => exact .nil
  | cons r t ih =>
    cases t with
    | nil => exact .nil
    | cons q t' => exact .cons r ih
theorem Vals.eraseIdx : ∀ {xs : List V} {us : List Value} (i : Nat), Vals xs us → Vals (xs.eraseIdx i) (us.eraseIdx i)
  | _, _, _, .nil => .nil
  | _, _, 0, .cons _ t => t
  | _, _, i + 1, .cons r t => .cons r (Vals.eraseIdx i t)
theorem Vals.reverse {xs : List V} {us : List Value} (h : Vals xs us) : Vals xs.reverse us.reverse := by
  induction h with
  | nil => exact .nil
  | cons r t ih => rw [List.reverse_cons, List.reverse_cons]; exact Vals.append ih (.cons r .nil)
theorem erase_last {α : Type} (l : List α) : l.eraseIdx (l.length - 1) = l.dropLast := by
  induction l with
  | nil => rfl
  | cons a r ih =>
    cases r with
    | nil => rfl
    | cons b r =>
      have e : (a :: b :: r).length - 1 = ((b :: r).length - 1) + 1 := by
        have h1 : (a :: b :: r).length = r.length + 2 := rfl
        have h2 : (b :: r).length = r.length + 1 := rfl
        omega
      rw [e, List.eraseIdx_cons_succ, ih]
      all_goals rfl
section
variable {X : Cx} {pins : List (Addr × Obj)} {σ : St} {H : Hp} {s : Shared} {l b : Addr} {xs ys zs : List V}

/-! ### the two steps: a tracked list is rewritten, a new list is laid -/
theorem Inv.lset {its its' : List Value} {n : Nat} {f : Array Value → Array Value} {t' : Nat} (I : Inv X pins σ H s) (hH : H l = some (.lst xs))
    (e : s.heap.get? l = some { cls := .type "list", data := .seq its.toArray n }) (hf : f its.toArray = its'.toArray) (hv : Vals ys its') (hz : ys.length ≤ sizeLine) :
    Inv X pins σ (upd H l (.lst ys)) { s with heap := s.heap.update l (Obj.mapSeq f), toks := t' } := by
  have q := PySem.IsL.update e f
  rw [hf] at q
  refine I.write (x := l) (e := l) (by rw [hH]; exact trivial) (.inl rfl) (fun b' u hb hu => (Heap.get?_update_other s.heap (Obj.mapSeq f) (Ne.symm hb)).trans hu) ⟨_, q⟩ ?_
  exact ⟨hz, its', _, hv, q⟩
theorem Inv.fresh (I : Inv X pins σ H s) : H s.heap.objs.size = none := I.hok.fresh (Nat.le_refl _)
theorem Inv.lstM (I : Inv X pins σ H s) (hH : H l = some (.lst xs)) : xs.length ≤ sizeLine ∧ ∃ (its : List Value) (n : Nat), Vals xs its ∧ xs.length = its.length ∧ s.heap.get? l = some { cls := .type "list", data := .seq its.toArray n } := by
  obtain ⟨z, its, n, r, e⟩ := I.hok l _ hH
  exact ⟨z, its, n, r, r.length, e⟩

end

section
variable {X : Cx}

/-! ### methods -/
def rAppend : V → List V → Hp → VK → Prop := fun x vs H Q => ∃ l xs y, x = .ref l ∧ vs = [y] ∧ H l = some (.lst xs) ∧ xs.length < sizeLine ∧ Q .non (upd H l (.lst (xs ++ [y])))
theorem mt_append : MtM X "list.append" rAppend := by
  intro pins s σ H x vs v us Q I rx rv h
  obtain ⟨l, xs, y, rfl, rfl, hH, hz, q⟩ := h
  cases rx
  obtain ⟨u, rfl, ru⟩ := rv.one
  obtain ⟨z, its, n, r, hl, e⟩ := I.lstM hH
  refine call_meets F.slot_list_append ⟨_, e, rfl⟩ F.entry_list_append (F.args_list_append_2 _ _) (PySem.list_append l its.toArray n u (by rw [List.size_toArray]; omega)) ⟨e, ?_⟩
  refine ⟨.non, _, I.lset (its' := its ++ [u]) hH e (by simp) (r.append (.cons ru .nil)) ?_, rfl, q⟩
  rw [List.length_append, List.length_singleton]
  omega

def rExtend : V → List V → Hp → VK → Prop := fun x vs H Q => ∃ l b xs zs, x = .ref l ∧ vs = [.ref b] ∧ H l = some (.lst xs) ∧ H b = some (.lst zs) ∧ xs.length + zs.length ≤ sizeLine ∧ Q .non (upd H l (.lst (xs ++ zs)))
def rPop : V → List V → Hp → VK → Prop := fun x vs H Q => ∃ l xs y, x = .ref l ∧ vs = [] ∧ H l = some (.lst xs) ∧ xs[xs.length - 1]? = some y ∧ Q y (upd H l (.lst xs.dropLast))
theorem mt_pop : MtM X "list.pop" rPop := by
  intro pins s σ H x vs v us Q I rx rv h
  obtain ⟨l, xs, y, rfl, rfl, hH, hy, q⟩ := h
  cases rx
  have hus := rv.zero
  subst hus
  obtain ⟨z, its, n, r, hl, e⟩ := I.lstM hH
  obtain ⟨u, hu, ru⟩ := r.get hy
  have hy' : its.toArray[its.toArray.size - 1]? = some u := by
    show its.toArray[its.length - 1]? = some u
    rw [← Array.getElem?_toList, ← hl]
    exact hu
  refine call_meets F.slot_list_pop ⟨_, e, rfl⟩ F.entry_list_pop (F.args_list_pop_1 _) (MeetsSeq.list_pop_last l its.toArray n u hy' (by rw [List.size_toArray]; omega)) ⟨e, ?_⟩
  refine ⟨y, _, I.lset (its' := its.dropLast) hH e ?_ r.dropLast ?_, ru, q⟩
  · show its.toArray.eraseIdxIfInBounds (its.toArray.size - 1) = its.dropLast.toArray
    rw [List.size_toArray, List.eraseIdxIfInBounds_toArray, erase_last]
  · rw [List.length_dropLast]
    omega

def rPopAt : V → List V → Hp → VK → Prop := fun x vs H Q => ∃ l xs i k y, x = .ref l ∧ vs = [.int i] ∧ H l = some (.lst xs) ∧ -(2 ^ 63) ≤ i ∧ i < 2 ^ 63 ∧ seqIndex? i xs.length = some k ∧ xs[k]? = some y ∧ Q y (upd H l (.lst (xs.eraseIdx k)))
def rReverse : V → List V → Hp → VK → Prop := fun x vs H Q => ∃ l xs, x = .ref l ∧ vs = [] ∧ H l = some (.lst xs) ∧ Q .non (upd H l (.lst xs.reverse))
def rClear : V → List V → Hp → VK → Prop := fun x vs H Q => ∃ l xs, x = .ref l ∧ vs = [] ∧ H l = some (.lst xs) ∧ Q .non (upd H l (.lst []))
/-! ### list + list, list += list, list * int -/
def rCat : R2 := fun x y H Q => ∃ l b xs zs, x = .ref l ∧ y = .ref b ∧ H l = some (.lst xs) ∧ H b = some (.lst zs) ∧ xs.length + zs.length ≤ sizeLine ∧ ∀ p, H p = none → Q (.ref p) (upd H p (.lst (xs ++ zs)))
/-- a list times an int (a negative one is nothing) -/
def rRep : R2 := fun x y H Q => ∃ l k xs, x = .ref l ∧ y = .int k ∧ H l = some (.lst xs) ∧ -(2 ^ 63) ≤ k ∧ k < 2 ^ 63 ∧ xs.length * k.toNat ≤ sizeLine ∧
  ∀ p, H p = none → Q (.ref p) (upd H p (.lst (List.replicate k.toNat xs).flatten))
/-! ### del xs[i] -/
end

/-! ### xs[a:b] = ys -/
section
variable {prog : Program} {w : World} {A : Around} {E : Value → Shared → Prop} {s : Shared}
end

section
variable {X : Cx}
end
end L2

namespace Att
open PySem PySem.W PySem.Calls PyProof.Rows

/-! ### the script -/
theorem ints_of_wellAll {P : Params} {h : Heap} : ∀ (ns : List Int) (vs : List Value), WellAll P h vs (ns.map WData.int) → IntsAre vs ns := by
  intro ns
  induction ns with
  | nil =>
    intro vs w
    rw [List.map_nil] at w
    cases w
    exact .nil
  | cons n ns ih =>
    intro vs w
    rw [List.map_cons] at w
    cases w with
    | cons a b =>
      cases a
      exact .cons _ _ (ih _ b)

theorem script_of {l : OpenLaw} {n : Nat} (hn : l.most = some n) {P : Params} {h : Heap} {args : List WData} {vals : List Value}
    (hpre : l.row.toRowW.claim.pre args = true) (hwl : WellAll P h vals args) :
    ∃ a vs ns, vals = [Value.ref a] ∧ args = [WData.list (ns.map WData.int)] ∧ h.get? a = some { cls := .type "list", data := .seq vs.toArray } ∧ IntsAre vs ns ∧ ns.length ≤ n := by
  have hsh : WShape.hasAll [] args [.list .int] = true := (pre_splitW hpre).1
  have hc : l.pre.holds [] { args := args } = true := (pre_splitW hpre).2
  obtain ⟨d, r, rfl, h1, h2⟩ := hasAllW_cons hsh
  obtain rfl := hasAllW_nil h2
  obtain ⟨xs, rfl, h3⟩ := hasW_list h1
  obtain ⟨ns, rfl⟩ := items_int h3
  have hlen : ns.length ≤ n := by
    unfold OpenLaw.pre at hc
    have h4 : (WTm.not (.lt (.lit (.int (n : Int))) (.len (.arg 0)))).holds [] { args := [.list (ns.map .int)] } = true := by
      have h4 := (holds_andW hc).1
      rw [hn] at h4
      exact h4
    have h5 := condW_of h4 (w_not (w_lt w_lit (w_len_list (w_arg rfl))))
    rw [List.length_map] at h5
    refine Nat.le_of_not_lt fun q => ?_
    have q' : (n : Int) < ((ns.length : Nat) : Int) := by omega
    first
      | (rw [decide_eq_true q'] at h5; exact absurd h5 (by decide))
      | (simp at h5; omega)
  cases hwl with
  | cons w1 w2 =>
    cases w2
    cases w1 with
    | list ho hall => exact ⟨_, _, ns, rfl, rfl, ho, ints_of_wellAll ns _ hall, hlen⟩

theorem post_true (l : OpenLaw) (args : List WData) : l.row.toRowW.claim.post args (.bool true) args = true :=
  postW_of (r := l.row.toRowW) (X := (true == true))
    (show WShape.has [] (.bool true) .bool = true by first | rfl | decide | simp [WShape.has, WShape.arms, WShape.armsAll])
    (show (WTm.eq .res (.lit (.bool true))).value [] { args := args, res := some (.bool true), after := args } = some (.bool (true == true)) from w_eq_bool (w_res rfl) w_lit) rfl

/-! ### the attachment: holds_open's last premise (the goal 'hc' behind k_head) from a wpAny of the law's body -/
/-- the same from a codeAny of the CALL (for a layer whose function contracts speak of calls) -/
theorem attach_call {l : OpenLaw} {n : Nat} {q : Program} {loose : List Str} {XP : (Str → Option Value) → Heap → Prop} {YP : World → Heap → Prop} {d : DefRec}
    (hn : l.most = some n) (hdf : d.params.defaults = [])
    (call : ∀ (w : World) (s₀ s₁ : Shared) (mg mb : Str → Option Value) (fa : Addr) (o : Obj) (pm cd doc : Value) (a : Addr) (vs : List Value) (ns : List Int),
      Ground q loose [] XP w s₀ mg mb s₁.heap → YP w s₁.heap →
      s₁.heap.get? fa = some o → o.data = .func (docDef d.name d.params d.body d.scope pm cd doc) → s₁.heap.CodeRec cd d.name → mg d.name = some (.ref fa) →
      s₁.heap.get? a = some { cls := .type "list", data := .seq vs.toArray } → IntsAre vs ns → ns.length ≤ n → s₁.gens = #[] →
      codeAny (model l.prog w) callerA (.call (.ref fa) ⟨[.ref a], []⟩) (fun r s' => r = .ok (.ret (.bool true)) ∧ OldK s₁.heap s'.heap ∧ s'.os = s₁.os ∧ AllBare s'.gens) s₁) :
    WalkO q loose XP YP l.row.toRowW d [] (fun f vs => PySem.call f vs) := by
  intro w s₀ s₁ mg mb G Y fa o pm cd doc dV kV ho hd hcd hD hmg hg args vals as hpre hlay hrd hwl hlo
  obtain rfl : dV = .none := Dflts.none hD hdf
  obtain rfl : kV = .none := Dflts.noKw hD
  obtain ⟨a, vs, ns, rfl, rfl, hobj, hints, hlen⟩ := script_of hn hpre hwl
  refine enter_call (codeAny_mono (call w s₀ s₁ mg mb fa o pm cd doc a vs ns G Y ho (fd_plain hd) hcd hmg hobj hints hlen hg) fun r s' hq => ?_)
  obtain ⟨rfl, h2, h3, h4⟩ := hq
  exact ⟨.inl ⟨.bool true, .bool true, [], rfl, fun _ => rfl, .bool true, post_true l _, fun _ => ⟨List.Pairwise.nil, fun _ hm => (nomatch hm)⟩⟩, h2, h3, h4⟩

/-! ### rules over ANY heap (no ledger) from facts about the written part K: the library's own take a ledger (News) for what they write -/
section
variable {prog : Program} {w : World} {A : Around} {E : Value → Shared → Prop} {s : Shared} {K : Frag}

/-! the whole heap as the ledger: makes every rule that writes through a ledger a rule over any heap -/
def noObjs (h : Heap) : Heap := { h with objs := #[] }
def ledger (h : Heap) (L d : Addr) : List (Addr × Obj) := (List.range h.objs.size).filterMap fun a => if a = L ∨ a = d then none else (h.get? a).map fun o => (a, o)
end
end Att

namespace L2
open PySem PySem.Spec PyProof.Rows

theorem vals_ints : ∀ {vs : List Value} {ns : List Int}, IntsAre vs ns → Vals (ns.map V.int) vs
  | _, _, .nil => .nil
  | _, _, .cons n t h => .cons ⟨t, rfl⟩ (vals_ints h)

/-- nothing is tracked but the script, known to the object (or it is an object of the module) -/
def Only (H : Hp) : Prop := ∀ b, H b = none ∨ ∃ o xs, H b = some (.frz o (.lst xs))

/-- THE HEAD: the law's promise, at the heap behind the top. F, the promise of the law's def, may use that base is part of the heap (so K.In base, base.Ns mainGlobals mg stand in Mod) -/
theorem law_call {P : Program} {w : World} {K : PySem.W.Frag} {mg mb : Str → Option Value} {CX : CXT} {k : Nat} {fa a : Addr} {fd : FuncData} {x : Str} {sp : Sp} {s₁ : Shared} {vs : List Value} {ns : List Int}
    (KX : K.In s₁.heap) (hns : s₁.heap.Ns mainGlobals mg) (hb : s₁.heap.Ns builtinsNs mb) (hbb : ∀ x : Str, x ≠ "__name__" → mb x = bootBuiltins x) (hlim : s₁.heap.NoLimit) (hg : s₁.gens = #[])
    (ha : s₁.heap.get? a = some { cls := .type "list", data := .seq vs.toArray }) (hi : IntsAre vs ns) (hl : ns.length ≤ sizeLine) (hr : Room k callerA)
    (F : ∀ base : Heap, K.In base → base.Ns mainGlobals mg → FnOk P w K mg base CX k fa fd [x] sp) (hbind : ∀ (s : Shared) (u : Value), BindsTo s fd ⟨[u], []⟩ [(x, u)])
    (hsp : ∀ H : Hp, Only H → SqL K H a (ns.map V.int) → sp [.ref a] H (fun v _ => v = .bl true) fun _ _ _ => False)
    (hCX : ∀ H e s', CX [] H s₁ (fun _ _ _ => False) e s' → False) :
    codeAny (model P w) callerA (.call (.ref fa) ⟨[.ref a], []⟩) (fun r s' => r = .ok (.ret (.bool true)) ∧ OldK s₁.heap s'.heap ∧ s'.os = s₁.os ∧ AllBare s'.gens) s₁ := by
  have rv := vals_ints hi
  have lenV := hi.length
  -- from an abstract heap in which nothing but the script may be tracked
  have core : ∀ H : Hp, Only H → SqL K H a (ns.map V.int) → HOk P w H s₁.heap → (∀ b, H b ≠ none → b = a) → (H a ≠ none → K.lookup a = none) →
      codeAny (model P w) callerA (.call (.ref fa) ⟨[.ref a], []⟩) (fun r s' => r = .ok (.ret (.bool true)) ∧ OldK s₁.heap s'.heap ∧ s'.os = s₁.os ∧ AllBare s'.gens) s₁ := by
    intro H hO hS hok hA hK
    have base_of : ∀ {b : Addr} {o : Obj}, s₁.heap.get? b = some o → H b = none → (hidT s₁.heap H).get? b = some o := fun e n => hidT_get e n
    have noA : ∀ {b : Addr} {o : Obj} {es : Array DictEntry} {ep : Nat}, s₁.heap.get? b = some o → o.data = .dict es ep → H b = none := fun {b o es ep} e d => by
      cases q : H b with
      | none => rfl
      | some u =>
        have e' : b = a := hA b (by rw [q]; simp)
        subst e'
        rw [ha] at e; cases e
        have d' : Data.seq vs.toArray _ = Data.dict es ep := d
        cases d'
    have nsK : ∀ {b : Addr} {m : Str → Option Value}, s₁.heap.Ns b m → (hidT s₁.heap H).Ns b m := fun {b m} ⟨o, es, ep, e, d, r⟩ => ⟨o, es, ep, base_of e (noA e d), d, r⟩
    have hKb : K.In (hidT s₁.heap H) := fun b o e => base_of (KX b o e) (by
      cases q : H b with
      | none => rfl
      | some u =>
        have e' : b = a := hA b (by rw [q]; simp)
        subst e'
        rw [hK (by rw [q]; simp)] at e; cases e)
    have hM : Mod K mg (hidT s₁.heap H) := ⟨hKb, nsK hns, ⟨mb, nsK hb, hbb⟩, let ⟨mc, h1, h2⟩ := hlim; ⟨mc, nsK h1, h2⟩⟩
    have e0 : Env0 P w K mg (hidT s₁.heap H) callerA [] s₁ H := ⟨rfl, hM, fun b o e => of_hidT e, Nat.le_of_eq (hidT_size _ _), trivial, fun b hb => absurd (show b ∈ ([] : List Addr) from hb) (by simp), hok, .of_eq hg⟩
    refine codeAny_mono ((F _ hKb (nsK hns)).run callerA [] s₁ H ⟨[.ref a], []⟩ [.ref a] [.ref a] _ _ hr e0 (hbind s₁ (.ref a)) (.cons rfl .nil) (hsp H hO hS)) fun r s' h => ?_
    cases r with
    | error e => exact (hCX H e s' h).elim
    | ok fl =>
      cases fl with
      | next => exact False.elim h
      | brk => exact False.elim h
      | cont => exact False.elim h
      | ret u =>
        obtain ⟨v, H', os, bare, un, hok', r', q⟩ := h
        have q' : v = .bl true := q
        subst q'
        obtain rfl : u = Value.bool true := r'
        refine ⟨rfl, OldK.of_keep fun b o e => ?_, os, bare⟩
        cases q : H b with
        | none => exact un.keep b o e q (by intro z; exact absurd (show b ∈ ([] : List Addr) from z) (by simp)) (by simp)
        | some u =>
          rcases hO b with z | ⟨ob, xs, z⟩
          · rw [q] at z; cases z
          · have z2 := un.frzs b ob _ z
            obtain ⟨e1, _⟩ := hok b _ z
            obtain ⟨e2, _⟩ := hok' b _ z2
            rw [e] at e1; cases e1
            exact e2
  cases hk : K.lookup a with
  | some o =>
    -- the script is one of the module's own objects
    have e := KX a o hk
    rw [ha] at e
    cases e
    refine core (fun _ => none) (fun _ => .inl rfl) (.inr ⟨_, vs.toArray, _, hk, rfl, rfl, rfl, by rw [List.size_toArray, lenV]; exact hl, by simpa using rv⟩) (fun b u z => by have z' : (none : Option HO) = some u := z; cases z') (fun b z => absurd rfl z) fun z => absurd rfl z
  | none =>
    refine core (fun b => if b = a then some (.frz { cls := .type "list", data := .seq vs.toArray } (.lst (ns.map V.int))) else none) (fun b => ?_) (.inl (.inr ⟨{ cls := .type "list", data := .seq vs.toArray }, if_pos rfl⟩)) (fun b u z => ?_) (fun b z => ?_) fun _ => hk
    · by_cases hb : b = a
      · exact .inr ⟨_, _, if_pos hb⟩
      · exact .inl (if_neg hb)
    · by_cases hb : b = a
      · have z' := (if_pos hb).symm.trans z
        cases z'
        subst hb
        exact ⟨ha, by rw [List.length_map]; exact hl, vs, _, rv, ha⟩
      · have z' := (if_neg hb).symm.trans z
        cases z'
    · by_cases hb : b = a
      · exact hb
      · exact absurd (if_neg hb) z
end L2

namespace L2
open PySem PySem.Spec PyProof.Rows

abbrev KOf {K : PySem.W.Frag} {h : Heap} (_ : K.In h) : PySem.W.Frag := K

/-- the goal that k_head leaves (case hc), from the law's promise. F gives the function object fd (K's own) once, then the promise over every base -/
theorem walk_of {l : PySem.W.OpenLaw} {n k : Nat} {q : Program} {loose : List Str} {XP : (Str → Option Value) → Heap → Prop} {YP : World → Heap → Prop} {d : DefRec} {K : Params → PySem.W.Frag} {CX : World → CXT} {sp : World → Sp} {x : Str}
    (hn : l.most = some n) (hn2 : n ≤ sizeLine) (hdf : d.params.defaults = []) (hr : Room k callerA)
    (hY : ∀ (w : World) (h : Heap), YP w h → (K w.params).In h)
    (F : ∀ (w : World) (mg : Str → Option Value) (fa : Addr) (h : Heap), (K w.params).In h → h.Ns mainGlobals mg → mg d.name = some (.ref fa) →
      ∃ fd : FuncData, (∀ (s : Shared) (u : Value), BindsTo s fd ⟨[u], []⟩ [(x, u)]) ∧
        ∀ base : Heap, (K w.params).In base → base.Ns mainGlobals mg → FnOk l.prog w (K w.params) mg base (CX w) k fa fd [x] (sp w))
    (hsp : ∀ (w : World) (H : Hp) (a : Addr) (ns : List Int), ns.length ≤ n → Only H → SqL (K w.params) H a (ns.map V.int) → sp w [.ref a] H (fun v _ => v = .bl true) fun _ _ _ => False)
    (hCX : ∀ (w : World) (H : Hp) (s : Shared) (e : Value) (s' : Shared), CX w [] H s (fun _ _ _ => False) e s' → False) :
    PySem.W.WalkO q loose XP YP l.row.toRowW d [] (fun f vs => PySem.call f vs) := by
  refine Att.attach_call hn hdf fun w s₀ s₁ mg mb fa o pm cd doc a vs ns G Y ho hd hcd hmg hobj hints hlen hg => ?_
  have KX := hY w _ Y
  obtain ⟨fd, hb, hF⟩ := F w mg fa _ KX G.T.g hmg
  exact law_call KX G.T.g G.T.b G.T.builtins G.T.nolimit hg hobj hints (Nat.le_trans hlen hn2) hr hF hb (fun H hO hS => hsp w H a ns hlen hO hS) fun H e s' => hCX w H s₁ e s'
end L2


/-! SHORT WORDS over the layer: a def of the text, its body, what a loop and a test want. -/
namespace L2
open PySem PySem.Spec PyProof.Rows

/-! ### the text by places -/
/-- the j-th statement of a class's body -/
def inClass (s : Stmt) (j : Nat) : Stmt := match s with
  | .ClassDef _ _ _ body _ _ _ _ _ _ _ => body.getD j (.Pass ⟨0, 0, 0, 0⟩)
  | _ => .Pass ⟨0, 0, 0, 0⟩
def defArgs (s : Stmt) : Arguments := match s with
  | .FunctionDef _ a _ _ _ _ _ _ _ _ => a
  | _ => { posonlyargs := [], args := [], vararg := none, kwonlyargs := [], kw_defaults := [], kwarg := none, defaults := [] }
def defBody (s : Stmt) : List Stmt := match s with
  | .FunctionDef _ _ b _ _ _ _ _ _ _ => b
  | _ => []
def defScope (s : Stmt) : Scope := match s with
  | .FunctionDef _ _ _ _ _ _ sc _ _ _ => sc
  | _ => { kind := .function, names := [], isGenerator := false, isCoroutine := false }

/-! ### no exception leaves a def -/
abbrev CX0 : CXT := fun _ _ _ _ _ _ => False
abbrev E0 : XK := fun _ _ _ => False
theorem pass0 {X : Cx} : Passes CX0 X E0 := fun _ _ _ _ _ _ _ h => h.elim

/-! ### a def (or method) of the text as it stands behind the top -/
structure Fun (K : PySem.W.Frag) (x qual : Str) (st : Stmt) (f : Addr) (fd : FuncData) : Prop where
  ex : ∃ (oc : Value) (od : Option Addr) (kV doc pm : Value) (an : Option Addr) (cdv ct : Value) (osl : Array (Option Value)),
    fd = PySem.W.fnOf x qual (defArgs st) (defBody st) (defScope st) .none kV doc pm an cdv ct ∧ K.lookup f = some ⟨oc, od, .func fd, osl⟩ ∧ PySem.W.codeIn K cdv qual = true
  kp : PySem.W.keepIn K (.ref f) = true
section
variable {P : Program} {w : World} {K : PySem.W.Frag} {mg : Str → Option Value} {base : Heap}
/-- THE RULE for a def: its body as a term of rules, and the reading of that term -/
theorem Fun.ok {x qual : Str} {st : Stmt} {f : Addr} {fd : FuncData} {N ps : List Str} {k : Nat} {sp : Sp} (F : Fun K x qual st f fd) (S : FnScope N ps (defScope st)) (len : ∀ vs H Q E, sp vs H Q E → vs.length = ps.length)
    (hbody : ∀ (cdv : Value) (A : Around) (outer : List Env) (s : Shared) (H : Hp) (vs : List V) (Q : VK) (E : XK), Room k (A.deeper (envOfC qual (defScope st) s.heap.objs.size f cdv)) → sp vs H Q E →
      ∃ t, PSs (cxOf CX0 P w K mg base N qual (defScope st) f cdv A outer s H E).nox (defBody st) t ∧ t { nx := fun _ H' => Q .non H', rt := Q } (start N vs) H) : FnOk P w K mg base CX0 (k + 1) f fd ps sp := by
  obtain ⟨oc, od, kV, doc, pm, an, cdv, ct, osl, rfl, lk, hcd⟩ := F.ex
  refine fn_of lk hcd S len fun A outer s H vs Q E hr hsp => ?_
  obtain ⟨t, h, q⟩ := hbody cdv A outer s H vs Q E hr hsp
  exact ⟨t, h.nox, q⟩
/-- how its arguments bind (no defaults): h is «fun _ _ _ _ _ _ us hl => match us, hl with | [_, _], _ => rfl», one _ a parameter -/
theorem Fun.binds {x qual : Str} {st : Stmt} {f : Addr} {fd : FuncData} {ps : List Str} (F : Fun K x qual st f fd)
    (h : ∀ (kV doc pm : Value) (an : Option Addr) (cdv ct : Value) (us : List Value), us.length = ps.length → bindArgs (PySem.W.fnOf x qual (defArgs st) (defBody st) (defScope st) .none kV doc pm an cdv ct) ⟨us, []⟩ = pure (ps.zip us)) : Binds K fd ps [] := by
  obtain ⟨oc, od, kV, doc, pm, an, cdv, ct, osl, rfl, lk, hcd⟩ := F.ex
  exact .all (h kV doc pm an cdv ct)
end
theorem small1000 {n : Nat} (h : n ≤ 1000) : n < sizeLine := Nat.lt_of_le_of_lt h (by decide)

/-! ### expressions in short: the name that stands in the i-th slot -/
section
variable {X : Cx}
theorem pv (i : Nat) {x : Str} {pos : Pos} (hN : X.N[i]? = some x := by rfl) (hv : Vis X.env.scope x := by first | exact Or.inl rfl | exact Or.inr (Or.inl rfl) | exact Or.inr (Or.inr rfl)) (hd : (x == ("__debug__" : Str)) = false := by decide)
    (hcd : (x == ("__classdict__" : Str)) = false := by decide) : PE X (.Name x pos) (tVar i) := pe_var hN hv hd hcd
end

/-! ### tests -/
theorem iteF {A B : Prop} (h : B) : if false = true then A else B := by
  rw [if_neg Bool.false_ne_true]
  exact h
theorem iteT {A B : Prop} (h : A) : if true = true then A else B := by
  rw [if_pos rfl]
  exact h
theorem ite2 {c A B : Prop} [Decidable c] (h1 : c → A) (h2 : ¬ c → B) : if c then A else B := by
  by_cases h : c
  · rw [if_pos h]
    exact h1 h
  · rw [if_neg h]
    exact h2 h
theorem iteNS {c A B : Prop} [Decidable c] (hc : c) (h : B) : if (!decide c) = true then A else B := by
  rw [decide_eq_true hc]
  exact iteF h

/-! ### heaps -/
/-- all that was tracked is as it was -/
def Same (H H' : Hp) : Prop := ∀ b o, H b = some o → H' b = some o
theorem Same.refl (H : Hp) : Same H H := fun _ _ h => h
theorem Same.trans {H H1 H2 : Hp} (a : Same H H1) (b : Same H1 H2) : Same H H2 := fun c o h => b c o (a c o h)
theorem Same.free {H H' : Hp} (e : Same H H') {l : Addr} (h : H' l = Option.none) : H l = Option.none := by
  cases q : H l with
  | none => rfl
  | some o =>
    rw [e l o q] at h
    cases h
theorem Same.seq {K : PySem.W.Frag} {H H' : Hp} {a : Addr} {xs : List V} (e : Same H H') (h : SqL K H a xs) : SqL K H' a xs := by
  rcases h with (h | ⟨o, h⟩) | h
  · exact .inl (.inl (e _ _ h))
  · exact .inl (.inr ⟨o, e _ _ h⟩)
  · exact .inr h

end L2

set_option Elab.async false
set_option linter.all false
set_option maxRecDepth 100000
/-! My own words over the hand layer: comprehensions, isinstance, a list unpacked, lists compared -/
namespace L2
open PySem PySem.Spec PyProof.Rows

/-! ### the closure of a comprehension's block -/
def closList (cells : List (Str × Addr)) : List (Str × NameKind) → List (Str × Addr) → List (Str × Addr)
  | [], cs => cs
  | (n, k) :: r, cs => closList cells r (if k == .free then (n, (cells.lookup n).getD 0) :: cs else cs)

theorem closureFor_eq {scope : Scope} {env : Env} (h : ∀ y ∈ scope.names, y.2 = .free → ∃ c, env.cells.lookup y.1 = some c) :
    closureFor scope env = pure (closList env.cells scope.names []) := by
  have all : ∀ (ns : List (Str × NameKind)) (cs : List (Str × Addr)), (∀ y ∈ ns, y.2 = .free → ∃ c, env.cells.lookup y.1 = some c) →
      (forIn ns cs (fun (x : Str × NameKind) (r : List (Str × Addr)) => (match x with
        | (name, kind) => if (kind == NameKind.free) = true then (do let c ← cellOf env name; pure (ForInStep.yield ((name, c) :: r))) else pure (ForInStep.yield r) : Sem (ForInStep (List (Str × Addr))))) : Sem (List (Str × Addr)))
      = pure (closList env.cells ns cs) := by
    intro ns
    induction ns with
    | nil => intro cs _; rfl
    | cons y r ih =>
      intro cs hy
      obtain ⟨n, k⟩ := y
      rw [List.forIn_cons]
      by_cases hk : k = .free
      · subst hk
        obtain ⟨c, e⟩ := hy (n, .free) List.mem_cons_self rfl
        have e' : env.cells.lookup n = some c := e
        have e1 : cellOf env n = pure c := by unfold cellOf; rw [e']
        simp only [beq_self_eq_true, if_true, e1, pure_bind]
        rw [ih _ fun z hz => hy z (List.mem_cons_of_mem _ hz)]
        simp only [closList, beq_self_eq_true, if_true, e', Option.getD_some]
      · have hb : (k == NameKind.free) = false := by simpa using hk
        simp only [hb, Bool.false_eq_true, if_false, pure_bind]
        rw [ih _ fun z hz => hy z (List.mem_cons_of_mem _ hz)]
        simp only [closList, hb, Bool.false_eq_true, if_false]
  unfold closureFor
  have q := all scope.names [] h
  simp only [bind_pure]
  exact q

theorem closList_some (cells : List (Str × Addr)) {x : Str} {c : Addr} : ∀ (ns : List (Str × NameKind)) (cs : List (Str × Addr)), (closList cells ns cs).lookup x = some c →
    ((x, NameKind.free) ∈ ns ∧ (cells.lookup x).getD 0 = c) ∨ cs.lookup x = some c
  | [], _, h => .inr h
  | (n, k) :: r, cs, h => by
    rcases closList_some cells r _ h with ⟨h1, h2⟩ | h1
    · exact .inl ⟨List.mem_cons_of_mem _ h1, h2⟩
    · by_cases hk : k = .free
      · subst hk
        simp only [beq_self_eq_true, if_true] at h1
        by_cases hx : x = n
        · subst hx
          simp only [List.lookup_cons, beq_self_eq_true] at h1
          exact .inl ⟨List.mem_cons_self, Option.some.inj h1⟩
        · have hb : (x == n) = false := by simpa using hx
          simp only [List.lookup_cons, hb] at h1
          exact .inr h1
      · have hb : (k == NameKind.free) = false := by simpa using hk
        simp only [hb, Bool.false_eq_true, if_false] at h1
        exact .inr h1
theorem closList_has (cells : List (Str × Addr)) {x : Str} {c : Addr} (e : cells.lookup x = some c) : ∀ (ns : List (Str × NameKind)) (cs : List (Str × Addr)), ((x, NameKind.free) ∈ ns ∨ cs.lookup x = some c) →
    (closList cells ns cs).lookup x = some c
  | [], _, h => by
    rcases h with h | h
    · cases h
    · exact h
  | (n, k) :: r, cs, h => by
    refine closList_has cells e r _ ?_
    rcases h with h | h
    · rcases List.mem_cons.mp h with z | z
      · cases z
        right
        simp only [beq_self_eq_true, if_true, List.lookup_cons, e, Option.getD_some]
      · exact .inl z
    · right
      by_cases hk : (k == NameKind.free) = true
      · rw [if_pos hk]
        by_cases hx : x = n
        · subst hx
          simp only [List.lookup_cons, beq_self_eq_true, e, Option.getD_some]
        · have hb : (x == n) = false := by simpa using hx
          simp only [List.lookup_cons, hb]
          exact h
      · rw [if_neg hk]
        exact h
theorem relabel_free {env : Env} : ∀ {names : List (Str × NameKind)} {x : Str}, names.lookup x = some .free →
    (names.map fun (n, k) => if (k == NameKind.free && env.scope.kind == .function && env.kindOf n == some .cell) then (n, NameKind.cell) else (n, k)).lookup x = some .cell ∨
    (names.map fun (n, k) => if (k == NameKind.free && env.scope.kind == .function && env.kindOf n == some .cell) then (n, NameKind.cell) else (n, k)).lookup x = some .free
  | [], _, h => by simp at h
  | (n, k) :: r, x, h => by
    have ih := @relabel_free env r x
    show List.lookup x ((if (k == NameKind.free && env.scope.kind == .function && env.kindOf n == some .cell) = true then (n, NameKind.cell) else (n, k)) :: _) = _ ∨
      List.lookup x ((if (k == NameKind.free && env.scope.kind == .function && env.kindOf n == some .cell) = true then (n, NameKind.cell) else (n, k)) :: _) = _
    cases hx : x == n with
    | true =>
      simp only [List.lookup_cons, hx] at h
      cases h
      by_cases hc : (NameKind.free == NameKind.free && env.scope.kind == .function && env.kindOf n == some .cell) = true
      · rw [if_pos hc]; simp only [List.lookup_cons, hx]; first | exact .inl trivial | exact .inl rfl
      · rw [if_neg hc]; simp only [List.lookup_cons, hx]; first | exact .inr trivial | exact .inr rfl
    | false =>
      simp only [List.lookup_cons, hx] at h
      by_cases hc : (k == NameKind.free && env.scope.kind == .function && env.kindOf n == some .cell) = true
      · rw [if_pos hc]; simp only [List.lookup_cons, hx]; exact ih h
      · rw [if_neg hc]; simp only [List.lookup_cons, hx]; exact ih h
/-- what is a cell or free behind the change of names was free -/
theorem relabel_back {env : Env} : ∀ {names : List (Str × NameKind)} {x : Str} {k' : NameKind}, k' = .cell ∨ k' = .free → (∀ y ∈ names, y.2 ≠ .cell) →
    (names.map fun (n, k) => if (k == NameKind.free && env.scope.kind == .function && env.kindOf n == some .cell) then (n, NameKind.cell) else (n, k)).lookup x = some k' → (x, NameKind.free) ∈ names
  | [], _, _, _, _, h => by simp at h
  | (n, k) :: r, x, k', hk', hn, h => by
    have ih := @relabel_back env r x k' hk' (fun y hy => hn y (List.mem_cons_of_mem _ hy))
    have h' : List.lookup x ((if (k == NameKind.free && env.scope.kind == .function && env.kindOf n == some .cell) = true then (n, NameKind.cell) else (n, k)) :: (r.map fun (n, k) => if (k == NameKind.free && env.scope.kind == .function && env.kindOf n == some .cell) then (n, NameKind.cell) else (n, k))) = some k' := h
    have hkc : k ≠ .cell := hn (n, k) List.mem_cons_self
    cases hx : x == n with
    | true =>
      have hxn : x = n := by simpa using hx
      subst hxn
      by_cases hc : (k == NameKind.free && env.scope.kind == .function && env.kindOf x == some .cell) = true
      · have hk : k = .free := by
          simp only [Bool.and_eq_true, beq_iff_eq] at hc
          exact hc.1.1
        subst hk
        exact List.mem_cons_self
      · rw [if_neg hc] at h'
        simp only [List.lookup_cons, beq_self_eq_true] at h'
        have hk : k = k' := Option.some.inj h'
        rcases hk' with z | z
        · exact absurd (hk.trans z) hkc
        · rw [hk, z]; exact List.mem_cons_self
    | false =>
      refine List.mem_cons_of_mem _ (ih ?_)
      by_cases hc : (k == NameKind.free && env.scope.kind == .function && env.kindOf n == some .cell) = true
      · rw [if_pos hc] at h'
        simpa only [List.lookup_cons, hx] using h'
      · rw [if_neg hc] at h'
        simpa only [List.lookup_cons, hx] using h'

/-! ### the block -/
def blockSt (ix : List (Option Nat)) (σ : St) : St := ix.map fun o => match o with
  | none => none
  | some i => (σ[i]?).join
/-- the block's names N: its own at none, the frame's i-th at some i -/
structure BlkScope (NX : List Str) (scX : Scope) (N : List Str) (ix : List (Option Nat)) (sc : Scope) : Prop where
  kind : sc.kind = .function
  nd : N.Nodup
  nocell : ∀ y ∈ sc.names, y.2 ≠ .cell
  locs : ∀ y ∈ sc.names, y.2 = .local → sc.names.lookup y.1 = some .local
  free : ∀ y ∈ sc.names, y.2 = .free → scX.names.lookup y.1 = some .cell ∨ scX.names.lookup y.1 = some .free
  len : ix.length = N.length
  at_ : ∀ p ∈ N.zip ix, ∀ i, p.2 = some i → NX[i]? = some p.1 ∧ sc.names.lookup p.1 = some .free

def cxComp (X : Cx) (N : List Str) (scope : Scope) (fp : List Addr) (s : Shared) (H : Hp) (C : Addr) : Cx :=
  { prog := X.prog, w := X.w, K := X.K, mg := X.mg, base := X.base, A := X.A, N := N, s₀ := s, H₀ := H, env := compEnvC scope (closList X.env.cells scope.names []) C X.env, outer := X.stack, stack := X.stack, ex := fp, fn := fun _ => false, calm := X.calm, pn := X.pn, xe := fun _ _ => False }

theorem mem_lookup_free {names : List (Str × NameKind)} {x : Str} (h : names.lookup x = some .free) : (x, NameKind.free) ∈ names := PySem.mem_of_lookup h

section
variable {X : Cx} {pins : List (Addr × Obj)} {σ : St} {H : Hp} {s : Shared} {N : List Str} {ix : List (Option Nat)} {scope : Scope} {fp : List Addr}

theorem BlkScope.clos (S : BlkScope X.N X.env.scope N ix scope) (ok : X.Ok) : ∀ y ∈ scope.names, y.2 = .free → ∃ c, X.env.cells.lookup y.1 = some c := fun y hy hf => ok.has y.1 (S.free y hy hf)

/-- the state at the block's entry: the list at D, the block's names at C -/
theorem inv_block {D C : Addr} {h' : Heap} {tk : Nat} {m : Str → Option Value} (I : Inv X pins σ H s) (S : BlkScope X.N X.env.scope N ix scope) (hf : ∀ b ∈ fp, FpOk X pins H b)
    (hfo : ∀ b ∈ fp, ∃ o, s.heap.get? b = some o ∧ ∀ v, o.data ≠ .cell v)
    (hD : s.heap.objs.size ≤ D) (hC : s.heap.objs.size ≤ C) (hDC : D ≠ C) (hk : ∀ b o, s.heap.get? b = some o → h'.get? b = some o) (hns : h'.Ns C m)
    (hl : ∃ n, h'.get? D = some { cls := .type "list", data := .seq ([] : List Value).toArray n }) :
    Inv (cxComp X N scope fp s H C) pins (blockSt ix σ) (upd H D (.lst [])) { s with heap := h', toks := tk } := by
  have fresh : ∀ {a : Addr}, s.heap.objs.size ≤ a → H a = none := fun h => I.hok.fresh h
  have cl_of : ∀ x c, (closList X.env.cells scope.names []).lookup x = some c → X.env.cells.lookup x = some c := fun x c e => by
    rcases closList_some _ _ _ e with ⟨h1, h2⟩ | h1
    · obtain ⟨c', e'⟩ := S.clos I.ok _ h1 rfl
      have e'' : X.env.cells.lookup x = some c' := e'
      rw [e''] at h2
      rw [e'']
      exact congrArg some h2
    · simp at h1
  have ltO : ∀ {b : Addr} {o : Obj}, s.heap.get? b = some o → b < s.heap.objs.size := fun e => Heap.lt_size e
  have neC : ∀ {b : Addr} {o : Obj}, s.heap.get? b = some o → b ≠ C := fun e => Nat.ne_of_lt (Nat.lt_of_lt_of_le (ltO e) hC)
  have neD : ∀ {b : Addr} {o : Obj}, s.heap.get? b = some o → b ≠ D := fun e => Nat.ne_of_lt (Nat.lt_of_lt_of_le (ltO e) hD)
  have cellG : ∀ x c, X.env.cells.lookup x = some c → ∃ o, s.heap.get? c = some o := fun x c e => by
    obtain ⟨v, o, ho, _⟩ := I.cell x c e
    exact ⟨o, ho⟩
  refine ⟨⟨I.ok.mod, ?_, I.ok.glob, I.ok.blt, hC, fun x y c e1 e2 => I.ok.inj x y c (cl_of x c e1) (cl_of y c e2), fun x hx => ?_, fun x c h _ => ?_, I.ok.hd, I.ok.frames, .inl rfl, fun b hb => ?_, I.bs, Nat.le_trans I.ok.bsz I.sz, fun b o e hb => ?_, fun b hb hb2 => ?_, I.stack, I.stkFree⟩,
    rfl, I.bare, Un.laid hk hD (fresh hD), ⟨m, hns, fun j x v e1 e2 e3 => ?_⟩, fun x c e => ?_, ?_, fun x c e => ?_, fun p hp => ?_, I.hok.laid hk hD ?_, ?_⟩
  · exact S.kind
  · have hx' : (x, NameKind.free) ∈ scope.names := by
      rcases hx with hx | hx
      · exact relabel_back (.inl rfl) S.nocell hx
      · exact relabel_back (.inr rfl) S.nocell hx
    obtain ⟨c, e⟩ := S.clos I.ok _ hx' rfl
    exact ⟨c, closList_has _ e _ _ (.inl hx')⟩
  · exact absurd (show false = true from h) Bool.false_ne_true
  · obtain ⟨f0, f1, f2, f3, f4, f5⟩ := hf b hb
    obtain ⟨o, e, _⟩ := hfo b hb
    exact ⟨neC e, fun x c ec => f4 x c (cl_of x c ec)⟩
  · obtain ⟨f0, f1, f2, f3, f4, f5⟩ := hf b hb
    rcases f3 with z | z
    · exact I.ok.noex b o e z
    · exact absurd (Nat.lt_of_lt_of_le (Heap.lt_size (I.ok.bs b o e).1) z) (Nat.lt_irrefl _)
  · obtain ⟨f0, f1, f2, f3, f4, f5⟩ := hf b hb
    rcases List.mem_cons.mp (I.stkSub b hb2) with z | z
    · exact f1 z
    · exact f2 z
  · -- a name's value
    obtain ⟨mX, hnX, hlX⟩ := id I.loc
    have hj : (blockSt ix σ)[j]? = some (some v) := e2
    unfold blockSt at hj
    rw [List.getElem?_map] at hj
    cases ej : ix[j]? with
    | none => rw [ej] at hj; cases hj
    | some o =>
      rw [ej] at hj
      cases o with
      | none => cases hj
      | some i =>
        have hj' : (σ[i]?).join = some v := Option.some.inj hj
        have hz : (x, some i) ∈ N.zip ix := List.mem_iff_getElem?.mpr ⟨j, by rw [List.getElem?_zip_eq_some]; exact ⟨e1, ej⟩⟩
        obtain ⟨hNi, hfr⟩ := S.at_ _ hz i rfl
        have hmem := mem_lookup_free hfr
        have hσ : σ[i]? = some (some v) := by
          cases q : σ[i]? with
          | none => rw [q] at hj'; cases hj'
          | some w' =>
            rw [q] at hj'
            have q' : w' = some v := hj'
            rw [q']
        have hvx : X.env.scope.names.lookup x = some .cell ∨ X.env.scope.names.lookup x = some .free := S.free _ hmem rfl
        obtain ⟨u, r, lk⟩ := hlX i x v hNi hσ (.inr hvx)
        refine ⟨u, r, .inr ⟨?_, ?_⟩⟩
        · exact relabel_free hfr
        · rcases lk with ⟨k, _⟩ | ⟨k, c, ec, ci⟩
          · have k' : X.env.scope.names.lookup x = some .local := k
            rcases hvx with z | z
            · rw [z] at k'; cases k'
            · rw [z] at k'; cases k'
          · obtain ⟨oc, hoc, hocd⟩ := ci
            exact ⟨c, closList_has _ ec _ _ (.inl hmem), oc, hk c oc hoc, hocd⟩
  · obtain ⟨v, o, ho, hd⟩ := I.cell x c (cl_of x c e)
    exact ⟨v, o, hk c o ho, hd⟩
  · show upd H D (.lst []) C = none
    rw [upd_ne (Ne.symm hDC)]
    exact fresh hC
  · obtain ⟨o, ho⟩ := cellG x c (cl_of x c e)
    rw [upd_ne (neD ho)]
    exact I.freeC x c (cl_of x c e)
  · obtain ⟨e, n, ne, nf, d⟩ := I.pin p hp
    refine ⟨hk _ _ e, by rw [upd_ne (neD e)]; exact n, neC e, fun z => ?_, d⟩
    rcases List.mem_cons.mp (I.stkSub p.1 z) with q | q
    · exact ne q
    · exact nf q
  · obtain ⟨n, hl⟩ := hl
    exact ⟨Nat.zero_le _, [], n, .nil, hl⟩
  · show (blockSt ix σ).length = N.length
    unfold blockSt
    rw [List.length_map]
    exact S.len
end
end L2

set_option Elab.async false
set_option linter.all false
set_option maxRecDepth 100000
namespace L2
open PySem PySem.Spec PyProof.Rows

/-! ### the comprehension's loop -/
theorem compLoop_by {prog : Program} {w : World} {A : Around} {R : Result → Shared → Prop} {s : Shared} {elt target iter : Expr} {scope : Scope} {pos : Pos} {it acc : Value} {env : Env} (I : Nat → Shared → Prop)
    (turn : ∀ n s, I n s → wpAny (model prog w) A (pyNext it) (fun r s₁ => match r with
      | none => R (.ok .next) s₁
      | some v => wpAny (model prog w) A (letOwnedTupleGo target it v) (fun _ s₁' => wpAny (model prog w) A (assign target env v) (fun _ s₂ => wpAny (model prog w) A (eval elt env) (fun x s₃ =>
          wpAny (model prog w) A (call (.builtin "list.append") [acc, x]) (fun _ s₄ => ∃ m, m < n ∧ I m s₄) (fun _ _ => False) s₃)
          (fun _ _ => False) s₂) (fun _ _ => False) s₁') (fun _ _ => False) s₁) (fun _ _ => False) s)
    (n : Nat) (h : I n s) :
    codeAny (model prog w) A (.compLoop (.ListComp elt [⟨target, iter, [], 0⟩] scope pos) 0 it acc env) R s := by
  refine codeAny_loop rfl I (fun n s hI => ?_) n h
  show wpAny _ _ ((compTurn (.ListComp elt [⟨target, iter, [], 0⟩] scope pos) 0 it acc env).onRaise (fun x => do noteFrame x env; theTreesLotGoes x)) _ _ s
  refine wpAny_noted ?_
  rw [compTurn_list1]
  refine wpAny_bind (wpAny_standAt (wpAny_bind (wpAny_mono (turn n s hI) (fun r s₁ h₁ => ?_) fun _ _ h' => h'.elim)))
  cases r with
  | none => exact wpAny_pure h₁
  | some v =>
    refine wpAny_bind (wpAny_mono h₁ (fun _ s₁' h₁' => ?_) fun _ _ h' => h'.elim)
    exact wpAny_bind (wpAny_mono h₁' (fun _ s₂ h₂ => wpAny_bind (wpAny_bind (wpAny_mono h₂ (fun x s₃ h₃ => wpAny_bind (wpAny_mono h₃
      (fun _ s₄ h₄ => wpAny_pure (wpAny_pure ⟨rfl, h₄⟩)) fun _ _ h' => h'.elim)) fun _ _ h' => h'.elim))) fun _ _ h' => h'.elim)

/-- what a comprehension's reading asks behind the source: W the invariant by turn and measure -/
def CompW (J : It) (ix : List (Option Nat)) (g : TG) (te : TE) (σ : St) (H : Hp) (Qd : Addr → Hp → Prop) : Prop :=
  ∀ D, H D = none → ∃ W : Nat → Nat → St → Hp → Prop, (∃ m, W 0 m (blockSt ix σ) (upd H D (.lst []))) ∧ ∀ i m σ' H', W i m σ' H' →
    (J.stop i H' ∧ Qd D H') ∨ (J.go i H' ∧ ∀ x H2, J.yld i H' x H2 → g x σ' H2 fun σ3 H3 => te σ3 H3 fun y H4 => ∃ ys, H4 D = some (.lst ys) ∧ ys.length < sizeLine ∧ ∃ m', m' < m ∧ W (i + 1) m' σ3 (upd H4 D (.lst (ys ++ [y]))))

section
variable {X : Cx} {pins : List (Addr × Obj)} {σ : St} {H : Hp} {s : Shared} {N : List Str} {ix : List (Option Nat)} {scope : Scope} {fp : List Addr} {tg elt iter : Expr} {pos spos : Pos} {J : It} {it : Addr} {tn : Nat → Heap → Prop} {g : TG} {te : TE} {wi : TI}

theorem comp_run {Qd : Addr → Hp → Prop} {RR : Value → Addr → Result → Shared → Prop} {E : Value → Shared → Prop} (I : Inv X pins σ H s) (hc : X.calm = true) (S : BlkScope X.N X.env.scope N ix scope) (T : Turn X.prog X.w X.K tg J fp it tn) (st : tn 0 s.heap) (f2 : ∀ b ∈ fp, FpOk X pins H b)
    (hg : ∀ C, PG (cxComp X N scope fp s H C) tg g) (he : ∀ C, PE (cxComp X N scope fp s H C) elt te) (hW : CompW J ix g te σ H Qd)
    (hR : ∀ D C s' H' m, Inv X pins σ H' s' → s'.heap.Ns C m → FpOk X pins H' C → Qd D H' → RR (.ref D) C (.ok .next) s') :
    wpAny (model X.prog X.w) X.A (newList []) (fun acc s₃ => wpAny (model X.prog X.w) X.A (newFunctionEnv scope X.env.globals (closList X.env.cells scope.names []) [] X.env.qual none .none (some X.env)) (fun cenv s₄ =>
      codeAny (model X.prog X.w) X.A (.compStart (.ListComp elt [⟨tg, iter, [], 0⟩] scope pos) 0 (.ref it) acc { cenv with scope := relabel scope X.env }) (RR acc cenv.locals) s₄) E s₃) E s := by
  refine wpAny_newObj_type (wpAny_newFunctionEnv S.nocell (by intro y hy; simp at hy) (fun h₁ hns₁ hsb₁ => ?_) S.kind)
  dsimp only at hns₁ hsb₁ ⊢
  generalize hH2 : s.heap.push { cls := .type "list", dict := none, data := .seq ([] : List Value).toArray } = H2 at hns₁ hsb₁ ⊢
  have hC : H2.objs.size = s.heap.objs.size + 1 := by rw [← hH2, Heap.size_push]
  have hDC : s.heap.objs.size ≠ H2.objs.size := by rw [hC]; exact Nat.ne_of_lt (Nat.lt_succ_self _)
  have hCle : s.heap.objs.size ≤ H2.objs.size := by rw [hC]; exact Nat.le_succ _
  have below : ∀ b, b < s.heap.objs.size → b ≠ H2.objs.size := fun b hb => by rw [hC]; exact Nat.ne_of_lt (Nat.lt_succ_of_lt hb)
  have old : ∀ b o, s.heap.get? b = some o → h₁.get? b = some o := fun b o e => hsb₁.extBut b o (below b (Heap.lt_size e)) (Heap.get?_push_of_some _ (hH2 ▸ Heap.get?_push_of_some _ e))
  have hacc : ∃ n, h₁.get? s.heap.objs.size = some { cls := .type "list", data := .seq ([] : List Value).toArray n } := ⟨_, hsb₁.extBut _ _ hDC (Heap.get?_push_of_some _ (hH2 ▸ Heap.get?_push_size _ rfl))⟩
  have st1 : tn 0 h₁ := T.keep _ _ _ st fun b _ o e => old b o e
  have fo : ∀ b ∈ fp, ∃ o, s.heap.get? b = some o ∧ ∀ v, o.data ≠ .cell v := T.obj _ _ st
  have I0 : Inv (cxComp X N scope fp s H H2.objs.size) pins (blockSt ix σ) (upd H s.heap.objs.size (.lst [])) { s with heap := h₁, toks := s.toks + ([] : List (Str × Value)).length } :=
    inv_block I S f2 fo (Nat.le_refl _) hCle hDC old hns₁ hacc
  have freshD : H s.heap.objs.size = none := I.hok.fresh (Nat.le_refl _)
  obtain ⟨W, ⟨m0, w0⟩, turn⟩ := hW s.heap.objs.size freshD
  have cl_ne : ∀ b ∈ fp, b ≠ H2.objs.size := fun b hb => by
    obtain ⟨o, e, _⟩ := fo b hb
    exact below b (Heap.lt_size e)
  have stat : ∀ {H' : Hp}, (∀ b ∈ fp, H' b = none) → ∀ b ∈ fp, FpOk (cxComp X N scope fp s H H2.objs.size) pins H' b := fun hn b hb => by
    obtain ⟨f0, f1, f3, f4, f5, f6⟩ := f2 b hb
    exact ⟨hn b hb, cl_ne b hb, I0.ok.exfs b hb, .inl hb, (I0.ok.exf b hb).2, f6⟩
  have fr0 : ∀ b ∈ fp, (upd H s.heap.objs.size (.lst [])) b = none := fun b hb => by
    obtain ⟨o, e, _⟩ := fo b hb
    rw [upd_ne (Nat.ne_of_lt (Heap.lt_size e))]
    exact (f2 b hb).1
  have loop : codeAny (model X.prog X.w) X.A (.compLoop (.ListComp elt [⟨tg, iter, [], 0⟩] scope pos) 0 (.ref it) (.ref s.heap.objs.size) (compEnvC scope (closList X.env.cells scope.names []) H2.objs.size X.env))
      (RR (.ref s.heap.objs.size) H2.objs.size) { s with heap := h₁, toks := s.toks + ([] : List (Str × Value)).length } := by
    refine compLoop_by (fun n s' => ∃ i σ' H', Inv (cxComp X N scope fp s H H2.objs.size) pins σ' H' s' ∧ tn i s'.heap ∧ (∀ b ∈ fp, H' b = none) ∧ W i n σ' H') ?_ m0 ⟨0, _, _, I0, st1, fr0, w0⟩
    rintro n s3 ⟨i, σ3, H3, I3, st3, fr3, w3⟩
    rcases turn i n σ3 H3 w3 with ⟨stop, qn⟩ | ⟨go, step⟩
    · refine thn (T.done (cxComp X N scope fp s H H2.objs.size) rfl rfl rfl hc i pins s3 σ3 H3 _ I3 (stat fr3) st3 stop) fun r s4 ⟨hr, I4⟩ => ?_
      subst hr
      obtain ⟨m4, hn4, _⟩ := id I4.loc
      refine hR _ _ s4 H3 m4 ?_ hn4 (I.fpOk hCle I4.free) qn
      exact I.call' (ch := fp) I4.os I4.base I4.hok I4.bare fun b hb => by
        obtain ⟨f0, f1, f3, f4, f5, f6⟩ := f2 b hb
        exact ⟨f4, f1, f5, f6⟩
    · refine thn (T.item (cxComp X N scope fp s H H2.objs.size) rfl rfl rfl hc i pins s3 σ3 H3 _ I3 (stat fr3) st3 go) fun r s4 ⟨u, hr, h4⟩ => ?_
      subst hr
      refine thn h4 fun _ s5 ⟨x, H5, I5, r5, y5, st5, fr5⟩ => ?_
      have I5' := I5.pinned (stat fr5) (T.obj _ _ st5)
      refine thn (hg _ _ s5 σ3 H5 x u _ I5' r5 (step x H5 y5)) fun _ s6 ⟨σ6, H6, I6, q6⟩ => ?_
      refine thn (he _ _ s6 σ6 H6 _ I6 q6) fun yv s7 ⟨y, H7, I7, r7, ys, hD7, hz7, m', hm, w7⟩ => ?_
      refine thn (mt_append (X := cxComp X N scope fp s H H2.objs.size) _ s7 σ6 H7 (.ref s.heap.objs.size) [y] (.ref s.heap.objs.size) [yv] (fun _ H8 => W (i + 1) m' σ6 H8) I7 rfl (.cons r7 .nil) ⟨_, ys, y, rfl, rfl, hD7, hz7, w7⟩) fun _ s8 ⟨_, H8, I8, _, w8⟩ => ?_
      refine ⟨m', hm, i + 1, σ6, H8, I8.unpinned, T.keep _ _ _ st5 fun b hb o e => (I8.pin (b, o) (List.mem_append_right _ (List.mem_append_right _ (mem_pinsAt hb e)))).1, fun b hb => ?_, w8⟩
      obtain ⟨o, e, d⟩ := T.obj _ _ st5 b hb
      exact (I8.pin (b, o) (List.mem_append_right _ (List.mem_append_right _ (mem_pinsAt hb e)))).2.1
  exact codeAny_compStart_list loop (T.self _ _ _ _ _ st1 loop)

/-- [elt for x in iter] -/
def tComp (ix : List (Option Nat)) (wi : TI) (g : TG) (te : TE) : TE := fun σ H Q => wi σ H fun J H1 => CompW J ix g te σ H1 fun D H' => Q (.ref D) H'
theorem pe_comp (hc : X.calm = true) (S : BlkScope X.N X.env.scope N ix scope) (hi : PI X tg iter wi) (hg : ∀ fp s H C, PG (cxComp X N scope fp s H C) tg g) (he : ∀ fp s H C, PE (cxComp X N scope fp s H C) elt te)
    (hs : ∀ x, foldedSetIterable iter X.env x = pure x := by intro _; rfl) : PE X (.ListComp elt [⟨tg, iter, [], 0⟩] scope pos) (tComp ix wi g te) := by
  intro pins s σ H Q I h
  rw [eval_ListComp]
  refine wpAny_comprehension_free (use := none) rfl hs (closureFor_eq (S.clos I.ok)) S.kind S.locs (thn (hi pins s σ H _ I h) fun v s1 h1 => thn h1 fun itv s2 h2 => ?_)
  obtain ⟨it, fp, tn, J, H2, e, I2, T, st2, f2, hW⟩ := h2
  subst e
  refine comp_run (RR := fun acc C => compPost (model X.prog X.w) X.A X.xe none (EP X pins σ Q) acc C) I2 hc S T st2 f2 (hg _ _ _) (he _ _ _) hW ?_
  intro D C s' H' m I' hn fC q
  exact ⟨m, hn, fun h' sb => ⟨.ref D, H', I'.turned (t' := s'.toks) (fun b o hb e => (sb.2 b hb).trans e) fC.1 fC.2.1 fC.2.2.2.1 fC.2.2.2.2.1 fC.2.2.2.2.2, rfl, q⟩⟩
/-- y = [elt for x in iter], y a plain local name -/
theorem ps_setComp {i : Nat} {y : Str} {py : Pos} (hc : X.calm = true) (hN : X.N.Nodup) (hyi : X.N[i]? = some y) (hy : Loc X.env.scope y) (S : BlkScope X.N X.env.scope N ix scope) (hi : PI X tg iter wi) (hg : ∀ fp s H C, PG (cxComp X N scope fp s H C) tg g) (he : ∀ fp s H C, PE (cxComp X N scope fp s H C) elt te)
    (hsw : swapsWith (.ListComp elt [⟨tg, iter, [], 0⟩] scope pos) (some (.Name y py)) spos.line X.env = pure true := by rfl)
    (hf : X.fn y = true ∨ X.env.scope.names.lookup y = some .local := by first | exact .inl rfl | exact .inr rfl | assumption)
    (hs : ∀ x, foldedSetIterable iter X.env x = pure x := by intro _; rfl) : PS X (.Assign [.Name y py] (.ListComp elt [⟨tg, iter, [], 0⟩] scope pos) spos) (tAsg (tComp ix wi g te) (gName i)) := by
  intro pins s σ H D I h
  rw [exec_Assign_Name_used _ _ _ _ hsw]
  refine wpAny_bind (wpAny_standAt (wpAny_bind ?_))
  show wpAny _ X.A (do let _ ← comprehension (.ListComp elt [⟨tg, iter, [], 0⟩] scope pos) scope X.env _ (newList []) false (eval iter X.env) (some (assign (.Name y py) X.env))) _ _ s
  refine wpAny_bind (wpAny_mono (wpAny_comprehension_free (use := some (assign (.Name y py) X.env)) (Q := fun _ s' => SP X pins D .next s') rfl hs (closureFor_eq (S.clos I.ok)) S.kind S.locs
    (thn (hi pins s σ H _ I h) fun v s1 h1 => thn h1 fun itv s2 h2 => ?_)) (fun _ s' hq => wpAny_pure (wpAny_pure hq)) fun _ _ e => e)
  obtain ⟨it, fp, tn, J, H2, e, I2, T, st2, f2, hW⟩ := h2
  subst e
  refine comp_run (RR := fun acc C => compPost (model X.prog X.w) X.A X.xe (some (assign (.Name y py) X.env)) (fun _ s' => SP X pins D .next s') acc C) I2 hc S T st2 f2 (hg _ _ _) (he _ _ _) hW ?_
  intro Dl C s' H' m I' hn fC q
  show wpAny _ X.A (assign (.Name y py) X.env (.ref Dl)) _ _ s'
  refine wpAny_assign_Name (store_ok2 I' hN hyi hy (v := .ref Dl) rfl (fun s2 I2' hsb => ?_) hf)
  obtain ⟨a, sb, ha⟩ := hsb
  refine ⟨m, hn.sameBut sb ?_, fun h3 sb3 => ⟨_, H', I2'.turned (t' := s2.toks) (fun b o hb e => (sb3.2 b hb).trans e) fC.1 fC.2.1 fC.2.2.2.1 fC.2.2.2.2.1 fC.2.2.2.2.2, q⟩⟩
  rcases ha with z | z
  · rw [z]; exact fC.2.1
  · exact Ne.symm (fC.2.2.2.2.1 _ _ z)
end

/-! ### the forms one uses -/
theorem comp_range {lo : Int} {n : Nat} {ix : List (Option Nat)} {te : TE} {σ : St} {H : Hp} {Qd : Addr → Hp → Prop} (Pv : Addr → Nat → List V → Hp → Prop)
    (h0 : ∀ D, H D = none → Pv D 0 [] (upd H D (.lst [])))
    (hs : ∀ D i ys H' (Q' : VK), H D = none → i < n → H' D = some (.lst ys) → Pv D i ys H' → (∀ y H4, H4 D = some (.lst ys) → ys.length < sizeLine → Pv D (i + 1) (ys ++ [y]) (upd H4 D (.lst (ys ++ [y]))) → Q' y H4) →
      te ((blockSt ix σ).set 0 (some (.int (lo + i)))) H' Q')
    (hd : ∀ D ys H', H D = none → H' D = some (.lst ys) → Pv D n ys H' → Qd D H') : CompW (Itr lo n) ix (gName 0) te σ H Qd := by
  intro D hD
  refine ⟨fun i m σ' H' => m = n - i ∧ i ≤ n ∧ (σ' = blockSt ix σ ∨ ∃ t, σ' = (blockSt ix σ).set 0 t) ∧ ∃ ys, H' D = some (.lst ys) ∧ Pv D i ys H', ⟨n, by simp, Nat.zero_le _, .inl rfl, [], upd_same, h0 D hD⟩, ?_⟩
  rintro i m σ' H' ⟨rfl, hi, hσ, ys, hy, p⟩
  by_cases hlt : i < n
  · refine .inr ⟨hlt, fun x H2 y => ?_⟩
    obtain ⟨e1, e2⟩ := y
    subst e1
    subst e2
    have es : σ'.set 0 (some (V.int (lo + i))) = (blockSt ix σ).set 0 (some (V.int (lo + i))) := by
      rcases hσ with z | ⟨t, z⟩
      · rw [z]
      · rw [z, List.set_set]
    show te (σ'.set 0 (some (V.int (lo + i)))) _ _
    rw [es]
    refine hs D i ys _ _ hD hlt hy p fun y H4 h4 hz p4 => ⟨ys, h4, hz, n - (i + 1), by omega, rfl, hlt, .inr ⟨_, rfl⟩, ys ++ [y], upd_same, p4⟩
  · have e : i = n := by omega
    subst e
    exact .inl ⟨Nat.le_refl _, hd D ys H' hD hy p⟩
/-! ### isinstance -/
section
variable {X : Cx}
def rIsi (K : PySem.W.Frag) : List V → Hp → VK → Prop := fun xs H Q => ∃ x n t b, xs = [x, .ty n] ∧ TyOf K H x t ∧ PySem.W.kitOne K t (.type n) = some b ∧ Q (.bl b) H
theorem call_isi : CallR X (.builtin "isinstance") (rIsi X.K) := by
  intro pins s σ H xs us Q I r h
  obtain ⟨x, n, t, b, rfl, ty, e, q⟩ := h
  obtain ⟨u, v, rfl, ru, rv⟩ := r.two
  cases (show v = Value.type n from rv)
  exact isinst_ok I ru ty e fun tk => ⟨.bl b, H, I.tok tk, rfl, q⟩
end

/-! ### a list unpacked -/
section
variable {prog : Program} {w : World} {A : Around} {E : Value → Shared → Prop} {s : Shared}
end
section
variable {X : Cx} {pos : Pos}
def gLst (K : PySem.W.Frag) (n : Nat) (t : TGs) : TG := fun v σ H Q => ∃ a xs, v = .ref a ∧ SqL K H a xs ∧ xs.length = n ∧ t xs σ H Q
/-! ### two lists of flat things compared -/
def eqVs : List V → List V → Bool
  | [], [] => true
  | x :: xs, y :: ys => eqV x y && eqVs xs ys
  | _, _ => false
theorem eqVs_refl_int (ns : List Int) : eqVs (ns.map V.int) (ns.map V.int) = true := by
  induction ns with
  | nil => rfl
  | cons n r ih => simp [eqVs, eqV, ih]
theorem eqVs_len : ∀ {xs ys : List V}, xs.length ≠ ys.length → eqVs xs ys = false
  | [], [], h => absurd rfl h
  | [], _ :: _, _ => rfl
  | _ :: _, [], _ => rfl
  | x :: xs, y :: ys, h => by
    have := @eqVs_len xs ys (by simpa using h)
    simp [eqVs, this]
theorem eqVs_all : ∀ {xs ys : List V}, xs.length = ys.length → eqVs xs ys = (List.range xs.length).all fun j => eqV (xs.getD j .non) (ys.getD j .non)
  | [], [], _ => rfl
  | [], _ :: _, h => by simp at h
  | _ :: _, [], h => by simp at h
  | x :: xs, y :: ys, h => by
    have ih := @eqVs_all xs ys (by simpa using h)
    rw [List.length_cons, List.range_succ_eq_map, List.all_cons, List.all_map]
    show (eqV x y && eqVs xs ys) = (eqV x y && _)
    rw [ih]
    rfl
def rEqL (K : PySem.W.Frag) : R2 := fun x y H Q => ∃ a b xs ys, x = .ref a ∧ y = .ref b ∧ SqL K H a xs ∧ SqL K H b ys ∧ xs.all flatV = true ∧ ys.all flatV = true ∧ Q (.bl (eqVs xs ys)) H
end
end L2

set_option Elab.async false
set_option linter.all false
set_option maxRecDepth 100000
namespace HT
open PySem PySem.Spec PyProof.Rows
section
variable {prog : Program} {w : World} {A : Around} {E : Value → Shared → Prop} {s : Shared}
end
end HT
namespace L2
open PySem PySem.Spec PyProof.Rows
section
variable {X : Cx}
def rSlTW (K : PySem.W.Frag) : V → Option Int → Option Int → Hp → VK → Prop := fun x lo hi H Q => ∃ a xs, x = .ref a ∧ SqT K H a xs ∧
  (HT.sIx xs.length 0 lo = 0 ∧ HT.sIx xs.length xs.length hi = xs.length) ∧ Q (.ref a) H
/-- a[lo:hi] of a list or a tuple: somewhere stands what was cut out, all else is as it was -/
def rSl (K : PySem.W.Frag) : V → Option Int → Option Int → Hp → VK → Prop := fun x lo hi H Q => ∃ a xs, x = .ref a ∧
  ((SqL K H a xs ∧ ∀ p, H p = none → Q (.ref p) (upd H p (.lst (cutV xs lo hi)))) ∨
   (SqT K H a xs ∧ (cutV xs lo hi = xs → Q (.ref a) H) ∧ ∀ p, H p = none → Q (.ref p) (upd H p (.tup (cutV xs lo hi)))))
end

/-! ### a def of the text, with or without defaults -/
structure FunD (K : PySem.W.Frag) (x qual : Str) (st : Stmt) (dV : Value) (f : Addr) (fd : FuncData) : Prop where
  ex : ∃ (oc : Value) (od : Option Addr) (kV doc pm : Value) (an : Option Addr) (cdv ct : Value) (osl : Array (Option Value)),
    fd = PySem.W.fnOf x qual (defArgs st) (defBody st) (defScope st) dV kV doc pm an cdv ct ∧ K.lookup f = some ⟨oc, od, .func fd, osl⟩ ∧ PySem.W.codeIn K cdv qual = true
  kp : PySem.W.keepIn K (.ref f) = true
section
variable {P : Program} {w : World} {K : PySem.W.Frag} {mg : Str → Option Value} {base : Heap}
theorem FunD.ok {x qual : Str} {st : Stmt} {dV : Value} {f : Addr} {fd : FuncData} {N ps : List Str} {k : Nat} {sp : Sp} (F : FunD K x qual st dV f fd) (S : FnScope N ps (defScope st)) (len : ∀ vs H Q E, sp vs H Q E → vs.length = ps.length)
    (hbody : ∀ (cdv : Value) (A : Around) (outer : List Env) (s : Shared) (H : Hp) (vs : List V) (Q : VK) (E : XK), Room k (A.deeper (envOfC qual (defScope st) s.heap.objs.size f cdv)) → sp vs H Q E →
      ∃ t, PSs (cxOf CX0 P w K mg base N qual (defScope st) f cdv A outer s H E).nox (defBody st) t ∧ t { nx := fun _ H' => Q .non H', rt := Q } (start N vs) H) : FnOk P w K mg base CX0 (k + 1) f fd ps sp := by
  obtain ⟨oc, od, kV, doc, pm, an, cdv, ct, osl, rfl, lk, hcd⟩ := F.ex
  refine fn_of lk hcd S len fun A outer s H vs Q E hr hsp => ?_
  obtain ⟨t, h, q⟩ := hbody cdv A outer s H vs Q E hr hsp
  exact ⟨t, h.nox, q⟩
theorem FunD.binds {x qual : Str} {st : Stmt} {f : Addr} {fd : FuncData} {ps : List Str} (F : FunD K x qual st .none f fd)
    (h : ∀ (kV doc pm : Value) (an : Option Addr) (cdv ct : Value) (us : List Value), us.length = ps.length → bindArgs (PySem.W.fnOf x qual (defArgs st) (defBody st) (defScope st) .none kV doc pm an cdv ct) ⟨us, []⟩ = pure (ps.zip us)) : Binds K fd ps [] := by
  obtain ⟨oc, od, kV, doc, pm, an, cdv, ct, osl, rfl, lk, hcd⟩ := F.ex
  exact .all (h kV doc pm an cdv ct)
/-- .. where it has defaults, the last of them ds -/
theorem FunD.bindsD {x qual : Str} {st : Stmt} {f T : Addr} {fd : FuncData} {ps : List Str} {ds : List Value} {o : Obj} {items : Array Value} {n : Nat} (F : FunD K x qual st (.ref T) f fd) (ho : K.lookup T = some o) (hs : o.data = .seq items n) (m : Nat) (hm : m + ds.length = ps.length)
    (h : ∀ (kV doc pm : Value) (an : Option Addr) (cdv ct : Value) (us : List Value), us.length = m → ∃ k : Option (Array Value) → Sem (List (Str × Value)),
      bindArgs (PySem.W.fnOf x qual (defArgs st) (defBody st) (defScope st) (.ref T) kV doc pm an cdv ct) ⟨us, []⟩ = seqItems? (.ref T) >>= k ∧ k (some items) = pure (ps.zip (us ++ ds))) : Binds K fd ps ds := by
  obtain ⟨oc, od, kV, doc, pm, an, cdv, ct, osl, rfl, lk, hcd⟩ := F.ex
  intro s us X hl
  obtain ⟨k, h1, h2⟩ := h kV doc pm an cdv ct us (by rw [List.length_append] at hl; omega)
  exact BindsTo.of_defaults (fd := PySem.W.fnOf x qual (defArgs st) (defBody st) (defScope st) (.ref T) kV doc pm an cdv ct) rfl (X _ _ ho) hs h1 h2
theorem fund_mk {x qual : Str} {st : Stmt} {f : Addr} {oc : Value} {od an : Option Addr} {osl : Array (Option Value)} {dV kV doc pm cdv ct : Value} (l : K.lookup f = some ⟨oc, od, .func (PySem.W.fnOf x qual (defArgs st) (defBody st) (defScope st) dV kV doc pm an cdv ct), osl⟩)
    (c : PySem.W.codeIn K cdv qual = true) (k : PySem.W.keepIn K (.ref f) = true) : FunD K x qual st dV f (PySem.W.fnOf x qual (defArgs st) (defBody st) (defScope st) dV kV doc pm an cdv ct) := ⟨⟨oc, od, kV, doc, pm, an, cdv, ct, osl, rfl, l, c⟩, k⟩

/-- a def as its callers see it: dvs are the defaults that fill up -/
structure DefOk (P : Program) (w : World) (K : PySem.W.Frag) (mg : Str → Option Value) (base : Heap) (x : Str) (k : Nat) (ps : List Str) (dvs : List V) (sp : Sp) : Prop where
  ex : ∃ (f : Addr) (fd : FuncData) (ds : List Value), mg x = some (.ref f) ∧ PySem.W.keepIn K (.ref f) = true ∧ Vals dvs ds ∧ Binds K fd ps ds ∧ FnOk P w K mg base CX0 k f fd ps sp
end
section
variable {X : Cx} {x : Str} {j k : Nat} {ps : List Str} {dvs : List V} {sp : Sp} {p pos : Pos} {e : Expr} {es : List Expr} {t : TA}
theorem pe_cd (G : DefOk X.prog X.w X.K X.mg X.base x k ps dvs sp) (hr : Room j X.A) (ha : PA X (e :: es) t) (hx : ∀ e s, X.xe e s = False := by intro _ _; rfl) (hkj : k ≤ j := by decide) (hg : Gl X x := by rfl) (hdb : (x == ("__debug__" : Str)) = false := by decide)
    (he : starEach (e :: es) X.env = (false, eval e X.env) :: starEach es X.env := by rfl) (hpl : (backTo pos (starEach es X.env)).any (·.1) = false := by rfl) :
    PE X (.Call (.Name x p) (e :: es) [] pos) (tCall sp dvs E0 t) := by
  obtain ⟨f, fd, ds, hm, hk, hd, hb, F⟩ := G.ex
  exact pe_call F (hr.mono hkj) hg hm hk hb hd (fun _ _ _ _ _ _ _ h => h.elim) ha hdb he hpl
end

/-! ### kinds of built-in classes -/
theorem kit_int_int (K : PySem.W.Frag) : PySem.W.kitOne K (.type "int") (.type "int") = some true := by with_unfolding_all rfl
theorem kit_int_bool (K : PySem.W.Frag) : PySem.W.kitOne K (.type "int") (.type "bool") = some false := by with_unfolding_all rfl
/-! ### small facts -/
theorem same_new {H : Hp} {p : Addr} (h : H p = none) (o : HO) : Same H (upd H p o) := fun b u q => by rw [upd_ne (ne_of_none q h)]; exact q
theorem small {n : Nat} (h : n ≤ 1000) : n ≤ sizeLine := Nat.le_of_lt (small1000 h)
theorem Same.tup {K : PySem.W.Frag} {H H' : Hp} {a : Addr} {xs : List V} (e : Same H H') (h : SqT K H a xs) : SqT K H' a xs := by
  rcases h with (h | ⟨o, h⟩) | h
  · exact .inl (.inl (e _ _ h))
  · exact .inl (.inr ⟨o, e _ _ h⟩)
  · exact .inr h

/-! ### the built-in names -/
theorem bt_len : bootBuiltins "len" = some (.builtin "len") := by decide +kernel
theorem bt_min : bootBuiltins "min" = some (.builtin "min") := by decide +kernel
theorem bt_max : bootBuiltins "max" = some (.builtin "max") := by decide +kernel
theorem bt_isinstance : bootBuiltins "isinstance" = some (.builtin "isinstance") := by decide +kernel
theorem bt_sum : bootBuiltins "sum" = some (.builtin "sum") := by decide +kernel
theorem bt_int : bootBuiltins "int" = some (.type "int") := by decide +kernel
theorem bt_bool : bootBuiltins "bool" = some (.type "bool") := by decide +kernel
theorem bt_tuple : bootBuiltins "tuple" = some (.type "tuple") := by decide +kernel
theorem bt_list : bootBuiltins "list" = some (.type "list") := by decide +kernel
theorem bt_reversed : bootBuiltins "reversed" = some (.type "reversed") := by decide +kernel
end L2

set_option Elab.async false
set_option linter.all false
set_option maxRecDepth 100000
namespace L2
open PySem PySem.Spec PyProof.Rows

/-! ### great ints -/
def BIG : Int := 2 ^ 4000
theorem big_bits {k : Int} (h0 : 0 ≤ k) (h : k < BIG) : k.natAbs.log2 < 4000 := by
  rcases Nat.eq_zero_or_pos k.natAbs with z | hp
  · rw [z]; decide +kernel
  · refine (Nat.log2_lt (by omega)).mpr ?_
    have e : BIG = ((2 ^ 4000 : Nat) : Int) := by unfold BIG; norm_cast
    rw [e] at h
    omega
def CMulB (i j : Int) : Prop := (0 ≤ i ∧ i < BIG) ∧ (0 ≤ j ∧ j < BIG)
theorem CMulB.ok {i j : Int} (h : CMulB i j) : IntMulOk i j := by
  have one : ∀ {k : Int}, 0 ≤ k → k < BIG → Builtin.Int.intBits k ≤ 2 ^ 20 := fun {k} h0 h1 => by
    unfold Builtin.Int.intBits
    have := big_bits h0 h1
    split <;> omega
  exact .of_bits (one h.1.1 h.1.2) (one h.2.1 h.2.2)
def CDivB (i j : Int) : Prop := 0 < j ∧ j < BIG
section
variable {X : Cx}
theorem op_mulB : OpR X (binaryOp .Mult) (rI CMulB fun i j => .int (i * j)) := opI fun _ _ _ _ _ _ _ hc q => PyProof.Rows.mul_int q hc.ok
theorem op_fdivB : OpR X (binaryOp .FloorDiv) (rI CDivB fun i j => .int (i / j)) := opI fun i j _ _ _ _ _ hc q => by
  have h1 : (0 : Int) < j := hc.1
  have h2 : j < BIG := hc.2
  have h3 := big_bits (Int.le_of_lt h1) h2
  exact floordiv_int (by omega) (by rw [Int.fdiv_eq_ediv_of_nonneg i (by omega)]; exact q) (.inl (PyProof.noPylong_of_log2 (by omega)))
end

/-! ### for x in reversed(a list) -/
def Itv (K : PySem.W.Frag) (a : Addr) (n : Nat) : It :=
  ⟨fun i H => i < n ∧ ∃ xs, SqL K H a xs ∧ xs.length = n, fun i H x H' => H' = H ∧ ∀ xs, SqL K H a xs → xs[n - 1 - i]? = some x, fun i H => i = n⟩
theorem turn_rev {P : Program} {w : World} {K : PySem.W.Frag} {tg : Expr} (a it : Addr) (n : Nat) : Turn P w K tg (Itv K a n) [it] it (fun i h => i ≤ n ∧ PySem.Heap.IsRevIter h it a ((n : Int) - 1 - (i : Int))) where
  mem := by simp
  obj := fun i h st b hb => by
    have e : b = it := by simpa using hb
    subst e
    obtain ⟨_, o, e, c, d⟩ := st
    exact ⟨o, e, fun v z => by rw [d] at z; cases z⟩
  keep := fun i h h' st k => ⟨st.1, st.2.at fun o e => k it (by simp) o e⟩
  item := by
    intro X hP hw hK hc i pins s σ H E I hf st hg
    subst hP hw hK
    obtain ⟨hi, xs, hq, hn⟩ := hg
    obtain ⟨its, rv, p, hz⟩ := I.list hq
    have hj : n - 1 - i < xs.length := by omega
    obtain ⟨u, hu, ru⟩ := rv.get (i := n - 1 - i) (x := xs[n - 1 - i]) (by simp [hj])
    obtain ⟨f0, f1, f2, f3, f4, f5⟩ := hf it (by simp)
    have e : (n : Int) - 1 - (i : Int) = ((n - 1 - i : Nat) : Int) := by omega
    have st2 := st.2
    rw [e] at st2
    refine wpAny_pyNext_rev_item st2 p.isList (x := u) (by simpa using hu) fun h' st' sb => ?_
    have I1 : Inv X pins σ H { s with heap := h' } := I.turned (t' := s.toks) (fun b o hb e => (sb.2 b hb).trans e) f0 f1 f3 f4 f5
    obtain ⟨o, eo, c, d⟩ := id st'
    refine ⟨u, rfl, go_of (s := { s with heap := h' }) eo c d (by decide) ⟨xs[n - 1 - i], H, I1, ru, ⟨rfl, fun ys hy => by rw [I.list_inj hy hq]; simp [hj]⟩, ⟨by omega, ?_⟩, fun b hb => (hf b hb).1⟩⟩
    have e2 : (n : Int) - 1 - ((i + 1 : Nat) : Int) = ((n - 1 - i : Nat) : Int) - 1 := by omega
    rw [e2]
    exact st'
  done := by
    intro X hP hw hK hc i pins s σ H E I hf st hg
    subst hP hw hK
    have hg' : i = n := hg
    obtain ⟨f0, f1, f2, f3, f4, f5⟩ := hf it (by simp)
    have e : (n : Int) - 1 - (i : Int) = -1 := by omega
    have st2 := st.2
    rw [e] at st2
    exact wpAny_pyNext_rev_end (I.ok.hd hc) st2 fun h' eb => ⟨rfl, I.turned (t' := s.toks) (fun b o hb e => eb b o hb e) f0 f1 f3 f4 f5⟩
  self := fun _ _ _ _ _ st h => wpAny_pyIter_revIter st.2 h
section
variable {X : Cx} {tg : Expr}
def iRev (K : PySem.W.Frag) (ta : TA) : TI := fun σ H R => ta σ H fun vs H1 => ∃ a xs, vs = [.ref a] ∧ SqL K H1 a xs ∧ R (Itv K a xs.length) H1
theorem pi_rev {a : Expr} {ta : TA} {p pos : Pos} (hg : Gl X "reversed") (hm : X.mg "reversed" = none) (ha : PA X [a] ta) (hs : starEach [a] X.env = [(false, eval a X.env)] := by rfl) : PI X tg (.Call (.Name "reversed" p) [a] [] pos) (iRev X.K ta) := by
  intro pins s σ H R I h
  refine Call_ (ld_blt I hg hm bt_reversed (PyProof.Rows.callWith_type1 (thn (ha pos pins s σ H _ I h) fun us s1 ⟨vs, H1, I1, r1, q1⟩ => ?_) hs rfl))
  obtain ⟨l, xs, e, hq, q⟩ := q1
  subst e
  cases r1 with
  | cons r rr =>
    cases rr
    cases r
    obtain ⟨its, rv, pl, hz⟩ := I1.list hq
    have hlen := rv.length
    refine call_reversed_list pl.isList ?_
    have I2 : Inv X pins σ H1 { s1 with heap := s1.heap.push (revObj l ((its.toArray.size : Int) - 1)) } := I1.kept (t' := s1.toks) fun b o e => Heap.get?_push_of_some _ e
    have hit : PySem.Heap.IsRevIter (s1.heap.push (revObj l ((its.toArray.size : Int) - 1))) s1.heap.objs.size l ((xs.length : Int) - 1 - ((0 : Nat) : Int)) := by
      refine ⟨_, Heap.get?_push_size _ rfl, rfl, ?_⟩
      have e : ((its.toArray.size : Int) - 1) = (xs.length : Int) - 1 - ((0 : Nat) : Int) := by rw [List.size_toArray]; omega
      rw [← e]
      rfl
    refine wpAny_pyIter_revIter hit ?_
    refine ⟨s1.heap.objs.size, [s1.heap.objs.size], _, _, H1, rfl, I2, turn_rev l _ xs.length, ⟨Nat.zero_le _, hit⟩, fun b hb => ?_, q⟩
    have e : b = s1.heap.objs.size := by simpa using hb
    subst e
    exact I1.fpOk (Nat.le_refl _) (I1.hok.fresh (Nat.le_refl _))
end
theorem for_rev {K : PySem.W.Frag} {a : Addr} {xs : List V} {g : TG} {tb : TS} {D : Ends} {σ : St} {H : Hp} (Pv : Nat → St → Hp → Prop) (h0 : Pv 0 σ H) (hl : ∀ i σ H, i ≤ xs.length → Pv i σ H → SqL K H a xs)
    (hs : ∀ i x σ H, i < xs.length → xs[xs.length - 1 - i]? = some x → Pv i σ H → g x σ H fun σ2 H2 => tb { D with nx := Pv (i + 1), ct := Pv (i + 1), bk := D.nx } σ2 H2) (hd : ∀ σ H, Pv xs.length σ H → D.nx σ H) :
    ∃ W : Nat → Nat → St → Hp → Prop, (∃ m, W 0 m σ H) ∧ ∀ i m σ H, W i m σ H →
      ((Itv K a xs.length).stop i H ∧ D.nx σ H) ∨ ((Itv K a xs.length).go i H ∧ ∃ N : St → Hp → Prop, (∀ σ' H', N σ' H' → ∃ m', m' < m ∧ W (i + 1) m' σ' H') ∧ ∀ x H', (Itv K a xs.length).yld i H x H' → g x σ H' fun σ2 H2 => tb { D with nx := N, ct := N, bk := D.nx } σ2 H2) := by
  refine ⟨fun i m σ H => m = xs.length - i ∧ i ≤ xs.length ∧ Pv i σ H, ⟨xs.length, by simp, Nat.zero_le _, h0⟩, ?_⟩
  rintro i m σ H ⟨rfl, hi, p⟩
  have q := hl i σ H hi p
  by_cases hlt : i < xs.length
  · refine .inr ⟨⟨hlt, xs, q, rfl⟩, Pv (i + 1), fun σ' H' p' => ⟨xs.length - (i + 1), by omega, rfl, hlt, p'⟩, fun x H' y => ?_⟩
    obtain ⟨e, y⟩ := y
    subst e
    exact hs i x σ _ hlt (y xs q) p
  · have e : i = xs.length := by omega
    subst e
    exact .inl ⟨rfl, hd σ H p⟩
/-- while, where the test's reading is followed by hand -/
theorem while_W {c : TT} {tb : TS} {D : Ends} {σ : St} {H : Hp} (Pv : Nat → St → Hp → Prop) (h0 : ∃ m, Pv m σ H)
    (hs : ∀ m σ H, Pv m σ H → c σ H fun b H1 => if b = true then ∃ N : St → Hp → Prop, (∀ σ' H', N σ' H' → ∃ m', m' < m ∧ Pv m' σ' H') ∧ tb { D with nx := N, ct := N, bk := D.nx } σ H1 else D.nx σ H1) : tWhile c tb D σ H := ⟨Pv, h0, hs⟩
end L2

set_option Elab.async false
set_option linter.all false
set_option maxRecDepth 100000
namespace L2
open PySem PySem.Spec PyProof.Rows

/-! ### isinstance by several classes -/
section
variable {X : Cx} {pins : List (Addr × Obj)} {σ : St} {H : Hp} {s : Shared}
def rIsiT (K : PySem.W.Frag) : List V → Hp → VK → Prop := fun xs H Q => ∃ (x : V) (p : Addr) (ts : List String) (t : Value) (b : Bool), xs = [x, .ref p] ∧ H p = some (.tup (ts.map V.ty)) ∧ TyOf K H x t ∧ PySem.W.kitAny K t (ts.map Value.type) = some b ∧ Q (.bl b) H
end

/-! ### range(0, n, 2) -/
def Its (lo c : Int) (n : Nat) : It := ⟨fun i _ => i < n, fun i H x H' => H' = H ∧ x = .int (lo + i * c), fun i _ => n ≤ i⟩
section
variable {X : Cx} {tg : Expr}
def iRng2s (ta : TA) : TI := fun σ H R => ta σ H fun vs H1 => ∃ j : Int, vs = [.int 0, .int j, .int 2] ∧ (0 ≤ j ∧ j < 2 ^ 60) ∧ R (Its 0 2 ((j + 1) / 2).toNat) H1
end
/-! ### two lists, two tuples of flat things: ==, != -/
section
variable {X : Cx}
theorem flat_pair {A : Around} {s : Shared} {xs ys : List V} {us ws : List Value} (rv : Vals xs us) (rw' : Vals ys ws) (fa : xs.all flatV = true) (fb : ys.all flatV = true) (j : Nat) (h1 : j < us.toArray.size) (h2 : j < ws.toArray.size) :
    SeqAt.EqAt A s us.toArray[j] ws.toArray[j] (eqV (xs.getD j .non) (ys.getD j .non)) := by
  have l1 := rv.length
  have l2 := rw'.length
  have j1 : j < xs.length := by simp at h1; omega
  have j2 : j < ys.length := by simp at h2; omega
  obtain ⟨u1, e1, q1⟩ := rv.get (i := j) (x := xs[j]) (by simp [j1])
  obtain ⟨u2, e2, q2⟩ := rw'.get (i := j) (x := ys[j]) (by simp [j2])
  have f1 : flatV xs[j] = true := List.all_eq_true.mp fa _ (List.getElem_mem j1)
  have f2 : flatV ys[j] = true := List.all_eq_true.mp fb _ (List.getElem_mem j2)
  have g1 : us.toArray[j] = u1 := by
    have := (List.getElem?_eq_some_iff.mp e1).2
    simpa using this
  have g2 : ws.toArray[j] = u2 := by
    have := (List.getElem?_eq_some_iff.mp e2).2
    simpa using this
  rw [g1, g2]
  have d1 : xs.getD j V.non = xs[j] := by simp [j1]
  have d2 : ys.getD j V.non = ys[j] := by simp [j2]
  rw [d1, d2]
  exact eqAt_V q1 q2 f1 f2
def rNeL (K : PySem.W.Frag) : R2 := fun x y H Q => ∃ a b xs ys, x = .ref a ∧ y = .ref b ∧ SqL K H a xs ∧ SqL K H b ys ∧ xs.all flatV = true ∧ ys.all flatV = true ∧ Q (.bl (!eqVs xs ys)) H
theorem op_neL (hu : X.A.units < cLine) : OpR X (compareOp .NotEq) (rNeL X.K) := by
  intro pins s σ H x y v u Q I r1 r2 h
  obtain ⟨a, b, xs, ys, rfl, rfl, ha, hb, fa, fb, q⟩ := h
  cases r1
  cases r2
  obtain ⟨its, rv, ht, hz⟩ := I.list ha
  obtain ⟨its2, rv2, ht2, hz2⟩ := I.list hb
  have l1 := rv.length
  have l2 := rv2.length
  by_cases hl : xs.length = ys.length
  · refine SeqAt.RcNeAt.lists (e := fun j => eqV (xs.getD j .non) (ys.getD j .non)) ht.isList ht2.isList (by simp; omega) hu (fun j h1 h2 => flat_pair rv rv2 fa fb j h1 h2) X.prog X.w X.xe _ ⟨.bl (!eqVs xs ys), H, I, ?_, q⟩
    show Value.bool _ = Value.bool _
    rw [eqVs_all hl]
    simp [l1]
  · refine SeqAt.RcNeAt.lists_lengths ht.isList ht2.isList (by simp; omega) hu X.prog X.w X.xe _ ⟨.bl (!eqVs xs ys), H, I, ?_, q⟩
    rw [eqVs_len hl]
    rfl
theorem eqVs_min {xs ys : List V} : eqVs xs ys = ((List.range (min xs.length ys.length)).all (fun j => eqV (xs.getD j .non) (ys.getD j .non)) && xs.length == ys.length) := by
  by_cases hl : xs.length = ys.length
  · rw [eqVs_all hl, ← hl, Nat.min_self]
    simp
  · rw [eqVs_len hl]
    have : (xs.length == ys.length) = false := by simpa using hl
    rw [this, Bool.and_false]
def rEqT (K : PySem.W.Frag) (neg : Bool) : R2 := fun x y H Q => ∃ a b xs ys, x = .ref a ∧ y = .ref b ∧ SqT K H a xs ∧ SqT K H b ys ∧ xs.all flatV = true ∧ ys.all flatV = true ∧ Q (.bl (if neg then !eqVs xs ys else eqVs xs ys)) H
theorem op_neT (hu : X.A.units < cLine) : OpR X (compareOp .NotEq) (rEqT X.K true) := by
  intro pins s σ H x y v u Q I r1 r2 h
  obtain ⟨a, b, xs, ys, rfl, rfl, ha, hb, fa, fb, q⟩ := h
  cases r1
  cases r2
  obtain ⟨its, rv, ht, hz⟩ := I.tuple ha
  obtain ⟨its2, rv2, ht2, hz2⟩ := I.tuple hb
  have l1 := rv.length
  have l2 := rv2.length
  refine SeqAt.RcNeAt.tuples (e := fun j => eqV (xs.getD j .non) (ys.getD j .non)) ht ht2 hu (fun j h1 h2 => flat_pair rv rv2 fa fb j h1 h2) X.prog X.w X.xe _ ⟨.bl (!eqVs xs ys), H, I, ?_, q⟩
  show Value.bool _ = Value.bool _
  rw [eqVs_min]
  simp [l1, l2]
/-! ### xs.insert(i, y), 0 ≤ i -/
def rInsert : V → List V → Hp → VK → Prop := fun x vs H Q => ∃ l xs i y, x = .ref l ∧ vs = [.int i, y] ∧ H l = some (.lst xs) ∧ (0 ≤ i ∧ i < 2 ^ 60) ∧ xs.length < sizeLine ∧ Q .non (upd H l (.lst (xs.take i.toNat ++ y :: xs.drop i.toNat)))
theorem mt_insert : MtM X "list.insert" rInsert := by
  intro pins s σ H x vs v us Q I rx rv h
  obtain ⟨l, xs, i, y, rfl, rfl, hH, ⟨h0, h1⟩, hz, q⟩ := h
  cases rx
  obtain ⟨u1, u2, rfl, ru1, ru2⟩ := rv.two
  obtain ⟨t, rfl⟩ := ru1
  obtain ⟨z, its, n, r, hl, e⟩ := I.lstM hH
  have fits : ¬(!Builtin.List.listFitsIndex i) = true := by
    unfold Builtin.List.listFitsIndex
    simp
    omega
  refine call_meets F.slot_list_insert ⟨_, e, rfl⟩ F.entry_list_insert (F.args_list_insert_3 _ _ _) (AutoSeq1.list_insert_list_int_val_1 l its.toArray n i t u2 fits (by rw [List.size_toArray]; omega)) ⟨e, ?_⟩
  refine ⟨.non, _, I.lset (its' := its.take i.toNat ++ u2 :: its.drop i.toNat) hH e ?_ (Vals.append (r.take i.toNat) (.cons ru2 (r.drop i.toNat))) ?_, rfl, q⟩
  · have hi : ¬ (i < 0) := by omega
    simp only [hi, if_false, List.size_toArray]
    apply Array.ext'
    simp
    rcases Nat.le_total i.toNat its.length with q | q
    · rw [Nat.min_eq_left q, List.take_of_length_le (l := List.drop i.toNat its) (by rw [List.length_drop]; exact Nat.le_refl _)]
    · rw [Nat.min_eq_right q, List.take_length, List.drop_length, List.take_of_length_le q, List.drop_eq_nil_of_le q, List.take_nil]
  · rw [List.length_append, List.length_cons, List.length_take, List.length_drop]
    omega
end
end L2

set_option Elab.async false
set_option linter.all false
set_option maxRecDepth 100000
/-! max(a list, default=d); a[lo:hi:step] of a tuple -/
namespace PySem
section
variable {prog : Program} {w : World} {A : Around} {R : Result → Shared → Prop} {I : Addr} {fp wr : List Addr} {n : Nat} {P : Nat → Value → Prop} {St : Nat → Heap → Prop}
theorem args_maxd (a v : Value) : argsOk "max" ⟨[a], [(Str.ofString "default", v)]⟩ := by unfold argsOk; kernel_rfl
theorem max_loopD (W : Walks prog w A.in1 I fp wr n P St) (bt : Nat → Nat → Bool) (hcmp : CmpOf prog w A.in1 .Gt P bt) (S : Addr) (hSf : S ∉ fp) (kw : List (Str × Value)) :
    ∀ (k j : Nat) (s : Shared) (vb : Value) (c : Nat), n - (j + 1) = k → j + 1 ≤ n → St (j + 1) s.heap → P (argBest bt j) vb →
    s.heap.get? S = some { cls := .type "list", dict := none, data := .seq #[vb, vb] c, slots := #[] } →
    (∀ v h' tk, P (argBest bt (n - 1)) v → (∀ b o, b ∉ wr → b ≠ S → s.heap.get? b = some o → h'.get? b = some o) → R (.ok (.ret v)) { s with heap := h', toks := tk }) →
    codeAny (model prog w) A (.builtin "max.loop" ⟨[.ref I, .none, .ref S], kw⟩) R s := by
  have hSw : S ∉ wr := fun h => hSf (W.sub _ h)
  have hname : (toString "max" ++ toString ".loop" : String) = "max.loop" := by decide
  intro k
  induction k with
  | zero =>
    intro j s vb c hk hj hst hPb hS hR
    have hin : j + 1 = n := by omega
    refine codeAny_builtin F.entry_max_loop ?_
    rw [Around.under_plainId F.plain_max_loop _]
    refine wpAny_bind (m := seqItems? (.ref S)) (wpAny_seqItems hS rfl ?_)
    refine wpAny_bind (m := tryCatch (pyNext (.ref I)) _) (wpAny_tryCatch (W.done s _ _ (hin ▸ hst) fun h' tk hk' => ?_))
    have hS' := hk' S _ hSw hS
    refine wpAny_bind (m := updateSeq S (fun _ => #[])) ?_
    refine wpAny_updateSeq hS' rfl (wpAny_bind (wpAny_letGo (wpAny_pure ?_)))
    refine hR vb _ tk (by rw [← hin]; exact hPb) fun b o hbw hbS e => (Heap.get?_update_other _ _ (Ne.symm hbS)).trans (hk' b o hbw e)
  | succ k ih =>
    intro j s vb c hk hj hst hPb hS hR
    have hlt : j + 1 < n := by omega
    refine codeAny_builtin F.entry_max_loop ?_
    rw [Around.under_plainId F.plain_max_loop _]
    refine wpAny_bind (m := seqItems? (.ref S)) (wpAny_seqItems hS rfl ?_)
    refine wpAny_bind (m := tryCatch (pyNext (.ref I)) _) (wpAny_tryCatch (W.item (j + 1) s _ _ hlt hst fun v h' tk hP hst' hk' => ?_))
    have hS' := hk' S _ hSw hS
    refine wpAny_bind (m := tryCatch (holding [v, v] (richCompare .Gt v vb >>= _)) _) (wpAny_tryCatch (wpAny_holding (wpAny_bind (hcmp (j + 1) (argBest bt j) v vb _ _ _ hP hPb ?_))))
    refine wpAny_bind (wpAny_holding (wpAny_truthy_bool ?_))
    refine wpAny_bind (wpAny_letGo (wpAny_pure ?_))
    cases hb : bt (j + 1) (argBest bt j) with
    | true =>
      simp only [if_true]
      refine wpAny_bind ?_
      refine wpAny_updateSeq hS' rfl (wpAny_bind (wpAny_letGo ?_))
      rw [hname]
      refine wpAny_pure ⟨plainId_quiet F.plain_max_loop _, ih (j + 1) _ v _ (by omega) hlt (W.frame _ _ _ hst' fun b hbf o e => ?_) (by simp only [argBest, hb, if_true]; exact hP) (Heap.get?_update_self _ hS' rfl)
        fun v' h'' tk'' hP' hk'' => ?_⟩
      · exact (Heap.get?_update_other _ _ (fun h : S = b => hSf (by rw [h]; exact hbf))).trans e
      · exact hR v' h'' tk'' hP' fun b o hbw hbS e => hk'' b o hbw hbS ((Heap.get?_update_other _ _ (Ne.symm hbS)).trans (hk' b o hbw e))
    | false =>
      simp only [Bool.false_eq_true, if_false]
      refine wpAny_bind (wpAny_letGo ?_)
      rw [hname]
      refine wpAny_pure ⟨plainId_quiet F.plain_max_loop _, ih (j + 1) _ vb c (by omega) hlt hst' (by simp only [argBest, hb, Bool.false_eq_true, if_false]; exact hPb) hS' fun v' h'' tk'' hP' hk'' => ?_⟩
      exact hR v' h'' tk'' hP' fun b o hbw hbS e => hk'' b o hbw hbS (hk' b o hbw e)
theorem max_loopD_first (W : Walks prog w A.in1 I fp wr n P St) (bt : Nat → Nat → Bool) (hcmp : CmpOf prog w A.in1 .Gt P bt) (S : Addr) (hSf : S ∉ fp) (d : Value) {s : Shared} {c : Nat} (hst : St 0 s.heap)
    (hS : s.heap.get? S = some { cls := .type "list", dict := none, data := .seq #[] c, slots := #[] })
    (h0 : n = 0 → ∀ h' tk, (∀ b o, b ∉ wr → b ≠ S → s.heap.get? b = some o → h'.get? b = some o) → R (.ok (.ret d)) { s with heap := h', toks := tk })
    (hR : 0 < n → ∀ v h' tk, P (argBest bt (n - 1)) v → (∀ b o, b ∉ wr → b ≠ S → s.heap.get? b = some o → h'.get? b = some o) → R (.ok (.ret v)) { s with heap := h', toks := tk }) :
    codeAny (model prog w) A (.builtin "max.loop" ⟨[.ref I, .none, .ref S], [(Str.ofString "default", d)]⟩) R s := by
  have hSw : S ∉ wr := fun h => hSf (W.sub _ h)
  have hname : (toString "max" ++ toString ".loop" : String) = "max.loop" := by decide
  refine codeAny_builtin F.entry_max_loop ?_
  rw [Around.under_plainId F.plain_max_loop _]
  refine wpAny_bind (m := seqItems? (.ref S)) (wpAny_seqItems hS rfl ?_)
  rcases Nat.eq_zero_or_pos n with hn | hn
  · refine wpAny_bind (m := tryCatch (pyNext (.ref I)) _) (wpAny_tryCatch (W.done s _ _ (hn ▸ hst) fun h' tk hk' => ?_))
    refine wpAny_bind (m := rule _) (wpAny_rule (wpAny_pure ?_))
    exact h0 hn h' tk fun b o hbw _ e => hk' b o hbw e
  refine wpAny_bind (m := tryCatch (pyNext (.ref I)) _) (wpAny_tryCatch (W.item 0 s _ _ hn hst fun v h' tk hP hst' hk' => ?_))
  have hS' := hk' S _ hSw hS
  refine wpAny_bind (m := updateSeq S (fun _ => #[v, v])) ?_
  refine wpAny_updateSeq hS' rfl ?_
  rw [hname]
  refine wpAny_pure ⟨plainId_quiet F.plain_max_loop _, max_loopD W bt hcmp S hSf _ _ 0 _ v _ rfl hn (W.frame _ _ _ hst' fun b hbf o e => ?_) hP (Heap.get?_update_self _ hS' rfl) fun v' h'' tk'' hP' hk'' => ?_⟩
  · exact (Heap.get?_update_other _ _ (fun h : S = b => hSf (by rw [h]; exact hbf))).trans e
  · exact hR hn v' h'' tk'' hP' fun b o hbw hbS e => hk'' b o hbw hbS ((Heap.get?_update_other _ _ (Ne.symm hbS)).trans (hk' b o hbw e))
end
section
variable {prog : Program} {w : World} {A : Around} {E : Value → Shared → Prop} {s : Shared}
theorem call_maxd_walk {x d : Value} {Q : Value → Shared → Prop}
    (h : wpAny (model prog w) A.in1 (pyIter x) (fun it s₂ => ∃ I fp wr n P St bt, it = .ref I ∧ Walks prog w A.in1 I fp wr n P St ∧ St 0 s₂.heap ∧ (∀ b ∈ fp, b < s₂.heap.objs.size) ∧ CmpOf prog w A.in1 .Gt P bt ∧
      (n = 0 → ∀ h' tk, (∀ b o, b ∉ wr → s₂.heap.get? b = some o → h'.get? b = some o) → Q d { s₂ with heap := h', toks := tk }) ∧
      (0 < n → ∀ v h' tk, P (argBest bt (n - 1)) v → (∀ b o, b ∉ wr → s₂.heap.get? b = some o → h'.get? b = some o) → Q v { s₂ with heap := h', toks := tk })) E s) :
    wpAny (model prog w) A (call (.builtin "max") [x] [(Str.ofString "default", d)]) Q E s := by
  have hname : (toString "max" ++ toString ".loop" : String) = "max.loop" := by decide
  refine PyProof.Rows.kmb_tree F.kind_max F.plain_max F.entry_max (args_maxd _ _) ?_
  refine wpAny_bind (m := Builtin.Builtins.bindParams "max" ["key", "default"] 0 ⟨[], [(Str.ofString "default", d)]⟩) (wpAny_of_eq (show Builtin.Builtins.bindParams "max" ["key", "default"] 0 ⟨[], [(Str.ofString "default", d)]⟩ = pure [none, some d] from rfl) ?_)
  refine wpAny_bind (wpAny_pure ?_)
  refine wpAny_bind (wpAny_mono h (fun it s₂ h₂ => ?_) fun _ _ e => e)
  obtain ⟨I, fp, wr, n, P, St, bt, rfl, W, hst, hfp, hcmp, hQ0, hQ⟩ := h₂
  refine wpAny_bind (wpAny_newObj_type ?_)
  have hSf : s₂.heap.objs.size ∉ fp := fun hm => Nat.lt_irrefl _ (hfp _ hm)
  rw [hname]
  refine wpAny_pure ⟨plainId_quiet F.plain_max_loop _, max_loopD_first W bt hcmp s₂.heap.objs.size hSf d (W.frame _ _ _ hst fun b _ o e => Heap.get?_push_of_some _ e) (Heap.get?_push_size _ rfl) (fun hn h' tk hk => ?_) fun hn v h' tk hP hk => ?_⟩
  · exact hQ0 hn h' tk fun b o hbw e => hk b o hbw (Nat.ne_of_lt (Heap.lt_size e)) (Heap.get?_push_of_some _ e)
  · exact hQ hn v h' tk hP fun b o hbw e => hk b o hbw (Nat.ne_of_lt (Heap.lt_size e)) (Heap.get?_push_of_some _ e)
end
end PySem
namespace L2
open PySem PySem.Spec PyProof.Rows
section
variable {X : Cx}
/-- max(a list of ints, default=d): d where there is none, else one of them above none of the others -/
def rMaxD (K : PySem.W.Frag) : List V → List V → Hp → VK → Prop := fun xs zs H Q => ∃ (a : Addr) (ns : List Int) (d : V), xs = [.ref a] ∧ zs = [d] ∧ SqL K H a (ns.map V.int) ∧ (ns = [] → Q d H) ∧ ∀ M, M ∈ ns → (∀ z ∈ ns, z ≤ M) → Q (.int M) H
theorem maxd_ok {pins : List (Addr × Obj)} {σ : St} {H : Hp} {s : Shared} {xs zs : List V} {us ws : List Value} {Q : VK} (hc : X.calm = true) (I : Inv X pins σ H s) (r : Vals xs us) (rz : Vals zs ws) (h : rMaxD X.K xs zs H Q) :
    wpAny (model X.prog X.w) X.A (call (.builtin "max") us (([Str.ofString "default"] : List Str).zip ws)) (EP X pins σ Q) X.xe s := by
  obtain ⟨a, ns, d, rfl, rfl, hS, h0, h1⟩ := h
  obtain ⟨u, rfl, ru⟩ := r.one
  obtain ⟨dv, rfl, rd⟩ := rz.one
  cases (show u = Value.ref a from ru)
  obtain ⟨its, rv, ht, hz⟩ := I.list hS
  have hlen := rv.length
  rw [List.length_map] at hlen
  show wpAny _ _ (call (.builtin "max") [.ref a] [(Str.ofString "default", dv)]) _ _ s
  have hlt : a < s.heap.objs.size := by obtain ⟨_, e, _⟩ := ht.isList; exact Heap.lt_size e
  refine call_maxd_walk (wpAny_pyIter_list ht.isList ?_)
  have W := Walks.list (prog := X.prog) (w := X.w) (A := X.A.in1) (I.ok.hd hc) s.heap.objs.size a (Nat.ne_of_lt hlt) its.toArray
  have hval : ∀ (i : Nat) (v : Value), its.toArray[i]? = some v → ∃ t, v = .int (ns.getD i 0) t := fun i v e => by
    have e' : its[i]? = some v := by simpa using e
    have hi : i < ns.length := by rw [hlen]; exact (List.getElem?_eq_some_iff.mp e').1
    obtain ⟨u, hu, ru⟩ := rv.get (i := i) (x := .int ns[i]) (by simp [hi])
    rw [e'] at hu
    cases hu
    obtain ⟨t, rfl⟩ := ru
    exact ⟨t, by simp [hi]⟩
  refine ⟨_, _, _, _, _, _, _, rfl, W, ⟨⟨_, Heap.get?_push_size _ rfl, rfl, rfl⟩, ht.isList.push _⟩, fun b hb => ?_, CmpOf.ints_gt (fun i => ns.getD i 0) hval, fun hn h' tk hk => ?_, fun hn v h' tk hP hk => ?_⟩
  · show b < (s.heap.push _).objs.size
    rw [Heap.size_push]
    rcases List.mem_cons.mp hb with rfl | hb
    · exact Nat.lt_succ_self _
    · rw [List.mem_singleton.mp hb]; exact Nat.lt_succ_of_lt hlt
  · have hn' : ns = [] := List.length_eq_zero_iff.mp (by simp at hn; rw [hlen, hn]; rfl)
    have I1 : Inv X pins σ H { s with heap := h', toks := tk } := I.kept (t' := tk) fun b o e => hk b o (fun hm => by
      rw [List.mem_singleton.mp hm] at e
      exact Nat.lt_irrefl _ (Heap.lt_size e)) (Heap.get?_push_of_some _ e)
    exact ⟨d, H, I1, rd, h0 hn'⟩
  · have hn' : 0 < ns.length := by rw [hlen]; simpa using hn
    have I1 : Inv X pins σ H { s with heap := h', toks := tk } := I.kept (t' := tk) fun b o e => hk b o (fun hm => by
      rw [List.mem_singleton.mp hm] at e
      exact Nat.lt_irrefl _ (Heap.lt_size e)) (Heap.get?_push_of_some _ e)
    obtain ⟨t, rfl⟩ := hval _ v hP
    have hb := argBest_gt (fun i => ns.getD i 0) (its.toArray.size - 1)
    have hj : argBest (fun i j => decide (ns.getD i 0 > ns.getD j 0)) (its.toArray.size - 1) < ns.length := by
      have := hb.1
      rw [List.size_toArray] at this ⊢
      omega
    refine ⟨.int _, H, I1, ⟨t, rfl⟩, h1 _ ?_ fun z hzm => ?_⟩
    · rw [List.getD_eq_getElem?_getD, List.getElem?_eq_getElem hj, Option.getD_some]; exact List.getElem_mem hj
    · obtain ⟨i, hi, rfl⟩ := List.getElem_of_mem hzm
      have := hb.2 i (by rw [List.size_toArray]; omega)
      simpa [List.getD_eq_getElem?_getD, List.getElem?_eq_getElem hi] using this
variable {p pos kpos : Pos} {e d : Expr} {ta : TA} {td : TE}
def tMaxD (K : PySem.W.Frag) (ta : TA) (td : TE) : TE := fun σ H Q => ta σ H fun xs H1 => td σ H1 fun z H2 => rMaxD K xs [z] H2 Q
theorem pe_maxD (hc : X.calm = true) (hg : Gl X "max") (hm : X.mg "max" = none) (ha : PA X [e] ta) (hd : PE X d td) (he : backTo pos (starEach [e] X.env) = (false, eval e X.env) :: backTo pos (starEach [] X.env) := by rfl) (hp : (backTo pos (starEach [e] X.env)).any (·.1) = false := by rfl) :
    PE X (.Call (.Name "max" p) [e] [⟨some (Str.ofString "default"), d, kpos⟩] pos) (tMaxD X.K ta td) := by
  intro pins s σ H Q I h
  refine wpAny_Call_Name_kw (ld_blt I hg hm bt_max ?_)
  refine callWith_kw (thn (ha pos pins s σ H _ I h) fun us s1 ⟨vs, H1, I1, r1, q1⟩ => ?_) he hp
  refine kws_cons (thn (hd pins s1 σ H1 _ I1 q1) fun dv s2 ⟨z, H2, I2, r2, q2⟩ => kws_nil ?_)
  exact maxd_ok hc I2 r1 (.cons r2 .nil) q2
end

/-! ### a[lo:hi:step] of a tuple -/
def strideV (xs : List V) (lo hi : Option Int) (st : Int) : List V :=
  (List.range (Builtin.Slice.slicePlaces (Builtin.Slice.sliceAdjust lo hi st xs.length).1 (Builtin.Slice.sliceAdjust lo hi st xs.length).2 st)).filterMap fun (m : Nat) => xs[((Builtin.Slice.sliceAdjust lo hi st xs.length).1 + (m : Int) * st).toNat]?
theorem Vals.pick {xs : List V} {us : List Value} (r : Vals xs us) (f : Nat → Nat) : ∀ ks : List Nat, Vals (ks.filterMap fun m => xs[f m]?) (ks.filterMap fun m => us[f m]?)
  | [] => .nil
  | k :: ks => by
    have ih := Vals.pick r f ks
    cases e : xs[f k]? with
    | none =>
      have e2 := r.none_of e
      rw [List.filterMap_cons_none (f := fun m => xs[f m]?) e, List.filterMap_cons_none (f := fun m => us[f m]?) e2]
      exact ih
    | some x =>
      obtain ⟨u, e2, ru⟩ := r.get e
      rw [List.filterMap_cons_some (f := fun m => xs[f m]?) e, List.filterMap_cons_some (f := fun m => us[f m]?) e2]
      exact .cons ru ih
section
variable {prog : Program} {w : World} {A : Around} {E : Value → Shared → Prop} {s : Shared}
end
section
variable {X : Cx} {e : Expr} {te : TE} {lo hi : Option Expr} {st : Expr} {tl th ts : TO} {pos p2 : Pos}
def SlR3 (X : Cx) (r : V → Option Int → Option Int → Option Int → Hp → VK → Prop) : Prop :=
  ∀ (pins : List (Addr × Obj)) (s : Shared) (σ : St) (H : Hp) (x : V) (v vl vu vs : Value) (lo hi st : Option Int) (sl : Addr) (Q : VK), Inv X pins σ H s → RelV x v → s.heap.IsSliceOf sl vl vu vs → IsPart vl lo → IsPart vu hi → IsPart vs st → r x lo hi st H Q →
    ∃ T id, typeLookup (.type T) "__getitem__" = pure (some (.builtin id)) ∧ s.TypeIs v T ∧ wpAny (model X.prog X.w) X.A (getItem v (.ref sl)) (EP X pins σ Q) X.xe s
def tSl3 (r : V → Option Int → Option Int → Option Int → Hp → VK → Prop) (te : TE) (tl th ts : TO) : TE := fun σ H Q => te σ H fun x H1 => tl σ H1 fun l H2 => th σ H2 fun u H3 => ts σ H3 fun c H4 => r x l u c H4 Q
/-- the places are none that the whole hasn't, or it is the whole itself -/
def rSl3T (K : PySem.W.Frag) : V → Option Int → Option Int → Option Int → Hp → VK → Prop := fun x lo hi st H Q => ∃ a xs c, x = .ref a ∧ st = some c ∧ SqT K H a xs ∧ c ≠ 0 ∧ (strideV xs lo hi c).length ≤ sizeLine ∧
  (c = 1 → (Builtin.Slice.sliceAdjust lo hi c xs.length).1 = 0 → Builtin.Slice.slicePlaces (Builtin.Slice.sliceAdjust lo hi c xs.length).1 (Builtin.Slice.sliceAdjust lo hi c xs.length).2 c = xs.length → Q (.ref a) H) ∧ ∀ p, H p = none → Q (.ref p) (upd H p (.tup (strideV xs lo hi c)))
end

/-! ### what is walked is a list or a tuple -/
section
variable {X : Cx} {tg : Expr}
def iSeq (K : PySem.W.Frag) (tl : TE) : TI := fun σ H R => tl σ H fun x H1 => ∃ a, x = .ref a ∧ (((∃ xs, SqL K H1 a xs) ∧ R (Itl K a) H1) ∨ ((∃ xs, SqT K H1 a xs) ∧ R (Itt K a) H1))
end
/-! ### rules in a comprehension's block: K is named -/
section
variable {X : Cx}
def rLen (K : PySem.W.Frag) : List V → Hp → VK → Prop := fun xs H Q => ∃ p ys, xs = [.ref p] ∧ (SqL K H p ys ∨ SqT K H p ys) ∧ Q (.int ys.length) H
end
end L2

set_option Elab.async false
set_option linter.all false
set_option maxRecDepth 100000
namespace L2
open PySem PySem.Spec PyProof.Rows
/-! ### lists of pairs as tables -/
section
variable {κ : Type} [DecidableEq κ]
def valV (kvs : List (κ × V)) (k : κ) : Option V := (kvs.find? fun kv => decide (kv.1 = k)).map (·.2)
/-- in its place, or at the end -/
def putK (kvs : List (κ × V)) (k : κ) (v : V) : List (κ × V) :=
  if (kvs.any fun kv => decide (kv.1 = k)) = true then kvs.map (fun kv => if kv.1 = k then (kv.1, v) else kv) else kvs ++ [(k, v)]
def dropK (kvs : List (κ × V)) (k : κ) : List (κ × V) := kvs.filter fun kv => decide (kv.1 ≠ k)

theorem valV_pos {p : κ × V} {r : List (κ × V)} {k : κ} (e : p.1 = k) : valV (p :: r) k = some p.2 := by simp [valV, List.find?_cons, e]
theorem valV_neg {p : κ × V} {r : List (κ × V)} {k : κ} (e : ¬ p.1 = k) : valV (p :: r) k = valV r k := by simp [valV, List.find?_cons, e]
theorem RelO.getD {o : Option V} {u : Option Value} {d : V} {d' : Value} (r : RelO o u) (rd : RelV d d') : RelV (o.getD d) (u.getD d') := by
  cases o with
  | none => cases u with
    | none => exact rd
    | some _ => exact (show False from r).elim
  | some _ => cases u with
    | none => exact (show False from r).elim
    | some _ => exact r

/-- raw tables of the same keys -/
theorem KV.val {kvs : List (κ × V)} {vs : List (κ × Value)} (r : KV kvs vs) (k : κ) : RelO (valV kvs k) (valueAt vs k) := by
  unfold KV at r
  induction r with
  | nil => exact True.intro
  | @cons p q ps qs h t ih =>
    obtain ⟨h1, h2⟩ := h
    by_cases e : p.1 = k
    · have e' : q.1 = k := h1.symm.trans e
      have b : valueAt (q :: qs) k = some q.2 := by simp [valueAt, List.find?_cons, e']
      rw [valV_pos e, b]; exact h2
    · have e' : ¬ q.1 = k := fun z => e (h1.trans z)
      have b : valueAt (q :: qs) k = valueAt qs k := by simp [valueAt, List.find?_cons, e']
      rw [valV_neg e, b]; exact ih
theorem KV.any {kvs : List (κ × V)} {vs : List (κ × Value)} (r : KV kvs vs) (k : κ) : (kvs.any fun kv => decide (kv.1 = k)) = vs.any fun kv => decide (kv.1 = k) := by
  unfold KV at r
  induction r with
  | nil => rfl
  | cons h t ih => rw [List.any_cons, List.any_cons, ih, h.1]
theorem KV.drop {kvs : List (κ × V)} {vs : List (κ × Value)} (r : KV kvs vs) (k : κ) : KV (dropK kvs k) (without vs k) := by
  unfold KV at r ⊢
  unfold dropK without
  induction r with
  | nil => exact .nil
  | @cons p q ps qs h t ih =>
    obtain ⟨h1, h2⟩ := h
    rw [List.filter_cons, List.filter_cons]
    by_cases e : p.1 = k
    · have a : ¬ decide (p.1 ≠ k) = true := by simp [e]
      have b : ¬ decide (q.1 ≠ k) = true := by simp [h1.symm.trans e]
      rw [if_neg a, if_neg b]; exact ih
    · have e' : ¬ q.1 = k := fun z => e (h1.trans z)
      have a : decide (p.1 ≠ k) = true := by simp [e]
      have b : decide (q.1 ≠ k) = true := by simp [e']
      rw [if_pos a, if_pos b]; exact .cons ⟨h1, h2⟩ ih
theorem KV.keys {kvs : List (κ × V)} {vs : List (κ × Value)} (r : KV kvs vs) : kvs.map (·.1) = vs.map (·.1) := by
  unfold KV at r
  induction r with
  | nil => rfl
  | cons h t ih => rw [List.map_cons, List.map_cons, ih, h.1]
theorem KV.length {kvs : List (κ × V)} {vs : List (κ × Value)} (r : KV kvs vs) : kvs.length = vs.length := Paired.length r
end


/-! ### a tracked dict, its keys ints and texts or tuples of these -/
/-- raw entries of a dict with tuple keys -/
abbrev KT (H : Hp) : List (List Key × V) → List (List Key × Addr × Value) → Prop := Paired fun p q => p.1 = q.1 ∧ H q.2.1 = some (.tup (p.1.map kV)) ∧ RelV p.2 q.2.2
theorem KT.val {H : Hp} {kvs : List (List Key × V)} {xs : List (List Key × Addr × Value)} (r : KT H kvs xs) (k : List Key) : RelO (valV kvs k) ((atKey xs k).map (·.2)) := by
  induction r with
  | nil => exact True.intro
  | @cons p q ps qs h t ih =>
    obtain ⟨h1, _, h2⟩ := h
    by_cases e : p.1 = k
    · have e' : q.1 = k := h1.symm.trans e
      have b : atKey (q :: qs) k = some q.2 := by simp [atKey, List.find?_cons, e']
      rw [valV_pos e, b]; exact h2
    · have e' : ¬ q.1 = k := fun z => e (h1.trans z)
      have b : atKey (q :: qs) k = atKey qs k := by simp [atKey, List.find?_cons, e']
      rw [valV_neg e, b]; exact ih
theorem KT.keeps {H H' : Hp} {kvs : List (List Key × V)} {xs : List (List Key × Addr × Value)} (r : KT H kvs xs) (ht : ∀ b ys, H b = some (.tup ys) → H' b = some (.tup ys)) : KT H' kvs xs :=
  Paired.mapP r fun _ _ z => ⟨z.1, ht _ _ z.2.1, z.2.2⟩

section
variable {P : Program} {w : World} {H : Hp} {h : Heap} {a : Addr}
end

/-- what the dict at a holds at the key y -/
def DGet (H : Hp) (a : Addr) (y : V) (r : Option V) : Prop :=
  (∃ kvs k, Rd H a (.dK kvs) ∧ y = kV k ∧ r = valV kvs k) ∨ ∃ kvs k b, Rd H a (.dT kvs) ∧ y = .ref b ∧ H b = some (.tup (k.map kV)) ∧ r = valV kvs k
/-- the heap behind a[y] = v -/
def DPut (H : Hp) (a : Addr) (y v : V) (H' : Hp) : Prop :=
  (∃ kvs k, H a = some (.dK kvs) ∧ y = kV k ∧ kvs.length < sizeLine ∧ H' = upd H a (.dK (putK kvs k v))) ∨
  ∃ kvs k b, H a = some (.dT kvs) ∧ y = .ref b ∧ H b = some (.tup (k.map kV)) ∧ kvs.length < sizeLine ∧ H' = upd H a (.dT (putK kvs k v))
theorem DGet.k {H : Hp} {a : Addr} {kvs : List (Key × V)} {k : Key} (e : H a = some (.dK kvs)) : DGet H a (kV k) (valV kvs k) := .inl ⟨kvs, k, .inl e, rfl, rfl⟩
theorem DGet.t {H : Hp} {a b : Addr} {kvs : List (List Key × V)} {k : List Key} (e : H a = some (.dT kvs)) (eb : H b = some (.tup (k.map kV))) : DGet H a (.ref b) (valV kvs k) := .inr ⟨kvs, k, b, .inl e, rfl, eb, rfl⟩
theorem DPut.k {H : Hp} {a : Addr} {kvs : List (Key × V)} {k : Key} {v : V} (e : H a = some (.dK kvs)) (hl : kvs.length < sizeLine) : DPut H a (kV k) v (upd H a (.dK (putK kvs k v))) := .inl ⟨kvs, k, e, rfl, hl, rfl⟩
theorem DPut.t {H : Hp} {a b : Addr} {kvs : List (List Key × V)} {k : List Key} {v : V} (e : H a = some (.dT kvs)) (eb : H b = some (.tup (k.map kV))) (hl : kvs.length < sizeLine) :
    DPut H a (.ref b) v (upd H a (.dT (putK kvs k v))) := .inr ⟨kvs, k, b, e, rfl, eb, hl, rfl⟩


section
variable {X : Cx} {pins : List (Addr × Obj)} {σ : St} {H : Hp} {s : Shared} {a : Addr} {y v : V} {u r : Value} {o : Option V} {A : Around} {E : Value → Shared → Prop}

theorem Inv.big (I : Inv X pins σ H s) : sysModules < s.heap.objs.size := by
  have h : mainGlobals < s.heap.objs.size := (I.mod.glob.keeps I.bk).lt
  exact Nat.lt_trans (by decide) h

end

section
variable {X : Cx} {pins : List (Addr × Obj)} {σ : St} {H : Hp} {s : Shared} {a : Addr} {kvs : List (Key × V)} {k : Key} {u : Value} {A : Around} {E : Value → Shared → Prop}
end


/-! ### readings and rules -/
/-- the element of a subscription, not a slice -/
def NoSl (i : Expr) : Prop := ∀ ov iv, subscripted i false ov iv = operate [ov, iv] (getItem ov iv)
/-- d[y] -/
def tDGet (td ty : TE) : TE := fun σ H Q => td σ H fun x H1 => ty σ H1 fun y H2 => ∃ a v, x = .ref a ∧ DGet H2 a y (some v) ∧ Q v H2
/-- y in d, y not in d -/
def tDIn (ty td : TE) : TE := fun σ H Q => ty σ H fun y H1 => td σ H1 fun x H2 => ∃ a o, x = .ref a ∧ DGet H2 a y o ∧ Q (.bl o.isSome) H2
def tDNotIn (ty td : TE) : TE := fun σ H Q => ty σ H fun y H1 => td σ H1 fun x H2 => ∃ a o, x = .ref a ∧ DGet H2 a y o ∧ Q (.bl (!o.isSome)) H2
/-- d[y] = v -/
def sDPut (td ty tv : TE) : TS := fun D σ H => tv σ H fun v H1 => td σ H1 fun x H2 => ty σ H2 fun y H3 => ∃ a H4, x = .ref a ∧ DPut H3 a y v H4 ∧ D.nx σ H4
/-- d[y] op= v -/
def sDAug (td ty tv : TE) (rd : V → V → Hp → VK → Prop) : TS := fun D σ H => td σ H fun x H1 => ty σ H1 fun y H2 => ∃ a v, x = .ref a ∧ DGet H2 a y (some v) ∧
  tv σ H2 fun y2 H3 => rd v y2 H3 fun z H4 => ∃ H5, DPut H4 a y z H5 ∧ D.nx σ H5
/-- del d[y] -/
def sDDel (td ty : TE) : TS := fun D σ H => td σ H fun x H1 => ty σ H1 fun y H2 => ∃ a kvs k, x = .ref a ∧ H2 a = some (.dK kvs) ∧ y = kV k ∧ (valV kvs k).isSome = true ∧ D.nx σ (upd H2 a (.dK (dropK kvs k)))

section
variable {X : Cx} {o i e value : Expr} {pos pos' tpos : Pos} {td ty tv : TE}
end


/-! ### displays -/
/-- {}, to be a dict of the kind that is wanted -/
def tDNewK : TE := fun _ H Q => ∀ p, H p = none → Q (.ref p) (upd H p (.dK []))
def tDNewT : TE := fun _ H Q => ∀ p, H p = none → Q (.ref p) (upd H p (.dT []))
section
variable {X : Cx} {pos : Pos}
end

/-- the pairs of a display, from the left -/
def tPairs : List (TE × TE) → St → Hp → (List (V × V) → Hp → Prop) → Prop
  | [], _, H, Q => Q [] H
  | (tk, tv) :: r, σ, H, Q => tk σ H fun x H1 => tv σ H1 fun y H2 => tPairs r σ H2 fun ps H3 => Q ((x, y) :: ps) H3
abbrev VV : List (V × V) → List (Value × Value) → Prop := Paired fun p q => RelV p.1 q.1 ∧ RelV p.2 q.2
def PPs (X : Cx) (pos : Pos) (keys : List (Option Expr)) (values : List Expr) (trs : List (TE × TE)) : Prop :=
  ∀ (pins : List (Addr × Obj)) (s : Shared) (σ : St) (H : Hp) (Q : List (V × V) → Hp → Prop), Inv X pins σ H s → tPairs trs σ H Q →
    wpAny (model X.prog X.w) X.A (evalPairs (pairTrees keys values X.env pos)) (fun vs s' => ∃ ps H', Inv X pins σ H' s' ∧ VV ps vs ∧ Q ps H') X.xe s
def mergeK (kvs more : List (Key × V)) : List (Key × V) := more.foldl (fun acc kv => putK acc kv.1 kv.2) kvs
/-- {k: v, ..} with keys ints and texts; the new dict stands empty while the pairs are made -/
def tDisp (trs : List (TE × TE)) : TE := fun σ H Q => ∀ p, H p = none → tPairs trs σ (upd H p (.dK [])) fun ps H2 => H2 p = some (.dK []) ∧ ∃ kvs : List (Key × V), ps = kvs.map (fun kv => (kV kv.1, kv.2)) ∧ kvs.length ≤ 15 ∧ Q (.ref p) (upd H2 p (.dK (mergeK [] kvs)))
/-! ### methods -/
/-- a method call o.m(e) of a built-in, with one argument: what must be seen of the text -/
structure M1 (X : Cx) (o : Expr) (m : Str) (apos : Pos) (e : Expr) (cpos : Pos) : Prop where
  base : attributeBase o m X.env (eval o X.env) = eval o X.env
  few : ((backTo cpos (starEach [e] X.env)).all (fun x => !x.1) && (backToKw cpos (keywordEach [] X.env)).all (fun x => x.1.isSome)
    && decide (([e] : List Expr).length + ([] : List Keyword).length + (if ([] : List Keyword).isEmpty then 0 else 1) < 30)) = true
  line : (apos.endLine == cpos.line) = true
  trees : backTo cpos (starEach [e] X.env) = [(false, eval e X.env)]
structure M2 (X : Cx) (o : Expr) (m : Str) (apos : Pos) (e f : Expr) (cpos : Pos) : Prop where
  base : attributeBase o m X.env (eval o X.env) = eval o X.env
  few : ((backTo cpos (starEach [e, f] X.env)).all (fun x => !x.1) && (backToKw cpos (keywordEach [] X.env)).all (fun x => x.1.isSome)
    && decide (([e, f] : List Expr).length + ([] : List Keyword).length + (if ([] : List Keyword).isEmpty then 0 else 1) < 30)) = true
  line : (apos.endLine == cpos.line) = true
  trees : backTo cpos (starEach [e, f] X.env) = [(false, eval e X.env), (false, eval f X.env)]

/-- a is a dict, whatever its keys -/
def IsD (H : Hp) (a : Addr) : Prop := (∃ kvs, Rd H a (.dK kvs)) ∨ ∃ kvs, Rd H a (.dT kvs)
section
variable {X : Cx} {pins : List (Addr × Obj)} {σ : St} {H : Hp} {s : Shared} {a : Addr} {y d : V} {u r : Value} {o : Option V} {A : Around} {E : Value → Shared → Prop}
end

def tDGet1 (td ty : TE) : TE := fun σ H Q => td σ H fun x H1 => ∃ a, x = .ref a ∧ IsD H1 a ∧ ty σ H1 fun y H2 => ∃ o, DGet H2 a y o ∧ Q (o.getD .non) H2
def tDGet2 (td ty tx : TE) : TE := fun σ H Q => td σ H fun x H1 => ∃ a, x = .ref a ∧ IsD H1 a ∧ ty σ H1 fun y H2 => tx σ H2 fun z H3 => ∃ o, DGet H3 a y o ∧ Q (o.getD z) H3
/-- d.pop(k): there; d.pop(k, x): there or not -/
def tDPop1 (td ty : TE) : TE := fun σ H Q => td σ H fun x H1 => ∃ a, x = .ref a ∧ IsD H1 a ∧ ty σ H1 fun y H2 => ∃ kvs k v, H2 a = some (.dK kvs) ∧ y = kV k ∧ valV kvs k = some v ∧ Q v (upd H2 a (.dK (dropK kvs k)))
def tDPop2 (td ty tx : TE) : TE := fun σ H Q => td σ H fun x H1 => ∃ a, x = .ref a ∧ IsD H1 a ∧ ty σ H1 fun y H2 => tx σ H2 fun z H3 => ∃ kvs k, H3 a = some (.dK kvs) ∧ y = kV k ∧
  (∀ v, valV kvs k = some v → Q v (upd H3 a (.dK (dropK kvs k)))) ∧ (valV kvs k = none → Q z H3)
section
variable {X : Cx} {o e f : Expr} {apos cpos : Pos} {td ty tx : TE}
end

/-! ### dict(d): a copy -/
section
variable {X : Cx} {pins : List (Addr × Obj)} {σ : St} {H : Hp} {s : Shared} {a : Addr} {kvs : List (Key × V)} {A : Around} {E : Value → Shared → Prop}
end


section
variable {X : Cx} {pins : List (Addr × Obj)} {σ : St} {H : Hp} {s : Shared} {a : Addr} {y : V} {u : Value} {A : Around} {E : Value → Shared → Prop}
end
end L2

namespace L2
open PySem PySem.Spec PyProof.Rows
/-! ### a dict's pairs: keys that differ -/
section
variable {κ : Type} [DecidableEq κ]
end
end L2


set_option Elab.async false
set_option linter.all false
set_option maxRecDepth 100000
/-! all(..), () + t, t * n, is not True, things of plain kinds -/
namespace PySem
open Sem (wp)
open Builtin
end PySem
namespace L2
open PySem PySem.Spec PyProof.Rows
section
variable {X : Cx}
def rRepT (K : PySem.W.Frag) : R2 := fun x y H Q => ∃ (a : Addr) (k : Int) (xs : List V), x = .ref a ∧ y = .int k ∧ SqT K H a xs ∧ xs ≠ [] ∧ 1 < k ∧ k < 2 ^ 30 ∧ xs.length * k.toNat ≤ sizeLine ∧ ∀ p, H p = none → Q (.ref p) (upd H p (.tup (List.replicate k.toNat xs).flatten))
/-- t + u, any of them empty -/
def rCatA (K : PySem.W.Frag) : R2 := fun x y H Q => ∃ a b xs ys, x = .ref a ∧ y = .ref b ∧ SqT K H a xs ∧ SqT K H b ys ∧ xs.length + ys.length ≤ sizeLine ∧
  (xs = [] → Q (.ref b) H) ∧ (xs ≠ [] → ys = [] → Q (.ref a) H) ∧ (xs ≠ [] → ys ≠ [] → ∀ p, H p = none → Q (.ref p) (upd H p (.tup (xs ++ ys))))
/-! ### all(a list of truths) -/
def rAll (K : PySem.W.Frag) : List V → Hp → VK → Prop := fun xs H Q => ∃ (a : Addr) (bs : List Bool), xs = [.ref a] ∧ SqL K H a (bs.map V.bl) ∧ Q (.bl (bs.all id)) H
end
/-! ### things of plain kinds -/
inductive Pl (H : Hp) : V → Prop where
  | non : Pl H .non
  | bl (b : Bool) : Pl H (.bl b)
  | int (i : Int) : Pl H (.int i)
  | str (x : Str) : Pl H (.str x)
  | lst {a : Addr} {xs : List V} (e : H a = some (.lst xs)) : Pl H (.ref a)
  | tup {a : Addr} {xs : List V} (e : H a = some (.tup xs)) : Pl H (.ref a)
  | dK {a : Addr} {kvs : List (Key × V)} (e : H a = some (.dK kvs)) : Pl H (.ref a)
theorem Pl.same {H H' : Hp} {y : V} (h : Pl H y) (s : Same H H') : Pl H' y := by
  cases h with
  | non => exact .non
  | bl b => exact .bl b
  | int i => exact .int i
  | str x => exact .str x
  | lst e => exact .lst (s _ _ e)
  | tup e => exact .tup (s _ _ e)
  | dK e => exact .dK (s _ _ e)
def isIntV : V → Bool
  | .int _ => true
  | _ => false
/-! ### the judgements as closed boxes: where a display is long, Lean must not look into what is wanted -/
structure PEW (X : Cx) (e : Expr) (t : TE) : Prop where
  out : PE X e t
structure PAW (X : Cx) (es : List Expr) (t : TA) : Prop where
  out : PA X es t
structure PTW (X : Cx) (e : Expr) (t : TT) : Prop where
  out : PT X e t
structure PSW (X : Cx) (s : Stmt) (t : TS) : Prop where
  out : PS X s t
structure PSsW (X : Cx) (s : List Stmt) (t : TS) : Prop where
  out : PSs X s t
section
variable {X : Cx} {a b e : Expr} {es : List Expr} {ta tb te : TE} {t : TA} {pos : Pos}
variable {st : Stmt} {rest : List Stmt} {ts us : TS}
end
end L2

set_option Elab.async false
set_option linter.all false
set_option maxRecDepth 100000
/-! exceptions of one's own classes: raised, passed on, caught -/
namespace L2
open PySem PySem.Spec PyProof.Rows
/-! ### what stands behind a def that raised -/
def CX1 (P : Program) (w : World) : CXT := fun outer H s E e s' => ∃ (ea t C : Addr) (B : Heap) (H' : Hp), e = .ref ea ∧ s'.os = s.os ∧ AllBare s'.gens ∧ Un (frs outer) [] H H' s.heap s'.heap ∧ HOk P w H' B ∧
  Heap.FlyingW B outer ea (.ref C) (.ref t) s'.heap ∧ (∀ b o, s.heap.get? b = some o → b ∉ frs outer → ∃ o', B.get? b = some o') ∧ H' ea = none ∧ E (.ref C) none H'
theorem ObjOk.ex {P : Program} {w : World} {H : Hp} {h : Heap} {a : Addr} : ∀ {o : HO}, ObjOk P w H h a o → ∃ ob, h.get? a = some ob
  | .lst _, ⟨_, _, _, _, e⟩ => ⟨_, e⟩
  | .tup _, ⟨_, _, _, o, e, _⟩ => ⟨o, e⟩
  | .dK _, ⟨_, _, _, _, o, _, _, e, _⟩ => ⟨o, e⟩
  | .dT _, ⟨_, _, _, _, o, _, _, e, _⟩ => ⟨o, e⟩
  | .set _ _, ⟨o, _, _, _, e, _⟩ => ⟨o, e⟩
  | .ins _ _ _, ⟨_, _, _, e, _⟩ => ⟨_, e⟩
  | .own _, ⟨o, e⟩ => ⟨o, e⟩
  | .xd _, ⟨_, ⟨o, _, _, e, _⟩, _⟩ => ⟨o, e⟩
  | .rng _ _, ⟨_, _, _, e⟩ => ⟨_, e⟩
  | .frz _ _, ⟨e, _⟩ => ⟨_, e⟩
  | .tbl _, e => ⟨_, e⟩
  | .met _ _, e => ⟨_, e⟩
  | .ext _, ⟨_, ⟨o, e⟩, _⟩ => ⟨o, e⟩
theorem HOk.none {P : Program} {w : World} {H : Hp} {h : Heap} {a : Addr} (x : HOk P w H h) (e : h.get? a = none) : H a = none := by
  cases q : H a with
  | none => rfl
  | some o =>
    obtain ⟨ob, e'⟩ := (x a o q).ex
    rw [e] at e'
    cases e'
/-! ### a def's body may raise -/
section
variable {P : Program} {w : World} {K : PySem.W.Frag} {mg : Str → Option Value} {base : Heap} {N : List Str} {qual : Str} {scope : Scope} {f : Addr} {cd : Value} {A : Around} {outer : List Env} {s : Shared} {H : Hp} {E : XK}
/-- an exception just made leaves the body -/
def Thr (X : Cx) (E : XK) : Prop := ∀ (pins : List (Addr × Obj)) (σ : St) (H : Hp) (s : Shared) (h' : Heap) (ea C : Addr) (vs : List Value), Inv X pins σ H s → Heap.MadeExcOf s.heap h' ea (.ref C) vs → E (.ref C) none H → X.xe (.ref ea) { s with heap := h' }
end
end L2

set_option Elab.async false
set_option linter.all false
set_option maxRecDepth 100000
/-! raise of an own class, f-strings, calls that may raise -/
namespace L2
open PySem PySem.Spec PyProof.Rows
abbrev VEm : List Value := [.type "ValueError", .type "Exception", .type "BaseException", .type "object"]
section
variable {X : Cx} {x : Str} {j k : Nat} {ps : List Str} {dvs : List V} {sp : Sp} {p pos cpos : Pos} {e : Expr} {es : List Expr} {t : TA} {C : Addr} {E : XK}
def tRaise (C : Addr) (E : XK) (t : TA) : TS := fun _ σ H => t σ H fun vs H1 => vs.length ≤ 8 ∧ E (.ref C) none H1
end
/-- a def that may raise, as its callers see it -/
structure DefX (P : Program) (w : World) (K : PySem.W.Frag) (mg : Str → Option Value) (base : Heap) (x : Str) (k : Nat) (ps : List Str) (dvs : List V) (sp : Sp) : Prop where
  ex : ∃ (f : Addr) (fd : FuncData) (ds : List Value), mg x = some (.ref f) ∧ PySem.W.keepIn K (.ref f) = true ∧ Vals dvs ds ∧ Binds K fd ps ds ∧ FnOk P w K mg base (CX1 P w) k f fd ps sp
section
variable {X : Cx} {x : Str} {j k : Nat} {ps : List Str} {dvs : List V} {sp : Sp} {p pos : Pos} {e : Expr} {es : List Expr} {t : TA} {E : XK}
/-- what comes behind a statement that never ends well isn't read -/
def tStop (t : TS) : TS := fun _ σ H => t { nx := fun _ _ => False, rt := fun _ _ => False } σ H
end
section
variable {P : Program} {w : World} {K : PySem.W.Frag} {mg : Str → Option Value} {base : Heap}
end
/-! ### f-strings -/
section
variable {X : Cx} {e v1 v2 : Expr} {es rest : List Expr} {pos : Pos} {te : TE} {n : Nat}
/-- a piece: its text, short -/
abbrev TF := St → Hp → (Str → Hp → Prop) → Prop
def PF (X : Cx) (e : Expr) (t : TF) : Prop := ∀ (pins : List (Addr × Obj)) (s : Shared) (σ : St) (H : Hp) (Q : Str → Hp → Prop), Inv X pins σ H s → t σ H Q →
  wpAny (model X.prog X.w) X.A (eval e X.env) (fun u s' => ∃ x tk H', u = .str x tk ∧ Inv X pins σ H' s' ∧ x.length ≤ 1000 ∧ Q x H') X.xe s
/-- {name}: a short text, or a number that is written short -/
def tFmt (te : TE) : TF := fun σ H Q => te σ H fun v H1 => (∃ x, v = .str x ∧ x.length ≤ 1000 ∧ Q x H1) ∨ ∃ i : Int, v = .int i ∧ i.natAbs.log2 < 1920 ∧ (Str.ofString (toString i)).length ≤ 1000 ∧ Q (Str.ofString (toString i)) H1
def PFs (X : Cx) (n : Nat) (es : List Expr) (t : TF) : Prop := ∀ (pins : List (Addr × Obj)) (s : Shared) (σ : St) (H : Hp) (Q : Str → Hp → Prop) (out : Str), out.length ≤ n → Inv X pins σ H s → t σ H Q →
  wpAny (model X.prog X.w) X.A (joinParts out (evalEach es X.env)) (fun u s' => ∃ x tk H', u = .str x tk ∧ Inv X pins σ H' s' ∧ Q x H') X.xe s
def tFnil : TF := fun _ H Q => ∀ x, Q x H
def tFcons (t1 t2 : TF) : TF := fun σ H Q => t1 σ H fun _ H1 => t2 σ H1 Q
def tJoin (t : TF) : TE := fun σ H Q => t σ H fun x H1 => Q (.str x) H1
end
end L2

set_option Elab.async false
set_option linter.all false
set_option maxRecDepth 100000
/-! isinstance of an own exception -/
namespace L2
open PySem PySem.Spec PySem.W PySem.Builtin PySem.Builtin.Getset_descriptor
/-- what of the text is asked of the class -/
structure XCls (K : PySem.W.Frag) (C : Addr) : Prop where
  ga : findIn K (.ref C) "__getattribute__" = some (some (.builtin "BaseException.__getattribute__"))
  gt : findIn K (.ref C) "__getattr__" = some none
  cl : findIn K (.ref C) "__class__" = some (some (.builtin "object.__class__"))
  gg : specialIn K (.builtin "object.__class__") "__get__" = some (some (.builtin "getset_descriptor.__get__"))
  tk : takesIn K (.builtin "object.__class__") = some true
  ob : mroIn K C (.type "object") = some true
  be : mroIn K C (.type "BaseException") = some true
  ci : (clsIn K C).isSome = true
section
variable {prog : Program} {w : World} {A : Around} {E : Value → Shared → Prop} {s : Shared} {K : PySem.W.Frag} {ea C : Addr} {ob : Obj}
/-- an exception of the class at C -/
def ExAt (ea C : Addr) (h : Heap) : Prop := ∃ ob vs, h.get? ea = some ob ∧ ob.cls = .ref C ∧ ob.data = .fields vs
theorem ExAt.ty {M : Model} {h : Heap} (p : ExAt ea C h) : Looks M h (typeOf (.ref ea)) (.ref C) := by
  obtain ⟨ob, vs, e, c, _⟩ := p
  exact c ▸ (Looks.ld e).andThen .now
end
end L2

set_option Elab.async false
set_option linter.all false
set_option maxRecDepth 100000
/-! try .. except C as e -/
namespace L2
open PySem PySem.Spec PyProof.Rows
/-- within an except suite -/
abbrev Cx.held (X : Cx) (ea : Addr) : Cx := { X with A := X.A.mark (some (.ref ea)), calm := false, xe := fun _ _ => False }
section
variable {X : Cx} {pins : List (Addr × Obj)} {σ : St} {H : Hp} {s : Shared} {E : XK} {ea : Addr}
theorem mark_frames {A : Around} {v : Option Value} : (A.mark v).frames = A.frames := by first | rfl | simp [Around.mark]
theorem Cx.Ok.held (ok : X.Ok) : (X.held ea).Ok :=
  ⟨ok.mod, ok.kind, ok.glob, ok.blt, ok.above, ok.inj, ok.has, ok.cab, (fun z => by cases z), mark_frames.trans ok.frames, ok.stk, ok.exf, ok.bs, ok.bsz, ok.noex, ok.exfs, ok.funs, ok.frf⟩
theorem Inv.held (I : Inv X pins σ H s) : Inv (X.held ea) pins σ H s := ⟨I.ok.held, I.os, I.bare, I.base, I.loc, I.cell, I.free, I.freeC, I.pin, I.hok, I.len⟩
/-! ### what may raise: the names' values are those of the entry -/
def CXI (X : Cx) (pins : List (Addr × Obj)) (σ : St) (E : XK) (e : Value) (s' : Shared) : Prop := ∃ s H, Inv X pins σ H s ∧ CX1 X.prog X.w X.stack H s E e s'
abbrev TXE := St → Hp → VK → XK → Prop
abbrev TX := Ends → XK → St → Hp → Prop
def PXE (X : Cx) (e : Expr) (t : TXE) : Prop := ∀ (pins : List (Addr × Obj)) (s : Shared) (σ : St) (H : Hp) (Q : VK) (E : XK), Inv X pins σ H s → t σ H Q E → wpAny (model X.prog X.w) X.A (eval e X.env) (EP X pins σ Q) (CXI X pins σ E) s
def PX1 (X : Cx) (st : Stmt) (t : TX) : Prop := ∀ (pins : List (Addr × Obj)) (s : Shared) (σ : St) (H : Hp) (D : Ends) (E : XK), Inv X pins σ H s → t D E σ H → wpAny (model X.prog X.w) X.A (exec st X.env) (SP X pins D) (CXI X pins σ E) s
def PX (X : Cx) (st : List Stmt) (t : TX) : Prop := ∀ (pins : List (Addr × Obj)) (s : Shared) (σ : St) (H : Hp) (D : Ends) (E : XK), Inv X pins σ H s → t D E σ H → wpAny (model X.prog X.w) X.A (execs st X.env) (SP X pins D) (CXI X pins σ E) s
end
section
variable {X : Cx} {x : Str} {j k : Nat} {ps : List Str} {dvs : List V} {sp : Sp} {p pos : Pos} {e : Expr} {es : List Expr} {t : TA} {E : XK}
def tXCall (sp : Sp) (dvs : List V) (t : TA) : TXE := fun σ H Q E => t σ H fun vs H1 => sp (vs ++ dvs) H1 Q E
def txExpr (t : TXE) : TX := fun D E σ H => t σ H (fun _ H1 => D.nx σ H1) E
def txRet (t : TXE) : TX := fun D E σ H => t σ H D.rt E
def txSet (i : Nat) (t : TXE) : TX := fun D E σ H => t σ H (fun v H1 => D.nx (σ.set i (some v)) H1) E
def txIf (c : TT) (t u : TX) : TX := fun D E σ H => c σ H fun b H1 => if b = true then t D E σ H1 else u D E σ H1
end
/-! ### the landing -/
section
variable {P : Program} {w : World} {fs : List Addr} {H H1 : Hp} {h h1 : Heap} {ea C : Addr} {o : HO}
theorem Un.more (u : Un fs [] H H1 h h1) (n : h.get? ea = none) (z : H ea = none) : Un fs [] H (upd H1 ea o) h h1 where
  keep := u.keep
  slot := u.slot
  free := fun b ob q e hx => by
    rw [upd_ne (fun c => by rw [c, n] at q; cases q)]
    exact u.free b ob q e hx
  there := u.there
  tups := fun b xs q => by rw [upd_ne (ne_of_none q z)]; exact u.tups b xs q
  frzs := fun b ob v q => by rw [upd_ne (ne_of_none q z)]; exact u.frzs b ob v q
  tbls := fun b ps q => by rw [upd_ne (ne_of_none q z)]; exact u.tbls b ps q
theorem HOk.ext (x : HOk P w H h) (z : H ea = Option.none) (p : ExAt ea C h) : HOk P w (upd H ea (.ext (ExAt ea C))) h := by
  intro a u e
  by_cases q : a = ea
  · subst q
    rw [upd_same] at e
    cases e
    obtain ⟨ob, vs, e1, e2, e3⟩ := p
    refine ⟨⟨ob, vs, e1, e2, e3⟩, ⟨ob, e1⟩, ?_⟩
    rintro h1 h2 ⟨ob', vs', f1, f2, f3⟩ k
    exact ⟨ob', vs', k _ f1, f2, f3⟩
  · rw [upd_ne q] at e
    exact (x a u e).stay (fun b v _ f => f) (fun b f => by rw [upd_ne (ne_of_none f z)]; exact f) fun b xs f => by rw [upd_ne (ne_of_none f z)]; exact f
end
section
variable {X : Cx} {pins : List (Addr × Obj)} {σ : St} {H : Hp} {s : Shared} {E : XK}
end
section
variable {X : Cx} {pins : List (Addr × Obj)} {σ : St} {H : Hp} {s s' : Shared} {E : XK} {C F : Addr} {i : Nat} {x n : Str} {np pos hpos : Pos} {body : List Stmt} {b₀ : Stmt} {suite : List Stmt} {tb : TX} {ts : TS}
/-- try: .. except F as n: .., where all that is raised is of the class at C -/
def tTry (C : Addr) (i : Nat) (tb : TX) (ts : TS) : TS := fun D σ H => tb D (fun c _ H1 => c = .ref C ∧ ∀ ea, H1 ea = none →
  ts { nx := fun σ' H' => D.nx (σ'.set i none) H', rt := D.rt, bk := fun σ' H' => D.bk (σ'.set i none) H', ct := fun σ' H' => D.ct (σ'.set i none) H' } (σ.set i (some (.ref ea))) (upd H1 ea (.ext (ExAt ea C)))) σ H
end
end L2

set_option Elab.async false
set_option linter.all false
set_option maxRecDepth 100000
namespace L2
open PySem PySem.Spec PyProof.Rows
structure RoomH (k : Nat) (A : Around) : Prop where
  dp : A.depth + 3 * k + 5 < recursionLimit
  un : A.units + 16 * k + 200 < cLine
theorem RoomH.mono {j k : Nat} {A : Around} (r : RoomH k A) (h : j ≤ k) : RoomH j A := ⟨by have := r.dp; omega, by have := r.un; omega⟩
theorem RoomH.deeper {k : Nat} {A : Around} (r : RoomH (k + 1) A) (env : Env) : RoomH k (A.deeper env) :=
  ⟨by have := r.dp; show A.depth + 1 + 3 * k + 5 < _; omega, by have := r.un; show A.units + 3 + 16 * k + 200 < _; omega⟩
theorem RoomH.depth {k : Nat} {A : Around} (r : RoomH k A) : A.depth < recursionLimit := by have := r.dp; omega
theorem RoomH.units {k : Nat} {A : Around} (r : RoomH k A) : A.units + 64 < cLine := by have := r.un; omega
theorem RoomH.units0 {k : Nat} {A : Around} (r : RoomH k A) : A.units < cLine := by have := r.un; omega
theorem Room.held {k : Nat} {A : Around} {v : Option Value} (r : Room k A) : RoomH k (A.mark v) :=
  ⟨by have := r.dp; first | exact this | (simp only [Around.mark]; exact this), by have := r.un; first | exact this | (simp only [Around.mark]; exact this)⟩
structure FnOkH (P : Program) (w : World) (K : PySem.W.Frag) (mg : Str → Option Value) (base : Heap) (CX : CXT) (k : Nat) (f : Addr) (fd : FuncData) (ps : List Str) (sp : Sp) : Prop where
  len : ∀ vs H Q E, sp vs H Q E → vs.length = ps.length
  run : ∀ (A : Around) (outer : List Env) (s : Shared) (H : Hp) (args : Args) (us : List Value) (vs : List V) (Q : VK) (E : XK), RoomH k A → Env0 P w K mg base A outer s H → BindsTo s fd args (ps.zip us) → Vals vs us → sp vs H Q E →
    codeAny (model P w) A (.call (.ref f) args) (CR CX outer P w H s Q E) s
abbrev cxOfH (CX : CXT) (P : Program) (w : World) (K : PySem.W.Frag) (mg : Str → Option Value) (base : Heap) (N : List Str) (qual : Str) (scope : Scope) (f : Addr) (cd : Value) (A : Around) (outer : List Env) (s : Shared) (H : Hp) (E : XK) : Cx :=
  { cxOf CX P w K mg base N qual scope f cd A outer s H E with calm := false }
/-- .. as its callers see it -/
structure DefH (P : Program) (w : World) (K : PySem.W.Frag) (mg : Str → Option Value) (base : Heap) (x : Str) (k : Nat) (ps : List Str) (dvs : List V) (sp : Sp) : Prop where
  ex : ∃ (f : Addr) (fd : FuncData) (ds : List Value), mg x = some (.ref f) ∧ PySem.W.keepIn K (.ref f) = true ∧ Vals dvs ds ∧ Binds K fd ps ds ∧ FnOkH P w K mg base CX0 k f fd ps sp
section
variable {P : Program} {w : World} {K : PySem.W.Frag} {mg : Str → Option Value} {base : Heap}
end
section
variable {X : Cx} {x : Str} {j k : Nat} {ps : List Str} {dvs : List V} {sp : Sp} {p pos : Pos} {e : Expr} {es : List Expr} {t : TA}
end
/-! ### isinstance of an exception that is held -/
section
variable {X : Cx}
def CX_isi (K : PySem.W.Frag) : List V → Hp → VK → Prop := fun xs H Q => ∃ (a C : Addr) (c : V) (cv : Value) (b : Bool), xs = [.ref a, c] ∧ H a = some (.ext (ExAt a C)) ∧ XCls K C ∧ RelV c cv ∧ PySem.W.kitOne K (.ref C) cv = some b ∧ Q (.bl b) H
end
end L2

set_option Elab.async false
set_option linter.all false
set_option maxRecDepth 100000
namespace L2
open PySem PySem.Spec PyProof.Rows
section
variable {X : Cx}
def clsV : V → Option Value
  | .ref a => some (.ref a)
  | .ty n => some (.type n)
  | _ => none
theorem clsV_rel {c : V} {cv u : Value} (e : clsV c = some cv) (r : RelV c u) : u = cv := by
  cases c <;> first | cases e
  · exact r
  · exact r
def rIsX (K : PySem.W.Frag) : List V → Hp → VK → Prop := fun xs H Q => ∃ (a C : Addr) (c : V) (cv : Value) (b : Bool), xs = [.ref a, c] ∧ H a = some (.ext (ExAt a C)) ∧ XCls K C ∧ clsV c = some cv ∧ PySem.W.kitOne K (.ref C) cv = some b ∧ Q (.bl b) H
end
end L2

set_option Elab.async false
set_option linter.all false
set_option maxRecDepth 100000
/-! list(reversed(l)) -/
namespace L2
open PySem PySem.Spec PyProof.Rows
section
variable {prog : Program} {w : World} {A : Around} {E : Value → Shared → Prop} {s : Shared} {it l S : Addr} {items : Array Value}
abbrev RevP (items : Array Value) : Nat → Value → Prop := fun i v => items[items.size - 1 - i]? = some v
end
section
variable {X : Cx} {a : Expr} {ta : TA} {p p2 pos pos2 : Pos}
def tListRev (K : PySem.W.Frag) (ta : TA) : TE := fun σ H Q => ta σ H fun vs H1 => ∃ l xs, vs = [.ref l] ∧ SqL K H1 l xs ∧ ∀ n, H1 n = none → Q (.ref n) (upd H1 n (.lst xs.reverse))
end
end L2

set_option Elab.async false
set_option linter.all false
set_option maxRecDepth 100000
/-! list(d) of a dict of ints and texts -/
namespace L2
open PySem PySem.Spec PyProof.Rows
section
variable {X : Cx}
def rListD : List V → Hp → VK → Prop := fun xs H Q => ∃ p kvs, xs = [.ref p] ∧ H p = some (.dK kvs) ∧ ∀ l, H l = none → Q (.ref l) (upd H l (.lst (kvs.map fun q => kV q.1)))
end
end L2

set_option Elab.async false
set_option linter.all false
set_option maxRecDepth 100000
namespace L2
open PySem PySem.Spec PyProof.Rows

/-! ### the comprehension's loop, with a test -/
/-- what a comprehension's reading asks behind the source: W the invariant by turn and measure -/
def CompWI (J : It) (ix : List (Option Nat)) (g : TG) (tc : TT) (te : TE) (σ : St) (H : Hp) (Qd : Addr → Hp → Prop) : Prop :=
  ∀ D, H D = none → ∃ W : Nat → Nat → St → Hp → Prop, (∃ m, W 0 m (blockSt ix σ) (upd H D (.lst []))) ∧ ∀ i m σ' H', W i m σ' H' →
    (J.stop i H' ∧ Qd D H') ∨ (J.go i H' ∧ ∀ x H2, J.yld i H' x H2 → g x σ' H2 fun σ3 H3 => tc σ3 H3 fun b H4 => if b = true then te σ3 H4 fun y H5 => ∃ ys, H5 D = some (.lst ys) ∧ ys.length < sizeLine ∧ ∃ m', m' < m ∧ W (i + 1) m' σ3 (upd H5 D (.lst (ys ++ [y]))) else ∃ m', m' < m ∧ W (i + 1) m' σ3 H4)

section
variable {X : Cx} {pins : List (Addr × Obj)} {σ : St} {H : Hp} {s : Shared} {N : List Str} {ix : List (Option Nat)} {scope : Scope} {fp : List Addr} {tg elt iter cond : Expr} {tc : TT} {pos spos : Pos} {J : It} {it : Addr} {tn : Nat → Heap → Prop} {g : TG} {te : TE} {wi : TI}

/-- [elt for x in iter] -/
def tCompI (ix : List (Option Nat)) (wi : TI) (g : TG) (tc : TT) (te : TE) : TE := fun σ H Q => wi σ H fun J H1 => CompWI J ix g tc te σ H1 fun D H' => Q (.ref D) H'
end
end L2

set_option Elab.async false
set_option linter.all false
set_option maxRecDepth 100000
set_option maxHeartbeats 4000000
/-! enumerate of a tuple, with a tuple of names as the target -/
namespace L2
open PySem PySem.Spec PyProof.Rows
open AutoSeq1 (wpAny_loadPart')
section
variable {prog : Program} {w : World} {A : Around} {E : Value → Shared → Prop} {s : Shared}
end
end L2

set_option Elab.async false
set_option linter.all false
set_option maxRecDepth 100000
set_option maxHeartbeats 4000000
namespace L2
open PySem PySem.Spec PyProof.Rows
section
variable {X : Cx} {pins : List (Addr × Obj)} {σ : St} {H : Hp} {s : Shared} {h' : Heap}
end
/-- enumerate of the tuple at a: a new pair at each turn -/
def Ite (K : PySem.W.Frag) (a : Addr) : It :=
  ⟨fun i H => ∃ xs x, SqT K H a xs ∧ xs[i]? = some x, fun i H v H' => ∃ T x, v = .ref T ∧ H T = none ∧ H' = upd H T (.tup [.int i, x]) ∧ ∀ xs, SqT K H a xs → xs[i]? = some x, fun i H => ∃ xs, SqT K H a xs ∧ xs.length ≤ i⟩
section
variable {X : Cx}
def iEnumT (K : PySem.W.Frag) (tl : TA) : TI := fun σ H R => tl σ H fun vs H1 => ∃ a, vs = [.ref a] ∧ (∃ xs, SqT K H1 a xs) ∧ R (Ite K a) H1
end
end L2

set_option Elab.async false
set_option linter.all false
set_option maxRecDepth 100000
set_option maxHeartbeats 4000000
/-! list(range(n)); a class of our own as its callers see it -/
namespace L2
open PySem PySem.Spec PyProof.Rows
section
variable {X : Cx} {a : Expr} {ta : TA} {p p2 pos pos2 : Pos}
def tListRng (ta : TA) : TE := fun σ H Q => ta σ H fun vs H1 => ∃ n : Nat, vs = [.int n] ∧ n ≤ sizeLine ∧ ∀ l, H1 l = none → Q (.ref l) (upd H1 l (.lst ((List.range n).map fun i : Nat => V.int i)))
end
/-- a class of our own, made with arguments -/
structure DefMk (P : Program) (w : World) (K : PySem.W.Frag) (mg : Str → Option Value) (base : Heap) (x : Str) (C : Addr) (k : Nat) (ps : List Str) (sp : Sp) : Prop where
  m : mg x = some (.ref C)
  cl : Cls K C
  ex : ∃ (f : Addr) (fd : FuncData), Mk K C f ∧ Binds K fd ps [] ∧ FnOk P w K mg base CX0 k f fd ps sp
theorem pe_mko {X : Cx} {x : Str} {C : Addr} {j k : Nat} {ps : List Str} {sp : Sp} {p pos : Pos} {e : Expr} {es : List Expr} {t : TA} (G : DefMk X.prog X.w X.K X.mg X.base x C k ps sp) (hr : Room j X.A) (ha : PA X (e :: es) t) (hkj : k + 1 ≤ j := by decide) (hg : Gl X x := by rfl) (hdb : (x == ("__debug__" : Str)) = false := by decide)
    (he : starEach (e :: es) X.env = (false, eval e X.env) :: starEach es X.env := by rfl) (hpl : (backTo pos (starEach es X.env)).any (·.1) = false := by rfl) : PE X (.Call (.Name x p) (e :: es) [] pos) (tMake C sp [] E0 t) := by
  obtain ⟨f, fd, M, hb, F⟩ := G.ex
  exact pe_make M F (hr.mono hkj) hg G.m hb .nil pass0 ha hdb he hpl
/-- a method of a class of our own -/
structure DefMe (P : Program) (w : World) (K : PySem.W.Frag) (mg : Str → Option Value) (base : Heap) (C : Addr) (m : Str) (k : Nat) (ps : List Str) (sp : Sp) : Prop where
  cl : Cls K C
  ex : ∃ (f : Addr) (fd : FuncData), Meth K C m f ∧ Binds K fd ps [] ∧ FnOk P w K mg base CX0 k f fd ps sp
theorem pe_me {X : Cx} {m : Str} {C : Addr} {j k : Nat} {ps : List Str} {sp : Sp} {apos pos : Pos} {o e : Expr} {es : List Expr} {ta : TE} {t : TA} {pl : Sem Bool} (G : DefMe X.prog X.w X.K X.mg X.base C m k ps sp) (hr : Room j X.A) (ho : PE X o ta) (ha : PA X (e :: es) t) (hkj : k ≤ j := by decide)
    (hst : starEach (e :: es) X.env = (false, eval e X.env) :: starEach es X.env := by rfl) (hpl : (backTo pos (starEach es X.env)).any (·.1) = false := by rfl)
    (ht : eval (.Call (.Attribute o m apos) (e :: es) [] pos) X.env = (do
      let ov ← eval o X.env
      standAt apos.atName
      let (f, first) ← holding [ov] (getMethod ov m pl)
      callWith pos f first (backTo pos (starEach (e :: es) X.env)) (backToKw pos (keywordEach [] X.env))) := by rfl) :
    PE X (.Call (.Attribute o m apos) (e :: es) [] pos) (tMeth C m sp [] E0 ta t) := by
  obtain ⟨f, fd, hm, hb, F⟩ := G.ex
  exact pe_meth ho G.cl hm F (hr.mono hkj) hb .nil pass0 ha hst hpl ht
end L2

set_option Elab.async false
set_option linter.all false
set_option maxRecDepth 100000
set_option maxHeartbeats 4000000
/-! zip of two things that can be drawn from -/
namespace L2
open PySem PySem.Spec PyProof.Rows
section
variable {prog : Program} {w : World} {A : Around} {E : Value → Shared → Prop} {s : Shared}
structure ZipFar (z TI TO i1 i2 : Addr) (fp1 fp2 : List Addr) : Prop where
  TIz : TI ≠ z
  TOz : TO ≠ z
  TITO : TI ≠ TO
  i1z : i1 ≠ z
  i2z : i2 ≠ z
  TIi1 : TI ≠ i1
  TIi2 : TI ≠ i2
  TOi1 : TO ≠ i1
  TOi2 : TO ≠ i2
  i12 : i1 ≠ i2
  z1 : z ∉ fp1
  TO1 : TO ∉ fp1
  i21 : i2 ∉ fp1
  z2 : z ∉ fp2
  TO2 : TO ∉ fp2
  i12' : i1 ∉ fp2
variable {z TI TO i1 i2 : Addr} {fp1 fp2 : List Addr} {n1 n2 k : Nat} {P1 P2 : Nat → Value → Prop} {St1 St2 : Nat → Heap → Prop} {a b : Value}
theorem zipD_item {Q : Value → Shared → Prop} (D1 : Draws prog w A.in1 i1 fp1 n1 P1 St1) (D2 : Draws prog w A.in1 i2 fp2 n2 P2 St2) (F : ZipFar z TI TO i1 i2 fp1 fp2)
    (hz : IsZip s.heap z TI TO .none) (hTI : IsPair s.heap TI (.ref i1) (.ref i2)) (hTO : IsPair s.heap TO a b) (s1 : St1 k s.heap) (s2 : St2 k s.heap) (l1 : k < n1) (l2 : k < n2)
    (hQ : ∀ x y h' tk, P1 k x → P2 k y → IsZip h' z TI TO (rawInt s.heap.objs.size) → IsPair h' TO x y → St1 (k + 1) h' → St2 (k + 1) h' → IsPair h' s.heap.objs.size x y →
      (∀ c o, c ≠ z → c ≠ TO → c ≠ i1 → c ≠ i2 → s.heap.get? c = some o → h'.get? c = some o) → Q (.ref s.heap.objs.size) { s with heap := h', toks := tk }) :
    wpAny (model prog w) A.in1 (Builtin.«zip.__next__» ⟨[.ref z], []⟩) (fun fin s' => ∃ v, fin = .done (.ret v) ∧ Q v s') E s := by
  obtain ⟨hp, g, d, tk0, os⟩ := s
  show wpAny _ _ (field (.ref z) 2 >>= _) _ _ _
  refine wpAny_bind (wpAny_field hz rfl (x := .bool false) rfl ?_)
  show wpAny _ _ (field (.ref z) 3 >>= _) _ _ _
  refine wpAny_bind (wpAny_field hz rfl (x := .ref TI) rfl ?_)
  refine wpAny_bind (wpAny_seqItems hTI rfl ?_)
  show wpAny _ _ (Builtin.SmallTypes.ownedTupleIsFree (.ref z) >>= _) _ _ _
  refine wpAny_bind ?_
  unfold Builtin.SmallTypes.ownedTupleIsFree
  refine wpAny_bind (wpAny_field hz rfl (x := .none) rfl (wpAny_pure ?_))
  simp only [if_true]
  refine wpAny_bind (wpAny_rule ?_)
  refine wpAny_bind (wpAny_field hz rfl (x := .ref TO) rfl ?_)
  refine wpAny_bind (wpAny_setField_rec hz (by simp) fun h₁ hz₁ hs₁ => ?_)
  replace hz₁ : IsZip h₁ z TI TO .ellipsis := hz₁
  replace hs₁ : Heap.SameBut z hp h₁ := hs₁
  refine wpAny_bind ?_
  simp only [List.zipIdx_cons, List.zipIdx_nil, List.forIn_cons, List.forIn_nil]
  refine wpAny_bind (wpAny_bind (wpAny_onRaise ?_))
  show wpAny _ _ (Builtin.SmallTypes.nextOf (.ref i1) >>= _) _ _ _
  have q1 : St1 k h₁ := D1.frame _ _ _ s1 fun c hc o e => hs₁.extBut c o (fun x => F.z1 (x ▸ hc)) e
  refine wpAny_bind (D1.item k _ _ _ l1 q1 fun x h₂ tk1 hx q2 hs₂ => wpAny_pure ?_)
  replace hs₂ : Heap.SameBut i1 h₁ h₂ := hs₂
  have hTO₂ : IsPair h₂ TO a b := hs₂.extBut _ _ F.TOi1 (hs₁.extBut _ _ F.TOz hTO)
  refine wpAny_bind (wpAny_seqItems (s := ⟨h₂, g, d, tk1, os⟩) hTO₂ rfl ?_)
  refine wpAny_bind (wpAny_updateSeq_pair (s := ⟨h₂, g, d, tk1, os⟩) hTO₂ fun h₃ hTO₃ hs₃ => ?_)
  replace hTO₃ : IsPair h₃ TO x b := hTO₃
  replace hs₃ : Heap.SameBut TO h₂ h₃ := hs₃
  refine wpAny_bind (wpAny_letGo (wpAny_pure ?_))
  refine wpAny_bind (wpAny_bind (wpAny_onRaise ?_))
  show wpAny _ _ (Builtin.SmallTypes.nextOf (.ref i2) >>= _) _ _ _
  have r3 : St2 k h₃ := D2.frame _ _ _ s2 fun c hc o e => hs₃.extBut c o (fun x => F.TO2 (x ▸ hc)) (hs₂.extBut c o (fun x => F.i12' (x ▸ hc)) (hs₁.extBut c o (fun x => F.z2 (x ▸ hc)) e))
  refine wpAny_bind (D2.item k _ _ _ l2 r3 fun y h₄ tk2 hy r4 hs₄ => wpAny_pure ?_)
  replace hs₄ : Heap.SameBut i2 h₃ h₄ := hs₄
  have hTO₄ : IsPair h₄ TO x b := hs₄.extBut _ _ F.TOi2 hTO₃
  refine wpAny_bind (wpAny_seqItems (s := ⟨h₄, g, d, tk2, os⟩) hTO₄ rfl ?_)
  refine wpAny_bind (wpAny_updateSeq_pair (s := ⟨h₄, g, d, tk2, os⟩) hTO₄ fun h₅ hTO₅ hs₅ => ?_)
  replace hTO₅ : IsPair h₅ TO x y := hTO₅
  replace hs₅ : Heap.SameBut TO h₄ h₅ := hs₅
  refine wpAny_bind (wpAny_letGo (wpAny_pure (wpAny_pure ?_)))
  refine wpAny_bind (wpAny_seqItems (s := ⟨h₅, g, d, tk2, os⟩) hTO₅ rfl ?_)
  refine wpAny_bind (wpAny_newTuple ?_)
  have hsz : h₅.objs.size = hp.objs.size := by rw [hs₅.1, hs₄.1, hs₃.1, hs₂.1, hs₁.1]
  have hz₅ : IsZip h₅ z TI TO .ellipsis := hs₅.extBut _ _ F.TOz.symm (hs₄.extBut _ _ F.i2z.symm (hs₃.extBut _ _ F.TOz.symm (hs₂.extBut _ _ F.i1z.symm hz₁)))
  have hk₅ : ∀ c o, c ≠ z → c ≠ TO → c ≠ i1 → c ≠ i2 → hp.get? c = some o → h₅.get? c = some o := fun c o c1 c2 c3 c4 e =>
    hs₅.extBut _ _ c2 (hs₄.extBut _ _ c4 (hs₃.extBut _ _ c2 (hs₂.extBut _ _ c3 (hs₁.extBut _ _ c1 e))))
  have q5 : St1 (k + 1) h₅ := D1.frame _ _ _ q2 fun c hc o e => hs₅.extBut c o (fun x => F.TO1 (x ▸ hc)) (hs₄.extBut c o (fun x => F.i21 (x ▸ hc)) (hs₃.extBut c o (fun x => F.TO1 (x ▸ hc)) e))
  have r5 : St2 (k + 1) h₅ := D2.frame _ _ _ r4 fun c hc o e => hs₅.extBut c o (fun x => F.TO2 (x ▸ hc)) e
  have hzlt : z < h₅.objs.size := Heap.lt_size hz₅
  show wpAny _ _ (Builtin.SmallTypes.ownedTupleHandOut (.ref z) (.ref h₅.objs.size) >>= _) _ _ _
  refine wpAny_bind ?_
  unfold Builtin.SmallTypes.ownedTupleHandOut
  have hz₆ : IsZip (h₅.push { cls := .type "tuple", data := .seq #[x, y] }) z TI TO .ellipsis := Heap.get?_push_of_some _ hz₅
  refine wpAny_bind (wpAny_setField_rec (s := ⟨h₅.push { cls := .type "tuple", data := .seq #[x, y] }, g, d, tk2, os⟩) hz₆ (by simp) fun h₇ hz₇ hs₇ => ?_)
  replace hz₇ : IsZip h₇ z TI TO (rawInt h₅.objs.size) := hz₇
  replace hs₇ : Heap.SameBut z (h₅.push { cls := .type "tuple", data := .seq #[x, y] }) h₇ := hs₇
  refine wpAny_setField_rec (s := ⟨h₇, g, d, tk2, os⟩) hz₇ (by simp) fun h₈ hz₈ hs₈ => ?_
  replace hz₈ : IsZip h₈ z TI TO (rawInt h₅.objs.size) := hz₈
  replace hs₈ : Heap.SameBut z h₇ h₈ := hs₈
  have up : ∀ c o, c ≠ z → h₅.get? c = some o → h₈.get? c = some o := fun c o c1 e => hs₈.extBut _ _ c1 (hs₇.extBut _ _ c1 (Heap.get?_push_of_some _ e))
  have hT₈ : IsPair h₈ h₅.objs.size x y := hs₈.extBut _ _ (Nat.ne_of_gt hzlt) (hs₇.extBut _ _ (Nat.ne_of_gt hzlt) (Heap.get?_push_size _ rfl))
  rw [hsz] at hz₈ hT₈
  refine wpAny_pure ⟨_, rfl, ?_⟩
  show Q (.ref h₅.objs.size) _
  rw [hsz]
  exact hQ x y h₈ tk2 hx hy hz₈ (up _ _ F.TOz hTO₅) (D1.frame _ _ _ q5 fun c hc o e => up c o (fun x => F.z1 (x ▸ hc)) e) (D2.frame _ _ _ r5 fun c hc o e => up c o (fun x => F.z2 (x ▸ hc)) e) hT₈ fun c o c1 c2 c3 c4 e => up c o c1 (hk₅ c o c1 c2 c3 c4 e)
/-- both are drawn to the end at once -/
theorem zipD_end {Q : PySem.Fin → Shared → Prop} (D1 : Draws prog w A.in1 i1 fp1 n1 P1 St1) (F : ZipFar z TI TO i1 i2 fp1 fp2)
    (hz : IsZip s.heap z TI TO .none) (hTI : IsPair s.heap TI (.ref i1) (.ref i2)) (s1 : St1 n1 s.heap)
    (hE : ∀ h' e, (∀ c o, c ≠ z → c ≠ TO → c ≠ i1 → c ≠ i2 → s.heap.get? c = some o → h'.get? c = some o) → (∃ o, h'.get? e = some o ∧ o.cls = .type "StopIteration") → E (.ref e) { s with heap := h' }) :
    wpAny (model prog w) A.in1 (Builtin.«zip.__next__» ⟨[.ref z], []⟩) Q E s := by
  obtain ⟨hp, g, d, tk0, os⟩ := s
  show wpAny _ _ (field (.ref z) 2 >>= _) _ _ _
  refine wpAny_bind (wpAny_field hz rfl (x := .bool false) rfl ?_)
  show wpAny _ _ (field (.ref z) 3 >>= _) _ _ _
  refine wpAny_bind (wpAny_field hz rfl (x := .ref TI) rfl ?_)
  refine wpAny_bind (wpAny_seqItems hTI rfl ?_)
  show wpAny _ _ (Builtin.SmallTypes.ownedTupleIsFree (.ref z) >>= _) _ _ _
  refine wpAny_bind ?_
  unfold Builtin.SmallTypes.ownedTupleIsFree
  refine wpAny_bind (wpAny_field hz rfl (x := .none) rfl (wpAny_pure ?_))
  simp only [if_true]
  refine wpAny_bind (wpAny_rule ?_)
  refine wpAny_bind (wpAny_field hz rfl (x := .ref TO) rfl ?_)
  refine wpAny_bind (wpAny_setField_rec hz (by simp) fun h₁ hz₁ hs₁ => ?_)
  replace hz₁ : IsZip h₁ z TI TO .ellipsis := hz₁
  replace hs₁ : Heap.SameBut z hp h₁ := hs₁
  refine wpAny_bind ?_
  simp only [List.zipIdx_cons, List.zipIdx_nil, List.forIn_cons, List.forIn_nil]
  refine wpAny_bind (wpAny_bind (wpAny_onRaise ?_))
  show wpAny _ _ (Builtin.SmallTypes.nextOf (.ref i1) >>= _) _ _ _
  have q1 : St1 n1 h₁ := D1.frame _ _ _ s1 fun c hc o e => hs₁.extBut c o (fun x => F.z1 (x ▸ hc)) e
  refine wpAny_bind (D1.done _ _ _ q1 fun h₂ e hs₂ he => ?_)
  obtain ⟨oe, hoe, hce⟩ := he
  have hz₂ : IsZip h₂ z TI TO .ellipsis := hs₂ _ _ F.i1z.symm hz₁
  have hez : e ≠ z := fun x => by subst x; rw [hz₂] at hoe; cases hoe; simp at hce
  exact wpAny_setField_rec (s := ⟨h₂, g, d, tk0, os⟩) hz₂ (by simp) fun h₃ _ hs₃ => hE h₃ e (fun c o c1 _ c3 _ x => Heap.SameBut.extBut hs₃ _ _ c1 (hs₂ _ _ c3 (hs₁.extBut _ _ c1 x))) ⟨oe, Heap.SameBut.extBut hs₃ _ _ hez hoe, hce⟩
end
end L2

set_option Elab.async false
set_option linter.all false
set_option maxRecDepth 100000
set_option maxHeartbeats 4000000
namespace L2
open PySem PySem.Spec PyProof.Rows
section
variable {X : Cx} {pins : List (Addr × Obj)} {σ : St} {H : Hp} {s : Shared} {h' : Heap}
/-- untracked records of ours have turned -/
theorem Inv.turnedL {t' : Nat} {ch : List Addr} (I : Inv X pins σ H s) (k : ∀ b o, b ∉ ch → s.heap.get? b = some o → h'.get? b = some o) (fc : ∀ b ∈ ch, FpOk X pins H b) (hb' : ∀ b ∈ ch, ∀ o, s.heap.get? b = some o → True) : Inv X pins σ H { s with heap := h', toks := t' } := by
  have nn : ∀ b u, H b = some u → b ∉ ch := fun b u q z => by
    have := (fc b z).1
    rw [q] at this
    cases this
  refine I.step (g' := s.gens) (d' := s.drawn) (ch := ch) (fun b hb => ?_) (fun b o _ _ hc q _ => k b o hc q) (fun b o _ _ hc q _ => ⟨o.slots, k b o hc q⟩) (fun _ _ _ _ n => n)
    (fun b o hc q => ⟨o, k b o hc q⟩) (fun _ _ q => q) (fun _ _ _ q => q) (fun b ps q => ⟨#[], by rw [q]; simp⟩) (fun m hm => ?_) (fun b u q => ?_) I.bare
  · exact ⟨(fc b hb).2.2.2.1, (fc b hb).2.1, (fc b hb).2.2.2.2.1, (fc b hb).2.2.2.2.2⟩
  · obtain ⟨o, es, ep, ho, r⟩ := hm
    exact ⟨o, es, ep, k _ o (fun z => (fc _ z).2.1 rfl) ho, r⟩
  · refine (I.hok b u q).stay (fun c v hc z => k c v ?_ z) (fun _ z => z) fun _ _ z => z
    rcases hc with z | z
    · rw [z]; exact nn b u q
    · exact nn c _ z
end
/-- zip of the tuples at a and b, of one length -/
def Itz (K : PySem.W.Frag) (a b : Addr) : It :=
  ⟨fun i H => ∃ xs ys x y, SqT K H a xs ∧ SqT K H b ys ∧ xs[i]? = some x ∧ ys[i]? = some y,
   fun i H v H' => ∃ T x y, v = .ref T ∧ H T = none ∧ H' = upd H T (.tup [x, y]) ∧ (∀ xs, SqT K H a xs → xs[i]? = some x) ∧ ∀ ys, SqT K H b ys → ys[i]? = some y,
   fun i H => ∃ xs, SqT K H a xs ∧ xs.length = i⟩
theorem far_of {z TI TO i1 i2 a b : Addr} (h1 : TI ≠ z) (h2 : TO ≠ z) (h3 : TI ≠ TO) (h4 : i1 ≠ z) (h5 : i2 ≠ z) (h6 : TI ≠ i1) (h7 : TI ≠ i2) (h8 : TO ≠ i1) (h9 : TO ≠ i2) (h10 : i1 ≠ i2) (ha : ∀ c ∈ [z, TO, i1, i2], a ≠ c) (hb : ∀ c ∈ [z, TO, i1, i2], b ≠ c) :
    ZipFar z TI TO i1 i2 [i1, a] [i2, b] := by
  have a1 := ha z (by simp)
  have a2 := ha TO (by simp)
  have a3 := ha i2 (by simp)
  have b1 := hb z (by simp)
  have b2 := hb TO (by simp)
  have b3 := hb i1 (by simp)
  exact ⟨h1, h2, h3, h4, h5, h6, h7, h8, h9, h10, by simp [Ne.symm h4, Ne.symm a1], by simp [h8, Ne.symm a2], by simp [Ne.symm h10, Ne.symm a3], by simp [Ne.symm h5, Ne.symm b1], by simp [h9, Ne.symm b2], by simp [h10, Ne.symm b3]⟩
section
variable {X : Cx}
def iZipT (K : PySem.W.Frag) (tl : TA) : TI := fun σ H R => tl σ H fun vs H1 => ∃ a b, vs = [.ref a, .ref b] ∧ (∃ xs, SqT K H1 a xs) ∧ (∃ ys, SqT K H1 b ys) ∧ R (Itz K a b) H1
theorem bt_zip : bootBuiltins "zip" = some (.type "zip") := by decide +kernel
end
end L2

set_option Elab.async false
set_option linter.all false
set_option maxRecDepth 100000
set_option maxHeartbeats 4000000
/-! == of things that are alike: None and None; tuples of ints; tuples of such -/
namespace L2
open PySem PySem.Spec PyProof.Rows
/-- alike, by what they hold -/
inductive EqN (K : PySem.W.Frag) (H : Hp) : V → V → Prop where
  | non : EqN K H .non .non
  | tup {a b : Addr} {ns : List Int} (ha : SqT K H a (ns.map V.int)) (hb : SqT K H b (ns.map V.int)) : EqN K H (.ref a) (.ref b)
section
variable {X : Cx} {pins : List (Addr × Obj)} {σ : St} {H : Hp} {s : Shared}
theorem vals_int {ns : List Int} {us : List Value} (r : Vals (ns.map V.int) us) : ∀ (j : Nat) (u : Value), us[j]? = some u → ∃ n t, ns[j]? = some n ∧ u = Value.int n t := by
  intro j u hu
  have hj : j < us.length := (List.getElem?_eq_some_iff.mp hu).1
  have hl := r.length
  rw [List.length_map] at hl
  obtain ⟨v, hv, rv⟩ := r.get (i := j) (x := V.int (ns[j]'(by omega))) (by rw [List.getElem?_map, List.getElem?_eq_getElem (by omega)]; rfl)
  rw [hu] at hv
  cases hv
  obtain ⟨t, rfl⟩ := (show ∃ t, u = Value.int _ t from rv)
  exact ⟨_, t, List.getElem?_eq_getElem (by omega), rfl⟩
theorem ints_rc {A : Around} {a b : Addr} {ns : List Int} (I : Inv X pins σ H s) (hu : A.units < cLine) (ha : SqT X.K H a (ns.map V.int)) (hb : SqT X.K H b (ns.map V.int)) : SeqAt.RcAt A s (.ref a) (.ref b) true := by
  obtain ⟨its, r1, p1, _⟩ := I.tuple ha
  obtain ⟨jts, r2, p2, _⟩ := I.tuple hb
  have l1 := r1.length
  have l2 := r2.length
  have q := SeqAt.RcAt.tuples (A := A) (e := fun _ => true) p1 p2 hu fun j h1 h2 => by
    obtain ⟨n, t, hn, e⟩ := vals_int r1 j its.toArray[j] (by simp at h1 ⊢)
    obtain ⟨n', t', hn', e'⟩ := vals_int r2 j jts.toArray[j] (by simp at h2 ⊢)
    rw [hn] at hn'
    cases hn'
    rw [e, e']
    have z := SeqAt.EqAt.int_int (A := A.in1) (s := s) n t n t'
    rw [beq_self_eq_true] at z
    exact z
  have e : ((List.range (min its.toArray.size jts.toArray.size)).all (fun _ => true) && its.toArray.size == jts.toArray.size) = true := by
    simp
    omega
  rw [e] at q
  exact q
theorem EqN.at {A : Around} {x y : V} {u v : Value} (I : Inv X pins σ H s) (hu : A.units < cLine) (h : EqN X.K H x y) (ru : RelV x u) (rv : RelV y v) : SeqAt.EqAt A s u v true := by
  cases h with
  | non =>
    cases ru
    cases rv
    exact SeqAt.EqAt.same _
  | @tup a b ns ha hb =>
    cases ru
    cases rv
    by_cases e : a = b
    · subst e; exact SeqAt.EqAt.same _
    · exact SeqAt.EqAt.of_refs e (ints_rc I hu ha hb)
end
end L2

set_option Elab.async false
set_option linter.all false
set_option maxRecDepth 100000
set_option maxHeartbeats 4000000
/-! enumerate of a list, with a tuple of names as the target -/
namespace L2
open PySem PySem.Spec PyProof.Rows
/-- enumerate of the list at a: a new pair at each turn -/
def Itel (K : PySem.W.Frag) (a : Addr) : It :=
  ⟨fun i H => ∃ xs x, SqL K H a xs ∧ xs[i]? = some x, fun i H v H' => ∃ T x, v = .ref T ∧ H T = none ∧ H' = upd H T (.tup [.int i, x]) ∧ ∀ xs, SqL K H a xs → xs[i]? = some x, fun i H => ∃ xs, SqL K H a xs ∧ xs.length ≤ i⟩
section
variable {X : Cx}
def iEnumL (K : PySem.W.Frag) (tl : TA) : TI := fun σ H R => tl σ H fun vs H1 => ∃ a, vs = [.ref a] ∧ (∃ xs, SqL K H1 a xs) ∧ R (Itel K a) H1
end
end L2

set_option Elab.async false
set_option linter.all false
set_option maxRecDepth 100000
set_option maxHeartbeats 4000000
/-! comprehensions over enumerate, with two names as the target (in the block's slots 0 and 1) -/
namespace L2
open PySem PySem.Spec PyProof.Rows
theorem set2_set {B : St} {t u a b : Option V} : ((((B.set 0 t).set 1 u).set 0 a).set 1 b) = (B.set 0 a).set 1 b := by
  rw [List.set_comm u a (l := B.set 0 t) (by decide : (1 : Nat) ≠ 0), List.set_set, List.set_set]
end L2

set_option Elab.async false
set_option linter.all false
set_option maxRecDepth 100000
/-! list(d.items()); sum of a row of ints -/
namespace L2
open PySem PySem.Spec PyProof.Rows
section
variable {X : Cx} {pins : List (Addr × Obj)} {σ : St} {H H' : Hp} {s : Shared} {h' : Heap}
end
section
variable {X : Cx}
abbrev ItemsAt (v d : Addr) : HO := .ext fun h => h.IsItemsView v d
def rItems : V → List V → Hp → VK → Prop := fun x vs H Q => ∃ d kvs, x = .ref d ∧ vs = [] ∧ H d = some (.dK kvs) ∧ ∀ v, H v = none → Q (.ref v) (upd H v (ItemsAt v d))
def rListItems : List V → Hp → VK → Prop := fun xs H Q => ∃ v d kvs, xs = [.ref v] ∧ H v = some (ItemsAt v d) ∧ H d = some (.dK kvs) ∧
  ∀ (l : Addr) (as : List Addr) (H' : Hp), H l = none → as.length = kvs.length → Same H H' → H' l = some (.lst (as.map V.ref)) →
    (∀ (j : Nat) (a : Addr) (kv : Key × V), as[j]? = some a → kvs[j]? = some kv → H a = none ∧ H' a = some (.tup [kV kv.1, kv.2])) → Q (.ref l) H'
def sumI (ns : List Int) : Int := ns.foldl (· + ·) 0
theorem preSum_foldl (ns : List Int) : ∀ n, n ≤ ns.length → preSum (fun i => ns.getD i 0) n = (ns.take n).foldl (· + ·) 0
  | 0, _ => rfl
  | n + 1, h => by
    have hn : n < ns.length := h
    show preSum _ n + ns.getD n 0 = _
    rw [preSum_foldl ns n (Nat.le_of_lt hn), List.take_add_one, List.getElem?_eq_getElem hn, List.foldl_append]
    simp [hn]
def rSumT (K : PySem.W.Frag) : List V → Hp → VK → Prop := fun xs H Q => ∃ (a : Addr) (ns : List Int), xs = [.ref a] ∧ SqT K H a (ns.map V.int) ∧ Q (.int (sumI ns)) H
end
end L2

set_option Elab.async false
set_option linter.all false
set_option maxRecDepth 100000
/-! divmod by great numbers -/
namespace L2
open PySem PySem.Spec PyProof.Rows
section
variable {X : Cx}
end
end L2

set_option Elab.async false
set_option linter.all false
set_option maxRecDepth 100000
/-! xs[::-1] of a list; reversed(a tuple) -/
namespace L2
open PySem PySem.Spec PyProof.Rows
section
variable {X : Cx}
def rSl3L (K : PySem.W.Frag) : V → Option Int → Option Int → Option Int → Hp → VK → Prop := fun x lo hi st H Q => ∃ a xs, x = .ref a ∧ lo = none ∧ hi = none ∧ st = some (-1) ∧ SqL K H a xs ∧ ∀ p, H p = none → Q (.ref p) (upd H p (.lst xs.reverse))
end
end L2
namespace PySem
open PyProof.Rows
namespace F
end F
section
variable {prog : Program} {w : World} {A : Around} {E : Value → Shared → Prop} {s : Shared}
def revTObj (l : Addr) (i : Int) : Obj := { cls := .type "reversed", data := .fields #[.ref l, rawInt i] }
def Heap.IsRevT (h : Heap) (a l : Addr) (i : Int) : Prop := ∃ o, h.get? a = some o ∧ o.cls = .type "reversed" ∧ o.data = .fields #[.ref l, rawInt i]
theorem Heap.IsRevT.typeIs {a l : Addr} {i : Int} (x : s.heap.IsRevT a l i) : s.TypeIs (.ref a) "reversed" := let ⟨o, ho, hc, _⟩ := x; ⟨o, ho, hc⟩
theorem Heap.IsRevT.at {h h' : Heap} {a l : Addr} {i : Int} (x : h.IsRevT a l i) (e : ∀ o, h.get? a = some o → h'.get? a = some o) : h'.IsRevT a l i := let ⟨o, ho, r⟩ := x; ⟨o, e _ ho, r⟩
end
end PySem
namespace L2
open PySem PySem.Spec PyProof.Rows
def Itvt (K : PySem.W.Frag) (a : Addr) (n : Nat) : It :=
  ⟨fun i H => i < n ∧ ∃ xs, SqT K H a xs ∧ xs.length = n, fun i H x H' => H' = H ∧ ∀ xs, SqT K H a xs → xs[n - 1 - i]? = some x, fun i H => i = n⟩
section
variable {X : Cx} {tg : Expr}
def iRevT (K : PySem.W.Frag) (ta : TA) : TI := fun σ H R => ta σ H fun vs H1 => ∃ a xs, vs = [.ref a] ∧ SqT K H1 a xs ∧ R (Itvt K a xs.length) H1
end
end L2

set_option Elab.async false
set_option linter.all false
set_option maxRecDepth 100000
set_option maxHeartbeats 4000000
/-! zip of two lists of one length; comprehensions over it, with two names; sum of a list; isinstance of own objects -/
namespace L2
open PySem PySem.Spec PyProof.Rows
/-- zip of the lists at a and b, of one length -/
def Itzl (K : PySem.W.Frag) (a b : Addr) : It :=
  ⟨fun i H => ∃ xs ys x y, SqL K H a xs ∧ SqL K H b ys ∧ xs[i]? = some x ∧ ys[i]? = some y,
   fun i H v H' => ∃ T x y, v = .ref T ∧ H T = none ∧ H' = upd H T (.tup [x, y]) ∧ (∀ xs, SqL K H a xs → xs[i]? = some x) ∧ ∀ ys, SqL K H b ys → ys[i]? = some y,
   fun i H => ∃ xs, SqL K H a xs ∧ xs.length = i⟩
theorem turn_zipL {P : Program} {w : World} {K : PySem.W.Frag} {elts : List Expr} {x1 : _} {pos : Pos} (a b z TI TO i1 i2 : Addr) (h1 : TI ≠ z) (h2 : TO ≠ z) (h3 : TI ≠ TO) (h4 : i1 ≠ z) (h5 : i2 ≠ z) (h6 : TI ≠ i1) (h7 : TI ≠ i2) (h8 : TO ≠ i1) (h9 : TO ≠ i2) (h10 : i1 ≠ i2)
    (ha : ∀ c ∈ [z, TI, TO, i1, i2], a ≠ c) (hb : ∀ c ∈ [z, TI, TO, i1, i2], b ≠ c) :
    Turn P w K (.Tuple elts x1 pos) (Itzl K a b) [z, TI, TO, i1, i2] z (fun i h => IsZip h z TI TO .none ∧ IsPair h TI (.ref i1) (.ref i2) ∧ (∃ u v, IsPair h TO u v) ∧ h.IsListIter i1 a i ∧ h.IsListIter i2 b i) where
  mem := by simp
  obj := fun i h st c hc => by
    obtain ⟨hz, hTI, ⟨u, v, hTO⟩, hi1, hi2⟩ := st
    simp only [List.mem_cons, List.not_mem_nil, or_false] at hc
    rcases hc with rfl | rfl | rfl | rfl | rfl
    · exact ⟨_, hz, fun v z => by have z' : Data.fields _ = Data.cell v := z; cases z'⟩
    · exact ⟨_, hTI, fun v z => by have z' : Data.seq _ _ = Data.cell v := z; cases z'⟩
    · exact ⟨_, hTO, fun v z => by have z' : Data.seq _ _ = Data.cell v := z; cases z'⟩
    · obtain ⟨o, e, c, d⟩ := hi1
      exact ⟨o, e, fun v z => by rw [d] at z; cases z⟩
    · obtain ⟨o, e, c, d⟩ := hi2
      exact ⟨o, e, fun v z => by rw [d] at z; cases z⟩
  keep := fun i h h' st k => by
    obtain ⟨hz, hTI, ⟨u, v, hTO⟩, hi1, hi2⟩ := st
    exact ⟨k z (by simp) _ hz, k TI (by simp) _ hTI, ⟨u, v, k TO (by simp) _ hTO⟩, hi1.at fun o e => k i1 (by simp) o e, hi2.at fun o e => k i2 (by simp) o e⟩
  item := by
    intro X hP hw hK hc i pins s σ H E I hf st hg
    subst hP hw hK
    obtain ⟨xs, ys, x, y, hq1, hq2, hx, hy⟩ := hg
    obtain ⟨its, rv, p1', _⟩ := I.list hq1
    have p1 : s.heap.IsList a its.toArray := p1'.isList
    obtain ⟨jts, rw', p2', _⟩ := I.list hq2
    have p2 : s.heap.IsList b jts.toArray := p2'.isList
    obtain ⟨u, hu, ru⟩ := rv.get hx
    obtain ⟨v, hv, rv2⟩ := rw'.get hy
    obtain ⟨hz, hTI, ⟨o1, o2, hTO⟩, hi1, hi2⟩ := st
    have FF := far_of (a := a) (b := b) h1 h2 h3 h4 h5 h6 h7 h8 h9 h10 (fun c hc => ha c (by simp only [List.mem_cons, List.not_mem_nil, or_false] at hc ⊢; rcases hc with h | h | h | h <;> simp [h])) (fun c hc => hb c (by simp only [List.mem_cons, List.not_mem_nil, or_false] at hc ⊢; rcases hc with h | h | h | h <;> simp [h]))
    have l1 : i < its.toArray.size := by have : i < its.length := (List.getElem?_eq_some_iff.mp hu).1; simpa using this
    have l2 : i < jts.toArray.size := by have : i < jts.length := (List.getElem?_eq_some_iff.mp hv).1; simpa using this
    have hh : X.A.in1.handled = none := I.ok.hd hc
    have D1 := Draws.list (prog := X.prog) (w := X.w) (A := X.A.in1) hh i1 a (ha i1 (by simp)) its.toArray
    have D2 := Draws.list (prog := X.prog) (w := X.w) (A := X.A.in1) hh i2 b (hb i2 (by simp)) jts.toArray
    have hT : s.TypeIs (.ref z) "zip" := ⟨_, hz, rfl⟩
    unfold pyNext
    refine wpAny_bind (wpAny_attempt (wpAny_callSpecial?_slot (name := Str.ofString "__next__") hT F.slot_zip_next (wpAny_call_entry F.slot_zip_next hT F.entry_zip_next ?_ (F.args_zip_next_1 _))))
    refine zipD_item D1 D2 FF hz hTI hTO ⟨hi1, p1⟩ ⟨hi2, p2⟩ l1 l2 fun x' y' h' tk hx' hy' a1 a2 a3 a4 a5 a7 => wpAny_pure ?_
    have ex : x' = u := by
      have : its.toArray[i]? = some u := by simpa using hu
      rw [this] at hx'
      exact (Option.some.inj hx').symm
    have ey : y' = v := by
      have : jts.toArray[i]? = some v := by simpa using hv
      rw [this] at hy'
      exact (Option.some.inj hy').symm
    subst ex ey
    refine ⟨_, rfl, wpAny_letOwnedTupleGo_zip (s := { s with heap := h', toks := tk }) a1 fun h2' hz' hs' => ?_⟩
    have fr : H s.heap.objs.size = none := I.hok.fresh (Nat.le_refl _)
    have I1 : Inv X pins σ (upd H s.heap.objs.size (.tup [x, y])) { s with heap := s.heap.push { cls := .type "tuple", data := .seq #[x', y'] }, toks := tk } :=
      I.laid (o := .tup [x, y]) (fun b ob q => Heap.get?_push_of_some _ q) (Nat.le_refl _) ⟨by show 2 ≤ sizeLine; decide, [x', y'], .cons ru (.cons rv2 .nil), ⟨_, Heap.get?_push_size _ rfl, rfl, _, rfl⟩⟩
    have lt : ∀ c ∈ [z, TI, TO, i1, i2], c < s.heap.objs.size := fun c hc => by
      simp only [List.mem_cons, List.not_mem_nil, or_false] at hc
      rcases hc with rfl | rfl | rfl | rfl | rfl
      · exact Heap.lt_size hz
      · exact Heap.lt_size hTI
      · exact Heap.lt_size hTO
      · obtain ⟨o, e1, _⟩ := hi1; exact Heap.lt_size e1
      · obtain ⟨o, e1, _⟩ := hi2; exact Heap.lt_size e1
    have f2 : ∀ c ∈ [z, TI, TO, i1, i2], FpOk X pins (upd H s.heap.objs.size (.tup [x, y])) c := fun c hc => by
      refine ⟨?_, (hf c hc).2⟩
      rw [upd_ne (Nat.ne_of_lt (lt c hc))]
      exact (hf c hc).1
    have I2 : Inv X pins σ (upd H s.heap.objs.size (.tup [x, y])) { s with heap := h2', toks := tk } := by
      refine Inv.turnedL (s := { s with heap := s.heap.push { cls := .type "tuple", data := .seq #[x', y'] }, toks := tk }) (t' := tk) (h' := h2') (ch := [z, TI, TO, i1, i2]) I1 (fun c o hc q => ?_) f2 (fun _ _ _ _ => trivial)
      simp only [List.mem_cons, List.not_mem_nil, or_false, not_or] at hc
      refine (hs'.2 c hc.1).trans ?_
      rcases Heap.get?_push_cases (show (s.heap.push { cls := .type "tuple", data := .seq #[x', y'] }).get? c = some o from q) with ⟨rfl, rfl⟩ | q
      · exact a5
      · exact a7 c o hc.1 hc.2.2.1 hc.2.2.2.1 hc.2.2.2.2 q
    refine ⟨.ref s.heap.objs.size, _, I2, rfl, ⟨s.heap.objs.size, x, y, rfl, fr, rfl, fun ys hy => by rw [I.list_inj hy hq1]; exact hx, fun ys hy' => by rw [I.list_inj hy' hq2]; exact hy⟩, ⟨hz', ?_, ⟨x', y', ?_⟩, ?_, ?_⟩, fun b hb => (f2 b hb).1⟩
    · exact (hs'.2 TI h1).trans (a7 _ _ h1 h3 h6 h7 hTI)
    · exact (hs'.2 TO h2).trans a2
    · exact a3.1.at fun o e => (hs'.2 i1 h4).trans e
    · exact a4.1.at fun o e => (hs'.2 i2 h5).trans e
  done := by
    intro X hP hw hK hc i pins s σ H E I hf st hg
    subst hP hw hK
    obtain ⟨xs, hq, hx⟩ := hg
    obtain ⟨its, rv, p1', _⟩ := I.list hq
    have p1 : s.heap.IsList a its.toArray := p1'.isList
    obtain ⟨hz, hTI, ⟨o1, o2, hTO⟩, hi1, hi2⟩ := st
    have FF := far_of (a := a) (b := b) h1 h2 h3 h4 h5 h6 h7 h8 h9 h10 (fun c hc => ha c (by simp only [List.mem_cons, List.not_mem_nil, or_false] at hc ⊢; rcases hc with h | h | h | h <;> simp [h])) (fun c hc => hb c (by simp only [List.mem_cons, List.not_mem_nil, or_false] at hc ⊢; rcases hc with h | h | h | h <;> simp [h]))
    have hh : X.A.in1.handled = none := I.ok.hd hc
    have D1 := Draws.list (prog := X.prog) (w := X.w) (A := X.A.in1) hh i1 a (ha i1 (by simp)) its.toArray
    have hl := rv.length
    have ei : i = its.toArray.size := by simp; omega
    rw [ei] at hi1
    have hT : s.TypeIs (.ref z) "zip" := ⟨_, hz, rfl⟩
    unfold pyNext
    refine wpAny_bind (wpAny_attempt (wpAny_callSpecial?_slot (name := Str.ofString "__next__") hT F.slot_zip_next (wpAny_call_entry F.slot_zip_next hT F.entry_zip_next ?_ (F.args_zip_next_1 _))))
    refine zipD_end D1 FF hz hTI ⟨hi1, p1⟩ fun h' e hk he => ?_
    obtain ⟨o, ho, hcl⟩ := he
    refine wpAny_bind (wpAny_isInstance (T := "StopIteration") (b := true) ⟨o, ho, hcl⟩ isSubtype_stop ?_)
    refine wpAny_pure ⟨rfl, I.turnedL (t' := s.toks) (ch := [z, TI, TO, i1, i2]) (fun c o hc q => ?_) hf (fun _ _ _ _ => trivial)⟩
    simp only [List.mem_cons, List.not_mem_nil, or_false, not_or] at hc
    exact hk c o hc.1 hc.2.2.1 hc.2.2.2.1 hc.2.2.2.2 q
  self := fun _ _ _ _ _ st h => wpAny_pyIter_zip st.1 h
section
variable {X : Cx}
def iZipL (K : PySem.W.Frag) (tl : TA) : TI := fun σ H R => tl σ H fun vs H1 => ∃ a b, vs = [.ref a, .ref b] ∧ (∃ xs, SqL K H1 a xs) ∧ (∃ ys, SqL K H1 b ys) ∧ R (Itzl K a b) H1
theorem pi_zipL {elts : List Expr} {x1 : _} {tpos : Pos} {l r : Expr} {tl : TA} {p pos : Pos} (hg : Gl X "zip") (hm : X.mg "zip" = none) (hl : PA X [l, r] tl) (hs : starEach [l, r] X.env = [(false, eval l X.env), (false, eval r X.env)] := by rfl) (hs2 : starEach [r] X.env = [(false, eval r X.env)] := by rfl) :
    PI X (.Tuple elts x1 tpos) (.Call (.Name "zip" p) [l, r] [] pos) (iZipL X.K tl) := by
  intro pins s σ H R I h
  refine Call_ (ld_blt I hg hm bt_zip (PyProof.Rows.callWith_type1 (thn (hl pos pins s σ H _ I h) fun us s1 ⟨vs, H1, I1, r1, q1⟩ => ?_) (by rw [hs, hs2]) (by rw [hs2]; rfl)))
  obtain ⟨a, b, e, ⟨xs, hq1⟩, ⟨ys, hq2⟩, q⟩ := q1
  subst e
  cases r1 with
  | cons ra rr =>
    cases rr with
    | cons rb rr =>
      cases rr
      cases ra
      cases rb
      obtain ⟨its, rv, p1', _⟩ := I1.list hq1
      have p1 : s1.heap.IsList a its.toArray := p1'.isList
      obtain ⟨jts, rv2, p2', _⟩ := I1.list hq2
      have p2 : s1.heap.IsList b jts.toArray := p2'.isList
      have la : a < s1.heap.objs.size := by obtain ⟨o, e, _⟩ := p1; exact Heap.lt_size e
      have lb : b < s1.heap.objs.size := by obtain ⟨o, e, _⟩ := p2; exact Heap.lt_size e
      refine call_zip_2 p1 p2 fun h' g5 g3 g4 g1 g2 _ hk => ?_
      refine wpAny_pyIter_zip g5 ?_
      have le : ∀ c ∈ [s1.heap.objs.size + 4, s1.heap.objs.size + 2, s1.heap.objs.size + 3, s1.heap.objs.size, s1.heap.objs.size + 1], s1.heap.objs.size ≤ c := fun c hc => by
        simp only [List.mem_cons, List.not_mem_nil, or_false] at hc
        rcases hc with rfl | rfl | rfl | rfl | rfl <;> first | exact Nat.le_refl _ | exact Nat.le_add_right _ _
      have ad : ∀ {i j : Nat}, i ≠ j → s1.heap.objs.size + i ≠ s1.heap.objs.size + j := fun h z => h (Nat.add_left_cancel z)
      have a0 : ∀ {j : Nat}, 0 ≠ j → s1.heap.objs.size ≠ s1.heap.objs.size + j := fun h z => h (Nat.add_left_cancel (show s1.heap.objs.size + 0 = _ from z))
      refine ⟨s1.heap.objs.size + 4, [s1.heap.objs.size + 4, s1.heap.objs.size + 2, s1.heap.objs.size + 3, s1.heap.objs.size, s1.heap.objs.size + 1], _, _, H1, rfl, I1.kept (t' := s1.toks) hk,
        turn_zipL a b (s1.heap.objs.size + 4) (s1.heap.objs.size + 2) (s1.heap.objs.size + 3) s1.heap.objs.size (s1.heap.objs.size + 1) (ad (by decide)) (ad (by decide)) (ad (by decide)) (a0 (by decide)) (ad (by decide)) (Ne.symm (a0 (by decide))) (ad (by decide)) (Ne.symm (a0 (by decide))) (ad (by decide)) (a0 (by decide))
          (fun c hc => Nat.ne_of_lt (Nat.lt_of_lt_of_le la (le c hc))) (fun c hc => Nat.ne_of_lt (Nat.lt_of_lt_of_le lb (le c hc))), ⟨g5, g3, ⟨_, _, g4⟩, g1, g2⟩, fun c hc => I1.fpOk (le c hc) (I1.hok.fresh (le c hc)), q⟩
end

/-- [.. for x, y in zip(l, m)], of one length, the names in the block's slots 0 and 1 -/
theorem comp_zipL {K : PySem.W.Frag} {a b : Addr} {xs zs : List V} {ix : List (Option Nat)} {g : TG} {te : TE} {σ : St} {H : Hp} {Qd : Addr → Hp → Prop} (hlen : xs.length = zs.length) (Pv : Addr → Nat → List V → Hp → Prop)
    (hg : ∀ (T : Addr) (σ : St) (H : Hp) (Q : St → Hp → Prop) (x y : V), H T = some (.tup [x, y]) → Q ((σ.set 0 (some x)).set 1 (some y)) H → g (.ref T) σ H Q)
    (h0 : ∀ D, H D = none → Pv D 0 [] (upd H D (.lst [])))
    (hl : ∀ D i ys H', H D = none → i ≤ xs.length → H' D = some (.lst ys) → Pv D i ys H' → SqL K H' a xs ∧ SqL K H' b zs)
    (hs : ∀ D i ys H' T x z (Q' : VK), H D = none → xs[i]? = some x → zs[i]? = some z → H' D = some (.lst ys) → Pv D i ys H' → H' T = none → (∀ y H4, H4 D = some (.lst ys) → ys.length < sizeLine → Pv D (i + 1) (ys ++ [y]) (upd H4 D (.lst (ys ++ [y]))) → Q' y H4) →
      te (((blockSt ix σ).set 0 (some x)).set 1 (some z)) (upd H' T (.tup [x, z])) Q')
    (hd : ∀ D ys H', H D = none → H' D = some (.lst ys) → Pv D xs.length ys H' → Qd D H') : CompW (Itzl K a b) ix g te σ H Qd := by
  intro D hD
  refine ⟨fun i m σ' H' => m = xs.length - i ∧ i ≤ xs.length ∧ (σ' = blockSt ix σ ∨ ∃ t u, σ' = ((blockSt ix σ).set 0 t).set 1 u) ∧ ∃ ys, H' D = some (.lst ys) ∧ Pv D i ys H', ⟨xs.length, by simp, Nat.zero_le _, .inl rfl, [], upd_same, h0 D hD⟩, ?_⟩
  rintro i m σ' H' ⟨rfl, hi, hσ, ys, hy, p⟩
  have q := hl D i ys H' hD hi hy p
  by_cases hlt : i < xs.length
  · refine .inr ⟨⟨xs, zs, xs[i], zs[i]'(by omega), q.1, q.2, by simp [hlt], by rw [List.getElem?_eq_getElem (by omega)]⟩, fun x H2 y => ?_⟩
    obtain ⟨T, x0, y0, rfl, hT, rfl, y1, y2⟩ := y
    have e1 := y1 xs q.1
    have e2 := y2 zs q.2
    refine hg T σ' _ _ x0 y0 upd_same ?_
    have es : ((σ'.set 0 (some x0)).set 1 (some y0)) = ((blockSt ix σ).set 0 (some x0)).set 1 (some y0) := by
      rcases hσ with z | ⟨t, u, z⟩
      · rw [z]
      · rw [z, set2_set]
    show te ((σ'.set 0 (some x0)).set 1 (some y0)) _ _
    rw [es]
    refine hs D i ys _ T x0 y0 _ hD e1 e2 hy p hT fun y H4 h4 hz p4 => ⟨ys, h4, hz, xs.length - (i + 1), by omega, rfl, hlt, .inr ⟨_, _, rfl⟩, ys ++ [y], upd_same, p4⟩
  · have e : i = xs.length := by omega
    subst e
    exact .inl ⟨⟨xs, q.1, rfl⟩, hd D ys H' hD hy p⟩
section
variable {X : Cx}
theorem pg_tupK (K : PySem.W.Frag) {es : List Expr} {k : Nat} {pos : Pos} {t : TGs} {n : Nat} (hc : X.calm = true) (h : PGs X es t) (hK : X.K = K := by rfl)
    (hn : (assignEach es X.env).length = n := by rfl) (hst : (assignEach es X.env).findIdx? (·.1) = none := by rfl) : PG X (.Tuple es k pos) (gTup K n t) := by
  subst hK
  exact pg_tup hc h hn hst
theorem pe_me0 {m : Str} {C : Addr} {j k : Nat} {ps : List Str} {sp : Sp} {apos pos : Pos} {o : Expr} {ta : TE} {pl : Sem Bool} (G : DefMe X.prog X.w X.K X.mg X.base C m k ps sp) (hr : Room j X.A) (ho : PE X o ta) (hkj : k ≤ j := by decide)
    (ht : eval (.Call (.Attribute o m apos) [] [] pos) X.env = (do
      let ov ← eval o X.env
      standAt apos.atName
      let (f, first) ← holding [ov] (getMethod ov m pl)
      callWith pos f first (backTo pos (starEach [] X.env)) (backToKw pos (keywordEach [] X.env))) := by rfl) :
    PE X (.Call (.Attribute o m apos) [] [] pos) (tMeth C m sp [] E0 ta tNil) := by
  obtain ⟨f, fd, hm, hb, F⟩ := G.ex
  exact pe_meth0 ho G.cl hm F (hr.mono hkj) hb .nil pass0 ht
def rSumL (K : PySem.W.Frag) : List V → Hp → VK → Prop := fun xs H Q => ∃ (a : Addr) (ns : List Int), xs = [.ref a] ∧ SqL K H a (ns.map V.int) ∧ Q (.int (sumI ns)) H
theorem call_sumL (hc : X.calm = true) : CallR X (.builtin "sum") (rSumL X.K) := by
  intro pins s σ H xs us Q I r h
  obtain ⟨a, ns, rfl, hS, q⟩ := h
  obtain ⟨u, rfl, ru⟩ := r.one
  cases (show u = Value.ref a from ru)
  obtain ⟨its, rv, ht', hz⟩ := I.list hS
  have ht : s.heap.IsList a its.toArray := ht'.isList
  have hlen := rv.length
  rw [List.length_map] at hlen
  have hlt : a < s.heap.objs.size := by obtain ⟨_, e, _⟩ := ht; exact Heap.lt_size e
  refine call_sum_walkG (wpAny_pyIter_list ht ?_)
  have W := Walks.list (prog := X.prog) (w := X.w) (A := X.A.in1) (I.ok.hd hc) s.heap.objs.size a (Nat.ne_of_lt hlt) its.toArray
  refine ⟨_, _, _, _, _, _, fun i => ns.getD i 0, rfl, W, ⟨⟨_, Heap.get?_push_size _ rfl, rfl, rfl⟩, ht.at fun o e => Heap.get?_push_of_some _ e⟩, fun b hb => ?_, fun i v hv => ?_, fun h' tk t' hk => ?_⟩
  · rcases List.mem_cons.mp hb with z | z
    · rw [z]; show _ < (Heap.push _ _).objs.size; rw [Heap.size_push]; exact Nat.lt_succ_self _
    · rw [List.mem_singleton.mp z]; show _ < (Heap.push _ _).objs.size; rw [Heap.size_push]; exact Nat.lt_succ_of_lt hlt
  · have e' : its[i]? = some v := by simpa using hv
    obtain ⟨n, t, e1, e2⟩ := vals_int rv i v e'
    exact ⟨t, by rw [e2]; show Value.int n t = Value.int (ns.getD i 0) t; rw [List.getD_eq_getElem?_getD, e1]; rfl⟩
  · have I1 : Inv X pins σ H { s with heap := h', toks := tk } := I.kept (t' := tk) fun b o e => hk b o (fun hm => by
      rw [List.mem_singleton.mp hm] at e
      exact Nat.lt_irrefl _ (Heap.lt_size e)) (Heap.get?_push_of_some _ e)
    refine ⟨.int (sumI ns), H, I1, ⟨t', ?_⟩, q⟩
    show Value.int _ _ = Value.int _ _
    rw [List.size_toArray, ← hlen, preSum_foldl ns _ (Nat.le_refl _), List.take_length]
    rfl
def rIsO (K : PySem.W.Frag) : List V → Hp → VK → Prop := fun xs H Q => ∃ (x c : V) (t cv : Value) (b : Bool), xs = [x, c] ∧ TyOf K H x t ∧ clsV c = some cv ∧ PySem.W.kitOne K t cv = some b ∧ Q (.bl b) H
theorem call_isO : CallR X (.builtin "isinstance") (rIsO X.K) := by
  intro pins s σ H xs us Q I r h
  obtain ⟨x, c, t, cv, b, rfl, ty, hc, e, q⟩ := h
  obtain ⟨u, v, rfl, ru, rv⟩ := r.two
  cases clsV_rel hc rv
  exact isinst_ok I ru ty e fun tk => ⟨.bl b, H, I.tok tk, rfl, q⟩
end
end L2

set_option Elab.async false
set_option linter.all false
set_option maxRecDepth 100000
set_option maxHeartbeats 4000000
/-! a comprehension whose own name is read by a comprehension inside of it: one cell of the block's own -/
namespace L2
open PySem PySem.Spec PyProof.Rows
theorem relabel_cell {env : Env} : ∀ {names : List (Str × NameKind)} {x : Str}, names.lookup x = some .cell →
    (names.map fun (n, k) => if (k == NameKind.free && env.scope.kind == .function && env.kindOf n == some .cell) then (n, NameKind.cell) else (n, k)).lookup x = some .cell
  | [], _, h => by simp at h
  | (n, k) :: r, x, h => by
    have ih := @relabel_cell env r x
    show List.lookup x ((if (k == NameKind.free && env.scope.kind == .function && env.kindOf n == some .cell) = true then (n, NameKind.cell) else (n, k)) :: _) = _
    cases hx : x == n with
    | true =>
      simp only [List.lookup_cons, hx] at h
      cases h
      rw [if_neg (by simp)]
      simp [List.lookup_cons, hx]
    | false =>
      simp only [List.lookup_cons, hx] at h
      by_cases hc : (k == NameKind.free && env.scope.kind == .function && env.kindOf n == some .cell) = true
      · rw [if_pos hc]; simp only [List.lookup_cons, hx]; exact ih h
      · rw [if_neg hc]; simp only [List.lookup_cons, hx]; exact ih h
theorem relabel_back1 {env : Env} : ∀ {names : List (Str × NameKind)} {x : Str} {k' : NameKind}, k' = .cell ∨ k' = .free →
    (names.map fun (n, k) => if (k == NameKind.free && env.scope.kind == .function && env.kindOf n == some .cell) then (n, NameKind.cell) else (n, k)).lookup x = some k' → (x, NameKind.free) ∈ names ∨ (x, NameKind.cell) ∈ names
  | [], _, _, _, h => by simp at h
  | (n, k) :: r, x, k', hk', h => by
    have ih := @relabel_back1 env r x k' hk'
    have h' : List.lookup x ((if (k == NameKind.free && env.scope.kind == .function && env.kindOf n == some .cell) = true then (n, NameKind.cell) else (n, k)) :: (r.map fun (n, k) => if (k == NameKind.free && env.scope.kind == .function && env.kindOf n == some .cell) then (n, NameKind.cell) else (n, k))) = some k' := h
    cases hx : x == n with
    | true =>
      have hxn : x = n := by simpa using hx
      subst hxn
      by_cases hc : (k == NameKind.free && env.scope.kind == .function && env.kindOf x == some .cell) = true
      · have hk : k = .free := by
          simp only [Bool.and_eq_true, beq_iff_eq] at hc
          exact hc.1.1
        subst hk
        exact .inl List.mem_cons_self
      · rw [if_neg hc] at h'
        simp only [List.lookup_cons, beq_self_eq_true] at h'
        have hk : k = k' := Option.some.inj h'
        rcases hk' with z | z
        · rw [hk, z]; exact .inr List.mem_cons_self
        · rw [hk, z]; exact .inl List.mem_cons_self
    | false =>
      have up : (x, NameKind.free) ∈ r ∨ (x, NameKind.cell) ∈ r := by
        refine ih ?_
        by_cases hc : (k == NameKind.free && env.scope.kind == .function && env.kindOf n == some .cell) = true
        · rw [if_pos hc] at h'
          simpa only [List.lookup_cons, hx] using h'
        · rw [if_neg hc] at h'
          simpa only [List.lookup_cons, hx] using h'
      rcases up with z | z
      · exact .inl (List.mem_cons_of_mem _ z)
      · exact .inr (List.mem_cons_of_mem _ z)
theorem BlkScope.rel {NX : List Str} {scX : Scope} {N : List Str} {ix : List (Option Nat)} {sc : Scope} {env : Env} (S : BlkScope NX scX N ix sc) : BlkScope NX (relabel scX env) N ix sc :=
  ⟨S.kind, S.nd, S.nocell, S.locs, fun y hy hf => by
    rcases S.free y hy hf with z | z
    · exact .inl (relabel_cell z)
    · exact relabel_free z, S.len, S.at_⟩
/-- the block's names; x, one of its own, is a cell -/
structure BlkScope1 (NX : List Str) (scX : Scope) (N : List Str) (ix : List (Option Nat)) (sc : Scope) (x : Str) : Prop where
  kind : sc.kind = .function
  nd : N.Nodup
  cell : sc.names.lookup x = some .cell
  only : ∀ y ∈ sc.names, y.2 = .cell → y.1 = x
  lay : ∀ n cl, cellsFrom n sc.names cl = (x, n) :: cl
  lays : ∀ h, pushCells h sc.names = h.push { cls := .type "cell", data := .cell none }
  locs : ∀ y ∈ sc.names, y.2 = .local → sc.names.lookup y.1 = some .local
  free : ∀ y ∈ sc.names, y.2 = .free → scX.names.lookup y.1 = some .cell ∨ scX.names.lookup y.1 = some .free
  nofree : ∀ y ∈ sc.names, y.2 = .free → y.1 ≠ x
  len : ix.length = N.length
  at_ : ∀ p ∈ N.zip ix, ∀ i, p.2 = some i → NX[i]? = some p.1 ∧ sc.names.lookup p.1 = some .free
def cxComp1 (X : Cx) (N : List Str) (scope : Scope) (x : Str) (fp : List Addr) (s : Shared) (H : Hp) (C c : Addr) : Cx :=
  { prog := X.prog, w := X.w, K := X.K, mg := X.mg, base := X.base, A := X.A, N := N, s₀ := s, H₀ := H, env := compEnvC scope ((x, c) :: closList X.env.cells scope.names []) C X.env, outer := X.stack, stack := X.stack, ex := fp, fn := fun y => y == x, calm := X.calm, pn := X.pn, xe := fun _ _ => False }
section
variable {X : Cx} {pins : List (Addr × Obj)} {σ : St} {H : Hp} {s : Shared} {N : List Str} {ix : List (Option Nat)} {scope : Scope} {fp : List Addr} {x : Str}
theorem BlkScope1.clos (S : BlkScope1 X.N X.env.scope N ix scope x) (ok : X.Ok) : ∀ y ∈ scope.names, y.2 = .free → ∃ c, X.env.cells.lookup y.1 = some c := fun y hy hf => ok.has y.1 (S.free y hy hf)
theorem inv_block1 {D C c : Addr} {h' : Heap} {tk : Nat} {m : Str → Option Value} (I : Inv X pins σ H s) (S : BlkScope1 X.N X.env.scope N ix scope x) (hf : ∀ b ∈ fp, FpOk X pins H b)
    (hfo : ∀ b ∈ fp, ∃ o, s.heap.get? b = some o ∧ ∀ v, o.data ≠ .cell v)
    (hD : s.heap.objs.size ≤ D) (hC : s.heap.objs.size ≤ C) (hc : s.heap.objs.size ≤ c) (hDC : D ≠ C) (hcD : c ≠ D) (hcC : c ≠ C) (hk : ∀ b o, s.heap.get? b = some o → h'.get? b = some o) (hns : h'.Ns C m)
    (hl : ∃ n, h'.get? D = some { cls := .type "list", data := .seq ([] : List Value).toArray n }) (hce : h'.get? c = some { cls := .type "cell", data := .cell none }) :
    Inv (cxComp1 X N scope x fp s H C c) pins (blockSt ix σ) (upd H D (.lst [])) { s with heap := h', toks := tk } := by
  have fresh : ∀ {a : Addr}, s.heap.objs.size ≤ a → H a = none := fun h => I.hok.fresh h
  have cl_of : ∀ y d, (closList X.env.cells scope.names []).lookup y = some d → X.env.cells.lookup y = some d := fun y d e => by
    rcases closList_some _ _ _ e with ⟨h1, h2⟩ | h1
    · obtain ⟨c', e'⟩ := S.clos I.ok _ h1 rfl
      have e'' : X.env.cells.lookup y = some c' := e'
      rw [e''] at h2
      rw [e'']
      exact congrArg some h2
    · simp at h1
  have lk : ∀ y d, ((x, c) :: closList X.env.cells scope.names []).lookup y = some d → (y = x ∧ d = c) ∨ (y ≠ x ∧ X.env.cells.lookup y = some d) := fun y d e => by
    cases hy : y == x with
    | true =>
      simp only [List.lookup_cons, hy] at e
      exact .inl ⟨by simpa using hy, (Option.some.inj e).symm⟩
    | false =>
      simp only [List.lookup_cons, hy] at e
      exact .inr ⟨by simpa using hy, cl_of y d e⟩
  have lkx : ((x, c) :: closList X.env.cells scope.names []).lookup x = some c := by simp
  have lky : ∀ {y d}, y ≠ x → (closList X.env.cells scope.names []).lookup y = some d → ((x, c) :: closList X.env.cells scope.names []).lookup y = some d := fun {y d} hy e => by
    have : (y == x) = false := by simpa using hy
    simp only [List.lookup_cons, this]; exact e
  have ltO : ∀ {b : Addr} {o : Obj}, s.heap.get? b = some o → b < s.heap.objs.size := fun e => Heap.lt_size e
  have neC : ∀ {b : Addr} {o : Obj}, s.heap.get? b = some o → b ≠ C := fun e => Nat.ne_of_lt (Nat.lt_of_lt_of_le (ltO e) hC)
  have neD : ∀ {b : Addr} {o : Obj}, s.heap.get? b = some o → b ≠ D := fun e => Nat.ne_of_lt (Nat.lt_of_lt_of_le (ltO e) hD)
  have nec : ∀ {b : Addr} {o : Obj}, s.heap.get? b = some o → b ≠ c := fun e => Nat.ne_of_lt (Nat.lt_of_lt_of_le (ltO e) hc)
  have cellG : ∀ y d, X.env.cells.lookup y = some d → ∃ o, s.heap.get? d = some o := fun y d e => by
    obtain ⟨v, o, ho, _⟩ := I.cell y d e
    exact ⟨o, ho⟩
  refine ⟨⟨I.ok.mod, ?_, I.ok.glob, I.ok.blt, hC, fun y z d e1 e2 => ?_, fun y hy => ?_, fun y d h e => ?_, I.ok.hd, I.ok.frames, .inl rfl, fun b hb => ?_, I.bs, Nat.le_trans I.ok.bsz I.sz, fun b o e hb => ?_, fun b hb hb2 => ?_, I.stack, I.stkFree⟩,
    rfl, I.bare, Un.laid hk hD (fresh hD), ⟨m, hns, fun j y v e1 e2 e3 => ?_⟩, fun y d e => ?_, ?_, fun y d e => ?_, fun p hp => ?_, I.hok.laid hk hD ?_, ?_⟩
  · exact S.kind
  · rcases lk y d e1 with ⟨a1, a2⟩ | ⟨a1, a2⟩
    · rcases lk z d e2 with ⟨b1, b2⟩ | ⟨b1, b2⟩
      · rw [a1, b1]
      · obtain ⟨o, ho⟩ := cellG z d b2
        exact absurd a2 (nec ho)
    · rcases lk z d e2 with ⟨b1, b2⟩ | ⟨b1, b2⟩
      · obtain ⟨o, ho⟩ := cellG y d a2
        exact absurd b2 (nec ho)
      · exact I.ok.inj y z d a2 b2
  · have hy' : (y, NameKind.free) ∈ scope.names ∨ (y, NameKind.cell) ∈ scope.names := by
      rcases hy with hy | hy
      · exact relabel_back1 (.inl rfl) hy
      · exact relabel_back1 (.inr rfl) hy
    rcases hy' with z | z
    · obtain ⟨d, e⟩ := S.clos I.ok _ z rfl
      exact ⟨d, lky (S.nofree _ z rfl) (closList_has _ e _ _ (.inl z))⟩
    · have : y = x := S.only _ z rfl
      rw [this]
      exact ⟨c, lkx⟩
  · have hx : y = x := by
      have h' : (y == x) = true := h
      simpa using h'
    rcases lk y d e with ⟨a1, a2⟩ | ⟨a1, a2⟩
    · rw [a2]; exact hc
    · exact absurd hx a1
  · obtain ⟨f0, f1, f2, f3, f4, f5⟩ := hf b hb
    obtain ⟨o, e, _⟩ := hfo b hb
    refine ⟨neC e, fun y d ec => ?_⟩
    rcases lk y d ec with ⟨a1, a2⟩ | ⟨a1, a2⟩
    · rw [a2]; exact Ne.symm (nec e)
    · exact f4 y d a2
  · obtain ⟨f0, f1, f2, f3, f4, f5⟩ := hf b hb
    rcases f3 with z | z
    · exact I.ok.noex b o e z
    · exact absurd (Nat.lt_of_lt_of_le (Heap.lt_size (I.ok.bs b o e).1) z) (Nat.lt_irrefl _)
  · obtain ⟨f0, f1, f2, f3, f4, f5⟩ := hf b hb
    rcases List.mem_cons.mp (I.stkSub b hb2) with z | z
    · exact f1 z
    · exact f2 z
  · -- a name's value
    obtain ⟨mX, hnX, hlX⟩ := id I.loc
    have hj : (blockSt ix σ)[j]? = some (some v) := e2
    unfold blockSt at hj
    rw [List.getElem?_map] at hj
    cases ej : ix[j]? with
    | none => rw [ej] at hj; cases hj
    | some o =>
      rw [ej] at hj
      cases o with
      | none => cases hj
      | some i =>
        have hj' : (σ[i]?).join = some v := Option.some.inj hj
        have hz : (y, some i) ∈ N.zip ix := List.mem_iff_getElem?.mpr ⟨j, by rw [List.getElem?_zip_eq_some]; exact ⟨e1, ej⟩⟩
        obtain ⟨hNi, hfr⟩ := S.at_ _ hz i rfl
        have hmem := mem_lookup_free hfr
        have hσ : σ[i]? = some (some v) := by
          cases q : σ[i]? with
          | none => rw [q] at hj'; cases hj'
          | some w' =>
            rw [q] at hj'
            have q' : w' = some v := hj'
            rw [q']
        have hvx : X.env.scope.names.lookup y = some .cell ∨ X.env.scope.names.lookup y = some .free := S.free _ hmem rfl
        obtain ⟨u, r, lk'⟩ := hlX i y v hNi hσ (.inr hvx)
        refine ⟨u, r, .inr ⟨?_, ?_⟩⟩
        · exact relabel_free hfr
        · rcases lk' with ⟨k, _⟩ | ⟨k, d, ec, ci⟩
          · have k' : X.env.scope.names.lookup y = some .local := k
            rcases hvx with z | z
            · rw [z] at k'; cases k'
            · rw [z] at k'; cases k'
          · obtain ⟨oc, hoc, hocd⟩ := ci
            exact ⟨d, lky (S.nofree _ hmem rfl) (closList_has _ ec _ _ (.inl hmem)), oc, hk d oc hoc, hocd⟩
  · rcases lk y d e with ⟨a1, a2⟩ | ⟨a1, a2⟩
    · rw [a2]; exact ⟨none, _, hce, rfl⟩
    · obtain ⟨v, o, ho, hd⟩ := I.cell y d a2
      exact ⟨v, o, hk d o ho, hd⟩
  · show upd H D (.lst []) C = none
    rw [upd_ne (Ne.symm hDC)]
    exact fresh hC
  · rcases lk y d e with ⟨a1, a2⟩ | ⟨a1, a2⟩
    · rw [a2, upd_ne hcD]; exact fresh hc
    · obtain ⟨o, ho⟩ := cellG y d a2
      rw [upd_ne (neD ho)]
      exact I.freeC y d a2
  · obtain ⟨e, n, ne, nf, d⟩ := I.pin p hp
    refine ⟨hk _ _ e, by rw [upd_ne (neD e)]; exact n, neC e, fun z => ?_, d⟩
    rcases List.mem_cons.mp (I.stkSub p.1 z) with q | q
    · exact ne q
    · exact nf q
  · obtain ⟨n, hl⟩ := hl
    exact ⟨Nat.zero_le _, [], n, .nil, hl⟩
  · show (blockSt ix σ).length = N.length
    unfold blockSt
    rw [List.length_map]
    exact S.len
theorem newEnv1 {M : Model} {A : Around} {E : Value → Shared → Prop} {s : Shared} {globals : Addr} {cl : List (Str × Addr)} {qual : Str} {env : Env} {Q : Env → Shared → Prop} (hlay : ∀ n cl, cellsFrom n scope.names cl = (x, n) :: cl)
    (hlays : ∀ h, pushCells h scope.names = h.push { cls := .type "cell", data := .cell none })
    (h : Q { scope, locals := s.heap.objs.size, globals, cells := (x, s.heap.objs.size + 1) :: cl, qual, func := none, code := env.code, frame := env.frame, builtins := env.builtins }
      { s with heap := (s.heap.push { cls := .type "dict", data := .dict #[] }).push { cls := .type "cell", data := .cell none } }) :
    wpAny M A (newFunctionEnv scope globals cl [] qual none .none (some env)) Q E s := by
  simp only [newFunctionEnv, Option.isSome_some, if_true]
  refine wpAny_bind (wpAny_alloc ?_)
  refine wpAny_bind (wpAny_layCells _ (fun name kind cells => by cases hkc : kind == NameKind.cell <;> simp [hkc]) _ _ _ _ ?_)
  rw [hlay, hlays, show ({ s with heap := s.heap.push { cls := .type "dict", data := .dict #[] } } : Shared).heap.objs.size = s.heap.objs.size + 1 from Heap.size_push ..]
  exact wpAny_bind (wpAny_pure (wpAny_pure h))
variable {tg elt iter : Expr} {pos spos : Pos} {J : It} {it : Addr} {tn : Nat → Heap → Prop} {g : TG} {te : TE} {wi : TI}
theorem comp_run1 {Qd : Addr → Hp → Prop} {RR : Value → Addr → Result → Shared → Prop} {E : Value → Shared → Prop} (I : Inv X pins σ H s) (hc : X.calm = true) (S : BlkScope1 X.N X.env.scope N ix scope x) (T : Turn X.prog X.w X.K tg J fp it tn) (st : tn 0 s.heap) (f2 : ∀ b ∈ fp, FpOk X pins H b)
    (hg : ∀ C c, PG (cxComp1 X N scope x fp s H C c) tg g) (he : ∀ C c, PE (cxComp1 X N scope x fp s H C c) elt te) (hW : CompW J ix g te σ H Qd)
    (hR : ∀ D C s' H' m, Inv X pins σ H' s' → s'.heap.Ns C m → FpOk X pins H' C → Qd D H' → RR (.ref D) C (.ok .next) s') :
    wpAny (model X.prog X.w) X.A (newList []) (fun acc s₃ => wpAny (model X.prog X.w) X.A (newFunctionEnv scope X.env.globals (closList X.env.cells scope.names []) [] X.env.qual none .none (some X.env)) (fun cenv s₄ =>
      codeAny (model X.prog X.w) X.A (.compStart (.ListComp elt [⟨tg, iter, [], 0⟩] scope pos) 0 (.ref it) acc { cenv with scope := relabel scope X.env }) (RR acc cenv.locals) s₄) E s₃) E s := by
  refine wpAny_newObj_type (newEnv1 S.lay S.lays ?_)
  dsimp only
  generalize hH2 : s.heap.push { cls := .type "list", dict := none, data := .seq ([] : List Value).toArray } = H2
  have hC : H2.objs.size = s.heap.objs.size + 1 := by rw [← hH2, Heap.size_push]
  generalize hH3 : H2.push { cls := .type "dict", data := .dict #[] } = H3
  have hC3 : H3.objs.size = H2.objs.size + 1 := by rw [← hH3, Heap.size_push]
  generalize hh₁ : H3.push { cls := .type "cell", data := .cell none } = h₁
  have hDC : s.heap.objs.size ≠ H2.objs.size := by rw [hC]; exact Nat.ne_of_lt (Nat.lt_succ_self _)
  have hCle : s.heap.objs.size ≤ H2.objs.size := by rw [hC]; exact Nat.le_succ _
  have hcle : s.heap.objs.size ≤ H2.objs.size + 1 := Nat.le_succ_of_le hCle
  have below : ∀ b, b < s.heap.objs.size → b ≠ H2.objs.size := fun b hb => by rw [hC]; exact Nat.ne_of_lt (Nat.lt_succ_of_lt hb)
  have up : ∀ b o, H2.get? b = some o → h₁.get? b = some o := fun b o e => by rw [← hh₁, ← hH3]; exact Heap.get?_push_of_some _ (Heap.get?_push_of_some _ e)
  have old : ∀ b o, s.heap.get? b = some o → h₁.get? b = some o := fun b o e => up b o (hH2 ▸ Heap.get?_push_of_some _ e)
  have hacc : ∃ n, h₁.get? s.heap.objs.size = some { cls := .type "list", data := .seq ([] : List Value).toArray n } := ⟨_, up _ _ (hH2 ▸ Heap.get?_push_size _ rfl)⟩
  have hns₁ : h₁.Ns H2.objs.size (fun _ => none) := by
    rw [← hh₁, ← hH3]
    exact (Heap.Ns.new H2 (.type "dict")).keeps fun b o e => Heap.get?_push_of_some _ e
  have hce : h₁.get? (H2.objs.size + 1) = some { cls := .type "cell", data := .cell none } := by
    rw [← hh₁, ← hC3]
    exact Heap.get?_push_size _ rfl
  have st1 : tn 0 h₁ := T.keep _ _ _ st fun b _ o e => old b o e
  have fo : ∀ b ∈ fp, ∃ o, s.heap.get? b = some o ∧ ∀ v, o.data ≠ .cell v := T.obj _ _ st
  have hcD : H2.objs.size + 1 ≠ s.heap.objs.size := by rw [hC]; exact Nat.ne_of_gt (Nat.lt_succ_of_lt (Nat.lt_succ_self _))
  have hcC : H2.objs.size + 1 ≠ H2.objs.size := Nat.succ_ne_self _
  have I0 : Inv (cxComp1 X N scope x fp s H H2.objs.size (H2.objs.size + 1)) pins (blockSt ix σ) (upd H s.heap.objs.size (.lst [])) { s with heap := h₁ } :=
    inv_block1 (tk := s.toks) I S f2 fo (Nat.le_refl _) hCle hcle hDC hcD hcC old hns₁ hacc hce
  have freshD : H s.heap.objs.size = none := I.hok.fresh (Nat.le_refl _)
  obtain ⟨W, ⟨m0, w0⟩, turn⟩ := hW s.heap.objs.size freshD
  have cl_ne : ∀ b ∈ fp, b ≠ H2.objs.size := fun b hb => by
    obtain ⟨o, e, _⟩ := fo b hb
    exact below b (Heap.lt_size e)
  have stat : ∀ {H' : Hp}, (∀ b ∈ fp, H' b = none) → ∀ b ∈ fp, FpOk (cxComp1 X N scope x fp s H H2.objs.size (H2.objs.size + 1)) pins H' b := fun hn b hb => by
    obtain ⟨f0, f1, f3, f4, f5, f6⟩ := f2 b hb
    exact ⟨hn b hb, cl_ne b hb, I0.ok.exfs b hb, .inl hb, (I0.ok.exf b hb).2, f6⟩
  have fr0 : ∀ b ∈ fp, (upd H s.heap.objs.size (.lst [])) b = none := fun b hb => by
    obtain ⟨o, e, _⟩ := fo b hb
    rw [upd_ne (Nat.ne_of_lt (Heap.lt_size e))]
    exact (f2 b hb).1
  have loop : codeAny (model X.prog X.w) X.A (.compLoop (.ListComp elt [⟨tg, iter, [], 0⟩] scope pos) 0 (.ref it) (.ref s.heap.objs.size) (compEnvC scope ((x, H2.objs.size + 1) :: closList X.env.cells scope.names []) H2.objs.size X.env))
      (RR (.ref s.heap.objs.size) H2.objs.size) { s with heap := h₁ } := by
    refine compLoop_by (fun n s' => ∃ i σ' H', Inv (cxComp1 X N scope x fp s H H2.objs.size (H2.objs.size + 1)) pins σ' H' s' ∧ tn i s'.heap ∧ (∀ b ∈ fp, H' b = none) ∧ W i n σ' H') ?_ m0 ⟨0, _, _, I0, st1, fr0, w0⟩
    rintro n s3 ⟨i, σ3, H3, I3, st3, fr3, w3⟩
    rcases turn i n σ3 H3 w3 with ⟨stop, qn⟩ | ⟨go, step⟩
    · refine thn (T.done (cxComp1 X N scope x fp s H H2.objs.size (H2.objs.size + 1)) rfl rfl rfl hc i pins s3 σ3 H3 _ I3 (stat fr3) st3 stop) fun r s4 ⟨hr, I4⟩ => ?_
      subst hr
      obtain ⟨m4, hn4, _⟩ := id I4.loc
      refine hR _ _ s4 H3 m4 ?_ hn4 (I.fpOk hCle I4.free) qn
      exact I.call' (ch := fp) I4.os I4.base I4.hok I4.bare fun b hb => by
        obtain ⟨f0, f1, f3, f4, f5, f6⟩ := f2 b hb
        exact ⟨f4, f1, f5, f6⟩
    · refine thn (T.item (cxComp1 X N scope x fp s H H2.objs.size (H2.objs.size + 1)) rfl rfl rfl hc i pins s3 σ3 H3 _ I3 (stat fr3) st3 go) fun r s4 ⟨u, hr, h4⟩ => ?_
      subst hr
      refine thn h4 fun _ s5 ⟨y, H5, I5, r5, y5, st5, fr5⟩ => ?_
      have I5' := I5.pinned (stat fr5) (T.obj _ _ st5)
      refine thn (hg _ _ _ s5 σ3 H5 y u _ I5' r5 (step y H5 y5)) fun _ s6 ⟨σ6, H6, I6, q6⟩ => ?_
      refine thn (he _ _ _ s6 σ6 H6 _ I6 q6) fun yv s7 ⟨y, H7, I7, r7, ys, hD7, hz7, m', hm, w7⟩ => ?_
      refine thn (mt_append (X := cxComp1 X N scope x fp s H H2.objs.size (H2.objs.size + 1)) _ s7 σ6 H7 (.ref s.heap.objs.size) [y] (.ref s.heap.objs.size) [yv] (fun _ H8 => W (i + 1) m' σ6 H8) I7 rfl (.cons r7 .nil) ⟨_, ys, y, rfl, rfl, hD7, hz7, w7⟩) fun _ s8 ⟨_, H8, I8, _, w8⟩ => ?_
      refine ⟨m', hm, i + 1, σ6, H8, I8.unpinned, T.keep _ _ _ st5 fun b hb o e => (I8.pin (b, o) (List.mem_append_right _ (List.mem_append_right _ (mem_pinsAt hb e)))).1, fun b hb => ?_, w8⟩
      obtain ⟨o, e, d⟩ := T.obj _ _ st5 b hb
      exact (I8.pin (b, o) (List.mem_append_right _ (List.mem_append_right _ (mem_pinsAt hb e)))).2.1
  exact codeAny_compStart_list loop (T.self _ _ _ _ _ st1 loop)
theorem pe_comp1 (hc : X.calm = true) (S : BlkScope1 X.N X.env.scope N ix scope x) (hi : PI X tg iter wi) (hg : ∀ fp s H C c, PG (cxComp1 X N scope x fp s H C c) tg g) (he : ∀ fp s H C c, PE (cxComp1 X N scope x fp s H C c) elt te)
    (hs : ∀ x, foldedSetIterable iter X.env x = pure x := by intro _; rfl) : PE X (.ListComp elt [⟨tg, iter, [], 0⟩] scope pos) (tComp ix wi g te) := by
  intro pins s σ H Q I h
  rw [eval_ListComp]
  refine wpAny_comprehension_free (use := none) rfl hs (closureFor_eq (S.clos I.ok)) S.kind S.locs (thn (hi pins s σ H _ I h) fun v s1 h1 => thn h1 fun itv s2 h2 => ?_)
  obtain ⟨it, fp, tn, J, H2, e, I2, T, st2, f2, hW⟩ := h2
  subst e
  refine comp_run1 (RR := fun acc C => compPost (model X.prog X.w) X.A X.xe none (EP X pins σ Q) acc C) I2 hc S T st2 f2 (hg _ _ _) (he _ _ _) hW ?_
  intro D C s' H' m I' hn fC q
  exact ⟨m, hn, fun h' sb => ⟨.ref D, H', I'.turned (t' := s'.toks) (fun b o hb e => (sb.2 b hb).trans e) fC.1 fC.2.1 fC.2.2.2.1 fC.2.2.2.2.1 fC.2.2.2.2.2, rfl, q⟩⟩
theorem call_tuple_ofK (K : PySem.W.Frag) (h : X.K = K := by rfl) : CallR X (.type "tuple") (fun xs H Q => ∃ p ys, xs = [.ref p] ∧ ((SqL K H p ys ∧ ∀ l, H l = none → Q (.ref l) (upd H l (.tup ys))) ∨ (SqT K H p ys ∧ Q (.ref p) H))) := by subst h; exact call_tuple_of
theorem pg_cell1 {i : Nat} {fp : List Addr} {s : Shared} {H : Hp} {C c : Addr} {pos : Pos} (hN : N.Nodup) (hi : N[i]? = some x) (hx : scope.names.lookup x = some .cell) : PG (cxComp1 X N scope x fp s H C c) (.Name x pos) (gName i) :=
  pg_name (X := cxComp1 X N scope x fp s H C c) hN hi (.inr (relabel_cell hx)) (.inl (by show (x == x) = true; simp))
end
end L2

set_option Elab.async false
set_option linter.all false
set_option maxRecDepth 100000
set_option maxHeartbeats 8000000
namespace My
open PySem L2
def top (i : Nat) : Stmt := PySem.Challenge.pw_figuretell_k62_looking.main.body.getD i (.Pass ⟨0, 0, 0, 0⟩)
abbrev s_is_whole : Stmt := top 4
abbrev s_is_whole_from : Stmt := top 5
abbrev s_need_whole : Stmt := top 6
abbrev s_figures : Stmt := top 7
abbrev s_halved : Stmt := top 8
abbrev s_room : Stmt := top 10
abbrev s_weight_of : Stmt := top 14
abbrev s__law_cell_at : Stmt := top 17
abbrev s__law_whole : Stmt := top 18
abbrev s__law_pick : Stmt := top 19
abbrev s__law_rest : Stmt := top 20
abbrev s__law_machine : Stmt := top 21
abbrev s__law_read : Stmt := top 22
abbrev s__law_there : Stmt := top 23
abbrev s__law_walked : Stmt := top 24
abbrev s_law : Stmt := top 25
abbrev s_Walk_begin : Stmt := inClass (top 12) 0
abbrev s_Walk_step : Stmt := inClass (top 12) 1
abbrev s_Walk_sign : Stmt := inClass (top 12) 2
abbrev s_Looking___init__ : Stmt := inClass (top 15) 0
abbrev s_Looking_begin : Stmt := inClass (top 15) 1
abbrev s_Looking_step : Stmt := inClass (top 15) 2
abbrev s_Looking_sign : Stmt := inClass (top 15) 3
/-! ### small helps -/
theorem iteD {c A B : Prop} [Decidable c] (h1 : c → A) (h2 : ¬ c → B) : if decide c = true then A else B := ite2 (fun h => h1 (of_decide_eq_true h)) fun h => h2 fun z => h (decide_eq_true z)
theorem iteDn {c A B : Prop} [Decidable c] (h1 : ¬ c → A) (h2 : c → B) : if (!decide c) = true then A else B := ite2 (fun h => h1 fun z => by rw [decide_eq_true z] at h; cases h) fun h => h2 (Decidable.byContradiction fun z => h (by rw [decide_eq_false z]; rfl))
theorem iteI {a b : Int} {A B : Prop} (h1 : a = b → A) (h2 : a ≠ b → B) : if decide (V.int a = V.int b) = true then A else B := iteD (fun h => h1 (V.int.inj h)) fun h => h2 fun z => h (congrArg V.int z)
theorem mul_in {a b m n : Int} (a0 : 0 ≤ a) (a1 : a ≤ m) (b0 : 0 ≤ b) (b1 : b ≤ n) : 0 ≤ a * b ∧ a * b ≤ m * n := ⟨Int.mul_nonneg a0 b0, Int.mul_le_mul a1 b1 b0 (Int.le_trans a0 a1)⟩
theorem mod_in {a b : Int} (h : 0 < b) : 0 ≤ a % b ∧ a % b < b := ⟨Int.emod_nonneg a (by omega), Int.emod_lt_of_pos a h⟩
theorem cut_seq {t u : TS} {D : Ends} {σ : St} {H : Hp} (R : St → Hp → Prop) (h2 : ∀ σ' H', R σ' H' → u D σ' H') (h1 : (∀ σ' H', R σ' H' → u D σ' H') → tSeq t u D σ H) : tSeq t u D σ H := h1 h2
theorem same_upd {H H' : Hp} {p : Addr} {o : HO} (h : Same H H') (hp : H p = none) : Same H (upd H' p o) := fun b u e => by rw [upd_ne (ne_of_none e hp)]; exact h b u e
def IntsIn (lo hi : Int) (ys : List V) : Prop := ∀ y ∈ ys, ∃ v : Int, y = .int v ∧ lo ≤ v ∧ v < hi
theorem IntsIn.nil {lo hi : Int} : IntsIn lo hi [] := fun y h => by cases h
theorem IntsIn.snoc {lo hi v : Int} {ys : List V} (h : IntsIn lo hi ys) (h0 : lo ≤ v) (h1 : v < hi) : IntsIn lo hi (ys ++ [.int v]) := fun y hy => by
  rcases List.mem_append.mp hy with z | z
  · exact h y z
  · rw [List.mem_singleton.mp z]; exact ⟨v, rfl, h0, h1⟩
/-- the ints of such a row -/
theorem IntsIn.ints {lo hi : Int} : ∀ {ys : List V}, IntsIn lo hi ys → ∃ ns : List Int, ys = ns.map V.int ∧ ∀ z ∈ ns, lo ≤ z ∧ z < hi
  | [], _ => ⟨[], rfl, fun z h => by cases h⟩
  | y :: r, h => by
    obtain ⟨v, e, h0, h1⟩ := h y List.mem_cons_self
    obtain ⟨ns, e2, h2⟩ := IntsIn.ints (ys := r) fun z hz => h z (List.mem_cons_of_mem _ hz)
    refine ⟨v :: ns, by rw [e, e2]; rfl, fun z hz => ?_⟩
    rcases List.mem_cons.mp hz with q | q
    · rw [q]; exact ⟨h0, h1⟩
    · exact h2 z q
theorem nat_of {x : Int} (h : 0 ≤ x) : ∃ n : Nat, x = (n : Int) := ⟨x.toNat, by omega⟩
theorem getD_at {α : Type} {xs : List α} {i : Nat} {d : α} (h : i < xs.length) : xs.getD i d = xs[i] := by simp [h]
/-- a place of a row of ints -/
theorem atI_ints {ns : List Int} {k : Int} (h0 : 0 ≤ k) (h : k < (ns.length : Int)) : atI (ns.map V.int) k = some (.int (ns.getD k.toNat 0)) := by
  have hk : k.toNat < ns.length := by omega
  have ek : k = ((k.toNat : Nat) : Int) := by omega
  have q : atI (ns.map V.int) ((k.toNat : Nat) : Int) = some (.int ns[k.toNat]) := atI_nat (by rw [List.getElem?_map, List.getElem?_eq_getElem hk] <;> rfl)
  rw [← ek] at q
  rw [q, getD_at hk]
theorem atI_refs {ras : List Addr} {k : Int} {ra : Addr} (h0 : 0 ≤ k) (h : ras[k.toNat]? = some ra) : atI (ras.map V.ref) k = some (.ref ra) := by
  have ek : k = ((k.toNat : Nat) : Int) := by omega
  have q : atI (ras.map V.ref) ((k.toNat : Nat) : Int) = some (.ref ra) := atI_nat (by rw [List.getElem?_map, h] <;> rfl)
  rw [← ek] at q
  exact q
/-- ints -/
theorem ints_at {ns : List Int} {i : Nat} {y : V} (h : (ns.map V.int)[i]? = some y) : ∃ z, y = V.int z ∧ ns[i]? = some z := by
  rw [List.getElem?_map] at h
  cases e : ns[i]? with
  | none => rw [e] at h; cases h
  | some z => rw [e] at h; exact ⟨z, (Option.some.inj h).symm, rfl⟩
theorem kit_tuple_tuple (K : PySem.W.Frag) : PySem.W.kitOne K (.type "tuple") (.type "tuple") = some true := by with_unfolding_all rfl
theorem flat_ints (ns : List Int) : (ns.map V.int).all flatV = true := by
  rw [List.all_map]
  exact List.all_eq_true.mpr fun _ _ => rfl
/-! ### machines as data -/
def stepI (rows : List (List Int)) (h f : Int) : Int := (rows.getD h.toNat []).getD f.toNat 0
def walkI (rows : List (List Int)) (row : List Int) (h : Int) : Int := row.foldl (stepI rows) h
/-- many rooms, wide figures -/
structure RowsOk (many wide : Nat) (rows : List (List Int)) : Prop where
  len : rows.length = many
  row : ∀ r ∈ rows, r.length = wide
  val : ∀ r ∈ rows, ∀ v ∈ r, 0 ≤ v ∧ v < (many : Int)
theorem stepI_ok {many wide : Nat} {rows : List (List Int)} {h f : Int} (R : RowsOk many wide rows) (h0 : 0 ≤ h) (h1 : h < many) (f0 : 0 ≤ f) (f1 : f < wide) : 0 ≤ stepI rows h f ∧ stepI rows h f < many := by
  have l1 : h.toNat < rows.length := by rw [R.len]; omega
  have l2 : f.toNat < rows[h.toNat].length := by rw [R.row _ (List.getElem_mem l1)]; omega
  unfold stepI
  rw [getD_at l1, getD_at l2]
  exact R.val _ (List.getElem_mem l1) _ (List.getElem_mem l2)
theorem walkI_ok {many wide : Nat} {rows : List (List Int)} (R : RowsOk many wide rows) : ∀ {ns : List Int} {h : Int}, (∀ f ∈ ns, 0 ≤ f ∧ f < (wide : Int)) → 0 ≤ h → h < many → 0 ≤ walkI rows ns h ∧ walkI rows ns h < many
  | [], h, _, h0, h1 => ⟨h0, h1⟩
  | f :: r, h, hf, h0, h1 => by
    obtain ⟨a, b⟩ := stepI_ok R h0 h1 (hf f List.mem_cons_self).1 (hf f List.mem_cons_self).2
    exact walkI_ok (ns := r) R (fun g hg => hf g (List.mem_cons_of_mem _ hg)) a b
theorem walkI_append (rows : List (List Int)) (xs ys : List Int) (h : Int) : walkI rows (xs ++ ys) h = walkI rows ys (walkI rows xs h) := by
  unfold walkI
  rw [List.foldl_append]
theorem walkI_take {rows : List (List Int)} {ns : List Int} {h z : Int} {i : Nat} (e : ns[i]? = some z) : walkI rows (ns.take (i + 1)) h = stepI rows (walkI rows (ns.take i) h) z := by
  rw [List.take_add_one, e, walkI_append]
  rfl
/-- the rows stand as tuples -/
def RowsAt (H : Hp) : List Addr → List (List Int) → Prop := Paired fun a r => H a = some (.tup (r.map V.int))
theorem RowsAt.length {H : Hp} {ras : List Addr} {rows : List (List Int)} (h : RowsAt H ras rows) : ras.length = rows.length := Paired.length h
theorem RowsAt.get : ∀ {H : Hp} {ras : List Addr} {rows : List (List Int)} {i : Nat}, RowsAt H ras rows → (h : i < rows.length) → ∃ ra, ras[i]? = some ra ∧ H ra = some (.tup (rows[i].map V.int))
  | _, _, _, _, .nil, h => by simp at h
  | _, _, _, 0, .cons (a := a) r _, _ => ⟨a, rfl, r⟩
  | _, _, _, i + 1, .cons _ t, h => by
    obtain ⟨ra, h1, h2⟩ := RowsAt.get (i := i) t (by simpa using h)
    exact ⟨ra, by simpa using h1, by simpa using h2⟩
theorem RowsAt.same {H H' : Hp} {ras : List Addr} {rows : List (List Int)} (h : RowsAt H ras rows) (s : ∀ b xs, H b = some (.tup xs) → H' b = some (.tup xs)) : RowsAt H' ras rows := Paired.mapP h fun _ _ q => s _ _ q
theorem RowsAt.snoc : ∀ {H : Hp} {ras : List Addr} {rows : List (List Int)} {a : Addr} {r : List Int}, RowsAt H ras rows → H a = some (.tup (r.map V.int)) → RowsAt H (ras ++ [a]) (rows ++ [r])
  | _, _, _, _, _, .nil, h => .cons h .nil
  | _, _, _, _, _, .cons q t, h => .cons q (RowsAt.snoc t h)
structure MachAt (H : Hp) (m r g : Addr) (wide : Nat) (rows : List (List Int)) (signs : List Int) : Prop where
  tup : H m = some (.tup [.int wide, .ref r, .ref g])
  rows : ∃ ras, H r = some (.tup (ras.map V.ref)) ∧ RowsAt H ras rows
  sgn : H g = some (.tup (signs.map V.int))
theorem MachAt.same {H H' : Hp} {m r g : Addr} {wide : Nat} {rows : List (List Int)} {signs : List Int} (M : MachAt H m r g wide rows signs) (s : ∀ b xs, H b = some (.tup xs) → H' b = some (.tup xs)) : MachAt H' m r g wide rows signs := by
  obtain ⟨h1, ⟨ras, h2, h3⟩, h4⟩ := M
  exact ⟨s _ _ h1, ⟨ras, s _ _ h2, h3.same s⟩, s _ _ h4⟩
/-- rows[h][f] -/
theorem row_step {H : Hp} {ras : List Addr} {rows : List (List Int)} {many wide : Nat} {h f : Int} (A : RowsAt H ras rows) (R : RowsOk many wide rows) (h0 : 0 ≤ h) (h1 : h < many) (f0 : 0 ≤ f) (f1 : f < wide) :
    ∃ (ra : Addr) (r : List Int), atI (ras.map V.ref) h = some (.ref ra) ∧ H ra = some (.tup (r.map V.int)) ∧ atI (r.map V.int) f = some (.int (stepI rows h f)) := by
  have l1 : h.toNat < rows.length := by rw [R.len]; omega
  have l2 : rows[h.toNat].length = wide := R.row _ (List.getElem_mem l1)
  obtain ⟨ra, e1, e2⟩ := A.get l1
  refine ⟨ra, rows[h.toNat], atI_refs h0 e1, e2, ?_⟩
  rw [atI_ints f0 (by rw [l2]; exact f1)]
  unfold stepI
  rw [getD_at l1]
/-! ### figures: the mathematics -/
def valB (b : Int) : List Int → Int
  | [] => 0
  | p :: r => p + b * valB b r
def halve (m : Int) : List Int → List Int
  | [] => []
  | p :: r => p % m :: p / m :: halve m r
def InB (b : Int) (ps : List Int) : Prop := ∀ p ∈ ps, 0 ≤ p ∧ p < b
theorem InB.nil {b : Int} : InB b [] := fun p h => by cases h
theorem InB.cons {b p : Int} {r : List Int} (h0 : 0 ≤ p) (h1 : p < b) (h : InB b r) : InB b (p :: r) := fun x hx => by
  rcases List.mem_cons.mp hx with z | z
  · rw [z]; exact ⟨h0, h1⟩
  · exact h x z
theorem InB.tail {b p : Int} {r : List Int} (h : InB b (p :: r)) : InB b r := fun x hx => h x (List.mem_cons_of_mem _ hx)
theorem halve_len (m : Int) : ∀ ps : List Int, (halve m ps).length = 2 * ps.length
  | [] => rfl
  | p :: r => by simp only [halve, List.length_cons, halve_len m r]; omega
theorem halve_in {m : Int} (hm : 0 < m) : ∀ {ps : List Int}, InB (m * m) ps → InB m (halve m ps)
  | [], _ => InB.nil
  | p :: r, h => by
    have hp := h p List.mem_cons_self
    have d0 : 0 ≤ p / m := Int.ediv_nonneg hp.1 (Int.le_of_lt hm)
    have d1 : p / m < m := Int.ediv_lt_of_lt_mul hm hp.2
    exact InB.cons (Int.emod_nonneg p (by omega)) (Int.emod_lt_of_pos p hm) (InB.cons d0 d1 (halve_in hm h.tail))
theorem halve_val (m : Int) : ∀ ps : List Int, valB m (halve m ps) = valB (m * m) ps
  | [] => rfl
  | p :: r => by
    have e := Int.emod_add_mul_ediv p m
    simp only [halve, valB, halve_val m r]
    rw [Int.mul_add, ← Int.add_assoc, e, Int.mul_assoc]
theorem halve_append (m : Int) : ∀ (ps : List Int) (x : Int), halve m (ps ++ [x]) = halve m ps ++ [x % m, x / m]
  | [], x => rfl
  | p :: r, x => by simp only [List.cons_append, halve, halve_append m r x]
theorem valB_nonneg {b : Int} (hb : 0 ≤ b) : ∀ {ps : List Int}, InB b ps → 0 ≤ valB b ps
  | [], _ => Int.le_refl 0
  | p :: r, h => Int.add_nonneg (h p List.mem_cons_self).1 (Int.mul_nonneg hb (valB_nonneg hb h.tail))
theorem valB_append (b : Int) : ∀ (ps qs : List Int), valB b (ps ++ qs) = valB b ps + b ^ ps.length * valB b qs
  | [], qs => by simp [valB]
  | p :: r, qs => by
    simp only [List.cons_append, valB, valB_append b r qs, List.length_cons]
    rw [Int.mul_add, Int.pow_succ, Int.add_assoc, ← Int.mul_assoc, Int.mul_comm b (b ^ r.length)]
theorem valB_snoc (b : Int) (ps : List Int) (x : Int) : valB b (ps ++ [x]) = valB b ps + x * b ^ ps.length := by
  rw [valB_append]
  simp [valB, Int.mul_comm]
/-- w, w * w, (w * w) * (w * w), .. -/
def pw (w : Int) : Nat → Int
  | 0 => w
  | i + 1 => pw w i * pw w i
theorem pw_two {w : Int} (h : 2 ≤ w) : ∀ i, 2 ≤ pw w i
  | 0 => h
  | i + 1 => by
    have q := pw_two h i
    have := Int.mul_le_mul q q (by decide) (by omega)
    show 2 ≤ pw w i * pw w i
    omega
theorem pw_lt {w : Int} (h : 2 ≤ w) (i : Nat) : pw w i < pw w (i + 1) := by
  have q := pw_two h i
  have := Int.mul_le_mul q (Int.le_refl (pw w i)) (by omega) (by omega)
  show pw w i < pw w i * pw w i
  omega
theorem pw_ge {w : Int} (h : 2 ≤ w) : ∀ i : Nat, (2 : Int) ^ (2 ^ i) ≤ pw w i
  | 0 => by simpa [pw] using h
  | i + 1 => by
    have q := pw_ge h i
    have e : (2 : Int) ^ (2 ^ (i + 1)) = 2 ^ (2 ^ i) * 2 ^ (2 ^ i) := by
      rw [Nat.pow_succ, Nat.mul_two, Int.pow_add]
    rw [e]
    have p0 : (0 : Int) ≤ 2 ^ (2 ^ i) := Int.le_of_lt (Int.pow_pos (by decide))
    exact Int.mul_le_mul q q p0 (Int.le_trans p0 q)
/-- the numbers asked about -/
def NB : Int := 2 ^ 1100
theorem NB_big : NB * NB < BIG := by decide +kernel
theorem NB_pos : 2 < NB := by decide +kernel
theorem pw_few {w n : Int} {t : Nat} (h : 2 ≤ w) (hp : pw w t ≤ n) (hn : n < NB) : 2 ^ t < 1100 := by
  have q := pw_ge h t
  have q2 : (2 : Int) ^ (2 ^ t) < 2 ^ 1100 := Int.lt_of_le_of_lt (Int.le_trans q hp) hn
  have q3 : (2 : Nat) ^ (2 ^ t) < 2 ^ 1100 := by exact_mod_cast q2
  exact (Nat.pow_lt_pow_iff_right (by decide)).mp q3
def pws (w : Int) (t : Nat) : List Int := (List.range t).map (pw w)
theorem pws_succ (w : Int) (t : Nat) : pws w (t + 1) = pws w t ++ [pw w t] := by
  unfold pws
  rw [List.range_succ, List.map_append]
  rfl
theorem pws_len (w : Int) (t : Nat) : (pws w t).length = t := by simp [pws]
theorem pws_get {w : Int} {t i : Nat} (h : i < t) : (pws w t)[i]? = some (pw w i) := by simp [pws, h]
/-- the figures of a number: those that come to it, the last one not 0 -/
structure Figs (w n : Int) (ds : List Int) : Prop where
  inb : InB w ds
  val : valB w ds = n
  top : ∀ d, ds.getLast? = some d → d ≠ 0
theorem last_cases (ds : List Int) : ds = [] ∨ ∃ r x, ds = r ++ [x] := by
  rcases List.eq_nil_or_concat ds with h | ⟨r, x, h⟩
  · exact .inl h
  · exact .inr ⟨r, x, by simpa using h⟩
/-! ### figures: the program -/
def spWhole : Sp := fun vs H Q _ => ∃ z : Int, vs = [.int z] ∧ Q (.bl true) H
def spFrom : Sp := fun vs H Q _ => ∃ z y : Int, vs = [.int z, .int y] ∧ Q (.bl (decide (y ≤ z))) H
def spNeed : Sp := fun vs H Q _ => ∃ (z y : Int) (x : Str), vs = [.int z, .int y, .str x] ∧ y ≤ z ∧ Q .non H
def spHalved (K : PySem.W.Frag) : Sp := fun vs H Q _ => ∃ (a : Addr) (m : Int) (ps : List Int), vs = [.ref a, .int m] ∧ SqL K H a (ps.map V.int) ∧ ps.length ≤ 5000 ∧ (0 < m ∧ m < BIG) ∧
  ∀ (l : Addr) (H' : Hp), Same H H' → H l = none → H' l = some (.lst ((halve m ps).map V.int)) → Q (.ref l) H'
def spFigures (K : PySem.W.Frag) : Sp := fun vs H Q _ => ∃ n w : Int, vs = [.int n, .int w] ∧ (0 ≤ n ∧ n < NB) ∧ (2 ≤ w ∧ w < NB) ∧
  ∀ (t : Addr) (H' : Hp) (ds : List Int), Same H H' → H' t = some (.tup (ds.map V.int)) → Figs w n ds → ds.length ≤ 5000 → Q (.ref t) H'
section
variable {P : Program} {w : World} {K : PySem.W.Frag} {mg : Str → Option Value} {base : Heap} {f : Addr} {fd : FuncData} {dV : Value}
theorem sc_is_whole : FnScope ["thing"] ["thing"] (defScope s_is_whole) := ⟨rfl, rfl, rfl, by decide +kernel, rfl, by decide +kernel, by decide +kernel⟩
theorem sc_is_whole_from : FnScope ["thing", "least"] ["thing", "least"] (defScope s_is_whole_from) := ⟨rfl, rfl, rfl, by decide +kernel, rfl, by decide +kernel, by decide +kernel⟩
theorem sc_need_whole : FnScope ["thing", "least", "called"] ["thing", "least", "called"] (defScope s_need_whole) := ⟨rfl, rfl, rfl, by decide +kernel, rfl, by decide +kernel, by decide +kernel⟩
theorem sc_figures : FnScope ["number", "wide", "powers", "power", "parts", "middle"] ["number", "wide"] (defScope s_figures) := ⟨rfl, rfl, rfl, by decide +kernel, rfl, by decide +kernel, by decide +kernel⟩
theorem sc_halved : FnScope ["parts", "middle", "halves", "part"] ["parts", "middle"] (defScope s_halved) := ⟨rfl, rfl, rfl, by decide +kernel, rfl, by decide +kernel, by decide +kernel⟩
theorem ok_is_whole (F : FunD K "is_whole" "is_whole" s_is_whole dV f fd) (z_isinstance : mg "isinstance" = none) (z_int : mg "int" = none) (z_bool : mg "bool" = none) : FnOk P w K mg base CX0 1 f fd ["thing"] spWhole := by
  refine F.ok sc_is_whole (fun vs H Q E h => ?_) (fun cdv A outer s H vs Q E hr h => ?_)
  · obtain ⟨z, rfl, _⟩ := h
    rfl
  obtain ⟨z, rfl, q⟩ := h
  refine ⟨_, (pss_one (ps_ret (pe_and (pe_callB call_isi (by rfl) z_isinstance bt_isinstance (pa_cons (pv 0) (pa_cons (pe_bltn (v := .ty "int") rfl z_int bt_int rfl) pa_nil))) (pe_one (pe_not (pe_callB call_isi (by rfl) z_isinstance bt_isinstance (pa_cons (pv 0) (pa_cons (pe_bltn (v := .ty "bool") rfl z_bool bt_bool rfl) pa_nil)))))))), ?_⟩
  refine ⟨_, rfl, _, _, _, _, rfl, TyOf.int z, kit_int_int K, _, rfl, iteT ?_⟩
  exact ⟨_, rfl, _, _, _, _, rfl, TyOf.int z, kit_int_bool K, _, rfl, q⟩
theorem ok_from (F : FunD K "is_whole_from" "is_whole_from" s_is_whole_from dV f fd) (G_is_whole : DefOk P w K mg base "is_whole" 1 ["thing"] [] spWhole) : FnOk P w K mg base CX0 2 f fd ["thing", "least"] spFrom := by
  refine F.ok sc_is_whole_from (fun vs H Q E h => ?_) (fun cdv A outer s H vs Q E hr h => ?_)
  · obtain ⟨z, y, rfl, _⟩ := h
    rfl
  obtain ⟨z, y, rfl, q⟩ := h
  refine ⟨_, (pss_one (ps_ret (pe_and (pe_cd G_is_whole hr (pa_cons (pv 0) pa_nil)) (pe_one (pe_cmpR op_ge (pv 0) (pv 1) (nomark _)))))), ?_⟩
  exact ⟨_, rfl, z, rfl, _, rfl, iteT ⟨_, rfl, _, rfl, _, _, rfl, rfl, q⟩⟩
theorem ok_need (F : FunD K "need_whole" "need_whole" s_need_whole dV f fd) (G_is_whole_from : DefOk P w K mg base "is_whole_from" 2 ["thing", "least"] [] spFrom) : FnOk P w K mg base CX0 3 f fd ["thing", "least", "called"] spNeed := by
  refine F.ok sc_need_whole (fun vs H Q E h => ?_) (fun cdv A outer s H vs Q E hr h => ?_)
  · obtain ⟨z, y, x, rfl, _⟩ := h
    rfl
  obtain ⟨z, y, x, rfl, hy, q⟩ := h
  refine ⟨_, (pss_one (ps_if (pt_not (pt_val (pe_cd G_is_whole_from hr (pa_cons (pv 0) (pa_cons (pv 1) pa_nil))))) (pss_one ps_never) pss_nil)), ?_⟩
  refine ⟨_, rfl, _, rfl, z, y, rfl, _, rfl, iteNS hy ?_⟩
  exact q
theorem ok_halved (F : FunD K "halved" "halved" s_halved dV f fd) : FnOk P w K mg base CX0 1 f fd ["parts", "middle"] (spHalved K) := by
  refine F.ok sc_halved (fun vs H Q E h => ?_) (fun cdv A outer s H vs Q E hr h => ?_)
  · obtain ⟨a, m, ps, rfl, _⟩ := h
    rfl
  obtain ⟨a, m, ps, rfl, hS, hl, ⟨m0, m1⟩, k⟩ := h
  refine ⟨_, (pss_cons (ps_set (i := 2) sc_halved.nd rfl (Or.inl rfl) (pe_lst pa_nil))
      (pss_cons (ps_for PassesOwn.never rfl (pi_list (pv 0)) (pg_name (i := 3) sc_halved.nd rfl (Or.inl rfl)) (pss_cons (ps_expr (pe_bm PySem.F.plainAttrs_list PySem.F.slot_list_append PySem.F.type_list_append mt_append (pv 2) (pa_cons (pe_op op_mod (pv 3) (pv 1)) pa_nil)))
      (pss_one (ps_expr (pe_bm PySem.F.plainAttrs_list PySem.F.slot_list_append PySem.F.type_list_append mt_append (pv 2) (pa_cons (pe_op op_fdivB (pv 3) (pv 1)) pa_nil))))))
      (pss_one (ps_ret (pv 2))))), ?_⟩
  refine ⟨(by show 0 ≤ sizeLine; decide), fun l hl0 => ?_⟩
  refine ⟨_, rfl, a, rfl, ⟨_, (same_new hl0 _).seq hS⟩, for_list (K := K) (xs := ps.map V.int) (fun i σ' H' => ∃ v, σ' = [some (.ref a), some (.int m), some (.ref l), v] ∧ Same H H' ∧ H' l = some (.lst ((halve m (ps.take i)).map V.int)))
    ⟨none, rfl, same_new hl0 _, upd_same⟩ (fun i σ' H' _ ⟨_, _, s, _⟩ => s.seq hS) ?_ ?_⟩
  · rintro i y σ' H' hi ⟨v, rfl, s1, h1⟩
    obtain ⟨z, rfl, hz⟩ := ints_at hi
    have hi' : i < ps.length := (List.getElem?_eq_some_iff.mp hz).1
    have l1 : ((halve m (ps.take i)).map V.int).length ≤ 10000 := by
      rw [List.length_map, halve_len, List.length_take]
      omega
    have big : 10002 < sizeLine := by decide
    refine ⟨_, rfl, .inl ⟨rfl, _, SqL.of h1⟩, _, rfl, _, rfl, _, _, rfl, rfl, m0, l, _, _, rfl, rfl, h1, by omega, ?_⟩
    refine ⟨_, rfl, .inl ⟨rfl, _, SqL.of upd_same⟩, _, rfl, _, rfl, _, _, rfl, rfl, ⟨m0, m1⟩, l, _, _, rfl, rfl, upd_same, by rw [List.length_append]; simp only [List.length_singleton]; omega, ?_⟩
    refine ⟨_, rfl, same_upd (same_upd s1 hl0) hl0, ?_⟩
    rw [upd_same, List.take_add_one, hz]
    show _ = some (HO.lst ((halve m (ps.take i ++ [z])).map V.int))
    rw [halve_append, List.map_append, List.append_assoc]
    rfl
  · rintro σ' H' ⟨v, rfl, s1, h1⟩
    rw [List.length_map, List.take_length] at h1
    exact ⟨_, rfl, k l H' s1 hl0 h1⟩
theorem ok_figures (F : FunD K "figures" "figures" s_figures dV f fd) (G_need_whole : DefOk P w K mg base "need_whole" 3 ["thing", "least", "called"] [] spNeed) (G_halved : DefOk P w K mg base "halved" 1 ["parts", "middle"] [] (spHalved K))
    (z_reversed : mg "reversed" = none) (z_tuple : mg "tuple" = none) : FnOk P w K mg base CX0 4 f fd ["number", "wide"] (spFigures K) := by
  refine F.ok sc_figures (fun vs H Q E h => ?_) (fun cdv A outer s H vs Q E hr h => ?_)
  · obtain ⟨n, w, rfl, _⟩ := h
    rfl
  obtain ⟨n, wd, rfl, ⟨n0, n1⟩, ⟨w0, w1⟩, k⟩ := h
  have hbig : ∀ {x y : Int}, 0 ≤ x → x < NB → 0 ≤ y → y < NB → x * y < BIG := fun {x y} hx hx' hy hy' =>
    Int.lt_of_le_of_lt (Int.mul_le_mul (Int.le_of_lt hx') (Int.le_of_lt hy') hy (Int.le_trans hx (Int.le_of_lt hx'))) NB_big
  have nbig : ∀ {x : Int}, 0 ≤ x → x < NB → x < BIG := fun {x} hx hx' => by
    have := NB_pos
    have := NB_big
    have q : NB * 1 ≤ NB * NB := Int.mul_le_mul (Int.le_refl _) (by omega) (by decide) (by omega)
    omega
  refine ⟨_, (pss_cons (ps_expr (pe_cd G_need_whole hr (pa_cons (pv 0) (pa_cons pe_int (pa_cons pe_str pa_nil)))))
      (pss_cons (ps_expr (pe_cd G_need_whole hr (pa_cons (pv 1) (pa_cons pe_int (pa_cons pe_str pa_nil)))))
      (pss_cons (ps_set (i := 2) sc_figures.nd rfl (Or.inl rfl) (pe_lst pa_nil))
      (pss_cons (ps_set (i := 3) sc_figures.nd rfl (Or.inl rfl) (pv 1))
      (pss_cons (ps_while PassesOwn.never (pt_cmpR op_le (pv 3) (pv 0) (nomark _)) (pss_cons (ps_expr (pe_bm PySem.F.plainAttrs_list PySem.F.slot_list_append PySem.F.type_list_append mt_append (pv 2) (pa_cons (pv 3) pa_nil)))
      (pss_one (ps_set (i := 3) sc_figures.nd rfl (Or.inl rfl) (pe_op op_mulB (pv 3) (pv 3))))))
      (pss_cons (ps_set (i := 4) sc_figures.nd rfl (Or.inl rfl) (pe_lst (pa_cons (pv 0) pa_nil)))
      (pss_cons (ps_for PassesOwn.never rfl (pi_rev rfl z_reversed (pa_cons (pv 2) pa_nil)) (pg_name (i := 5) sc_figures.nd rfl (Or.inl rfl)) (pss_one (ps_set (i := 4) sc_figures.nd rfl (Or.inl rfl) (pe_cd G_halved hr (pa_cons (pv 4) (pa_cons (pv 5) pa_nil))))))
      (pss_cons (ps_while PassesOwn.never (PW.pt (pw_and (pt_truth (pv 4) (fun _ => rfl)) (pw_and1 (pt_cmpR op_eq (pe_ix ix_list (pv 4) (pe_un un_neg pe_int) (fun _ _ => rfl)) pe_int (nomark _))))) (pss_one (ps_expr (pe_bm0 PySem.F.plainAttrs_list PySem.F.slot_list_pop PySem.F.type_list_pop mt_pop (pv 4)))))
      (pss_one (ps_ret (pe_callTy call_tuple_of (by rfl) z_tuple bt_tuple (pa_cons (pv 4) pa_nil)))))))))))), ?_⟩
  refine ⟨_, rfl, n, 0, _, rfl, n0, ?_⟩
  refine ⟨_, rfl, wd, 2, _, rfl, w0, ?_⟩
  -- powers = []; power = wide
  refine ⟨(by show 0 ≤ sizeLine; decide), fun L hL => ?_⟩
  refine ⟨_, rfl, ?_⟩
  -- while power <= number
  try dsimp only [gName]
  refine cut_seq (t := tWhile _ _) (fun σ' H' => ∃ t : Nat, σ' = [some (.int n), some (.int wd), some (.ref L), some (.int (pw wd t)), none, none] ∧ Same H H' ∧ H' L = some (.lst ((pws wd t).map V.int)) ∧ n < pw wd t ∧ (t = 0 ∨ pw wd (t - 1) ≤ n)) ?_ (fun nxt => ?_)
  rotate_left
  · refine while_W (fun m σ' H' => ∃ t : Nat, m = (n + 1 - pw wd t).toNat ∧ σ' = [some (.int n), some (.int wd), some (.ref L), some (.int (pw wd t)), none, none] ∧ Same H H' ∧ H' L = some (.lst ((pws wd t).map V.int)) ∧ (t = 0 ∨ pw wd (t - 1) ≤ n))
      ⟨_, 0, rfl, rfl, same_new hL _, upd_same, .inl rfl⟩ ?_
    rintro m σ' H' ⟨t, rfl, rfl, s1, h1, ht⟩
    refine ⟨_, rfl, _, rfl, _, _, rfl, rfl, _, rfl, iteD (fun c => ?_) (fun c => ?_)⟩
    · have c' : pw wd t ≤ n := c
      have p2 := pw_two w0 t
      have few := pw_few w0 c' n1
      have lt2 : t < 2 ^ t := Nat.lt_two_pow_self
      have plt := pw_lt w0 t
      refine ⟨fun σ' H' => ∃ m', m' < (n + 1 - pw wd t).toNat ∧ ∃ t : Nat, m' = (n + 1 - pw wd t).toNat ∧ σ' = [some (.int n), some (.int wd), some (.ref L), some (.int (pw wd t)), none, none] ∧ Same H H' ∧ H' L = some (.lst ((pws wd t).map V.int)) ∧ (t = 0 ∨ pw wd (t - 1) ≤ n), fun σ' H' h => h, ?_⟩
      refine ⟨_, rfl, .inl ⟨rfl, _, SqL.of h1⟩, _, rfl, L, _, _, rfl, rfl, h1, ?_, ?_⟩
      · rw [List.length_map, pws_len]
        have big : (1101 : Nat) < sizeLine := by decide
        omega
      refine ⟨_, rfl, _, rfl, _, _, rfl, rfl, ⟨⟨by omega, nbig (by omega) (by omega)⟩, ⟨by omega, nbig (by omega) (by omega)⟩⟩, _, ?_, t + 1, rfl, rfl, same_upd s1 hL, ?_, .inr c'⟩
      · show (n + 1 - pw wd (t + 1)).toNat < _
        omega
      · rw [upd_same, pws_succ, List.map_append]
        rfl
    · exact nxt _ _ ⟨t, rfl, s1, h1, by omega, ht⟩
  rintro σ' H1 ⟨t, rfl, s1, h1, hn, ht⟩
  have few : 2 ^ t ≤ 2200 := by
    rcases ht with z | z
    · rw [z]; decide
    · rcases t with _ | t
      · decide
      · have := pw_few w0 z n1
        rw [Nat.pow_succ]
        simp only [Nat.add_sub_cancel] at this
        omega
  -- parts = [number]
  refine ⟨_, rfl, (by show 1 ≤ sizeLine; decide), fun D0 hD0 => ?_⟩
  have s2 := s1.trans (same_new hD0 (HO.lst [V.int n]))
  have nL : L ≠ D0 := ne_of_none h1 hD0
  -- for middle in reversed(powers)
  try dsimp only [gName]
  refine cut_seq (t := tFor _ _ _) (fun σ' H' => ∃ (D : Addr) (v : Option V) (ps : List Int), σ' = [some (.int n), some (.int wd), some (.ref L), some (.int (pw wd t)), some (.ref D), v] ∧ Same H H' ∧ H D = none ∧ H' D = some (.lst (ps.map V.int)) ∧ InB wd ps ∧ valB wd ps = n ∧ ps.length ≤ 2200) ?_ (fun nxt => ?_)
  rotate_left
  · refine ⟨_, rfl, L, _, rfl, SqL.of (by rw [upd_ne nL]; exact h1), for_rev (K := K) (xs := (pws wd t).map V.int) (fun i σ' H' => ∃ (D : Addr) (v : Option V) (ps : List Int), σ' = [some (.int n), some (.int wd), some (.ref L), some (.int (pw wd t)), some (.ref D), v] ∧ Same H1 H' ∧ H1 D = none ∧ H' D = some (.lst (ps.map V.int)) ∧ InB (pw wd (t - i)) ps ∧ valB (pw wd (t - i)) ps = n ∧ ps.length = 2 ^ i)
      ⟨D0, none, [n], rfl, same_new hD0 _, hD0, upd_same, InB.cons n0 hn InB.nil, by simp [valB], rfl⟩ (fun i σ' H' _ ⟨_, _, _, _, s, _⟩ => SqL.of (s _ _ h1)) ?_ ?_⟩
    · rintro i y σ' H' hi hy ⟨D, v, ps, rfl, s3, fD, hD, hin, hval, hlen⟩
      rw [List.length_map, pws_len] at hi
      rw [List.length_map, pws_len] at hy
      have e1 : t - i = (t - 1 - i) + 1 := by omega
      have e2 : t - (i + 1) = t - 1 - i := by omega
      obtain ⟨z, rfl, hz⟩ := ints_at hy
      rw [pws_get (show t - 1 - i < t by omega)] at hz
      cases hz
      rw [e1] at hin hval
      have hp := pw_two w0 (t - 1 - i)
      have hle : pw wd (t - 1 - i) ≤ n := by
        rcases ht with z | z
        · omega
        · have mono : ∀ a b : Nat, pw wd a ≤ pw wd (a + b) := fun a b => by
            induction b with
            | zero => exact Int.le_refl _
            | succ b ih => exact Int.le_trans ih (Int.le_of_lt (pw_lt w0 (a + b)))
          have := mono (t - 1 - i) i
          rw [show t - 1 - i + i = t - 1 by omega] at this
          omega
      have li : 2 ^ i ≤ 2 ^ t := Nat.pow_le_pow_right (by decide) (by omega)
      refine ⟨_, rfl, _, rfl, D, _, ps, rfl, SqL.of hD, by omega, ⟨by omega, nbig (by omega) (by omega)⟩, fun l H'' s4 fl hl => ?_⟩
      refine ⟨l, _, halve (pw wd (t - 1 - i)) ps, rfl, s3.trans s4, s3.free fl, hl, ?_, ?_, ?_⟩
      · rw [e2]; exact halve_in (by omega) hin
      · rw [e2, halve_val]; exact hval
      · rw [halve_len, hlen, Nat.pow_succ]; omega
    · rintro σ' H' ⟨D, v, ps, rfl, s3, fD, hD, hin, hval, hlen⟩
      rw [List.length_map, pws_len] at hin hval hlen
      rw [Nat.sub_self] at hin hval
      exact nxt _ _ ⟨D, v, ps, rfl, s1.trans s3, s1.free fD, hD, hin, hval, by omega⟩
  rintro σ' H2 ⟨D, v, ps, rfl, s3, fD, hD, hin, hval, hlen⟩
  -- while parts and parts[-1] == 0: parts.pop()
  try dsimp only [gName]
  refine cut_seq (t := tWhile _ _) (fun σ' H' => ∃ ps : List Int, σ' = [some (.int n), some (.int wd), some (.ref L), some (.int (pw wd t)), some (.ref D), v] ∧ Same H H' ∧ H' D = some (.lst (ps.map V.int)) ∧ Figs wd n ps ∧ ps.length ≤ 2200) ?_ (fun nxt => ?_)
  rotate_left
  · refine while_W (fun m σ' H' => ∃ ps : List Int, m = ps.length ∧ σ' = [some (.int n), some (.int wd), some (.ref L), some (.int (pw wd t)), some (.ref D), v] ∧ Same H H' ∧ H' D = some (.lst (ps.map V.int)) ∧ InB wd ps ∧ valB wd ps = n ∧ ps.length ≤ 2200) ⟨_, ps, rfl, rfl, s3, hD, hin, hval, hlen⟩ ?_
    rintro m σ' H' ⟨ps, rfl, rfl, s4, h4, hin, hval, hlen⟩
    rcases last_cases ps with rfl | ⟨r, x, rfl⟩
    · refine ⟨_, rfl, _, .inl ⟨_, SqL.of h4, rfl⟩, iteF (iteF ?_)⟩
      exact nxt _ _ ⟨[], rfl, s4, h4, ⟨hin, hval, fun d h => by cases h⟩, hlen⟩
    · have ix : atI ((r ++ [x]).map V.int) (-1) = some (.int x) := by
        rw [List.map_append]
        exact atI_last _ _
      refine ⟨_, rfl, _, .inl ⟨_, SqL.of h4, rfl⟩, ?_⟩
      have ne : (!((r ++ [x]).map V.int).isEmpty) = true := by simp
      rw [ne]
      refine iteT ⟨_, rfl, _, rfl, D, _, _, _, rfl, rfl, SqL.of h4, ix, rfl, _, rfl, iteI (fun c => ?_) (fun c => ?_)⟩
      · have hr : valB wd r = n := by
          rw [valB_snoc, c, Int.zero_mul, Int.add_zero] at hval
          exact hval
        refine ⟨fun σ' H' => ∃ m', m' < (r ++ [x]).length ∧ ∃ ps : List Int, m' = ps.length ∧ σ' = [some (.int n), some (.int wd), some (.ref L), some (.int (pw wd t)), some (.ref D), v] ∧ Same H H' ∧ H' D = some (.lst (ps.map V.int)) ∧ InB wd ps ∧ valB wd ps = n ∧ ps.length ≤ 2200, fun σ' H' h => h, ?_⟩
        refine ⟨_, rfl, .inl ⟨rfl, _, SqL.of h4⟩, D, _, V.int x, rfl, rfl, h4, by simp, ?_⟩
        · refine ⟨r.length, by simp, r, rfl, rfl, same_upd s4 fD, ?_, fun p hp => hin p (List.mem_append_left _ hp), hr, ?_⟩
          · rw [upd_same, List.map_append]
            show some (HO.lst ((r.map V.int ++ [V.int x]).dropLast)) = _
            rw [List.dropLast_concat]
          · rw [List.length_append] at hlen
            omega
      · exact nxt _ _ ⟨r ++ [x], rfl, s4, h4, ⟨hin, hval, fun d h => by
          rw [List.getLast?_concat] at h
          cases h
          exact c⟩, hlen⟩
  rintro σ' H3 ⟨ps, rfl, s4, h4, FG, hlen⟩
  refine ⟨_, rfl, D, _, rfl, .inl ⟨SqL.of h4, fun T hT => ?_⟩⟩
  exact k T _ ps (s4.trans (same_new hT _)) upd_same FG (by omega)
end
/-! ### numbers told back: the mathematics -/
def mergeB (m : Int) : List Int → List Int
  | [] => []
  | [p] => [p + m * 0]
  | p :: q :: r => (p + m * q) :: mergeB m r
theorem InB.append {b : Int} {ps qs : List Int} (h : InB b ps) (h' : InB b qs) : InB b (ps ++ qs) := fun x hx => (List.mem_append.mp hx).elim (h x) (h' x)
/-- figures are told apart by their number -/
theorem figs_one {w : Int} (hw : 2 ≤ w) : ∀ {ds es : List Int} {n : Int}, Figs w n ds → Figs w n es → ds = es
  | [], [], _, _, _ => rfl
  | [], e :: es, n, h, h' => by
    exfalso
    have z : valB w (e :: es) = 0 := h'.val.trans h.val.symm
    exact no_zero hw h' z
  | d :: ds, [], n, h, h' => by
    exfalso
    have z : valB w (d :: ds) = 0 := h.val.trans h'.val.symm
    exact no_zero hw h z
  | d :: ds, e :: es, n, h, h' => by
    have hd := h.inb d List.mem_cons_self
    have he := h'.inb e List.mem_cons_self
    have v1 : d + w * valB w ds = n := h.val
    have v2 : e + w * valB w es = n := h'.val
    have e1 : n % w = d := by rw [← v1, Int.add_mul_emod_self_left]; exact Int.emod_eq_of_lt hd.1 hd.2
    have e2 : n % w = e := by rw [← v2, Int.add_mul_emod_self_left]; exact Int.emod_eq_of_lt he.1 he.2
    have ede : d = e := e1.symm.trans e2
    have ev : valB w ds = valB w es := by
      have : w * valB w ds = w * valB w es := by omega
      exact Int.eq_of_mul_eq_mul_left (by omega) this
    have t1 : Figs w (valB w ds) ds := ⟨h.inb.tail, rfl, fun x hx => by
      cases ds with
      | nil => cases hx
      | cons a r => exact h.top x (by rw [List.getLast?_cons_cons]; exact hx)⟩
    have t2 : Figs w (valB w ds) es := ⟨h'.inb.tail, ev.symm, fun x hx => by
      cases es with
      | nil => cases hx
      | cons a r => exact h'.top x (by rw [List.getLast?_cons_cons]; exact hx)⟩
    rw [ede, figs_one hw t1 t2]
where
  no_zero {w : Int} (hw : 2 ≤ w) : ∀ {es : List Int} {e n : Int}, Figs w n (e :: es) → valB w (e :: es) = 0 → False
  | [], e, n, h, z => by
    have : e + w * 0 = 0 := z
    exact h.top e rfl (by omega)
  | a :: r, e, n, h, z => by
    have hz : e + w * valB w (a :: r) = 0 := z
    have he := h.inb e List.mem_cons_self
    have hv := valB_nonneg (by omega : (0 : Int) ≤ w) h.inb.tail
    have : 0 ≤ w * valB w (a :: r) := Int.mul_nonneg (by omega) hv
    have z2 : w * valB w (a :: r) = 0 := by omega
    have z3 : valB w (a :: r) = 0 := by
      rcases Int.mul_eq_zero.mp z2 with q | q
      · omega
      · exact q
    exact no_zero hw (es := r) (e := a) (n := valB w (a :: r)) ⟨h.inb.tail, rfl, fun x hx => h.top x (by rw [List.getLast?_cons_cons]; exact hx)⟩ z3
end My

set_option Elab.async false
set_option linter.all false
set_option maxRecDepth 100000
set_option maxHeartbeats 8000000
namespace My
open PySem L2
theorem mapR_at {f : Nat → Int} {many t : Nat} (h : t < many) : ((List.range many).map f).getD t 0 = f t := by simp [h]
theorem len_split {α : Type} (p : α → Bool) : ∀ l : List α, l.length = (l.filter p).length + (l.filter fun x => !p x).length
  | [] => rfl
  | x :: l => by
    have ih := len_split p l
    cases e : p x
    · rw [List.filter_cons_of_neg (by rw [e]; decide), List.filter_cons_of_pos (by rw [e]; rfl), List.length_cons, List.length_cons]
      omega
    · rw [List.filter_cons_of_pos e, List.filter_cons_of_neg (by rw [e]; decide), List.length_cons, List.length_cons]
      omega
/-- different whole numbers below many are at most many -/
theorem few_below : ∀ (many : Nat) {ks : List Int}, ks.Nodup → (∀ q ∈ ks, 0 ≤ q ∧ q < (many : Int)) → ks.length ≤ many
  | 0, ks, _, h => by
    cases ks with
    | nil => exact Nat.le_refl _
    | cons q r => have := h q List.mem_cons_self; omega
  | many + 1, ks, nd, h => by
    have e : (ks.filter fun q => decide (q ≠ (many : Int))).length ≤ many := few_below many (nd.filter _) fun q hq => by
      have h1 := h q (List.mem_filter.mp hq).1
      have h2 : q ≠ (many : Int) := of_decide_eq_true (List.mem_filter.mp hq).2
      omega
    have c : (ks.filter fun q => !decide (q ≠ (many : Int))).length ≤ 1 := by
      have nd2 := nd.filter fun q => !decide (q ≠ (many : Int))
      have al : ∀ q ∈ ks.filter (fun q => !decide (q ≠ (many : Int))), q = (many : Int) := fun q hq => by
        have := (List.mem_filter.mp hq).2
        simpa using this
      match hm : ks.filter (fun q => !decide (q ≠ (many : Int))), nd2, al with
      | [], _, _ => exact Nat.zero_le _
      | [x], _, _ => exact Nat.le_refl _
      | x :: y :: r, nd2, al =>
        have h1 := al x List.mem_cons_self
        have h2 := al y (List.mem_cons_of_mem _ List.mem_cons_self)
        rw [h1, h2] at nd2
        exact absurd List.mem_cons_self (List.nodup_cons.mp nd2).1
    have t := len_split (fun q => decide (q ≠ (many : Int))) ks
    omega
/-! ### the round to which noughts lead: a steady machine -/
def it0 (rows : List (List Int)) (q : Int) : Nat → Int
  | 0 => q
  | k + 1 => stepI rows (it0 rows q k) 0
theorem it0_in {many wide : Nat} {rows : List (List Int)} (R : RowsOk many wide rows) (w1 : 1 ≤ wide) {q : Int} (q0 : 0 ≤ q) (q1 : q < (many : Int)) : ∀ k, 0 ≤ it0 rows q k ∧ it0 rows q k < (many : Int)
  | 0 => ⟨q0, q1⟩
  | k + 1 => by
    have h := it0_in R w1 q0 q1 k
    exact stepI_ok R h.1 h.2 (by decide) (by omega)
theorem it0_succ (rows : List (List Int)) (q : Int) : ∀ k, it0 rows (stepI rows q 0) k = it0 rows q (k + 1)
  | 0 => rfl
  | k + 1 => by
    show stepI rows (it0 rows (stepI rows q 0) k) 0 = stepI rows (it0 rows q (k + 1)) 0
    rw [it0_succ rows q k]
theorem it0_shift {rows : List (List Int)} {q : Int} {i j : Nat} (h : it0 rows q i = it0 rows q j) : ∀ t, it0 rows q (i + t) = it0 rows q (j + t)
  | 0 => h
  | t + 1 => by
    show stepI rows (it0 rows q (i + t)) 0 = stepI rows (it0 rows q (j + t)) 0
    rw [it0_shift h t]
theorem it0_period {many wide : Nat} {rows : List (List Int)} (R : RowsOk many wide rows) (w1 : 1 ≤ wide) {q : Int} (q0 : 0 ≤ q) (q1 : q < (many : Int)) : ∃ c, 1 ≤ c ∧ c ≤ many ∧ ∀ t, it0 rows q (many + c + t) = it0 rows q (many + t) := by
  have ex : ∃ i j, i < j ∧ j ≤ many ∧ it0 rows q i = it0 rows q j := by
    refine Classical.byContradiction fun no => ?_
    have nd : ((List.range (many + 1)).map (it0 rows q)).Nodup := by
      refine List.pairwise_iff_getElem.mpr fun i j hi hj hij => ?_
      intro e
      rw [List.length_map, List.length_range] at hi hj
      simp at e
      exact no ⟨i, j, hij, by omega, e⟩
    have := few_below many nd (fun x hx => by
      obtain ⟨i, _, rfl⟩ := List.mem_map.mp hx
      exact it0_in R w1 q0 q1 i)
    rw [List.length_map, List.length_range] at this
    omega
  obtain ⟨i, j, hij, hj, e⟩ := ex
  refine ⟨j - i, by omega, by omega, fun t => ?_⟩
  have := it0_shift e (many - i + t)
  rw [show i + (many - i + t) = many + t from by omega, show j + (many - i + t) = many + (j - i) + t from by omega] at this
  exact this.symm
/-- the lowest of the rooms from n on -/
def lowI (rows : List (List Int)) (q : Int) (n : Nat) : Nat → Int
  | 0 => it0 rows q n
  | k + 1 => if it0 rows q (n + k + 1) < lowI rows q n k then it0 rows q (n + k + 1) else lowI rows q n k
theorem lowI_le {rows : List (List Int)} {q : Int} {n : Nat} : ∀ {k i : Nat}, i ≤ k → lowI rows q n k ≤ it0 rows q (n + i)
  | 0, i, h => by
    have : i = 0 := by omega
    subst this
    exact Int.le_refl _
  | k + 1, i, h => by
    simp only [lowI]
    rcases Nat.lt_or_eq_of_le h with z | z
    · have := lowI_le (rows := rows) (q := q) (n := n) (show i ≤ k by omega)
      split
      · omega
      · exact this
    · subst z
      have e : n + (k + 1) = n + k + 1 := by omega
      rw [e]
      split <;> omega
theorem lowI_is {rows : List (List Int)} {q : Int} {n : Nat} : ∀ k : Nat, ∃ i, i ≤ k ∧ lowI rows q n k = it0 rows q (n + i)
  | 0 => ⟨0, Nat.le_refl _, rfl⟩
  | k + 1 => by
    simp only [lowI]
    split
    · exact ⟨k + 1, Nat.le_refl _, rfl⟩
    · obtain ⟨i, hi, e⟩ := lowI_is (rows := rows) (q := q) (n := n) k
      exact ⟨i, by omega, e⟩
def restI (rows : List (List Int)) (n : Nat) (q : Int) : Int := lowI rows q n n
theorem restI_in {many wide : Nat} {rows : List (List Int)} (R : RowsOk many wide rows) (w1 : 1 ≤ wide) {q : Int} (q0 : 0 ≤ q) (q1 : q < (many : Int)) : 0 ≤ restI rows many q ∧ restI rows many q < (many : Int) := by
  obtain ⟨i, _, e⟩ := lowI_is (rows := rows) (q := q) (n := many) many
  unfold restI
  rw [e]
  exact it0_in R w1 q0 q1 _
theorem restI_step {many wide : Nat} {rows : List (List Int)} (R : RowsOk many wide rows) (w1 : 1 ≤ wide) {q : Int} (q0 : 0 ≤ q) (q1 : q < (many : Int)) : restI rows many (stepI rows q 0) = restI rows many q := by
  obtain ⟨c, c1, c2, hc⟩ := it0_period R w1 q0 q1
  unfold restI
  refine Int.le_antisymm ?_ ?_
  · obtain ⟨j, hj, e⟩ := lowI_is (rows := rows) (q := q) (n := many) many
    rw [e]
    by_cases z : j = 0
    · subst z
      have := lowI_le (rows := rows) (q := stepI rows q 0) (n := many) (k := many) (i := c - 1) (by omega)
      rw [it0_succ, show many + (c - 1) + 1 = many + c + 0 from by omega, hc 0] at this
      exact this
    · have := lowI_le (rows := rows) (q := stepI rows q 0) (n := many) (k := many) (i := j - 1) (by omega)
      rw [it0_succ, show many + (j - 1) + 1 = many + j from by omega] at this
      exact this
  · obtain ⟨i, hi, e⟩ := lowI_is (rows := rows) (q := stepI rows q 0) (n := many) many
    rw [e, it0_succ]
    by_cases z : i = many
    · have := lowI_le (rows := rows) (q := q) (n := many) (k := many) (i := many + 1 - c) (by omega)
      rw [← hc (many + 1 - c)] at this
      rw [show many + i + 1 = many + c + (many + 1 - c) from by omega]
      exact this
    · have := lowI_le (rows := rows) (q := q) (n := many) (k := many) (i := i + 1) (by omega)
      rw [show many + (i + 1) = many + i + 1 from by omega] at this
      exact this
def SteadyS (many : Nat) (rows : List (List Int)) (signs : List Int) : Prop := ∀ q : Int, 0 ≤ q → q < (many : Int) → signs.getD (stepI rows q 0).toNat 0 = signs.getD q.toNat 0
theorem steady_of {many wide : Nat} {rows : List (List Int)} {signs drawn : List Int} (R : RowsOk many wide rows) (w1 : 1 ≤ wide) (e : signs = (List.range many).map fun q : Nat => drawn.getD (restI rows many q).toNat 0) : SteadyS many rows signs := fun q q0 q1 => by
  have h := stepI_ok R q0 q1 (show (0 : Int) ≤ 0 by decide) (show (0 : Int) < wide by omega)
  have m1 : ∀ x : Int, 0 ≤ x → x < (many : Int) → signs.getD x.toNat 0 = drawn.getD (restI rows many x).toNat 0 := fun x x0 x1 => by
    have hx : x.toNat < many := by omega
    rw [e, mapR_at hx, show ((x.toNat : Nat) : Int) = x from by omega]
  rw [m1 _ h.1 h.2, m1 _ q0 q1, restI_step R w1 q0 q1]
def spRest (K : PySem.W.Frag) : Sp := fun vs H Q _ => ∃ (r : Addr) (q : Int) (many wide : Nat) (ras : List Addr) (rows : List (List Int)), vs = [.ref r, .int q] ∧ H r = some (.lst (ras.map V.ref)) ∧ RowsAt H ras rows ∧ RowsOk many wide rows ∧ 1 ≤ wide ∧ many ≤ 1000 ∧ (0 ≤ q ∧ q < (many : Int)) ∧
  Q (.int (restI rows many q)) H
section
variable {P : Program} {w : World} {K : PySem.W.Frag} {mg : Str → Option Value} {base : Heap} {f : Addr} {fd : FuncData} {dV : Value}
theorem sc__law_rest : FnScope ["_law_rows", "_law_here", "_law_k", "_law_lowest"] ["_law_rows", "_law_here"] (defScope s__law_rest) := ⟨rfl, rfl, rfl, by decide +kernel, rfl, by decide +kernel, by decide +kernel⟩
theorem ok_rest (F : FunD K "_law_rest" "_law_rest" s__law_rest dV f fd) (z_len : mg "len" = none) (z_range : mg "range" = none) (z_min : mg "min" = none) : FnOk P w K mg base CX0 1 f fd ["_law_rows", "_law_here"] (spRest K) := by
  refine F.ok sc__law_rest (fun vs H Q E h => ?_) (fun cdv A outer s H vs Q E hr h => ?_)
  · obtain ⟨r, q, many, wide, ras, rows, rfl, _⟩ := h
    rfl
  obtain ⟨r, q, many, wide, ras, rows, rfl, hr', hA, R, w1, n1, ⟨q0, q1⟩, k⟩ := h
  have lr : (ras.map V.ref).length = many := by rw [List.length_map, hA.length, R.len]
  refine ⟨_, (pss_cons (ps_for PassesOwn.never rfl (pi_range1 rfl z_range (pa_cons (pe_callB call_len_seq (by rfl) z_len bt_len (pa_cons (pv 0) pa_nil)) pa_nil)) (pg_name (i := 2) sc__law_rest.nd rfl (Or.inl rfl)) (pss_one (ps_set (i := 1) sc__law_rest.nd rfl (Or.inl rfl) (pe_ix ix_tup (pe_ix ix_list (pv 0) (pv 1) (fun _ _ => rfl)) pe_int (fun _ _ => rfl)))))
      (pss_cons (ps_set (i := 3) sc__law_rest.nd rfl (Or.inl rfl) (pv 1))
      (pss_cons (ps_for PassesOwn.never rfl (pi_range1 rfl z_range (pa_cons (pe_callB call_len_seq (by rfl) z_len bt_len (pa_cons (pv 0) pa_nil)) pa_nil)) (pg_name (i := 2) sc__law_rest.nd rfl (Or.inl rfl)) (pss_cons (ps_set (i := 1) sc__law_rest.nd rfl (Or.inl rfl) (pe_ix ix_tup (pe_ix ix_list (pv 0) (pv 1) (fun _ _ => rfl)) pe_int (fun _ _ => rfl)))
      (pss_one (ps_set (i := 3) sc__law_rest.nd rfl (Or.inl rfl) (pe_callB (call_min2 rfl) (by rfl) z_min bt_min (pa_cons (pv 3) (pa_cons (pv 1) pa_nil)))))))
      (pss_one (ps_ret (pv 3)))))), ?_⟩
  have stp : ∀ (x : Int), 0 ≤ x → x < (many : Int) → ∃ (ra : Addr) (rr : List Int), atI (ras.map V.ref) x = some (.ref ra) ∧ H ra = some (.tup (rr.map V.int)) ∧ atI (rr.map V.int) 0 = some (.int (stepI rows x 0)) := fun x x0 x1 => row_step hA R x0 x1 (by decide) (by omega)
  try dsimp only [gName]
  refine cut_seq (t := tFor _ _ _) (fun σ' H' => ∃ v, σ' = [some (.ref r), some (.int (it0 rows q many)), v, none] ∧ H' = H) ?_ (fun nxt => ?_)
  rotate_left
  · refine ⟨_, rfl, r, _, rfl, .inl (SqL.of hr'), ?_⟩
    rw [lr]
    refine ⟨(many : Int), rfl, by omega, by omega, for_range (fun i σ' H' => ∃ v, σ' = [some (.ref r), some (.int (it0 rows q i)), v, none] ∧ H' = H) ⟨none, rfl, rfl⟩ ?_ ?_⟩
    · rintro i σ' H' hi ⟨v, rfl, rfl⟩
      have hx := it0_in R w1 q0 q1 i
      obtain ⟨ra, rr, e1, e2, e3⟩ := stp _ hx.1 hx.2
      exact ⟨_, rfl, _, rfl, r, _, _, _, rfl, rfl, SqL.of hr', e1, ra, _, _, _, rfl, rfl, SqT.of e2, e3, _, rfl, rfl⟩
    · rintro σ' H' ⟨v, rfl, rfl⟩
      rw [Int.toNat_natCast]
      exact nxt _ _ ⟨v, rfl, rfl⟩
  rintro σ' H' ⟨v, rfl, rfl⟩
  refine ⟨_, rfl, ?_⟩
  try dsimp only [gName]
  refine cut_seq (t := tFor _ _ _) (fun σ' H'' => ∃ v x, σ' = [some (.ref r), x, v, some (.int (restI rows many q))] ∧ H'' = H') ?_ (fun nxt => ?_)
  rotate_left
  · refine ⟨_, rfl, r, _, rfl, .inl (SqL.of hr'), ?_⟩
    rw [lr]
    refine ⟨(many : Int), rfl, by omega, by omega, for_range (fun i σ' H'' => ∃ v, σ' = [some (.ref r), some (.int (it0 rows q (many + i))), v, some (.int (lowI rows q many i))] ∧ H'' = H') ⟨v, rfl, rfl⟩ ?_ ?_⟩
    · rintro i σ' H'' hi ⟨v, rfl, rfl⟩
      have hx := it0_in R w1 q0 q1 (many + i)
      obtain ⟨ra, rr, e1, e2, e3⟩ := stp _ hx.1 hx.2
      refine ⟨_, rfl, _, rfl, r, _, _, _, rfl, rfl, SqL.of hr', e1, ra, _, _, _, rfl, rfl, SqT.of e2, e3, ?_⟩
      exact ⟨_, rfl, _, rfl, _, _, rfl, some (.int (0 + i)), rfl, rfl⟩
    · rintro σ' H'' ⟨v, rfl, rfl⟩
      rw [Int.toNat_natCast]
      exact nxt _ _ ⟨_, _, rfl, rfl⟩
  rintro σ' H'' ⟨v, x, rfl, rfl⟩
  exact ⟨_, rfl, k⟩
end
theorem Figs.tail {w x d : Int} {ds : List Int} (hw : 2 ≤ w) (h : Figs w x (d :: ds)) : Figs w (x / w) ds ∧ x % w = d := by
  have hd := h.inb d List.mem_cons_self
  have v : d + w * valB w ds = x := h.val
  have e1 : x % w = d := by rw [← v, Int.add_mul_emod_self_left]; exact Int.emod_eq_of_lt hd.1 hd.2
  refine ⟨⟨h.inb.tail, ?_, fun e he => ?_⟩, e1⟩
  · rw [← v, Int.add_mul_ediv_left _ _ (by omega), Int.ediv_eq_zero_of_lt hd.1 hd.2, Int.zero_add]
  · cases ds with
    | nil => simp at he
    | cons y ys => exact h.top e (by rw [List.getLast?_cons_cons]; exact he)
theorem figs_ex {w : Nat} (hw : 2 ≤ w) (n : Nat) : ∃ ds, Figs w n ds := by
  induction n using Nat.strongRecOn with
  | _ n ih =>
    rcases Nat.eq_zero_or_pos n with z | z
    · subst z
      exact ⟨[], InB.nil, rfl, fun d hd => by simp at hd⟩
    · obtain ⟨ds, h⟩ := ih (n / w) (Nat.div_lt_self z (by omega))
      have m := Nat.mod_lt n (show 0 < w by omega)
      refine ⟨((n % w : Nat) : Int) :: ds, InB.cons (by omega) (by omega) h.inb, ?_, fun d hd => ?_⟩
      · show ((n % w : Nat) : Int) + (w : Int) * valB w ds = n
        rw [h.val]
        have := Nat.mod_add_div n w
        have e : ((n % w + w * (n / w) : Nat) : Int) = (n : Int) := by rw [this]
        push_cast at e ⊢
        exact e
      · cases ds with
        | nil =>
          have e : ((n % w : Nat) : Int) = d := by simpa using hd
          have v : valB (w : Int) [] = ((n / w : Nat) : Int) := h.val
          have v0 : valB (w : Int) [] = 0 := rfl
          have : n / w = 0 := by omega
          have := Nat.mod_add_div n w
          have : n % w = n := by
            rw [‹n / w = 0›, Nat.mul_zero, Nat.add_zero] at this
            exact this
          omega
        | cons y ys => rw [List.getLast?_cons_cons] at hd; exact h.top d hd
/-! ### factors, figures, weights: the mathematics -/
theorem pre_congr {f g : Nat → Int} : ∀ {n : Nat}, (∀ i, i < n → f i = g i) → preSum f n = preSum g n
  | 0, _ => rfl
  | n + 1, h => by
    show preSum f n + f n = preSum g n + g n
    rw [pre_congr (fun i hi => h i (by omega)), h n (by omega)]
theorem sumI_range (f : Nat → Int) (n : Nat) : sumI ((List.range n).map f) = preSum f n := by
  have h := preSum_foldl ((List.range n).map f) n (by simp)
  rw [List.take_of_length_le (by simp)] at h
  unfold sumI
  rw [← h]
  exact pre_congr fun i hi => by simp [hi]
/-- g without its lowest i figures -/
def dvI (b : Int) : Nat → Int → Int
  | 0, g => g
  | i + 1, g => dvI b i g / b
def wgI (F : List Int) (b g : Int) (n : Nat) : Int := preSum (fun i => F.getD i 0 * (dvI b i g % b)) n
/-- the figure of the numbers side by side, at the place low -/
def figJ (b low : Int) : List Int → Int
  | [] => 0
  | n :: r => figJ b low r * b + n / low % b
theorem fig_div {b x y : Int} (hb : 0 < b) : (x * b + y % b) / b = x := by
  have h := mod_in (a := y) hb
  rw [Int.add_comm, Int.add_mul_ediv_right _ _ (by omega), Int.ediv_eq_zero_of_lt h.1 h.2, Int.zero_add]
theorem fig_mod {b x y : Int} (hb : 0 < b) : (x * b + y % b) % b = y % b := by
  have h := mod_in (a := y) hb
  rw [Int.add_comm, Int.add_mul_emod_self_right, Int.emod_eq_of_lt h.1 h.2]
theorem dv_fig {b low : Int} (hb : 0 < b) (N : List Int) : ∀ i : Nat, dvI b i (figJ b low N) = figJ b low (N.drop i)
  | 0 => rfl
  | i + 1 => by
    show dvI b i (figJ b low N) / b = _
    rw [dv_fig hb N i]
    by_cases h : i < N.length
    · rw [List.drop_eq_getElem_cons h]
      exact fig_div hb
    · rw [List.drop_eq_nil_of_le (by omega), List.drop_eq_nil_of_le (by omega)]
      show (0 : Int) / b = 0
      exact Int.zero_ediv b
theorem dv_fig_mod {b low : Int} (hb : 0 < b) {N : List Int} {i : Nat} (h : i < N.length) : dvI b i (figJ b low N) % b = N.getD i 0 / low % b := by
  rw [dv_fig hb, List.drop_eq_getElem_cons h, getD_at h]
  exact fig_mod hb
/-- what the factors and the figures at a place come to -/
def wgL (F N : List Int) (b low : Int) (n : Nat) : Int := preSum (fun i => F.getD i 0 * (N.getD i 0 / low % b)) n
theorem wg_law {F N : List Int} {b low : Int} (hb : 0 < b) (hl : F.length = N.length) : wgI F b (figJ b low N) F.length = wgL F N b low F.length :=
  pre_congr fun i hi => by rw [dv_fig_mod hb (by omega)]
def sLow (F N : List Int) (low : Int) (n : Nat) : Int := preSum (fun i => F.getD i 0 * (N.getD i 0 % low)) n
theorem mod_mulI {n l b : Int} (n0 : 0 ≤ n) (l0 : 0 < l) (b0 : 0 < b) : n % (l * b) = n % l + l * (n / l % b) := by
  obtain ⟨x, rfl⟩ := nat_of n0
  obtain ⟨y, rfl⟩ := nat_of (Int.le_of_lt l0)
  obtain ⟨z, rfl⟩ := nat_of (Int.le_of_lt b0)
  have h := Nat.mod_mul (x := x) (a := y) (b := z)
  exact_mod_cast h
theorem sLow_step {F N : List Int} {b low : Int} (hb : 0 < b) (hl : 0 < low) (hN : ∀ z ∈ N, 0 ≤ z) : ∀ n : Nat, sLow F N (low * b) n = sLow F N low n + low * wgL F N b low n
  | 0 => by show (0 : Int) = 0 + low * 0; omega
  | n + 1 => by
    show sLow F N (low * b) n + F.getD n 0 * (N.getD n 0 % (low * b)) = (sLow F N low n + F.getD n 0 * (N.getD n 0 % low)) + low * (wgL F N b low n + F.getD n 0 * (N.getD n 0 / low % b))
    have h0 : 0 ≤ N.getD n 0 := by
      by_cases h : n < N.length
      · rw [getD_at h]; exact hN _ (List.getElem_mem h)
      · rw [List.getD_eq_getElem?_getD, List.getElem?_eq_none (by omega)]; exact Int.le_refl _
    rw [sLow_step hb hl hN n, mod_mulI h0 hl hb, Int.mul_add, Int.mul_add, Int.mul_left_comm (F.getD n 0) low]
    omega
theorem sLow_one {F N : List Int} : ∀ n : Nat, sLow F N 1 n = 0
  | 0 => rfl
  | n + 1 => by
    show sLow F N 1 n + F.getD n 0 * (N.getD n 0 % 1) = 0
    rw [sLow_one n, Int.emod_one, Int.mul_zero]
    rfl
theorem wgL_one {F N : List Int} {b : Int} (n : Nat) : wgL F N b 1 n = sLow F N b n := pre_congr fun i _ => by rw [Int.ediv_one]
/-! ### places -/
def duM (left low : Int) : V := if left % low = 0 then .int (left / low) else .non
def duW (left low : Int) : V := .int (left / low)
def stepM (b : Int) (p : V) (wt : Int) : V := match p with
  | .int z => if (z - wt) % b = 0 then .int ((z - wt) / b) else .non
  | _ => .non
def Plc (p : V) : Prop := p = .non ∨ ∃ z : Int, p = .int z
theorem Plc.duM (left low : Int) : Plc (duM left low) := by
  unfold My.duM
  split
  · exact .inr ⟨_, rfl⟩
  · exact .inl rfl
/-! ### a sum's figures, carried on: the mathematics -/
theorem pad_sign {many wide : Nat} {rows : List (List Int)} {signs : List Int} (R : RowsOk many wide rows) (w2 : 2 ≤ wide) (S : SteadyS many rows signs) : ∀ {es ds : List Int} {n q : Int}, InB wide es → valB wide es = n → Figs wide n ds → 0 ≤ q → q < (many : Int) →
    signs.getD (walkI rows es q).toNat 0 = signs.getD (walkI rows ds q).toNat 0
  | [], ds, n, q, _, hv, F, _, _ => by
    have hn : n = 0 := hv.symm
    have : ds = [] := figs_one (by omega) F ⟨InB.nil, hn.symm, fun d hd => by simp at hd⟩
    rw [this]
  | d :: es, ds, n, q, hi, hv, F, q0, q1 => by
    have hd := hi d List.mem_cons_self
    have ht : InB (wide : Int) es := hi.tail
    have v : d + (wide : Int) * valB wide es = n := hv
    have st := stepI_ok R q0 q1 hd.1 hd.2
    have v0 : 0 ≤ valB (wide : Int) es := valB_nonneg (by omega) ht
    cases ds with
    | nil =>
      have n0 : n = 0 := F.val.symm
      have p0 : 0 ≤ (wide : Int) * valB wide es := Int.mul_nonneg (by omega) v0
      have d0 : d = 0 := by omega
      have e0 : valB (wide : Int) es = 0 := by
        have : (wide : Int) * valB wide es = 0 := by omega
        rcases Int.mul_eq_zero.mp this with z | z
        · omega
        · exact z
      have h := pad_sign R w2 S (es := es) (ds := []) (n := 0) (q := stepI rows q d) ht e0 ⟨InB.nil, rfl, fun d hd => by simp at hd⟩ st.1 st.2
      show signs.getD (walkI rows es (stepI rows q d)).toNat 0 = _
      rw [h]
      show signs.getD (stepI rows q d).toNat 0 = signs.getD q.toNat 0
      rw [d0]
      exact S q q0 q1
    | cons e ds =>
      obtain ⟨ft, ee⟩ := F.tail (by omega)
      have e1 : n % (wide : Int) = d := by rw [← v, Int.add_mul_emod_self_left]; exact Int.emod_eq_of_lt hd.1 hd.2
      have e2 : n / (wide : Int) = valB wide es := by rw [← v, Int.add_mul_ediv_left _ _ (by omega), Int.ediv_eq_zero_of_lt hd.1 hd.2, Int.zero_add]
      have ed : e = d := by rw [← ee, e1]
      subst ed
      exact pad_sign R w2 S (es := es) (ds := ds) (n := n / wide) (q := stepI rows q e) ht e2.symm ft st.1 st.2
/-- the figures read so far lead here; what is carried and they come to t -/
structure Lk (rows : List (List Int)) (b t c q : Int) (j : Nat) : Prop where
  ex : ∃ ls : List Int, ls.length = j ∧ InB b ls ∧ walkI rows ls 0 = q ∧ valB b ls + b ^ j * c = t
theorem Lk.zero {rows : List (List Int)} {b t : Int} : Lk rows b t t 0 0 := ⟨[], rfl, InB.nil, rfl, by show (0 : Int) + b ^ 0 * t = t; rw [Int.pow_zero]; omega⟩
theorem Lk.step {rows : List (List Int)} {b t c q w : Int} {j : Nat} (hb : 0 < b) (h : Lk rows b t c q j) : Lk rows b (t + b ^ j * w) ((c + w) / b) (stepI rows q ((c + w) % b)) (j + 1) := by
  obtain ⟨ls, l1, l2, l3, l4⟩ := h.ex
  have hm := mod_in (a := c + w) hb
  refine ⟨ls ++ [(c + w) % b], by simp [l1], fun p hp => ?_, ?_, ?_⟩
  · rcases List.mem_append.mp hp with z | z
    · exact l2 p z
    · rw [List.mem_singleton.mp z]; exact hm
  · rw [walkI_append, l3]
    rfl
  · rw [valB_snoc, l1, Int.pow_succ]
    have e : c + w = b * ((c + w) / b) + (c + w) % b := (Int.mul_ediv_add_emod (c + w) b).symm
    have e2 : b ^ j * (c + w) = b ^ j * (b * ((c + w) / b)) + b ^ j * ((c + w) % b) := by
      rw [← Int.mul_add, ← e]
    have e3 : b ^ j * (c + w) = b ^ j * c + b ^ j * w := Int.mul_add ..
    have e4 : b ^ j * b * ((c + w) / b) = b ^ j * (b * ((c + w) / b)) := Int.mul_assoc ..
    have e5 : (c + w) % b * b ^ j = b ^ j * ((c + w) % b) := Int.mul_comm ..
    omega
theorem Lk.sign {many wide : Nat} {rows : List (List Int)} {signs ds es : List Int} {t c q : Int} {j : Nat} (R : RowsOk many wide rows) (w2 : 2 ≤ wide) (m1 : 1 ≤ many) (S : SteadyS many rows signs) (h : Lk rows wide t c q j) (F : Figs wide c es) (G : Figs wide t ds) :
    signs.getD (walkI rows es q).toNat 0 = signs.getD (walkI rows ds 0).toNat 0 := by
  obtain ⟨ls, l1, l2, l3, l4⟩ := h.ex
  have hv : valB (wide : Int) (ls ++ es) = t := by rw [valB_append, F.val, l1]; exact l4
  have := pad_sign R w2 S (es := ls ++ es) (q := 0) (fun p hp => by
    rcases List.mem_append.mp hp with z | z
    · exact l2 p z
    · exact F.inb p z) hv G (by decide) (by omega)
  rw [walkI_append, l3] at this
  exact this
end My

set_option Elab.async false
set_option linter.all false
set_option maxRecDepth 100000
set_option maxHeartbeats 8000000
namespace My
open PySem L2
/-! ### looking: the program -/
structure LCls (K : PySem.W.Frag) (C : Addr) : Prop where
  cl : Cls K C
  nm : NoAttr K C "machine"
  nf : NoAttr K C "factors"
  no : NoAttr K C "more"
  nb : NoAttr K C "base"
structure LkAt (H : Hp) (C x m : Addr) (F : List Int) (more b : Int) : Prop where
  ob : ∃ dx fa : Addr, H x = some (.ins C dx [("machine", .ref m), ("factors", .ref fa), ("more", .int more), ("base", .int b)]) ∧ H fa = some (.tup (F.map V.int))
theorem LkAt.same {H H' : Hp} {C x m : Addr} {F : List Int} {more b : Int} (h : LkAt H C x m F more b) (s : Same H H') : LkAt H' C x m F more b := by
  obtain ⟨dx, fa, h1, h2⟩ := h.ob
  exact ⟨dx, fa, s _ _ h1, s _ _ h2⟩
def spWof : Sp := fun vs H Q _ => ∃ (fa : Addr) (b g : Int) (F : List Int), vs = [.ref fa, .int b, .int g] ∧ H fa = some (.tup (F.map V.int)) ∧ (2 ≤ b ∧ b ≤ 10) ∧ Q (.int (wgI F b g F.length)) H
def spRoom (K : PySem.W.Frag) : Sp := fun vs H Q _ => ∃ (m r g b : Addr) (st : Int) (many wide : Nat) (rows : List (List Int)) (signs ns : List Int), vs = [.ref m, .ref b, .int st] ∧ MachAt H m r g wide rows signs ∧ RowsOk many wide rows ∧
  H b = some (.tup (ns.map V.int)) ∧ (∀ z ∈ ns, 0 ≤ z ∧ z < (wide : Int)) ∧ (0 ≤ st ∧ st < (many : Int)) ∧ Q (.int (walkI rows ns st)) H
def spLInit (C : Addr) : Sp := fun vs H Q _ => ∃ (x dx m a : Addr) (F : List Int) (more b : Int), vs = [.ref x, .ref m, .ref a, .int more, .int b] ∧ H x = some (.ins C dx []) ∧ H a = some (.lst (F.map V.int)) ∧
  ∀ H' : Hp, (∀ c u, c ≠ x → H c = some u → H' c = some u) → LkAt H' C x m F more b → Q .non H'
def spLBegin (C : Addr) : Sp := fun vs H Q _ => ∃ (x m : Addr) (F : List Int) (more b : Int), vs = [.ref x] ∧ LkAt H C x m F more b ∧ ∀ (t : Addr) (H' : Hp), Same H H' → H' t = some (.tup [.int more, .int 0]) → Q (.ref t) H'
def spLStep (C : Addr) : Sp := fun vs H Q _ => ∃ (x m p r g : Addr) (F : List Int) (more c q fg : Int) (many wide : Nat) (rows : List (List Int)) (signs : List Int), vs = [.ref x, .ref p, .int fg] ∧ LkAt H C x m F more wide ∧ H p = some (.tup [.int c, .int q]) ∧ MachAt H m r g wide rows signs ∧ RowsOk many wide rows ∧ (2 ≤ wide ∧ wide ≤ 10) ∧ (0 ≤ q ∧ q < (many : Int)) ∧
  ∀ (t : Addr) (H' : Hp), Same H H' → H' t = some (.tup [.int ((c + wgI F wide fg F.length) / wide), .int (stepI rows q ((c + wgI F wide fg F.length) % wide))]) → Q (.ref t) H'
def spLSign (C : Addr) : Sp := fun vs H Q _ => ∃ (x m p r g : Addr) (F : List Int) (more c q : Int) (many wide : Nat) (rows : List (List Int)) (signs ds : List Int), vs = [.ref x, .ref p] ∧ LkAt H C x m F more wide ∧ H p = some (.tup [.int c, .int q]) ∧ MachAt H m r g wide rows signs ∧ RowsOk many wide rows ∧ signs.length = many ∧ (2 ≤ wide ∧ wide ≤ 10) ∧ (0 ≤ q ∧ q < (many : Int)) ∧ (0 ≤ c ∧ c < NB) ∧ Figs wide c ds ∧
  ∀ H' : Hp, Same H H' → Q (.int (signs.getD (walkI rows ds q).toNat 0)) H'
section
variable {P : Program} {w : World} {K : PySem.W.Frag} {mg : Str → Option Value} {base : Heap} {f : Addr} {fd : FuncData} {dV : Value} {C : Addr}
theorem sc_room : FnScope ["machine", "row", "start", "rows", "here", "figure"] ["machine", "row", "start"] (defScope s_room) := ⟨rfl, rfl, rfl, by decide +kernel, rfl, by decide +kernel, by decide +kernel⟩
theorem sc_weight_of : FnScope ["factors", "base", "figure", "weight", "rest", "factor"] ["factors", "base", "figure"] (defScope s_weight_of) := ⟨rfl, rfl, rfl, by decide +kernel, rfl, by decide +kernel, by decide +kernel⟩
theorem sc_Looking___init__ : FnScope ["self", "machine", "factors", "more", "base"] ["self", "machine", "factors", "more", "base"] (defScope s_Looking___init__) := ⟨rfl, rfl, rfl, by decide +kernel, rfl, by decide +kernel, by decide +kernel⟩
theorem sc_Looking_begin : FnScope ["self"] ["self"] (defScope s_Looking_begin) := ⟨rfl, rfl, rfl, by decide +kernel, rfl, by decide +kernel, by decide +kernel⟩
theorem sc_Looking_step : FnScope ["self", "place", "figure", "total"] ["self", "place", "figure"] (defScope s_Looking_step) := ⟨rfl, rfl, rfl, by decide +kernel, rfl, by decide +kernel, by decide +kernel⟩
theorem sc_Looking_sign : FnScope ["self", "place"] ["self", "place"] (defScope s_Looking_sign) := ⟨rfl, rfl, rfl, by decide +kernel, rfl, by decide +kernel, by decide +kernel⟩
theorem ok_room (F : FunD K "room" "room" s_room dV f fd) : FnOk P w K mg base CX0 1 f fd ["machine", "row", "start"] (spRoom K) := by
  refine F.ok sc_room (fun vs H Q E h => ?_) (fun cdv A outer s H vs Q E hr h => ?_)
  · obtain ⟨m, r, g, b, st, many, wide, rows, signs, ns, rfl, _⟩ := h
    rfl
  obtain ⟨m, r, g, b, st, many, wide, rows, signs, ns, rfl, M, R, hb, hin, ⟨s0, s1⟩, q⟩ := h
  obtain ⟨hm, ⟨ras, hr', hA⟩, hg⟩ := M
  refine ⟨_, (pss_cons (ps_set (i := 3) sc_room.nd rfl (Or.inl rfl) (pe_ix ix_tup (pv 0) pe_int (fun _ _ => rfl)))
      (pss_cons (ps_set (i := 4) sc_room.nd rfl (Or.inl rfl) (pv 2))
      (pss_cons (ps_for PassesOwn.never rfl (pi_tup (pv 1)) (pg_name (i := 5) sc_room.nd rfl (Or.inl rfl)) (pss_one (ps_set (i := 4) sc_room.nd rfl (Or.inl rfl) (pe_ix ix_tup (pe_ix ix_tup (pv 3) (pv 4) (fun _ _ => rfl)) (pv 5) (fun _ _ => rfl)))))
      (pss_one (ps_ret (pv 4)))))), ?_⟩
  refine ⟨_, rfl, m, _, _, _, rfl, rfl, SqT.of hm, rfl, ?_⟩
  refine ⟨_, rfl, ?_⟩
  refine ⟨_, rfl, b, rfl, ⟨_, SqT.of hb⟩, for_tup (K := K) (xs := ns.map V.int) (fun i σ' H' => ∃ v, σ' = [some (.ref m), some (.ref b), some (.int st), some (.ref r), some (.int (walkI rows (ns.take i) st)), v] ∧ H' = H) ⟨none, rfl, rfl⟩ (fun i σ' H' _ ⟨_, _, e⟩ => by rw [e]; exact SqT.of hb) ?_ ?_⟩
  · rintro i y σ' H' hi ⟨v, rfl, rfl⟩
    obtain ⟨z, rfl, hz⟩ := ints_at hi
    have w0 := walkI_ok R (ns := ns.take i) (h := st) (fun z hz => hin z (List.mem_of_mem_take hz)) s0 s1
    have hz' := hin z (List.mem_of_getElem? hz)
    obtain ⟨ra, rr, e1, e2, e3⟩ := row_step hA R w0.1 w0.2 hz'.1 hz'.2
    rw [← walkI_take hz] at e3
    exact ⟨_, rfl, _, rfl, r, _, _, _, rfl, rfl, SqT.of hr', e1, _, rfl, ra, _, _, _, rfl, rfl, SqT.of e2, e3, _, rfl, rfl⟩
  · rintro σ' H' ⟨v, rfl, rfl⟩
    refine ⟨_, rfl, ?_⟩
    rw [List.length_map, List.take_length]
    exact q
theorem ok_wof (F : FunD K "weight_of" "weight_of" s_weight_of dV f fd) : FnOk P w K mg base CX0 1 f fd ["factors", "base", "figure"] spWof := by
  refine F.ok sc_weight_of (fun vs H Q E h => ?_) (fun cdv A outer s H vs Q E hr h => ?_)
  · obtain ⟨fa, b, g, Fs, rfl, _⟩ := h
    rfl
  obtain ⟨fa, b, g, Fs, rfl, hF, ⟨b0, b1⟩, q⟩ := h
  refine ⟨_, (pss_cons (ps_set (i := 3) sc_weight_of.nd rfl (Or.inl rfl) pe_int)
      (pss_cons (ps_set (i := 4) sc_weight_of.nd rfl (Or.inl rfl) (pv 2))
      (pss_cons (ps_for PassesOwn.never rfl (pi_tup (pv 0)) (pg_name (i := 5) sc_weight_of.nd rfl (Or.inl rfl)) (pss_cons (ps_set (i := 3) sc_weight_of.nd rfl (Or.inl rfl) (pe_op op_add (pv 3) (pe_op op_mul (pv 5) (pe_op op_mod (pv 4) (pv 1)))))
      (pss_one (ps_set (i := 4) sc_weight_of.nd rfl (Or.inl rfl) (pe_op op_fdiv (pv 4) (pv 1))))))
      (pss_one (ps_ret (pv 3)))))), ?_⟩
  refine ⟨_, rfl, ?_⟩
  refine ⟨_, rfl, fa, rfl, ⟨_, SqT.of hF⟩, for_tup (K := K) (xs := Fs.map V.int) (fun i σ' H' => ∃ v, σ' = [some (.ref fa), some (.int b), some (.int g), some (.int (wgI Fs b g i)), some (.int (dvI b i g)), v] ∧ H' = H) ⟨none, rfl, rfl⟩ (fun i σ' H' _ ⟨_, _, e⟩ => by rw [e]; exact SqT.of hF) ?_ ?_⟩
  · rintro i y σ' H' hi ⟨v, rfl, rfl⟩
    obtain ⟨z, rfl, hz⟩ := ints_at hi
    have hm := mod_in (a := dvI b i g) (b := b) (by omega)
    have ez : Fs.getD i 0 = z := by rw [List.getD_eq_getElem?_getD, hz]; rfl
    refine ⟨_, rfl, _, rfl, _, rfl, _, rfl, _, _, rfl, rfl, (by omega), _, _, rfl, rfl, .inr ⟨by omega, by omega⟩, _, _, rfl, rfl, _, rfl, _, rfl, _, _, rfl, rfl, ⟨by omega, by omega⟩, some (.int z), ?_, rfl⟩
    show [_, _, _, some (V.int (wgI Fs b g i + z * (dvI b i g % b))), some (V.int (dvI b i g / b)), _] = [_, _, _, some (V.int (wgI Fs b g i + Fs.getD i 0 * (dvI b i g % b))), some (V.int (dvI b i g / b)), _]
    rw [ez]
  · rintro σ' H' ⟨v, rfl, rfl⟩
    refine ⟨_, rfl, ?_⟩
    rw [List.length_map]
    exact q
theorem ok_linit (F : FunD K "__init__" "Looking.__init__" s_Looking___init__ dV f fd) (lc : LCls K C) (z_tuple : mg "tuple" = none) : FnOk P w K mg base CX0 1 f fd ["self", "machine", "factors", "more", "base"] (spLInit C) := by
  refine F.ok sc_Looking___init__ (fun vs H Q E h => ?_) (fun cdv A outer s H vs Q E hr h => ?_)
  · obtain ⟨x, dx, m, a, Fs, more, b, rfl, _⟩ := h
    rfl
  obtain ⟨x, dx, m, a, Fs, more, b, rfl, hx, ha, k⟩ := h
  refine ⟨_, (pss_cons (ps_fld (pv 0) (pv 1) rfl)
      (pss_cons (ps_fld (pv 0) (pe_callTy call_tuple_of (by rfl) z_tuple bt_tuple (pa_cons (pv 2) pa_nil)) rfl)
      (pss_cons (ps_fld (pv 0) (pv 3) rfl)
      (pss_one (ps_fld (pv 0) (pv 4) rfl))))), ?_⟩
  refine ⟨_, rfl, _, rfl, x, C, dx, [], rfl, hx, lc.cl, lc.nm, by decide, ?_⟩
  have nax : a ≠ x := ne_of ha hx (by intro z; cases z)
  refine ⟨_, rfl, a, _, rfl, .inl ⟨SqL.of (by rw [upd_ne nax]; exact ha), fun t ht => ?_⟩⟩
  have nxt : x ≠ t := fun z => by rw [← z, upd_same] at ht; cases ht
  refine ⟨_, rfl, x, C, dx, _, rfl, by rw [upd_ne nxt, upd_same], lc.cl, lc.nf, by show 1 < 1000; decide, ?_⟩
  refine ⟨_, rfl, _, rfl, x, C, dx, _, rfl, upd_same, lc.cl, lc.no, by show 2 < 1000; decide, ?_⟩
  refine ⟨_, rfl, _, rfl, x, C, dx, _, rfl, upd_same, lc.cl, lc.nb, by show 3 < 1000; decide, ?_⟩
  refine k _ (fun c u hc e => ?_) ⟨dx, t, upd_same, ?_⟩
  · have nct : c ≠ t := fun z => by
      subst z
      rw [upd_ne hc] at ht
      rw [e] at ht
      cases ht
    rw [upd_ne hc, upd_ne hc, upd_ne hc, upd_ne nct, upd_ne hc]
    exact e
  · rw [upd_ne (Ne.symm nxt), upd_ne (Ne.symm nxt), upd_ne (Ne.symm nxt), upd_same]
theorem ok_lbegin (F : FunD K "begin" "Looking.begin" s_Looking_begin dV f fd) (lc : LCls K C) : FnOk P w K mg base CX0 1 f fd ["self"] (spLBegin C) := by
  refine F.ok sc_Looking_begin (fun vs H Q E h => ?_) (fun cdv A outer s H vs Q E hr h => ?_)
  · obtain ⟨x, m, Fs, more, b, rfl, _⟩ := h
    rfl
  obtain ⟨x, m, Fs, more, b, rfl, ⟨dx, fa, hx, hF⟩, q⟩ := h
  refine ⟨_, (pss_one (ps_ret (pe_tup (pa_cons (pe_fld (pv 0) rfl) (pa_cons pe_int pa_nil))))), ?_⟩
  exact ⟨_, rfl, x, C, dx, _, _, rfl, hx, lc.cl, lc.no, rfl, (by show 2 ≤ sizeLine; decide), fun t ht => q t _ (same_new ht _) upd_same⟩
theorem ok_lstep (F : FunD K "step" "Looking.step" s_Looking_step dV f fd) (lc : LCls K C) (G_weight_of : DefOk P w K mg base "weight_of" 1 ["factors", "base", "figure"] [] spWof) : FnOk P w K mg base CX0 2 f fd ["self", "place", "figure"] (spLStep C) := by
  refine F.ok sc_Looking_step (fun vs H Q E h => ?_) (fun cdv A outer s H vs Q E hr h => ?_)
  · obtain ⟨x, m, p, r, g, Fs, more, c, q, fg, many, wide, rows, signs, rfl, _⟩ := h
    rfl
  obtain ⟨x, m, p, r, g, Fs, more, c, q, fg, many, wide, rows, signs, rfl, ⟨dx, fa, hx, hF⟩, hp, M, R, ⟨w0, w1⟩, ⟨q0, q1⟩, k⟩ := h
  obtain ⟨hm, ⟨ras, hr', hA⟩, hg⟩ := M
  refine ⟨_, (pss_cons (ps_set (i := 3) sc_Looking_step.nd rfl (Or.inl rfl) (pe_op op_add (pe_ix ix_tup (pv 1) pe_int (fun _ _ => rfl)) (pe_cd G_weight_of hr (pa_cons (pe_fld (pv 0) rfl) (pa_cons (pe_fld (pv 0) rfl) (pa_cons (pv 2) pa_nil))))))
      (pss_one (ps_ret (pe_tup (pa_cons (pe_op op_fdiv (pv 3) (pe_fld (pv 0) rfl)) (pa_cons (pe_ix ix_tup (pe_ix ix_tup (pe_ix ix_tup (pe_fld (pv 0) rfl) pe_int (fun _ _ => rfl)) (pe_ix ix_tup (pv 1) pe_int (fun _ _ => rfl)) (fun _ _ => rfl)) (pe_op op_mod (pv 3) (pe_fld (pv 0) rfl)) (fun _ _ => rfl)) pa_nil)))))), ?_⟩
  refine ⟨_, rfl, p, _, _, _, rfl, rfl, SqT.of hp, rfl, _, rfl, x, C, dx, _, _, rfl, hx, lc.cl, lc.nf, rfl, _, rfl, x, C, dx, _, _, rfl, hx, lc.cl, lc.nb, rfl, _, rfl, fa, _, _, Fs, rfl, hF, ⟨by omega, by omega⟩, _, _, rfl, rfl, ?_⟩
  have md := mod_in (a := c + wgI Fs wide fg Fs.length) (b := (wide : Int)) (by omega)
  obtain ⟨ra, rr, e1, e2, e3⟩ := row_step hA R q0 q1 md.1 md.2
  refine ⟨_, rfl, _, rfl, x, C, dx, _, _, rfl, hx, lc.cl, lc.nb, rfl, _, _, rfl, rfl, ⟨by omega, by omega⟩, ?_⟩
  refine ⟨_, rfl, x, C, dx, _, _, rfl, hx, lc.cl, lc.nm, rfl, m, _, _, _, rfl, rfl, SqT.of hm, rfl, _, rfl, p, _, _, _, rfl, rfl, SqT.of hp, rfl, r, _, _, _, rfl, rfl, SqT.of hr', e1, ?_⟩
  exact ⟨_, rfl, _, rfl, x, C, dx, _, _, rfl, hx, lc.cl, lc.nb, rfl, _, _, rfl, rfl, (by omega), ra, _, _, _, rfl, rfl, SqT.of e2, e3, (by show 2 ≤ sizeLine; decide), fun t ht => k t _ (same_new ht _) upd_same⟩
theorem ok_lsign (F : FunD K "sign" "Looking.sign" s_Looking_sign dV f fd) (lc : LCls K C) (G_room : DefOk P w K mg base "room" 1 ["machine", "row", "start"] [] (spRoom K)) (G_figures : DefOk P w K mg base "figures" 4 ["number", "wide"] [] (spFigures K)) : FnOk P w K mg base CX0 5 f fd ["self", "place"] (spLSign C) := by
  refine F.ok sc_Looking_sign (fun vs H Q E h => ?_) (fun cdv A outer s H vs Q E hr h => ?_)
  · obtain ⟨x, m, p, r, g, Fs, more, c, q, many, wide, rows, signs, ds, rfl, _⟩ := h
    rfl
  obtain ⟨x, m, p, r, g, Fs, more, c, q, many, wide, rows, signs, ds, rfl, ⟨dx, fa, hx, hF⟩, hp, M, R, lsg, ⟨w0, w1⟩, ⟨q0, q1⟩, ⟨c0, c1⟩, FG, k⟩ := h
  refine ⟨_, (pss_one (ps_ret (pe_ix ix_tup (pe_ix ix_tup (pe_fld (pv 0) rfl) pe_int (fun _ _ => rfl)) (pe_cd G_room hr (pa_cons (pe_fld (pv 0) rfl) (pa_cons (pe_cd G_figures hr (pa_cons (pe_ix ix_tup (pv 1) pe_int (fun _ _ => rfl)) (pa_cons (pe_fld (pv 0) rfl) pa_nil))) (pa_cons (pe_ix ix_tup (pv 1) pe_int (fun _ _ => rfl)) pa_nil)))) (fun _ _ => rfl)))), ?_⟩
  refine ⟨_, rfl, x, C, dx, _, _, rfl, hx, lc.cl, lc.nm, rfl, m, _, _, _, rfl, rfl, SqT.of M.tup, rfl, ?_⟩
  refine ⟨_, rfl, x, C, dx, _, _, rfl, hx, lc.cl, lc.nm, rfl, _, rfl, p, _, _, _, rfl, rfl, SqT.of hp, rfl, _, rfl, x, C, dx, _, _, rfl, hx, lc.cl, lc.nb, rfl, c, _, rfl, ⟨c0, c1⟩, ⟨by omega, Int.lt_of_le_of_lt (show (wide : Int) ≤ 10 by omega) (by decide +kernel)⟩, fun t H' es s' ht FG' _ => ?_⟩
  have ee : es = ds := figs_one (by omega) FG' FG
  subst ee
  have M' := M.same fun b xs e => s' _ _ e
  have wk := walkI_ok R (ns := es) (h := q) FG'.inb q0 q1
  refine ⟨_, rfl, p, _, _, _, rfl, rfl, SqT.of (s' _ _ hp), rfl, m, r, g, t, q, many, wide, rows, signs, es, rfl, M', R, ht, FG'.inb, ⟨q0, q1⟩, ?_⟩
  exact ⟨g, _, _, _, rfl, rfl, SqT.of M'.sgn, atI_ints wk.1 (by omega), k _ s'⟩
end
end My

set_option Elab.async false
set_option linter.all false
set_option maxRecDepth 100000
set_option maxHeartbeats 8000000
namespace My
open PySem L2
/-! ### the law's own small steps -/
def pickI (xs : List Int) (k : Int) : Int := ((if xs = [] then 0 else xs.getD (k % (xs.length : Int)).toNat 0) % 1000003 * (48271 + 2 * k) + k * k * 7919 + 11) % 1000003
def spCell (K : PySem.W.Frag) : Sp := fun vs H Q _ => ∃ (a : Addr) (k : Int) (xs : List Int), vs = [.ref a, .int k] ∧ SqL K H a (xs.map V.int) ∧ 0 ≤ k ∧ ∀ v : Int, Q (.int v) H
def spWholeN : Sp := fun vs H Q _ => ∃ z : Int, vs = [.int z] ∧ Q (.bl true) H
def spPick (K : PySem.W.Frag) : Sp := fun vs H Q _ => ∃ (a : Addr) (k : Int) (xs : List Int), vs = [.ref a, .int k] ∧ SqL K H a (xs.map V.int) ∧ (0 ≤ k ∧ k ≤ 1000) ∧ Q (.int (pickI xs k)) H
def FacIn (F : List Int) : Prop := ∀ z ∈ F, 0 ≤ z ∧ z < 1000000000
def NumIn (N : List Int) : Prop := ∀ z ∈ N, 0 ≤ z ∧ z < 1000000000000000000
def spMachL (K : PySem.W.Frag) : Sp := fun vs H Q _ => ∃ (a : Addr) (wide : Nat) (xs : List Int), vs = [.ref a, .int wide] ∧ SqL K H a (xs.map V.int) ∧ (2 ≤ wide ∧ wide ≤ 5) ∧
  ∀ (m r g : Addr) (H' : Hp) (many : Nat) (rows : List (List Int)) (signs : List Int), Same H H' → MachAt H' m r g wide rows signs → RowsOk many wide rows → signs.length = many → (1 ≤ many ∧ many ≤ 6) → SteadyS many rows signs → Q (.ref m) H'
def spReadL : Sp := fun vs H Q _ => ∃ (m r g : Addr) (many wide : Nat) (rows : List (List Int)) (signs : List Int) (n q : Int) (ds : List Int), vs = [.ref m, .int n, .int q] ∧ MachAt H m r g wide rows signs ∧ RowsOk many wide rows ∧ (2 ≤ wide ∧ wide ≤ 10) ∧ (0 ≤ q ∧ q < (many : Int)) ∧ Figs wide n ds ∧ Q (.int (walkI rows ds q)) H
def spThereL (C : Addr) : Sp := fun vs H Q _ => ∃ (x m p r g : Addr) (F : List Int) (more c q : Int) (many wide : Nat) (rows : List (List Int)) (signs : List Int), vs = [.ref x, .ref p, .int c, .int q, .ref m] ∧ LkAt H C x m F more wide ∧ H p = some (.tup [.int c, .int q]) ∧ MachAt H m r g wide rows signs ∧ RowsOk many wide rows ∧ signs.length = many ∧ (2 ≤ wide ∧ wide ≤ 10) ∧ (0 ≤ q ∧ q < (many : Int)) ∧ (0 ≤ c ∧ c < NB) ∧
  ∀ H' : Hp, Same H H' → Q (.bl true) H'
theorem seq_const {v : V} {i : Nat} {u : TS} {D : Ends} {σ : St} {H : Hp} (h : u D (σ.set i (some v)) H) : tSeq (tAsg (tC v) (gName i)) u D σ H := h
section
variable {P : Program} {w : World} {K : PySem.W.Frag} {mg : Str → Option Value} {base : Heap} {f : Addr} {fd : FuncData} {dV : Value} {C : Addr}
theorem sc__law_cell_at : FnScope ["_law_script", "_law_k"] ["_law_script", "_law_k"] (defScope s__law_cell_at) := ⟨rfl, rfl, rfl, by decide +kernel, rfl, by decide +kernel, by decide +kernel⟩
theorem sc__law_whole : FnScope ["_law_found"] ["_law_found"] (defScope s__law_whole) := ⟨rfl, rfl, rfl, by decide +kernel, rfl, by decide +kernel, by decide +kernel⟩
theorem sc__law_pick : FnScope ["_law_script", "_law_k", "_law_cell"] ["_law_script", "_law_k"] (defScope s__law_pick) := ⟨rfl, rfl, rfl, by decide +kernel, rfl, by decide +kernel, by decide +kernel⟩
theorem sc__law_machine : FnScope ["_law_script", "_law_base", "_law_many", "_law_rows", "_law_kinds", "_law_signs"] ["_law_script", "_law_base"] (defScope s__law_machine) := ⟨rfl, rfl, rfl, by decide +kernel, rfl, by decide +kernel, by decide +kernel⟩
theorem bk__law_machine_0 : BlkScope1 ["_law_script", "_law_base", "_law_many", "_law_rows", "_law_kinds", "_law_signs"] (defScope s__law_machine) ["_law_q", "_law_base", "_law_many", "_law_script"] [none, some 1, some 2, some 0] { kind := ScopeKind.function, names := [(".0", NameKind.local), ("_law_q", NameKind.cell), ("tuple", NameKind.globalImplicit), ("range", NameKind.globalImplicit), ("_law_base", NameKind.free), ("_law_many", NameKind.free), ("_law_script", NameKind.free)], isGenerator := false, isCoroutine := false, more := [] } "_law_q" := ⟨rfl, by decide +kernel, by decide +kernel, by decide +kernel, fun _ _ => rfl, fun _ => rfl, by decide +kernel, by decide +kernel, by decide +kernel, rfl, by decide +kernel⟩
theorem bk__law_machine_1 : BlkScope ["_law_q", "_law_base", "_law_many", "_law_script"] { kind := ScopeKind.function, names := [(".0", NameKind.local), ("_law_q", NameKind.cell), ("tuple", NameKind.globalImplicit), ("range", NameKind.globalImplicit), ("_law_base", NameKind.free), ("_law_many", NameKind.free), ("_law_script", NameKind.free)], isGenerator := false, isCoroutine := false, more := [] } ["_law_f", "_law_base", "_law_many", "_law_q", "_law_script"] [none, some 1, some 2, some 0, some 3] { kind := ScopeKind.function, names := [(".0", NameKind.local), ("_law_f", NameKind.local), ("_law_pick", NameKind.globalImplicit), ("_law_base", NameKind.free), ("_law_many", NameKind.free), ("_law_q", NameKind.free), ("_law_script", NameKind.free)], isGenerator := false, isCoroutine := false, more := [] } := ⟨rfl, by decide +kernel, by decide +kernel, by decide +kernel, by decide +kernel, rfl, by decide +kernel⟩
theorem bk__law_machine_2 : BlkScope ["_law_script", "_law_base", "_law_many", "_law_rows", "_law_kinds", "_law_signs"] (defScope s__law_machine) ["_law_q", "_law_kinds", "_law_rows", "_law_script"] [none, some 4, some 3, some 0] { kind := ScopeKind.function, names := [(".0", NameKind.local), ("_law_q", NameKind.local), ("_law_pick", NameKind.globalImplicit), ("_law_rest", NameKind.globalImplicit), ("_law_kinds", NameKind.free), ("_law_rows", NameKind.free), ("_law_script", NameKind.free)], isGenerator := false, isCoroutine := false, more := [] } := ⟨rfl, by decide +kernel, by decide +kernel, by decide +kernel, by decide +kernel, rfl, by decide +kernel⟩
theorem sc__law_read : FnScope ["_law_machine_here", "_law_number", "_law_here"] ["_law_machine_here", "_law_number", "_law_here"] (defScope s__law_read) := ⟨rfl, rfl, rfl, by decide +kernel, rfl, by decide +kernel, by decide +kernel⟩
theorem sc__law_there : FnScope ["_law_walk", "_law_place", "_law_carried", "_law_here", "_law_machine_here", "_law_sign"] ["_law_walk", "_law_place", "_law_carried", "_law_here", "_law_machine_here"] (defScope s__law_there) := ⟨rfl, rfl, rfl, by decide +kernel, rfl, by decide +kernel, by decide +kernel⟩
theorem ok_cell (F : FunD K "_law_cell_at" "_law_cell_at" s__law_cell_at dV f fd) (z_len : mg "len" = none) : FnOk P w K mg base CX0 1 f fd ["_law_script", "_law_k"] (spCell K) := by
  refine F.ok sc__law_cell_at (fun vs H Q E h => ?_) (fun cdv A outer s H vs Q E hr h => ?_)
  · obtain ⟨a, k, xs, rfl, _⟩ := h
    rfl
  obtain ⟨a, k, xs, rfl, ha, k0, q⟩ := h
  refine ⟨_, (pss_cons (ps_if (pt_cmpR op_lt (pv 1) (pe_callB call_len_seq (by rfl) z_len bt_len (pa_cons (pv 0) pa_nil)) (nomark _)) (pss_one (ps_ret (pe_ix ix_list (pv 0) (pv 1) (fun _ _ => rfl)))) pss_nil)
      (pss_one (ps_ret pe_int))), ?_⟩
  refine ⟨_, rfl, _, rfl, a, _, rfl, .inl ha, _, _, rfl, rfl, _, rfl, iteD (fun c => ?_) (fun c => ?_)⟩
  · rw [List.length_map] at c
    exact ⟨_, rfl, _, rfl, a, _, _, _, rfl, rfl, ha, atI_ints k0 c, q _⟩
  · exact q 0
theorem ok_wholeN (F : FunD K "_law_whole" "_law_whole" s__law_whole dV f fd) (z_isinstance : mg "isinstance" = none) (z_int : mg "int" = none) (z_bool : mg "bool" = none) : FnOk P w K mg base CX0 1 f fd ["_law_found"] spWholeN := by
  refine F.ok sc__law_whole (fun vs H Q E h => ?_) (fun cdv A outer s H vs Q E hr h => ?_)
  · obtain ⟨z, rfl, _⟩ := h
    rfl
  obtain ⟨z, rfl, q⟩ := h
  refine ⟨_, (pss_one (ps_ret (pe_and (pe_callB call_isi (by rfl) z_isinstance bt_isinstance (pa_cons (pv 0) (pa_cons (pe_bltn (v := .ty "int") rfl z_int bt_int rfl) pa_nil))) (pe_one (pe_not (pe_callB call_isi (by rfl) z_isinstance bt_isinstance (pa_cons (pv 0) (pa_cons (pe_bltn (v := .ty "bool") rfl z_bool bt_bool rfl) pa_nil)))))))), ?_⟩
  refine ⟨_, rfl, _, _, _, _, rfl, TyOf.int z, kit_int_int K, _, rfl, iteT ?_⟩
  exact ⟨_, rfl, _, _, _, _, rfl, TyOf.int z, kit_int_bool K, _, rfl, q⟩
theorem ok_pick (F : FunD K "_law_pick" "_law_pick" s__law_pick dV f fd) (z_len : mg "len" = none) : FnOk P w K mg base CX0 1 f fd ["_law_script", "_law_k"] (spPick K) := by
  refine F.ok sc__law_pick (fun vs H Q E h => ?_) (fun cdv A outer s H vs Q E hr h => ?_)
  · obtain ⟨a, k, xs, rfl, _⟩ := h
    rfl
  obtain ⟨a, k, xs, rfl, ha, ⟨k0, k1⟩, q⟩ := h
  refine ⟨_, (pss_cons (ps_set (i := 2) sc__law_pick.nd rfl (Or.inl rfl) pe_int)
      (pss_cons (ps_if (pt_cmpR op_gt (pe_callB call_len_seq (by rfl) z_len bt_len (pa_cons (pv 0) pa_nil)) pe_int (nomark _)) (pss_one (ps_set (i := 2) sc__law_pick.nd rfl (Or.inl rfl) (pe_ix ix_list (pv 0) (pe_op op_mod (pv 1) (pe_callB call_len_seq (by rfl) z_len bt_len (pa_cons (pv 0) pa_nil))) (fun _ _ => rfl)))) pss_nil)
      (pss_one (ps_ret (pe_op op_mod (pe_op op_add (pe_op op_add (pe_op op_mul (pe_op op_mod (pv 2) pe_int) (pe_op op_add pe_int (pe_op op_mul pe_int (pv 1)))) (pe_op op_mul (pe_op op_mul (pv 1) (pv 1)) pe_int)) pe_int) pe_int))))), ?_⟩
  refine seq_const ?_
  try dsimp only [gName]
  refine cut_seq (t := tIfS _ _ _) (fun σ' H' => σ' = [some (.ref a), some (.int k), some (.int (if xs = [] then 0 else xs.getD (k % (xs.length : Int)).toNat 0))] ∧ H' = H) ?_ (fun nxt => ?_)
  rotate_left
  · refine ⟨_, rfl, a, _, rfl, .inl ha, _, _, rfl, rfl, _, rfl, iteD (fun c => ?_) (fun c => ?_)⟩
    · rw [List.length_map] at c
      have md := mod_in (a := k) (b := (xs.length : Int)) c
      refine ⟨_, rfl, _, rfl, _, rfl, a, _, rfl, .inl ha, _, _, rfl, rfl, by rw [List.length_map]; exact c, a, _, _, _, rfl, rfl, ha, by rw [List.length_map]; exact atI_ints md.1 md.2, nxt _ _ ⟨?_, rfl⟩⟩
      rw [if_neg (by intro z; rw [z] at c; simp at c)]
      rfl
    · rw [List.length_map] at c
      have e : xs = [] := by
        cases xs with
        | nil => rfl
        | cons x r => simp at c
      refine nxt _ _ ⟨?_, rfl⟩
      rw [if_pos e]
      rfl
  rintro σ' H' ⟨rfl, rfl⟩
  have md := mod_in (a := (if xs = [] then (0 : Int) else xs.getD (k % (xs.length : Int)).toNat 0)) (b := 1000003) (by decide)
  exact ⟨_, rfl, _, _, rfl, rfl, (by show (0 : Int) < 1000003; decide), _, rfl, _, _, rfl, rfl, .inl ⟨by decide, by decide⟩, _, _, rfl, rfl, _, _, rfl, rfl, .inl ⟨by omega, by omega⟩, _, rfl, _, rfl, _, _, rfl, rfl, .inl ⟨by omega, by omega⟩, _, _, rfl, rfl, .inr ⟨by decide, by decide⟩, _, _, rfl, rfl, _, _, rfl, rfl, _, _, rfl, rfl, (by show (0 : Int) < 1000003; decide), q⟩
theorem ok_readL (F : FunD K "_law_read" "_law_read" s__law_read dV f fd) : FnOk P w K mg base CX0 1 f fd ["_law_machine_here", "_law_number", "_law_here"] spReadL := by
  refine F.ok sc__law_read (fun vs H Q E h => ?_) (fun cdv A outer s H vs Q E hr h => ?_)
  · obtain ⟨m, r, g, many, wide, rows, signs, n, q, ds, rfl, _⟩ := h
    rfl
  obtain ⟨m, r, g, many, wide, rows, signs, n, st, ds, rfl, M, R, ⟨w0, w1⟩, ⟨s0, s1⟩, FG, k⟩ := h
  obtain ⟨ras, hr', hA⟩ := M.rows
  refine ⟨_, (pss_cons (ps_while PassesOwn.never (pt_cmpR op_gt (pv 1) pe_int (nomark _)) (pss_cons (ps_set (i := 2) sc__law_read.nd rfl (Or.inl rfl) (pe_ix ix_tup (pe_ix ix_tup (pe_ix ix_tup (pv 0) pe_int (fun _ _ => rfl)) (pv 2) (fun _ _ => rfl)) (pe_op op_mod (pv 1) (pe_ix ix_tup (pv 0) pe_int (fun _ _ => rfl))) (fun _ _ => rfl)))
      (pss_one (ps_set (i := 1) sc__law_read.nd rfl (Or.inl rfl) (pe_op op_fdivB (pv 1) (pe_ix ix_tup (pv 0) pe_int (fun _ _ => rfl)))))))
      (pss_one (ps_ret (pv 2)))), ?_⟩
  try dsimp only [gName]
  refine cut_seq (t := tWhile _ _) (fun σ' H' => ∃ x : Int, σ' = [some (.ref m), some (.int x), some (.int (walkI rows ds st))] ∧ H' = H) ?_ (fun nxt => ?_)
  rotate_left
  · refine while_W (fun mm σ' H' => ∃ (x q : Int) (es : List Int), mm = x.toNat ∧ σ' = [some (.ref m), some (.int x), some (.int q)] ∧ H' = H ∧ (0 ≤ q ∧ q < (many : Int)) ∧ Figs wide x es ∧ walkI rows es q = walkI rows ds st)
      ⟨_, n, st, ds, rfl, rfl, rfl, ⟨s0, s1⟩, FG, rfl⟩ ?_
    rintro mm σ' H' ⟨x, q, es, rfl, rfl, rfl, ⟨q0, q1⟩, fg, e⟩
    have x0 : 0 ≤ x := by rw [← fg.val]; exact valB_nonneg (by omega) fg.inb
    refine ⟨_, rfl, _, _, rfl, rfl, _, rfl, iteD (fun c => ?_) (fun c => ?_)⟩
    · cases es with
      | nil =>
        have v : valB (wide : Int) [] = x := fg.val
        have v0 : valB (wide : Int) [] = 0 := rfl
        omega
      | cons d es =>
        obtain ⟨ft, ed⟩ := fg.tail (by omega)
        have dd := fg.inb d List.mem_cons_self
        refine ⟨fun σ' H'' => ∃ m', m' < x.toNat ∧ ∃ (x q : Int) (es : List Int), m' = x.toNat ∧ σ' = [some (.ref m), some (.int x), some (.int q)] ∧ H'' = H' ∧ (0 ≤ q ∧ q < (many : Int)) ∧ Figs wide x es ∧ walkI rows es q = walkI rows ds st, fun σ' H'' h => h, ?_⟩
        obtain ⟨ra, rr, e1, e2, e3⟩ := row_step hA R q0 q1 dd.1 dd.2
        have stq := stepI_ok R q0 q1 dd.1 dd.2
        refine ⟨_, rfl, m, _, _, _, rfl, rfl, SqT.of M.tup, rfl, _, rfl, r, _, _, _, rfl, rfl, SqT.of hr', e1, _, rfl, _, rfl, m, _, _, _, rfl, rfl, SqT.of M.tup, rfl, _, _, rfl, rfl, (by omega), ra, _, _, _, rfl, rfl, SqT.of e2, by rw [ed]; exact e3, ?_⟩
        refine ⟨_, rfl, _, rfl, m, _, _, _, rfl, rfl, SqT.of M.tup, rfl, _, _, rfl, rfl, ⟨by omega, Int.lt_of_le_of_lt (show (wide : Int) ≤ 10 by omega) (by decide +kernel)⟩, ?_⟩
        have lt : x / (wide : Int) < x := Int.ediv_lt_self_of_pos_of_ne_one (by omega) (by omega)
        have ge : 0 ≤ x / (wide : Int) := Int.ediv_nonneg x0 (by omega)
        exact ⟨(x / (wide : Int)).toNat, by omega, x / (wide : Int), stepI rows q d, es, rfl, rfl, rfl, stq, ft, e⟩
    · have ex : es = [] := by
        have x00 : x = 0 := by omega
        have f0 : Figs (wide : Int) x [] := ⟨InB.nil, x00.symm, fun d hd => by simp at hd⟩
        exact figs_one (by omega) fg f0
      subst ex
      have e' : q = walkI rows ds st := e
      subst e'
      exact nxt _ _ ⟨_, rfl, rfl⟩
  rintro σ' H' ⟨x, rfl, rfl⟩
  exact ⟨_, rfl, k⟩
theorem ok_thereL (F : FunD K "_law_there" "_law_there" s__law_there dV f fd) (G__law_whole : DefOk P w K mg base "_law_whole" 1 ["_law_found"] [] spWholeN) (G__law_read : DefOk P w K mg base "_law_read" 1 ["_law_machine_here", "_law_number", "_law_here"] [] spReadL)
    (GE_sign : DefMe P w K mg base C "sign" 5 ["self", "place"] (spLSign C)) (z_isinstance : mg "isinstance" = none) (z_tuple : mg "tuple" = none) (z_len : mg "len" = none) :
    FnOk P w K mg base CX0 6 f fd ["_law_walk", "_law_place", "_law_carried", "_law_here", "_law_machine_here"] (spThereL C) := by
  refine F.ok sc__law_there (fun vs H Q E h => ?_) (fun cdv A outer s H vs Q E hr h => ?_)
  · obtain ⟨x, m, p, r, g, Fs, more, c, q, many, wide, rows, signs, rfl, _⟩ := h
    rfl
  obtain ⟨x, m, p, r, g, Fs, more, c, q, many, wide, rows, signs, rfl, L, hp, M, R, lsg, ⟨w0, w1⟩, ⟨q0, q1⟩, ⟨c0, c1⟩, k⟩ := h
  have hu := hr.units0
  refine ⟨_, (pss_cons (ps_if (PW.pt (pw_or (pt_not (pt_val (pe_callB call_isi (by rfl) z_isinstance bt_isinstance (pa_cons (pv 1) (pa_cons (pe_bltn (v := .ty "tuple") rfl z_tuple bt_tuple rfl) pa_nil))))) (pw_or1 (pt_cmpR op_ne (pe_callB call_len_seq (by rfl) z_len bt_len (pa_cons (pv 1) pa_nil)) pe_int (nomark _))))) (pss_one (ps_ret pe_bl)) pss_nil)
      (pss_cons (ps_if (PW.pt (pw_or (pt_not (pt_val (pe_cd G__law_whole hr (pa_cons (pe_ix ix_tup (pv 1) pe_int (fun _ _ => rfl)) pa_nil)))) (pw_or (pt_not (pt_val (pe_cd G__law_whole hr (pa_cons (pe_ix ix_tup (pv 1) pe_int (fun _ _ => rfl)) pa_nil)))) (pw_or1 (pt_cmpR ((op_neT hu)) (pv 1) (pe_tup (pa_cons (pv 2) (pa_cons (pv 3) pa_nil))) (nomark _)))))) (pss_one (ps_ret pe_bl)) pss_nil)
      (pss_cons (ps_set (i := 5) sc__law_there.nd rfl (Or.inl rfl) (pe_me GE_sign hr (pv 0) (pa_cons (pv 1) pa_nil)))
      (pss_one (ps_ret (pe_and (pe_cd G__law_whole hr (pa_cons (pv 5) pa_nil)) (pe_one (pe_cmpR op_eq (pv 5) (pe_ix ix_tup (pe_ix ix_tup (pv 4) pe_int (fun _ _ => rfl)) (pe_cd G__law_read hr (pa_cons (pv 4) (pa_cons (pv 2) (pa_cons (pv 3) pa_nil)))) (fun _ _ => rfl)) (nomark _))))))))), ?_⟩
  refine ⟨_, rfl, _, _, _, _, rfl, TyOf.tup hp, kit_tuple_tuple K, _, rfl, iteF ⟨_, rfl, p, _, rfl, .inr (SqT.of hp), rfl, _, rfl, iteF ?_⟩⟩
  refine ⟨_, rfl, p, _, _, _, rfl, rfl, SqT.of hp, rfl, c, rfl, _, rfl, iteF ⟨_, rfl, p, _, _, _, rfl, rfl, SqT.of hp, rfl, q, rfl, _, rfl, iteF ?_⟩⟩
  refine ⟨_, rfl, _, rfl, _, rfl, (by show 2 ≤ sizeLine; decide), fun t ht => ?_⟩
  have s1 := same_new ht (HO.tup [V.int c, V.int q])
  refine ⟨p, t, _, _, rfl, rfl, SqT.of (s1 _ _ hp), SqT.of upd_same, rfl, rfl, _, rfl, ?_⟩
  have e1 : eqVs [V.int c, V.int q] [V.int c, V.int q] = true := eqVs_refl_int [c, q]
  rw [if_pos rfl, e1]
  refine iteF ?_
  obtain ⟨n, rfl⟩ := nat_of c0
  obtain ⟨ds, FG⟩ := figs_ex (w := wide) w0 n
  have L1 := L.same s1
  obtain ⟨dx, fa, hx, hF⟩ := L1.ob
  have M1 := M.same fun b xs e => s1 _ _ e
  refine ⟨_, rfl, x, dx, _, rfl, hx, rfl, _, rfl, x, m, p, r, g, Fs, more, _, q, many, wide, rows, signs, ds, rfl, L1, s1 _ _ hp, M1, R, lsg, ⟨w0, w1⟩, ⟨q0, q1⟩, ⟨c0, c1⟩, FG, fun H2 s2 => ?_⟩
  have M2 := M1.same fun b xs e => s2 _ _ e
  have wk := walkI_ok R (ns := ds) (h := q) FG.inb q0 q1
  refine ⟨_, rfl, _, rfl, _, rfl, iteT ?_⟩
  refine ⟨_, rfl, _, rfl, m, _, _, _, rfl, rfl, SqT.of M2.tup, rfl, _, rfl, _, rfl, _, rfl, m, r, g, many, wide, rows, signs, _, q, ds, rfl, M2, R, ⟨w0, w1⟩, ⟨q0, q1⟩, FG, g, _, _, _, rfl, rfl, SqT.of M2.sgn, atI_ints wk.1 (by omega), rfl, ?_⟩
  rw [decide_eq_true rfl]
  exact k _ (s1.trans s2)
end
end My

set_option Elab.async false
set_option linter.all false
set_option maxRecDepth 100000
set_option maxHeartbeats 8000000
namespace My
open PySem L2
/-! ### the law's machine, and what it walks -/
theorem made_same {H H' : Hp} {C x dx : Addr} (hx : H x = none) (hd : H dx = none) (k : ∀ c u, c ≠ x → (upd (upd H dx (HO.own x)) x (HO.ins C dx [])) c = some u → H' c = some u) : Same H H' := fun c u e =>
  k c u (ne_of_none e hx) (by rw [upd_ne (ne_of_none e hx), upd_ne (ne_of_none e hd)]; exact e)
theorem made_at {H : Hp} {C x dx a : Addr} {o : HO} (hx : H x = none) (hd : H dx = none) (e : H a = some o) : (upd (upd H dx (HO.own x)) x (HO.ins C dx [])) a = some o := by
  rw [upd_ne (ne_of_none e hx), upd_ne (ne_of_none e hd)]; exact e
section
variable {P : Program} {w : World} {K : PySem.W.Frag} {mg : Str → Option Value} {base : Heap} {f : Addr} {fd : FuncData} {dV : Value} {C : Addr}
theorem ok_machL (F : FunD K "_law_machine" "_law_machine" s__law_machine dV f fd) (G__law_pick : DefOk P w K mg base "_law_pick" 1 ["_law_script", "_law_k"] [] (spPick K))
    (G__law_rest : DefOk P w K mg base "_law_rest" 1 ["_law_rows", "_law_here"] [] (spRest K)) (z_range : mg "range" = none) (z_tuple : mg "tuple" = none) :
    FnOk P w K mg base CX0 2 f fd ["_law_script", "_law_base"] (spMachL K) := by
  refine F.ok sc__law_machine (fun vs H Q E h => ?_) (fun cdv A outer s H vs Q E hr h => ?_)
  · obtain ⟨a, wide, xs, rfl, _⟩ := h
    rfl
  obtain ⟨a, wide, xs, rfl, hS, ⟨w0, w1⟩, k⟩ := h
  refine ⟨_, (pss_cons (ps_set (i := 2) sc__law_machine.nd rfl (Or.inr rfl) (pe_op op_add pe_int (pe_op op_mod (pe_op op_fdiv (pe_cd G__law_pick hr (pa_cons (pv 0) (pa_cons pe_int pa_nil))) pe_int) pe_int)))
      (pss_cons (ps_set (i := 3) sc__law_machine.nd rfl (Or.inr rfl) (pe_comp1 rfl bk__law_machine_0 (pi_range1 rfl z_range (pa_cons (pv 2) pa_nil)) (fun _ _ _ _ _ => (pg_cell1 (i := 0) bk__law_machine_0.nd rfl bk__law_machine_0.cell)) (fun _ _ _ _ _ => (pe_callTy (call_tuple_ofK K) (by rfl) z_tuple bt_tuple (pa_cons (pe_comp rfl (BlkScope.rel bk__law_machine_1) (pi_range1 rfl z_range (pa_cons (pv 1) pa_nil)) (fun _ _ _ _ => (pg_name (i := 0) bk__law_machine_1.nd rfl (Or.inl rfl))) (fun _ _ _ _ => (pe_op op_mod (pe_cd G__law_pick hr (pa_cons (pv 4) (pa_cons (pe_op op_add (pe_op op_add pe_int (pe_op op_mul (pv 1) (pv 3))) (pv 0)) pa_nil))) (pv 2)))) pa_nil)))))
      (pss_cons (ps_set (i := 4) sc__law_machine.nd rfl (Or.inr rfl) (pe_ix ix_list (pe_lst (pa_cons pe_int (pa_cons pe_int (pa_cons (pe_op op_pow pe_int pe_int) pa_nil)))) (pe_op op_mod (pe_op op_fdiv (pe_cd G__law_pick hr (pa_cons (pv 0) (pa_cons pe_int pa_nil))) pe_int) pe_int) (fun _ _ => rfl)))
      (pss_cons (ps_setComp (i := 5) rfl sc__law_machine.nd rfl (Or.inl rfl) bk__law_machine_2 (pi_range1 rfl z_range (pa_cons (pv 2) pa_nil)) (fun _ _ _ _ => (pg_name (i := 0) bk__law_machine_2.nd rfl (Or.inl rfl))) (fun _ _ _ _ => (pe_op op_mod (pe_cd G__law_pick hr (pa_cons (pv 3) (pa_cons (pe_op op_add pe_int (pe_cd G__law_rest hr (pa_cons (pv 2) (pa_cons (pv 0) pa_nil)))) pa_nil))) (pv 1))))
      (pss_one (ps_ret (pe_tup (pa_cons (pv 1) (pa_cons (pe_callTy call_tuple_of (by rfl) z_tuple bt_tuple (pa_cons (pv 3) pa_nil)) (pa_cons (pe_callTy call_tuple_of (by rfl) z_tuple bt_tuple (pa_cons (pv 5) pa_nil)) pa_nil)))))))))), ?_⟩
  try dsimp only [gName]
  refine cut_seq (t := tAsg _ _) (fun σ' H' => ∃ mn : Nat, (1 ≤ mn ∧ mn ≤ 6) ∧ σ' = [some (.ref a), some (.int wide), some (.int (mn : Int)), none, none, none] ∧ H' = H) ?_ (fun nxt => ?_)
  rotate_left
  · have md := mod_in (a := pickI xs 0 / 4) (b := 6) (by decide)
    obtain ⟨mn, em⟩ := nat_of (show 0 ≤ 1 + pickI xs 0 / 4 % 6 by omega)
    refine ⟨_, rfl, a, 0, xs, rfl, hS, ⟨by decide, by decide⟩, _, _, rfl, rfl, ⟨by decide, by decide⟩, _, _, rfl, rfl, (by show (0 : Int) < 6; decide), _, _, rfl, rfl, nxt _ _ ⟨mn, ⟨by omega, by omega⟩, ?_, rfl⟩⟩
    rw [← em]
    rfl
  rintro σ' H' ⟨mn, ⟨m1, m6⟩, rfl, rfl⟩
  refine ⟨_, rfl, (mn : Int), rfl, by omega, by omega, ?_⟩
  refine comp_range (fun D i ys H2 => Same H' H2 ∧ ∃ (ras : List Addr) (rws : List (List Int)), ys = ras.map V.ref ∧ RowsAt H2 ras rws ∧ rws.length = i ∧ (∀ r ∈ rws, r.length = wide) ∧ ∀ r ∈ rws, ∀ v ∈ r, 0 ≤ v ∧ v < (mn : Int)) (fun D hD => ⟨same_new hD _, [], [], rfl, .nil, rfl, (fun r h => by cases h), (fun r h => by cases h)⟩) ?_ ?_
  · rintro D i ys H2 Q' hD hi hy ⟨hs, ras, rws, rfl, hA, hl, hw, hv⟩ k'
    have hi' : i < mn := by omega
    refine ⟨_, rfl, (wide : Int), rfl, by omega, by omega, ?_⟩
    refine comp_range (fun D2 j zs H3 => Same H2 H3 ∧ ∃ row : List Int, zs = row.map V.int ∧ row.length = j ∧ ∀ v ∈ row, 0 ≤ v ∧ v < (mn : Int)) (fun D2 hD2 => ⟨same_new hD2 _, [], rfl, rfl, (fun v h => by cases h)⟩) ?_ ?_
    · rintro D2 j zs H3 Q2 hD2 hj hz ⟨hs3, row, rfl, hl3, hv3⟩ k2
      have mm := mul_in (a := (wide : Int)) (b := 0 + (i : Int)) (m := 5) (n := 6) (by omega) (by omega) (by omega) (by omega)
      have md := mod_in (a := pickI xs (1 + (wide : Int) * (0 + (i : Int)) + (0 + (j : Int)))) (b := (mn : Int)) (by omega)
      refine ⟨_, rfl, _, rfl, _, rfl, _, _, rfl, rfl, .inl ⟨by omega, by omega⟩, _, _, rfl, rfl, _, rfl, _, _, rfl, rfl, a, _, xs, rfl, (hs.trans hs3).seq hS, ⟨by omega, by omega⟩, _, rfl, _, _, rfl, rfl, (by omega), k2 _ _ hz (small1000 (by rw [List.length_map]; omega)) ⟨same_upd hs3 hD2, row ++ [_], by rw [List.map_append]; rfl, by simp [hl3], ?_⟩⟩
      intro v hv'
      rcases List.mem_append.mp hv' with z | z
      · exact hv3 v z
      · rw [List.mem_singleton.mp z]; exact md
    rintro D2 zs H3 hD2 hz ⟨hs3, row, rfl, hl3, hv3⟩
    rw [Int.toNat_natCast] at hl3
    refine ⟨D2, _, rfl, .inl ⟨SqL.of hz, fun t ht => ?_⟩⟩
    have s4 := same_new ht (HO.tup (row.map V.int))
    have hD3 := hs3 _ _ hy
    have nDt : D ≠ t := ne_of_none hD3 ht
    have sT : ∀ b zs, H2 b = some (.tup zs) → (upd (upd H3 t (HO.tup (row.map V.int))) D (HO.lst (ras.map V.ref ++ [V.ref t]))) b = some (.tup zs) := fun b zs e => by
      rw [upd_ne (ne_of e hy (by intro z; cases z))]
      exact s4 _ _ (hs3 _ _ e)
    refine k' _ _ (by rw [upd_ne nDt]; exact hD3) (small1000 (by rw [List.length_map, hA.length]; omega)) ⟨same_upd ((hs.trans hs3).trans s4) hD, ras ++ [t], rws ++ [row], by rw [List.map_append]; rfl, RowsAt.snoc (hA.same sT) (by rw [upd_ne (Ne.symm nDt), upd_same]), by simp [hl], ?_, ?_⟩
    · intro r hr'
      rcases List.mem_append.mp hr' with z | z
      · exact hw r z
      · rw [List.mem_singleton.mp z]; exact hl3
    · intro r hr'
      rcases List.mem_append.mp hr' with z | z
      · exact hv r z
      · rw [List.mem_singleton.mp z]; exact hv3
  rintro R ys H2 hR0 hR ⟨s2, ras, rws, rfl, hA, hl, hw, hv⟩
  rw [Int.toNat_natCast] at hl
  have RO : RowsOk mn wide rws := ⟨hl, hw, hv⟩
  -- kinds
  try dsimp only [gName]
  refine cut_seq (t := tAsg _ _) (fun σ' H3 => ∃ kn : Int, 0 < kn ∧ σ' = [some (.ref a), some (.int wide), some (.int (mn : Int)), some (.ref R), some (.int kn), none] ∧ Same H2 H3) ?_ (fun nxt => ?_)
  rotate_left
  · refine ⟨_, _, rfl, rfl, ⟨by decide, by decide, by decide⟩, (by show 3 ≤ sizeLine; decide), fun L hL => ?_⟩
    have sL := same_new hL (HO.lst [V.int 2, V.int 4, V.int (10 ^ (6 : Int).toNat)])
    have md := mod_in (a := pickI xs 2 / 6) (b := 3) (by decide)
    have pick : ∃ kn : Int, atI [V.int 2, V.int 4, V.int (10 ^ (6 : Int).toNat)] (pickI xs 2 / 6 % 3) = some (V.int kn) ∧ 0 < kn := by
      have h3 : pickI xs 2 / 6 % 3 = 0 ∨ pickI xs 2 / 6 % 3 = 1 ∨ pickI xs 2 / 6 % 3 = 2 := by omega
      rcases h3 with e | e | e <;> rw [e]
      · exact ⟨2, rfl, by decide⟩
      · exact ⟨4, rfl, by decide⟩
      · exact ⟨_, rfl, by decide⟩
    obtain ⟨kn, ek, k0⟩ := pick
    exact ⟨_, rfl, a, 2, xs, rfl, (s2.trans sL).seq hS, ⟨by decide, by decide⟩, _, _, rfl, rfl, ⟨by decide, by decide⟩, _, _, rfl, rfl, (by show (0 : Int) < 3; decide), L, _, _, _, rfl, rfl, SqL.of upd_same, ek, nxt _ _ ⟨kn, k0, rfl, sL⟩⟩
  rintro σ' H3 ⟨kn, k0, rfl, s3⟩
  have hA3 := hA.same fun b zs e => s3 _ _ e
  have hR3 := s3 _ _ hR
  refine ⟨_, rfl, (mn : Int), rfl, by omega, by omega, ?_⟩
  refine comp_range (fun D i ys H4 => Same H3 H4 ∧ ys = ((List.range i).map fun q : Nat => pickI xs (50 + restI rws mn q) % kn).map V.int) (fun D hD => ⟨same_new hD _, rfl⟩) ?_ ?_
  · rintro D i ys H4 Q' hD hi hy ⟨hs, rfl⟩ k'
    have hi' : (i : Int) < mn := by omega
    have z0 : (0 : Int) + (i : Int) = (i : Int) := Int.zero_add _
    rw [z0]
    have rr := restI_in RO (by omega) (show (0 : Int) ≤ (i : Int) by omega) hi'
    refine ⟨_, rfl, _, rfl, _, rfl, R, _, mn, wide, ras, rws, rfl, hs _ _ hR3, hA3.same fun b zs e => hs _ _ e, RO, by omega, by omega, ⟨by omega, hi'⟩, _, _, rfl, rfl, a, _, xs, rfl, (s2.trans (s3.trans hs)).seq hS, ⟨by omega, by omega⟩, _, rfl, _, _, rfl, rfl, k0, k' _ _ hy (small1000 (by simp; omega)) ⟨same_upd hs hD, ?_⟩⟩
    rw [List.range_succ, List.map_append, List.map_append]
    rfl
  rintro G ys H4 hG0 hG ⟨s4, rfl⟩
  rw [Int.toNat_natCast] at hG
  refine ⟨_, rfl, _, rfl, R, _, rfl, .inl ⟨SqL.of (s4 _ _ hR3), fun rt hrt => ?_⟩⟩
  have s5 := same_new hrt (HO.tup (ras.map V.ref))
  refine ⟨_, rfl, G, _, rfl, .inl ⟨SqL.of (s5 _ _ hG), fun gt hgt => ?_⟩⟩
  have s6 := same_new hgt (HO.tup (((List.range mn).map fun q : Nat => pickI xs (50 + restI rws mn q) % kn).map V.int))
  refine ⟨(by show 3 ≤ sizeLine; decide), fun m hm => ?_⟩
  have s7 := same_new hm (HO.tup [V.int wide, V.ref rt, V.ref gt])
  have st : SteadyS mn rws ((List.range mn).map fun q : Nat => pickI xs (50 + restI rws mn q) % kn) := by
    refine steady_of (drawn := (List.range mn).map fun r : Nat => pickI xs (50 + (r : Int)) % kn) RO (by omega) ?_
    refine List.map_congr_left fun q hq => ?_
    have hq' := List.mem_range.mp hq
    have rr := restI_in RO (by omega) (show (0 : Int) ≤ (q : Int) by omega) (by omega)
    rw [mapR_at (by omega), show (((restI rws mn q).toNat : Nat) : Int) = restI rws mn q from by omega]
  exact k m rt gt _ mn rws _ (s2.trans (s3.trans (s4.trans (s5.trans (s6.trans s7))))) ⟨upd_same, ⟨ras, (s6.trans s7) _ _ upd_same, hA3.same fun b zs e => (s4.trans (s5.trans (s6.trans s7))) _ _ e⟩, s7 _ _ upd_same⟩ RO (by simp) ⟨m1, m6⟩ st
end
end My

set_option Elab.async false
set_option linter.all false
set_option maxRecDepth 100000
set_option maxHeartbeats 8000000
namespace My
open PySem L2
/-! ### the law walks -/
theorem pow_big {b : Int} {j : Nat} (b0 : 2 ≤ b) (b1 : b ≤ 10) (hj : j ≤ 63) : 0 < b ^ j ∧ b ^ j < BIG := by
  obtain ⟨n, rfl⟩ := nat_of (show 0 ≤ b by omega)
  have h1 : n ^ j ≤ 10 ^ 63 := Nat.le_trans (Nat.pow_le_pow_left (by omega) j) (Nat.pow_le_pow_right (by decide) hj)
  have h2 : 0 < n ^ j := Nat.pow_pos (by omega)
  have h3 : (10 : Nat) ^ 63 < 2 ^ 4000 := by decide +kernel
  have h4 : n ^ j < 2 ^ 4000 := Nat.lt_of_le_of_lt h1 h3
  have e : ((n : Int)) ^ j = ((n ^ j : Nat) : Int) := (Int.natCast_pow n j).symm
  have e2 : BIG = ((2 ^ 4000 : Nat) : Int) := (Int.natCast_pow 2 4000).symm
  rw [e, e2]
  exact ⟨Int.natCast_pos.mpr h2, Int.ofNat_lt.mpr h4⟩
theorem pow_few {b : Int} {j : Nat} (b0 : 2 ≤ b) (h : b ^ j < 1000000000000000000) : j < 60 := by
  obtain ⟨n, rfl⟩ := nat_of (show 0 ≤ b by omega)
  have e : ((n : Int)) ^ j = ((n ^ j : Nat) : Int) := (Int.natCast_pow n j).symm
  rw [e] at h
  have h' : n ^ j < 1000000000000000000 := Int.ofNat_lt.mp (show ((n ^ j : Nat) : Int) < ((1000000000000000000 : Nat) : Int) from h)
  rcases Nat.lt_or_ge j 60 with z | z
  · exact z
  · have h1 : 2 ^ 60 ≤ n ^ j := Nat.le_trans (Nat.pow_le_pow_right (by decide) z) (Nat.pow_le_pow_left (by omega) j)
    have h2 : (1000000000000000000 : Nat) < 2 ^ 60 := by decide
    omega
theorem figJ_rev {b low : Int} {N : List Int} {i : Nat} (hi : i < N.length) : figJ b low (N.drop (N.length - (i + 1))) = figJ b low (N.drop (N.length - i)) * b + N.getD (N.length - 1 - i) 0 / low % b := by
  have h : N.length - (i + 1) < N.length := by omega
  rw [List.drop_eq_getElem_cons h, show N.length - (i + 1) + 1 = N.length - i from by omega, show N.length - 1 - i = N.length - (i + 1) from by omega, getD_at h]
  rfl
/-- the weight of figures below the base, of few factors below 10 ** 9 -/
theorem wgL_in {F N : List Int} {b low : Int} (hb : 0 < b ∧ b ≤ 10) (hF : FacIn F) : ∀ n : Nat, 0 ≤ wgL F N b low n ∧ wgL F N b low n ≤ 10000000000 * n
  | 0 => ⟨Int.le_refl _, by show (0 : Int) ≤ 10000000000 * ((0 : Nat) : Int); decide⟩
  | n + 1 => by
    have h := wgL_in hb hF (N := N) (low := low) n
    have md := mod_in (a := N.getD n 0 / low) hb.1
    have hf : 0 ≤ F.getD n 0 ∧ F.getD n 0 ≤ 1000000000 := by
      by_cases c : n < F.length
      · rw [getD_at c]; have := hF _ (List.getElem_mem c); exact ⟨this.1, by omega⟩
      · rw [List.getD_eq_getElem?_getD, List.getElem?_eq_none (by omega)]; exact ⟨Int.le_refl _, by decide⟩
    have mm := mul_in (a := F.getD n 0) (b := N.getD n 0 / low % b) (m := 1000000000) (n := 10) hf.1 hf.2 md.1 (by omega)
    show 0 ≤ wgL F N b low n + F.getD n 0 * (N.getD n 0 / low % b) ∧ wgL F N b low n + F.getD n 0 * (N.getD n 0 / low % b) ≤ 10000000000 * ((n + 1 : Nat) : Int)
    omega
/-- where all numbers are below low, the low figures are all -/
theorem sLow_all {F N : List Int} {low : Int} (hN : ∀ z ∈ N, 0 ≤ z ∧ z < low) (l0 : 0 < low) (n : Nat) : sLow F N low n = preSum (fun i => F.getD i 0 * N.getD i 0) n := by
  refine pre_congr fun i _ => ?_
  by_cases c : i < N.length
  · rw [getD_at c]
    have := hN _ (List.getElem_mem c)
    rw [Int.emod_eq_of_lt this.1 this.2]
  · rw [List.getD_eq_getElem?_getD (l := N), List.getElem?_eq_none (by omega)]
    show F.getD i 0 * (0 % low) = F.getD i 0 * 0
    rw [Int.zero_emod]
theorem prod_in {F N : List Int} (hF : FacIn F) (hN : NumIn N) : ∀ n : Nat, 0 ≤ preSum (fun i => F.getD i 0 * N.getD i 0) n ∧ preSum (fun i => F.getD i 0 * N.getD i 0) n ≤ 1000000000000000000000000000 * n
  | 0 => ⟨Int.le_refl _, by show (0 : Int) ≤ 1000000000000000000000000000 * ((0 : Nat) : Int); decide⟩
  | n + 1 => by
    have h := prod_in hF hN n
    have hf : 0 ≤ F.getD n 0 ∧ F.getD n 0 ≤ 1000000000 := by
      by_cases c : n < F.length
      · rw [getD_at c]; have := hF _ (List.getElem_mem c); exact ⟨this.1, by omega⟩
      · rw [List.getD_eq_getElem?_getD, List.getElem?_eq_none (by omega)]; exact ⟨Int.le_refl _, by decide⟩
    have hn : 0 ≤ N.getD n 0 ∧ N.getD n 0 ≤ 1000000000000000000 := by
      by_cases c : n < N.length
      · rw [getD_at c]; have := hN _ (List.getElem_mem c); exact ⟨this.1, by omega⟩
      · rw [List.getD_eq_getElem?_getD, List.getElem?_eq_none (by omega)]; exact ⟨Int.le_refl _, by decide⟩
    have mm := mul_in (a := F.getD n 0) (b := N.getD n 0) (m := 1000000000) (n := 1000000000000000000) hf.1 hf.2 hn.1 hn.2
    show 0 ≤ preSum (fun i => F.getD i 0 * N.getD i 0) n + F.getD n 0 * N.getD n 0 ∧ preSum (fun i => F.getD i 0 * N.getD i 0) n + F.getD n 0 * N.getD n 0 ≤ 1000000000000000000000000000 * ((n + 1 : Nat) : Int)
    omega
/-- the walk, the machine, the place -/
structure Wd (H0 H : Hp) (C x m p r g : Addr) (F : List Int) (more : Int) (wide : Nat) (rows : List (List Int)) (signs : List Int) (c q : Int) : Prop where
  sm : Same H0 H
  lk : LkAt H C x m F more wide
  ma : MachAt H m r g wide rows signs
  hp : H p = some (.tup [.int c, .int q])
theorem Wd.same {H0 H H' : Hp} {C x m p r g : Addr} {F : List Int} {more : Int} {wide : Nat} {rows : List (List Int)} {signs : List Int} {c q : Int} (h : Wd H0 H C x m p r g F more wide rows signs c q) (s : Same H H') : Wd H0 H' C x m p r g F more wide rows signs c q :=
  ⟨h.sm.trans s, h.lk.same s, h.ma.same fun b xs e => s _ _ e, s _ _ h.hp⟩
def spWalked (C : Addr) : Sp := fun vs H Q _ => ∃ (m r g fa na : Addr) (F N : List Int) (more : Int) (many wide : Nat) (rows : List (List Int)) (signs : List Int), vs = [.ref m, .ref fa, .ref na, .int more] ∧ H fa = some (.lst (F.map V.int)) ∧ H na = some (.lst (N.map V.int)) ∧ F.length = N.length ∧ F.length ≤ 10 ∧ FacIn F ∧ NumIn N ∧
  (0 ≤ more ∧ more < 1000000000000000000) ∧ MachAt H m r g wide rows signs ∧ RowsOk many wide rows ∧ signs.length = many ∧ (1 ≤ many ∧ many ≤ 1000) ∧ (2 ≤ wide ∧ wide ≤ 10) ∧ SteadyS many rows signs ∧ ∀ H' : Hp, Same H H' → Q (.bl true) H'
section
variable {P : Program} {w : World} {K : PySem.W.Frag} {mg : Str → Option Value} {base : Heap} {f : Addr} {fd : FuncData} {dV : Value} {C : Addr}
theorem sc__law_walked : FnScope ["_law_machine_here", "_law_factors", "_law_numbers", "_law_more", "_law_base", "_law_listed", "_law_walk", "_law_place", "_law_carried", "_law_here", "_law_low", "_law_spare", "_law_figure", "_law_number", "_law_weight", "_law_total", "_law_first"] ["_law_machine_here", "_law_factors", "_law_numbers", "_law_more"] (defScope s__law_walked) := ⟨rfl, rfl, rfl, by decide +kernel, rfl, by decide +kernel, by decide +kernel⟩
theorem bk__law_walked_0 : BlkScope ["_law_machine_here", "_law_factors", "_law_numbers", "_law_more", "_law_base", "_law_listed", "_law_walk", "_law_place", "_law_carried", "_law_here", "_law_low", "_law_spare", "_law_figure", "_law_number", "_law_weight", "_law_total", "_law_first"] (defScope s__law_walked) ["_law_factor", "_law_number", "_law_base", "_law_low"] [none, none, some 4, some 10] { kind := ScopeKind.function, names := [(".0", NameKind.local), ("_law_factor", NameKind.local), ("_law_number", NameKind.local), ("_law_base", NameKind.free), ("_law_low", NameKind.free)], isGenerator := false, isCoroutine := false, more := [] } := ⟨rfl, by decide +kernel, by decide +kernel, by decide +kernel, by decide +kernel, rfl, by decide +kernel⟩
theorem bk__law_walked_1 : BlkScope ["_law_machine_here", "_law_factors", "_law_numbers", "_law_more", "_law_base", "_law_listed", "_law_walk", "_law_place", "_law_carried", "_law_here", "_law_low", "_law_spare", "_law_figure", "_law_number", "_law_weight", "_law_total", "_law_first"] (defScope s__law_walked) ["_law_factor", "_law_number"] [none, none] { kind := ScopeKind.function, names := [(".0", NameKind.local), ("_law_factor", NameKind.local), ("_law_number", NameKind.local)], isGenerator := false, isCoroutine := false, more := [] } := ⟨rfl, by decide +kernel, by decide +kernel, by decide +kernel, by decide +kernel, rfl, by decide +kernel⟩
theorem bk__law_walked_2 : BlkScope ["_law_machine_here", "_law_factors", "_law_numbers", "_law_more", "_law_base", "_law_listed", "_law_walk", "_law_place", "_law_carried", "_law_here", "_law_low", "_law_spare", "_law_figure", "_law_number", "_law_weight", "_law_total", "_law_first"] (defScope s__law_walked) ["_law_factor", "_law_number", "_law_base"] [none, none, some 4] { kind := ScopeKind.function, names := [(".0", NameKind.local), ("_law_factor", NameKind.local), ("_law_number", NameKind.local), ("_law_base", NameKind.free)], isGenerator := false, isCoroutine := false, more := [] } := ⟨rfl, by decide +kernel, by decide +kernel, by decide +kernel, by decide +kernel, rfl, by decide +kernel⟩
theorem ok_walked (F : FunD K "_law_walked" "_law_walked" s__law_walked dV f fd) (GM_Looking : DefMk P w K mg base "Looking" C 1 ["self", "machine", "factors", "more", "base"] (spLInit C)) (GE_begin : DefMe P w K mg base C "begin" 1 ["self"] (spLBegin C))
    (GE_step : DefMe P w K mg base C "step" 2 ["self", "place", "figure"] (spLStep C)) (GE_sign : DefMe P w K mg base C "sign" 5 ["self", "place"] (spLSign C)) (G__law_there : DefOk P w K mg base "_law_there" 6 ["_law_walk", "_law_place", "_law_carried", "_law_here", "_law_machine_here"] [] (spThereL C))
    (G__law_read : DefOk P w K mg base "_law_read" 1 ["_law_machine_here", "_law_number", "_law_here"] [] spReadL)
    (z_list : mg "list" = none) (z_max : mg "max" = none) (z_sum : mg "sum" = none) (z_zip : mg "zip" = none) (z_reversed : mg "reversed" = none) :
    FnOk P w K mg base CX0 7 f fd ["_law_machine_here", "_law_factors", "_law_numbers", "_law_more"] (spWalked C) := by
  refine F.ok sc__law_walked (fun vs H Q E h => ?_) (fun cdv A outer s H vs Q E hr h => ?_)
  · obtain ⟨m, r, g, fa, na, Fs, Ns, more, many, wide, rows, signs, rfl, _⟩ := h
    rfl
  obtain ⟨m, r, g, fa, na, Fs, Ns, more, many, wide, rows, signs, rfl, hF, hN, hl, l10, hin, hnn, ⟨mo0, mo1⟩, M, R, lsg, ⟨many1, many2⟩, ⟨w0, w1⟩, SS, k⟩ := h
  have hu := hr.units0
  refine ⟨_, (pss_cons (ps_set (i := 4) sc__law_walked.nd rfl (Or.inr rfl) (pe_ix ix_tup (pv 0) pe_int (fun _ _ => rfl)))
      (pss_cons (ps_set (i := 5) sc__law_walked.nd rfl (Or.inl rfl) (pe_callTy call_list_of (by rfl) z_list bt_list (pa_cons (pv 1) pa_nil)))
      (pss_cons (ps_set (i := 6) sc__law_walked.nd rfl (Or.inl rfl) (pe_mko GM_Looking hr (pa_cons (pv 0) (pa_cons (pv 5) (pa_cons (pv 3) (pa_cons (pv 4) pa_nil))))))
      (pss_cons (ps_if (pt_cmpR ((op_neL hu)) (pv 5) (pv 1) (nomark _)) (pss_one (ps_ret pe_bl)) pss_nil)
      (pss_cons (ps_expr (pe_bm PySem.F.plainAttrs_list PySem.F.slot_list_insert PySem.F.type_list_insert mt_insert (pv 5) (pa_cons pe_int (pa_cons pe_int pa_nil))))
      (pss_cons (ps_set (i := 7) sc__law_walked.nd rfl (Or.inl rfl) (pe_me0 GE_begin hr (pv 6)))
      (pss_cons (ps_set (i := 8) sc__law_walked.nd rfl (Or.inl rfl) (pv 3))
      (pss_cons (ps_set (i := 9) sc__law_walked.nd rfl (Or.inl rfl) pe_int)
      (pss_cons (ps_set (i := 10) sc__law_walked.nd rfl (Or.inr rfl) pe_int)
      (pss_cons (ps_set (i := 11) sc__law_walked.nd rfl (Or.inl rfl) pe_int)
      (pss_cons (ps_while PassesOwn.never (pt_cmpR op_ge (pv 11) pe_int (nomark _)) (pss_cons (ps_if (pt_cmpR op_gt (pv 10) (pe_maxD rfl rfl z_max (pa_cons (pv 2) pa_nil) pe_int) (nomark _)) (pss_one (ps_set (i := 11) sc__law_walked.nd rfl (Or.inl rfl) (pe_op op_sub (pv 11) pe_int))) pss_nil)
      (pss_cons (ps_if (pt_not (pt_val (pe_cd G__law_there hr (pa_cons (pv 6) (pa_cons (pv 7) (pa_cons (pv 8) (pa_cons (pv 9) (pa_cons (pv 0) pa_nil)))))))) (pss_one (ps_ret pe_bl)) pss_nil)
      (pss_cons (ps_set (i := 12) sc__law_walked.nd rfl (Or.inl rfl) pe_int)
      (pss_cons (ps_for PassesOwn.never rfl (pi_rev rfl z_reversed (pa_cons (pv 2) pa_nil)) (pg_name (i := 13) sc__law_walked.nd rfl (Or.inl rfl)) (pss_one (ps_set (i := 12) sc__law_walked.nd rfl (Or.inl rfl) (pe_op op_add (pe_op op_mul (pv 12) (pv 4)) (pe_op op_mod (pe_op op_fdivB (pv 13) (pv 10)) (pv 4))))))
      (pss_cons (ps_set (i := 7) sc__law_walked.nd rfl (Or.inl rfl) (pe_me GE_step hr (pv 6) (pa_cons (pv 7) (pa_cons (pv 12) pa_nil))))
      (pss_cons (ps_set (i := 14) sc__law_walked.nd rfl (Or.inl rfl) (pe_callB ((call_sumL rfl)) (by rfl) z_sum bt_sum (pa_cons (pe_comp rfl bk__law_walked_0 (pi_zipL rfl z_zip (pa_cons (pv 1) (pa_cons (pv 2) pa_nil))) (fun _ _ _ _ => (pg_tupK K (n := 2) rfl (pgs_cons (pg_name (i := 0) bk__law_walked_0.nd rfl (Or.inl rfl)) (pgs_cons (pg_name (i := 1) bk__law_walked_0.nd rfl (Or.inl rfl)) pgs_nil)))) (fun _ _ _ _ => (pe_op op_mul (pv 0) (pe_op op_mod (pe_op op_fdivB (pv 1) (pv 3)) (pv 2))))) pa_nil)))
      (pss_cons (ps_set (i := 9) sc__law_walked.nd rfl (Or.inl rfl) (pe_ix ix_tup (pe_ix ix_tup (pe_ix ix_tup (pv 0) pe_int (fun _ _ => rfl)) (pv 9) (fun _ _ => rfl)) (pe_op op_mod (pe_op op_add (pv 8) (pv 14)) (pv 4)) (fun _ _ => rfl)))
      (pss_cons (ps_set (i := 8) sc__law_walked.nd rfl (Or.inl rfl) (pe_op op_fdivB (pe_op op_add (pv 8) (pv 14)) (pv 4)))
      (pss_one (ps_set (i := 10) sc__law_walked.nd rfl (Or.inr rfl) (pe_op op_mul (pv 10) (pv 4)))))))))))))
      (pss_cons (ps_set (i := 15) sc__law_walked.nd rfl (Or.inl rfl) (pe_op op_add (pv 3) (pe_callB ((call_sumL rfl)) (by rfl) z_sum bt_sum (pa_cons (pe_comp rfl bk__law_walked_1 (pi_zipL rfl z_zip (pa_cons (pv 1) (pa_cons (pv 2) pa_nil))) (fun _ _ _ _ => (pg_tupK K (n := 2) rfl (pgs_cons (pg_name (i := 0) bk__law_walked_1.nd rfl (Or.inl rfl)) (pgs_cons (pg_name (i := 1) bk__law_walked_1.nd rfl (Or.inl rfl)) pgs_nil)))) (fun _ _ _ _ => (pe_op op_mul (pv 0) (pv 1)))) pa_nil))))
      (pss_cons (ps_if (pt_cmpR op_ne (pe_me GE_sign hr (pv 6) (pa_cons (pv 7) pa_nil)) (pe_ix ix_tup (pe_ix ix_tup (pv 0) pe_int (fun _ _ => rfl)) (pe_cd G__law_read hr (pa_cons (pv 0) (pa_cons (pv 15) (pa_cons pe_int pa_nil)))) (fun _ _ => rfl)) (nomark _)) (pss_one (ps_ret pe_bl)) pss_nil)
      (pss_cons (ps_set (i := 16) sc__law_walked.nd rfl (Or.inl rfl) (pe_op op_add (pv 3) (pe_callB ((call_sumL rfl)) (by rfl) z_sum bt_sum (pa_cons (pe_comp rfl bk__law_walked_2 (pi_zipL rfl z_zip (pa_cons (pv 1) (pa_cons (pv 2) pa_nil))) (fun _ _ _ _ => (pg_tupK K (n := 2) rfl (pgs_cons (pg_name (i := 0) bk__law_walked_2.nd rfl (Or.inl rfl)) (pgs_cons (pg_name (i := 1) bk__law_walked_2.nd rfl (Or.inl rfl)) pgs_nil)))) (fun _ _ _ _ => (pe_op op_mul (pv 0) (pe_op op_mod (pv 1) (pv 2))))) pa_nil))))
      (pss_cons (ps_set (i := 12) sc__law_walked.nd rfl (Or.inl rfl) pe_int)
      (pss_cons (ps_for PassesOwn.never rfl (pi_rev rfl z_reversed (pa_cons (pv 2) pa_nil)) (pg_name (i := 13) sc__law_walked.nd rfl (Or.inl rfl)) (pss_one (ps_set (i := 12) sc__law_walked.nd rfl (Or.inl rfl) (pe_op op_add (pe_op op_mul (pv 12) (pv 4)) (pe_op op_mod (pv 13) (pv 4))))))
      (pss_cons (ps_set (i := 7) sc__law_walked.nd rfl (Or.inl rfl) (pe_me GE_step hr (pv 6) (pa_cons (pe_me0 GE_begin hr (pv 6)) (pa_cons (pv 12) pa_nil))))
      (pss_one (ps_ret (pe_cd G__law_there hr (pa_cons (pv 6) (pa_cons (pv 7) (pa_cons (pe_op op_fdivB (pv 16) (pv 4)) (pa_cons (pe_ix ix_tup (pe_ix ix_tup (pe_ix ix_tup (pv 0) pe_int (fun _ _ => rfl)) pe_int (fun _ _ => rfl)) (pe_op op_mod (pv 16) (pv 4)) (fun _ _ => rfl)) (pa_cons (pv 0) pa_nil))))))))))))))))))))))))), ?_⟩
  have hb10 : (2 : Int) ≤ wide ∧ (wide : Int) ≤ 10 := ⟨by omega, by omega⟩
  have hbB : (0 : Int) < wide ∧ (wide : Int) < BIG := ⟨by omega, by have := (pow_big (j := 1) hb10.1 hb10.2 (by decide)).2; rw [Int.pow_one] at this; exact this⟩
  refine ⟨_, rfl, m, _, _, _, rfl, rfl, SqT.of M.tup, rfl, ?_⟩
  refine ⟨_, rfl, fa, _, rfl, .inl (SqL.of hF), fun L hL => ?_⟩
  have s1 := same_new hL (HO.lst (Fs.map V.int))
  refine ⟨_, rfl, _, rfl, _, rfl, _, rfl, fun x dx hx hdx _ => ⟨x, dx, m, L, Fs, more, wide, rfl, upd_same, made_at hx hdx upd_same, fun H2 k2 W2 => ⟨rfl, ?_⟩⟩⟩
  have s2 := made_same hx hdx k2
  have hL2 := s2 _ _ (upd_same (H := H) (a := L) (o := HO.lst (Fs.map V.int)))
  have s12 := s1.trans s2
  refine ⟨_, rfl, _, rfl, L, fa, _, _, rfl, rfl, SqL.of hL2, SqL.of (s12 _ _ hF), flat_ints Fs, flat_ints Fs, _, rfl, ?_⟩
  rw [eqVs_refl_int]
  refine iteF ?_
  refine ⟨_, rfl, .inl ⟨rfl, _, SqL.of hL2⟩, L, _, 0, _, rfl, rfl, hL2, ⟨by decide, by decide⟩, small1000 (by rw [List.length_map]; omega), ?_⟩
  obtain ⟨H3, eH3⟩ : ∃ H3, (upd H2 L (HO.lst (List.take (0 : Int).toNat (Fs.map V.int) ++ V.int 1 :: List.drop (0 : Int).toNat (Fs.map V.int)))) = H3 := ⟨_, rfl⟩
  have s3 : Same H H3 := by rw [← eH3]; exact same_upd s12 hL
  have W3 : LkAt H3 C x m Fs more wide := by
    obtain ⟨d, fb, h1, h2⟩ := W2.ob
    rw [← eH3]
    exact ⟨d, fb, by rw [upd_ne (ne_of h1 hL2 (by intro z; cases z))]; exact h1, by rw [upd_ne (ne_of h2 hL2 (by intro z; cases z))]; exact h2⟩
  rw [eH3]
  clear eH3 W2 hL2 s12 s2 k2 hx hdx s1
  obtain ⟨dx3, fb3, hx3, hfb3⟩ := W3.ob
  refine ⟨_, rfl, x, dx3, _, rfl, hx3, rfl, x, m, Fs, more, wide, rfl, W3, fun p H4 s4 hp4 => ?_⟩
  have WD4 : Wd H H4 C x m p r g Fs more wide rows signs more 0 := ⟨s3.trans s4, W3.same s4, M.same fun b xs e => (s3.trans s4) _ _ e, hp4⟩
  refine ⟨_, rfl, ?_⟩
  try dsimp only [gName]
  refine seq_const (seq_const (seq_const ?_))
  try dsimp only [gName]
  refine cut_seq (t := tWhile _ _) (fun σ' H' => ∃ (j : Nat) (sp c q : Int) (p : Addr) (v12 v13 v14 : Option V), j ≤ 63 ∧ σ' = [some (.ref m), some (.ref fa), some (.ref na), some (.int more), some (.int wide), some (.ref L), some (.ref x), some (.ref p), some (.int c), some (.int q), some (.int ((wide : Int) ^ j)), some (.int sp), v12, v13, v14, none, none] ∧ Wd H H' C x m p r g Fs more wide rows signs c q ∧ Lk rows wide (more + sLow Fs Ns ((wide : Int) ^ j) Fs.length) c q j ∧ (0 ≤ c ∧ c ≤ 10000000000000000000) ∧ (0 ≤ q ∧ q < (many : Int)) ∧ ∀ z ∈ Ns, z < (wide : Int) ^ j) ?_ (fun nxt => ?_)
  rotate_left
  · refine while_W (fun mm σ' H' => ∃ (j : Nat) (sp c q : Int) (p : Addr) (v12 v13 v14 : Option V), mm = (sp + 1).toNat + (60 - j) ∧ -1 ≤ sp ∧ (j : Int) ≤ 62 - sp ∧ sp ≤ 2 ∧ σ' = [some (.ref m), some (.ref fa), some (.ref na), some (.int more), some (.int wide), some (.ref L), some (.ref x), some (.ref p), some (.int c), some (.int q), some (.int ((wide : Int) ^ j)), some (.int sp), v12, v13, v14, none, none] ∧ Wd H H' C x m p r g Fs more wide rows signs c q ∧ Lk rows wide (more + sLow Fs Ns ((wide : Int) ^ j) Fs.length) c q j ∧ (0 ≤ c ∧ c ≤ 10000000000000000000) ∧ (0 ≤ q ∧ q < (many : Int)) ∧ (sp < 2 → ∀ z ∈ Ns, z < (wide : Int) ^ j))
      ⟨_, 0, 2, more, 0, p, none, none, none, rfl, by decide, by decide, by decide, by rw [Int.pow_zero]; rfl, WD4, by rw [Int.pow_zero, sLow_one, Int.add_zero]; exact Lk.zero, ⟨mo0, by omega⟩, ⟨by decide, by omega⟩, fun h => absurd h (by decide)⟩ ?_
    clear WD4 hp4 s4 hx3 hfb3 W3 s3
    rintro mm σ' H5 ⟨j, sp, c, q, p, v12, v13, v14, rfl, sp0, js, sp2, rfl, D5, K5, ⟨c0, c1⟩, ⟨q0, q1⟩, al⟩
    refine ⟨_, rfl, _, _, rfl, rfl, _, rfl, iteD (fun cc => ?_) (fun cc => nxt _ _ ⟨j, sp, c, q, p, v12, v13, v14, by omega, rfl, D5, K5, ⟨c0, c1⟩, ⟨q0, q1⟩, al (by omega)⟩)⟩
    have hlow := pow_big hb10.1 hb10.2 (show j ≤ 63 by omega)
    refine ⟨fun σ' H' => ∃ m', m' < (sp + 1).toNat + (60 - j) ∧ ∃ (j : Nat) (sp c q : Int) (p : Addr) (v12 v13 v14 : Option V), m' = (sp + 1).toNat + (60 - j) ∧ -1 ≤ sp ∧ (j : Int) ≤ 62 - sp ∧ sp ≤ 2 ∧ σ' = [some (.ref m), some (.ref fa), some (.ref na), some (.int more), some (.int wide), some (.ref L), some (.ref x), some (.ref p), some (.int c), some (.int q), some (.int ((wide : Int) ^ j)), some (.int sp), v12, v13, v14, none, none] ∧ Wd H H' C x m p r g Fs more wide rows signs c q ∧ Lk rows wide (more + sLow Fs Ns ((wide : Int) ^ j) Fs.length) c q j ∧ (0 ≤ c ∧ c ≤ 10000000000000000000) ∧ (0 ≤ q ∧ q < (many : Int)) ∧ (sp < 2 → ∀ z ∈ Ns, z < (wide : Int) ^ j), fun σ' H' h => h, ?_⟩
    try dsimp only [gName]
    refine cut_seq (t := tIfS _ _ _) (fun σ' H' => ∃ sp' : Int, ((sp' = sp - 1 ∧ ∀ z ∈ Ns, z < (wide : Int) ^ j) ∨ sp' = sp ∧ j < 60) ∧ σ' = [some (.ref m), some (.ref fa), some (.ref na), some (.int more), some (.int wide), some (.ref L), some (.ref x), some (.ref p), some (.int c), some (.int q), some (.int ((wide : Int) ^ j)), some (.int sp'), v12, v13, v14, none, none] ∧ H' = H5) ?_ (fun nxt2 => ?_)
    rotate_left
    · have h5N := D5.sm _ _ hN
      refine ⟨_, rfl, _, rfl, na, Ns, _, rfl, rfl, SqL.of h5N, fun e => ?_, fun M0 hM hle => ?_⟩
      · refine ⟨_, _, rfl, rfl, _, rfl, iteD (fun _ => ?_) (fun c => ?_)⟩
        · exact ⟨_, rfl, _, _, rfl, rfl, nxt2 _ _ ⟨sp - 1, .inl ⟨rfl, fun z hz => by rw [e] at hz; cases hz⟩, rfl, rfl⟩⟩
        · exact nxt2 _ _ ⟨sp, .inr ⟨rfl, by have := hlow.1; omega⟩, rfl, rfl⟩
      · refine ⟨_, _, rfl, rfl, _, rfl, iteD (fun c => ?_) (fun c => ?_)⟩
        · exact ⟨_, rfl, _, _, rfl, rfl, nxt2 _ _ ⟨sp - 1, .inl ⟨rfl, fun z hz => Int.lt_of_le_of_lt (hle z hz) c⟩, rfl, rfl⟩⟩
        · have := (hnn M0 hM).2
          exact nxt2 _ _ ⟨sp, .inr ⟨rfl, pow_few hb10.1 (by omega)⟩, rfl, rfl⟩
    rintro σ' H' ⟨sp', hsp, rfl, rfl⟩
    have cNB : c < NB := Int.lt_of_le_of_lt c1 (by decide +kernel)
    refine ⟨_, rfl, _, rfl, _, rfl, _, rfl, _, rfl, x, m, p, r, g, Fs, more, c, q, many, wide, rows, signs, rfl, D5.lk, D5.hp, D5.ma, R, lsg, ⟨w0, w1⟩, ⟨q0, q1⟩, ⟨c0, cNB⟩, fun H6 s6 => ⟨_, rfl, iteF ?_⟩⟩
    have D6 := D5.same s6
    clear D5 s6
    have h6N := D6.sm _ _ hN
    refine seq_const ?_
    try dsimp only [gName]
    refine cut_seq (t := tFor _ _ _) (fun σ' H' => ∃ v13 : Option V, σ' = [some (.ref m), some (.ref fa), some (.ref na), some (.int more), some (.int wide), some (.ref L), some (.ref x), some (.ref p), some (.int c), some (.int q), some (.int ((wide : Int) ^ j)), some (.int sp'), some (.int (figJ wide ((wide : Int) ^ j) Ns)), v13, v14, none, none] ∧ H' = H6) ?_ (fun nxt3 => ?_)
    rotate_left
    · refine ⟨_, rfl, na, _, rfl, SqL.of h6N, for_rev (K := K) (xs := Ns.map V.int) (fun i σ' H' => ∃ v13 : Option V, σ' = [some (.ref m), some (.ref fa), some (.ref na), some (.int more), some (.int wide), some (.ref L), some (.ref x), some (.ref p), some (.int c), some (.int q), some (.int ((wide : Int) ^ j)), some (.int sp'), some (.int (figJ wide ((wide : Int) ^ j) (Ns.drop (Ns.length - i)))), v13, v14, none, none] ∧ H' = H6) ⟨v13, by rw [Nat.sub_zero, List.drop_length]; rfl, rfl⟩ (fun i σ' H' _ ⟨_, _, e⟩ => by rw [e]; exact SqL.of h6N) ?_ ?_⟩
      · rintro i y σ' H' hi hy ⟨v, rfl, rfl⟩
        obtain ⟨z, rfl, hz⟩ := ints_at hy
        rw [List.length_map] at hi hz
        have ez : Ns.getD (Ns.length - 1 - i) 0 = z := by rw [List.getD_eq_getElem?_getD, hz]; rfl
        refine ⟨_, rfl, _, rfl, _, _, rfl, rfl, .inr ⟨by omega, by omega⟩, _, rfl, _, rfl, _, _, rfl, rfl, hlow, _, rfl, _, _, rfl, rfl, (by omega), _, _, rfl, rfl, some (.int z), ?_, rfl⟩
        rw [figJ_rev hi, ez]
        rfl
      · rintro σ' H' ⟨v, rfl, rfl⟩
        rw [List.length_map, Nat.sub_self, List.drop_zero]
        exact nxt3 _ _ ⟨v, rfl, rfl⟩
    rintro σ' H6' ⟨v13', rfl, rfl⟩
    obtain ⟨dx6, fb6, hx6, hfb6⟩ := D6.lk.ob
    refine ⟨_, rfl, x, dx6, _, rfl, hx6, rfl, _, rfl, _, rfl, x, m, p, r, g, Fs, more, c, q, _, many, wide, rows, signs, rfl, D6.lk, D6.hp, D6.ma, R, ⟨w0, w1⟩, ⟨q0, q1⟩, fun t H7 s7 ht => ?_⟩
    have D7 : Wd H H7 C x m t r g Fs more wide rows signs _ _ := ⟨D6.sm.trans s7, D6.lk.same s7, D6.ma.same fun b xs e => s7 _ _ e, ht⟩
    have h7F := D7.sm _ _ hF
    have h7N := D7.sm _ _ hN
    refine ⟨_, rfl, _, rfl, fa, na, rfl, ⟨_, SqL.of h7F⟩, ⟨_, SqL.of h7N⟩, ?_⟩
    refine comp_zipL (K := K) (xs := Fs.map V.int) (zs := Ns.map V.int) (by simp [hl]) (fun D i ys H' => Same H7 H' ∧ ys = ((List.range i).map fun k : Nat => Fs.getD k 0 * (Ns.getD k 0 / (wide : Int) ^ j % wide)).map V.int) (fun T σ H Q x y h q => ⟨T, [x, y], rfl, SqT.of h, rfl, x, [y], rfl, y, [], rfl, rfl, q⟩) (fun D hD => ⟨same_new hD _, rfl⟩) (fun D i ys H' hD hi hy p => ⟨SqL.of (p.1 _ _ h7F), SqL.of (p.1 _ _ h7N)⟩) ?_ ?_
    · rintro D i ys H' T x z Q' hD hx hz hy ⟨hs, rfl⟩ hT k'
      obtain ⟨x, rfl, hx'⟩ := ints_at hx
      obtain ⟨z, rfl, hz'⟩ := ints_at hz
      have bx := hin x (List.mem_of_getElem? hx')
      have li : i < Fs.length := (List.getElem?_eq_some_iff.mp hx').1
      have ex : Fs.getD i 0 = x := by rw [List.getD_eq_getElem?_getD, hx']; rfl
      have ez : Ns.getD i 0 = z := by rw [List.getD_eq_getElem?_getD, hz']; rfl
      have nD : D ≠ T := ne_of_none hy hT
      refine ⟨_, rfl, _, rfl, _, rfl, _, _, rfl, rfl, hlow, _, rfl, _, _, rfl, rfl, (by omega), _, _, rfl, rfl, .inl ⟨by omega, by omega⟩, k' _ _ (by rw [upd_ne nD]; exact hy) (small1000 (by simp; omega)) ⟨same_upd (same_upd hs (hs.free hT)) hD, ?_⟩⟩
      rw [List.range_succ, List.map_append, List.map_append]
      show _ ++ [V.int (x * (z / (wide : Int) ^ j % wide))] = _ ++ [V.int (Fs.getD i 0 * (Ns.getD i 0 / (wide : Int) ^ j % wide))]
      rw [ex, ez]
    rintro D ys H8 hD hy ⟨s8, rfl⟩
    rw [List.length_map] at hy
    refine ⟨D, _, rfl, SqL.of hy, ?_⟩
    rw [sumI_range]
    have D8 := D7.same s8
    have ew : wgI Fs wide (figJ wide ((wide : Int) ^ j) Ns) Fs.length = wgL Fs Ns wide ((wide : Int) ^ j) Fs.length := wg_law (by omega) hl
    rw [ew] at D8
    have wi := wgL_in (N := Ns) (low := (wide : Int) ^ j) (b := (wide : Int)) ⟨by omega, by omega⟩ hin Fs.length
    have eS : sLow Fs Ns ((wide : Int) ^ (j + 1)) Fs.length = sLow Fs Ns ((wide : Int) ^ j) Fs.length + (wide : Int) ^ j * wgL Fs Ns wide ((wide : Int) ^ j) Fs.length := by
      rw [Int.pow_succ]; exact sLow_step (by omega) hlow.1 (fun z hz => (hnn z hz).1) _
    have K8 := K5.step (w := wgL Fs Ns wide ((wide : Int) ^ j) Fs.length) hbB.1
    rw [show more + sLow Fs Ns ((wide : Int) ^ j) Fs.length + (wide : Int) ^ j * wgL Fs Ns wide ((wide : Int) ^ j) Fs.length = more + sLow Fs Ns ((wide : Int) ^ (j + 1)) Fs.length from by rw [eS]; omega] at K8
    have ewl : preSum (fun k => Fs.getD k 0 * (Ns.getD k 0 / (wide : Int) ^ j % wide)) Fs.length = wgL Fs Ns wide ((wide : Int) ^ j) Fs.length := rfl
    rw [ewl]
    obtain ⟨wt, eW⟩ : ∃ wt, wgL Fs Ns wide ((wide : Int) ^ j) Fs.length = wt := ⟨_, rfl⟩
    rw [eW] at D8 K8 wi ⊢
    have md := mod_in (a := c + wt) (b := (wide : Int)) hbB.1
    obtain ⟨hm8, ⟨ras, hr8, hA8⟩, hg8⟩ := D8.ma
    obtain ⟨ra, rr, e1, e2, e3⟩ := row_step hA8 R q0 q1 md.1 md.2
    have stq := stepI_ok R q0 q1 md.1 md.2
    refine ⟨_, rfl, m, _, _, _, rfl, rfl, SqT.of hm8, rfl, _, rfl, r, _, _, _, rfl, rfl, SqT.of hr8, e1, _, rfl, _, rfl, _, _, rfl, rfl, _, rfl, _, _, rfl, rfl, hbB.1, ra, _, _, _, rfl, rfl, SqT.of e2, e3, ?_⟩
    refine ⟨_, rfl, _, rfl, _, _, rfl, rfl, _, rfl, _, _, rfl, rfl, hbB, ?_⟩
    have cw0 : 0 ≤ (c + wt) / (wide : Int) := Int.ediv_nonneg (by omega) (by omega)
    have cw1 : (c + wt) / (wide : Int) ≤ 10000000000000000000 := by
      have h2 : (c + wt) / (wide : Int) * 2 ≤ (c + wt) / (wide : Int) * wide := Int.mul_le_mul_of_nonneg_left (by omega) cw0
      have h3 : (c + wt) / (wide : Int) * wide ≤ c + wt := Int.ediv_mul_le _ (by omega)
      have h4 : wt ≤ 100000000000 := by omega
      omega
    refine ⟨_, rfl, _, rfl, _, _, rfl, rfl, .inr ⟨by omega, by omega⟩, _, ?_, j + 1, sp', _, _, t, _, _, _, rfl, by omega, by omega, by omega, by rw [Int.pow_succ]; rfl, D8, K8, ⟨cw0, cw1⟩, stq, fun h2 z hz => ?_⟩
    · omega
    · have lt : (wide : Int) ^ j * 1 ≤ (wide : Int) ^ j * wide := Int.mul_le_mul_of_nonneg_left (by omega) (by omega)
      rw [Int.pow_succ]
      have hz1 : z < (wide : Int) ^ j := by
        rcases hsp with ⟨_, h⟩ | ⟨h, _⟩
        · exact h z hz
        · exact al (by omega) z hz
      omega
  clear WD4 hp4 s4 hx3 hfb3 W3 s3
  rintro σ' H5 ⟨j, sp, c, q, p, v12, v13, v14, j63, rfl, D5, K5, ⟨c0, c1⟩, ⟨q0, q1⟩, al⟩
  have hlow := pow_big hb10.1 hb10.2 j63
  have cNB : c < NB := Int.lt_of_le_of_lt c1 (by decide +kernel)
  rw [sLow_all (fun z hz => ⟨(hnn z hz).1, al z hz⟩) hlow.1] at K5
  have pi := prod_in hin hnn Fs.length
  have h5F := D5.sm _ _ hF
  have h5N := D5.sm _ _ hN
  refine ⟨_, rfl, _, rfl, _, rfl, fa, na, rfl, ⟨_, SqL.of h5F⟩, ⟨_, SqL.of h5N⟩, ?_⟩
  refine comp_zipL (K := K) (xs := Fs.map V.int) (zs := Ns.map V.int) (by simp [hl]) (fun D i ys H' => Same H5 H' ∧ ys = ((List.range i).map fun k : Nat => Fs.getD k 0 * Ns.getD k 0).map V.int) (fun T σ H Q x y h q => ⟨T, [x, y], rfl, SqT.of h, rfl, x, [y], rfl, y, [], rfl, rfl, q⟩) (fun D hD => ⟨same_new hD _, rfl⟩) (fun D i ys H' hD hi hy p => ⟨SqL.of (p.1 _ _ h5F), SqL.of (p.1 _ _ h5N)⟩) ?_ ?_
  · rintro D i ys H' T x z Q' hD hx hz hy ⟨hs, rfl⟩ hT k'
    obtain ⟨x, rfl, hx'⟩ := ints_at hx
    obtain ⟨z, rfl, hz'⟩ := ints_at hz
    have bx := hin x (List.mem_of_getElem? hx')
    have li : i < Fs.length := (List.getElem?_eq_some_iff.mp hx').1
    have ex : Fs.getD i 0 = x := by rw [List.getD_eq_getElem?_getD, hx']; rfl
    have ez : Ns.getD i 0 = z := by rw [List.getD_eq_getElem?_getD, hz']; rfl
    have nD : D ≠ T := ne_of_none hy hT
    refine ⟨_, rfl, _, rfl, _, _, rfl, rfl, .inl ⟨by omega, by omega⟩, k' _ _ (by rw [upd_ne nD]; exact hy) (small1000 (by simp; omega)) ⟨same_upd (same_upd hs (hs.free hT)) hD, ?_⟩⟩
    rw [List.range_succ, List.map_append, List.map_append]
    show _ ++ [V.int (x * z)] = _ ++ [V.int (Fs.getD i 0 * Ns.getD i 0)]
    rw [ex, ez]
  rintro D ys H6 hD hy ⟨s6, rfl⟩
  rw [List.length_map] at hy
  refine ⟨D, _, rfl, SqL.of hy, _, _, rfl, rfl, ?_⟩
  rw [sumI_range]
  have D6 := D5.same s6
  clear D5 s6 hy
  obtain ⟨tot, eT⟩ : ∃ tot, preSum (fun k => Fs.getD k 0 * Ns.getD k 0) Fs.length = tot := ⟨_, rfl⟩
  rw [eT] at K5 pi ⊢
  obtain ⟨cn, ecn⟩ := nat_of c0
  obtain ⟨tn, etn⟩ := nat_of (show 0 ≤ more + tot by omega)
  obtain ⟨es, FGc⟩ := figs_ex (w := wide) w0 cn
  obtain ⟨ds, FGt⟩ := figs_ex (w := wide) w0 tn
  rw [← ecn] at FGc
  rw [← etn] at FGt
  have sg := K5.sign R w0 (by omega) SS FGc FGt
  obtain ⟨dx6, fb6, hx6, hfb6⟩ := D6.lk.ob
  refine ⟨_, rfl, x, dx6, _, rfl, hx6, rfl, _, rfl, x, m, p, r, g, Fs, more, c, q, many, wide, rows, signs, es, rfl, D6.lk, D6.hp, D6.ma, R, lsg, ⟨w0, w1⟩, ⟨q0, q1⟩, ⟨c0, cNB⟩, FGc, fun H7 s7 => ?_⟩
  have D7 := D6.same s7
  have wk := walkI_ok R (ns := ds) (h := 0) FGt.inb (by decide) (by omega)
  refine ⟨_, rfl, m, _, _, _, rfl, rfl, SqT.of D7.ma.tup, rfl, _, rfl, _, rfl, m, r, g, many, wide, rows, signs, _, 0, ds, rfl, D7.ma, R, ⟨w0, w1⟩, ⟨by decide, by omega⟩, FGt, g, _, _, _, rfl, rfl, SqT.of D7.ma.sgn, atI_ints wk.1 (by omega), rfl, _, rfl, iteDn (fun n => absurd (congrArg V.int sg) n) (fun _ => ?_)⟩
  have h7F := D7.sm _ _ hF
  have h7N := D7.sm _ _ hN
  refine ⟨_, rfl, _, rfl, _, rfl, fa, na, rfl, ⟨_, SqL.of h7F⟩, ⟨_, SqL.of h7N⟩, ?_⟩
  refine comp_zipL (K := K) (xs := Fs.map V.int) (zs := Ns.map V.int) (by simp [hl]) (fun D i ys H' => Same H7 H' ∧ ys = ((List.range i).map fun k : Nat => Fs.getD k 0 * (Ns.getD k 0 % wide)).map V.int) (fun T σ H Q x y h q => ⟨T, [x, y], rfl, SqT.of h, rfl, x, [y], rfl, y, [], rfl, rfl, q⟩) (fun D hD => ⟨same_new hD _, rfl⟩) (fun D i ys H' hD hi hy p => ⟨SqL.of (p.1 _ _ h7F), SqL.of (p.1 _ _ h7N)⟩) ?_ ?_
  · rintro D i ys H' T x z Q' hD hx hz hy ⟨hs, rfl⟩ hT k'
    obtain ⟨x, rfl, hx'⟩ := ints_at hx
    obtain ⟨z, rfl, hz'⟩ := ints_at hz
    have bx := hin x (List.mem_of_getElem? hx')
    have li : i < Fs.length := (List.getElem?_eq_some_iff.mp hx').1
    have ex : Fs.getD i 0 = x := by rw [List.getD_eq_getElem?_getD, hx']; rfl
    have ez : Ns.getD i 0 = z := by rw [List.getD_eq_getElem?_getD, hz']; rfl
    have nD : D ≠ T := ne_of_none hy hT
    refine ⟨_, rfl, _, rfl, _, rfl, _, _, rfl, rfl, hbB.1, _, _, rfl, rfl, .inl ⟨by omega, by omega⟩, k' _ _ (by rw [upd_ne nD]; exact hy) (small1000 (by simp; omega)) ⟨same_upd (same_upd hs (hs.free hT)) hD, ?_⟩⟩
    rw [List.range_succ, List.map_append, List.map_append]
    show _ ++ [V.int (x * (z % wide))] = _ ++ [V.int (Fs.getD i 0 * (Ns.getD i 0 % wide))]
    rw [ex, ez]
  rintro D2 ys H8 hD2 hy ⟨s8, rfl⟩
  rw [List.length_map] at hy
  refine ⟨D2, _, rfl, SqL.of hy, _, _, rfl, rfl, ?_⟩
  rw [sumI_range]
  have D8 := D7.same s8
  clear D7 s8 hy
  have ew : wgI Fs wide (figJ wide 1 Ns) Fs.length = preSum (fun k => Fs.getD k 0 * (Ns.getD k 0 % wide)) Fs.length := by
    rw [wg_law (by omega) hl, wgL_one]
    rfl
  have wi := wgL_in (N := Ns) (low := 1) (b := (wide : Int)) ⟨by omega, by omega⟩ hin Fs.length
  have ew2 : wgL Fs Ns wide 1 Fs.length = preSum (fun k => Fs.getD k 0 * (Ns.getD k 0 % wide)) Fs.length := by rw [wgL_one]; rfl
  rw [ew2] at wi
  obtain ⟨wt, eW⟩ : ∃ wt, preSum (fun k => Fs.getD k 0 * (Ns.getD k 0 % wide)) Fs.length = wt := ⟨_, rfl⟩
  rw [eW] at ew wi ⊢
  have h8N := D8.sm _ _ hN
  try dsimp only [gName]
  refine seq_const ?_
  try dsimp only [gName]
  refine cut_seq (t := tFor _ _ _) (fun σ' H' => ∃ v13 : Option V, σ' = [some (.ref m), some (.ref fa), some (.ref na), some (.int more), some (.int wide), some (.ref L), some (.ref x), some (.ref p), some (.int c), some (.int q), some (.int ((wide : Int) ^ j)), some (.int sp), some (.int (figJ wide 1 Ns)), v13, v14, some (.int (more + tot)), some (.int (more + wt))] ∧ H' = H8) ?_ (fun nxt3 => ?_)
  rotate_left
  · refine ⟨_, rfl, na, _, rfl, SqL.of h8N, for_rev (K := K) (xs := Ns.map V.int) (fun i σ' H' => ∃ v13 : Option V, σ' = [some (.ref m), some (.ref fa), some (.ref na), some (.int more), some (.int wide), some (.ref L), some (.ref x), some (.ref p), some (.int c), some (.int q), some (.int ((wide : Int) ^ j)), some (.int sp), some (.int (figJ wide 1 (Ns.drop (Ns.length - i)))), v13, v14, some (.int (more + tot)), some (.int (more + wt))] ∧ H' = H8) ⟨v13, by rw [Nat.sub_zero, List.drop_length]; rfl, rfl⟩ (fun i σ' H' _ ⟨_, _, e⟩ => by rw [e]; exact SqL.of h8N) ?_ ?_⟩
    · rintro i y σ' H' hi hy ⟨v, rfl, rfl⟩
      obtain ⟨z, rfl, hz⟩ := ints_at hy
      rw [List.length_map] at hi hz
      have ez : Ns.getD (Ns.length - 1 - i) 0 = z := by rw [List.getD_eq_getElem?_getD, hz]; rfl
      refine ⟨_, rfl, _, rfl, _, _, rfl, rfl, .inr ⟨by omega, by omega⟩, _, rfl, _, rfl, _, _, rfl, rfl, hbB.1, _, _, rfl, rfl, some (.int z), ?_, rfl⟩
      rw [figJ_rev hi, ez, Int.ediv_one]
      rfl
    · rintro σ' H' ⟨v, rfl, rfl⟩
      rw [List.length_map, Nat.sub_self, List.drop_zero]
      exact nxt3 _ _ ⟨v, rfl, rfl⟩
  rintro σ' H8' ⟨v13', rfl, rfl⟩
  obtain ⟨dx8, fb8, hx8, hfb8⟩ := D8.lk.ob
  refine ⟨_, rfl, x, dx8, _, rfl, hx8, rfl, _, rfl, x, dx8, _, rfl, hx8, rfl, x, m, Fs, more, wide, rfl, D8.lk, fun t H9 s9 ht => ?_⟩
  have D9 : Wd H H9 C x m t r g Fs more wide rows signs more 0 := ⟨D8.sm.trans s9, D8.lk.same s9, D8.ma.same fun b xs e => s9 _ _ e, ht⟩
  refine ⟨_, rfl, x, m, t, r, g, Fs, more, more, 0, _, many, wide, rows, signs, rfl, D9.lk, ht, D9.ma, R, ⟨w0, w1⟩, ⟨by decide, by omega⟩, fun t2 HA sA ht2 => ?_⟩
  rw [ew] at ht2
  have DA : Wd H HA C x m t2 r g Fs more wide rows signs _ _ := ⟨D9.sm.trans sA, D9.lk.same sA, D9.ma.same fun b xs e => sA _ _ e, ht2⟩
  have md := mod_in (a := more + wt) (b := (wide : Int)) hbB.1
  obtain ⟨hmA, ⟨ras, hrA, hAA⟩, hgA⟩ := DA.ma
  obtain ⟨ra, rr, e1, e2, e3⟩ := row_step hAA R (show (0 : Int) ≤ 0 by decide) (show (0 : Int) < many by omega) md.1 md.2
  have stq := stepI_ok R (show (0 : Int) ≤ 0 by decide) (show (0 : Int) < many by omega) md.1 md.2
  have cw0 : 0 ≤ (more + wt) / (wide : Int) := Int.ediv_nonneg (by omega) (by omega)
  have cw1 : (more + wt) / (wide : Int) ≤ more + wt := Int.ediv_le_self _ (by omega)
  refine ⟨_, rfl, _, rfl, _, rfl, _, rfl, _, _, rfl, rfl, hbB, _, rfl, m, _, _, _, rfl, rfl, SqT.of hmA, rfl, r, _, _, _, rfl, rfl, SqT.of hrA, e1, _, rfl, _, rfl, _, _, rfl, rfl, hbB.1, ra, _, _, _, rfl, rfl, SqT.of e2, e3, _, rfl, ?_⟩
  exact ⟨x, m, t2, r, g, Fs, more, _, _, many, wide, rows, signs, rfl, DA.lk, DA.hp, DA.ma, R, lsg, ⟨w0, w1⟩, stq, ⟨cw0, Int.lt_of_le_of_lt (show (more + wt) / (wide : Int) ≤ 10000000000000000000 by omega) (by decide +kernel)⟩, fun HB sB => k _ (DA.sm.trans sB)⟩
end
end My

set_option Elab.async false
set_option linter.all false
set_option maxRecDepth 100000
set_option maxHeartbeats 8000000
namespace My
open PySem L2
/-! ### the law -/
def spLaw (K : PySem.W.Frag) : Sp := fun vs H Q _ => ∃ (a : Addr) (ns : List Int), vs = [.ref a] ∧ SqL K H a (ns.map V.int) ∧ ns.length ≤ 63 ∧ ∀ H', Q (.bl true) H'
theorem by_body {B G : Prop} (h : B → G) (hB : B) : G := h hB
theorem cut_ints {ns : List Int} {lo hi : Option Int} : ∃ cs : List Int, cutV (ns.map V.int) lo hi = cs.map V.int ∧ cs.length ≤ ns.length := by
  unfold cutV
  rw [List.length_map, ← List.map_drop, ← List.map_take]
  exact ⟨_, rfl, by rw [List.length_take, List.length_drop]; omega⟩
section
variable {P : Program} {w : World} {K : PySem.W.Frag} {mg : Str → Option Value} {base : Heap} {f : Addr} {fd : FuncData} {dV : Value} {C CK : Addr}
theorem sc_law : FnScope ["_law_script", "_law_base", "_law_machine_here", "_law_cells", "_law_at", "_law_turn", "_law_many", "_law_most", "_law_factors", "_law_numbers", "_law_more"] ["_law_script"] (defScope s_law) := ⟨rfl, rfl, rfl, by decide +kernel, rfl, by decide +kernel, by decide +kernel⟩
theorem bk_law_0 : BlkScope ["_law_script", "_law_base", "_law_machine_here", "_law_cells", "_law_at", "_law_turn", "_law_many", "_law_most", "_law_factors", "_law_numbers", "_law_more"] (defScope s_law) ["_law_k", "_law_at", "_law_cells", "_law_most"] [none, some 4, some 3, some 7] { kind := ScopeKind.function, names := [(".0", NameKind.local), ("_law_k", NameKind.local), ("_law_cell_at", NameKind.globalImplicit), ("_law_at", NameKind.free), ("_law_cells", NameKind.free), ("_law_most", NameKind.free)], isGenerator := false, isCoroutine := false, more := [] } := ⟨rfl, by decide +kernel, by decide +kernel, by decide +kernel, by decide +kernel, rfl, by decide +kernel⟩
theorem bk_law_1 : BlkScope ["_law_script", "_law_base", "_law_machine_here", "_law_cells", "_law_at", "_law_turn", "_law_many", "_law_most", "_law_factors", "_law_numbers", "_law_more"] (defScope s_law) ["_law_k", "_law_at", "_law_cells", "_law_many"] [none, some 4, some 3, some 6] { kind := ScopeKind.function, names := [(".0", NameKind.local), ("_law_k", NameKind.local), ("_law_cell_at", NameKind.globalImplicit), ("_law_at", NameKind.free), ("_law_cells", NameKind.free), ("_law_many", NameKind.free)], isGenerator := false, isCoroutine := false, more := [] } := ⟨rfl, by decide +kernel, by decide +kernel, by decide +kernel, by decide +kernel, rfl, by decide +kernel⟩
theorem ok_law (F : FunD K "law" "law" s_law dV f fd)
    (GM_Looking : DefMk P w K mg base "Looking" C 1 ["self", "machine", "factors", "more", "base"] (spLInit C)) (G__law_pick : DefOk P w K mg base "_law_pick" 1 ["_law_script", "_law_k"] [] (spPick K)) (G__law_machine : DefOk P w K mg base "_law_machine" 2 ["_law_script", "_law_base"] [] (spMachL K))
    (G__law_cell_at : DefOk P w K mg base "_law_cell_at" 1 ["_law_script", "_law_k"] [] (spCell K)) (G__law_walked : DefOk P w K mg base "_law_walked" 7 ["_law_machine_here", "_law_factors", "_law_numbers", "_law_more"] [] (spWalked C))
    (g_Walk : mg "Walk" = some (.ref CK)) (tyL : ∀ {H : Hp} {a dx : Addr} {fs : List (Str × V)}, H a = some (.ins C dx fs) → TyOf K H (.ref a) (.ref C)) (k1 : PySem.W.kitOne K (.ref C) (.ref CK) = some true)
    (z_len : mg "len" = none) (z_range : mg "range" = none) (z_isinstance : mg "isinstance" = none) : FnOk P w K mg base CX0 8 f fd ["_law_script"] (spLaw K) := by
  refine F.ok sc_law (fun vs H Q E h => ?_) (fun cdv A outer s H vs Q E hr h => ?_)
  · obtain ⟨a, ns, rfl, _⟩ := h
    rfl
  obtain ⟨a, ns, rfl, hS, h63, k⟩ := h
  refine ⟨_, (pss_cons (ps_set (i := 1) sc_law.nd rfl (Or.inl rfl) (pe_op op_add pe_int (pe_op op_mod (pe_op op_fdiv (pe_cd G__law_pick hr (pa_cons (pv 0) (pa_cons pe_int pa_nil))) pe_int) pe_int)))
      (pss_cons (ps_set (i := 2) sc_law.nd rfl (Or.inl rfl) (pe_cd G__law_machine hr (pa_cons (pv 0) (pa_cons (pv 1) pa_nil))))
      (pss_cons (ps_set (i := 3) sc_law.nd rfl (Or.inr rfl) (pe_slice sl_list (pv 0) (po_some pe_int) (po_some pe_int)))
      (pss_cons (ps_set (i := 4) sc_law.nd rfl (Or.inr rfl) pe_int)
      (pss_cons (ps_while PassesOwn.never (PW.pt (pw_or (pt_cmpR op_eq (pv 4) pe_int (nomark _)) (pw_or1 (pt_cmpR op_lt (pv 4) (pe_callB call_len_seq (by rfl) z_len bt_len (pa_cons (pv 3) pa_nil)) (nomark _))))) (pss_cons (ps_set (i := 5) sc_law.nd rfl (Or.inl rfl) (pe_op op_mod (pe_op op_add (pe_op op_add (pe_op op_mul (pe_op op_mod (pe_cd G__law_cell_at hr (pa_cons (pv 3) (pa_cons (pv 4) pa_nil))) pe_int) pe_int) (pe_op op_mul (pv 4) pe_int)) pe_int) pe_int))
      (pss_cons (ps_set (i := 6) sc_law.nd rfl (Or.inr rfl) (pe_op op_mod (pv 5) pe_int))
      (pss_cons (ps_set (i := 7) sc_law.nd rfl (Or.inr rfl) (pe_ix ix_list (pe_lst (pa_cons pe_int (pa_cons pe_int (pa_cons pe_int (pa_cons (pe_op op_pow pe_int pe_int) pa_nil))))) (pe_op op_mod (pe_op op_fdiv (pv 5) pe_int) pe_int) (fun _ _ => rfl)))
      (pss_cons (ps_setComp (i := 8) rfl sc_law.nd rfl (Or.inl rfl) bk_law_0 (pi_range1 rfl z_range (pa_cons (pv 6) pa_nil)) (fun _ _ _ _ => (pg_name (i := 0) bk_law_0.nd rfl (Or.inl rfl))) (fun _ _ _ _ => (pe_op op_mod (pe_cd G__law_cell_at hr (pa_cons (pv 2) (pa_cons (pe_op op_add (pe_op op_add (pv 1) pe_int) (pv 0)) pa_nil))) (pv 3))))
      (pss_cons (ps_setComp (i := 9) rfl sc_law.nd rfl (Or.inl rfl) bk_law_1 (pi_range1 rfl z_range (pa_cons (pv 6) pa_nil)) (fun _ _ _ _ => (pg_name (i := 0) bk_law_1.nd rfl (Or.inl rfl))) (fun _ _ _ _ => (pe_op op_mod (pe_cd G__law_cell_at hr (pa_cons (pv 2) (pa_cons (pe_op op_add (pe_op op_add (pe_op op_add (pv 1) pe_int) (pv 3)) (pv 0)) pa_nil))) (pe_op op_pow pe_int pe_int))))
      (pss_cons (ps_set (i := 10) sc_law.nd rfl (Or.inl rfl) (pe_op op_mod (pe_cd G__law_cell_at hr (pa_cons (pv 3) (pa_cons (pe_op op_add (pe_op op_add (pv 4) pe_int) (pe_op op_mul pe_int (pv 6))) pa_nil))) (pe_ix ix_list (pe_lst (pa_cons pe_int (pa_cons (pe_op op_pow pe_int pe_int) pa_nil))) (pe_op op_mod (pe_op op_fdiv (pv 5) pe_int) pe_int) (fun _ _ => rfl))))
      (pss_cons (ps_if (pt_not (pt_val (pe_cd G__law_walked hr (pa_cons (pv 2) (pa_cons (pv 8) (pa_cons (pv 9) (pa_cons (pv 10) pa_nil))))))) (pss_one (ps_ret pe_bl)) pss_nil)
      (pss_one (ps_set (i := 4) sc_law.nd rfl (Or.inr rfl) (pe_op op_add (pe_op op_add (pv 4) pe_int) (pe_op op_mul pe_int (pv 6)))))))))))))
      (pss_one (ps_ret (pe_callB call_isO (by rfl) z_isinstance bt_isinstance (pa_cons (pe_mko GM_Looking hr (pa_cons (pv 2) (pa_cons (pe_lst (pa_cons pe_int pa_nil)) (pa_cons pe_int (pa_cons (pv 1) pa_nil))))) (pa_cons (pe_glob (v := .ref _) rfl g_Walk rfl) pa_nil)))))))))), ?_⟩
  try dsimp only [gName]
  refine cut_seq (t := tAsg _ _) (fun σ' H' => ∃ wide : Nat, (2 ≤ wide ∧ wide ≤ 5) ∧ σ' = [some (.ref a), some (.int (wide : Int)), none, none, none, none, none, none, none, none, none] ∧ H' = H) ?_ (fun nxt => ?_)
  rotate_left
  · have md := mod_in (a := pickI ns 1 / 3) (b := 4) (by decide)
    obtain ⟨wd, ew⟩ := nat_of (show 0 ≤ 2 + pickI ns 1 / 3 % 4 by omega)
    refine ⟨_, rfl, a, 1, ns, rfl, hS, ⟨by decide, by decide⟩, _, _, rfl, rfl, ⟨by decide, by decide⟩, _, _, rfl, rfl, (by show (0 : Int) < 4; decide), _, _, rfl, rfl, nxt _ _ ⟨wd, ⟨by omega, by omega⟩, ?_, rfl⟩⟩
    rw [← ew]
    rfl
  rintro σ' H0 ⟨wide, ⟨w0, w1⟩, rfl, rfl⟩
  refine ⟨_, rfl, _, rfl, a, wide, ns, rfl, hS, ⟨w0, w1⟩, fun m r g H1 many rows signs s1 M1 R lsg hmany SS => ?_⟩
  refine ⟨_, rfl, _, rfl, _, rfl, a, _, rfl, s1.seq hS, fun CC hC => ?_⟩
  obtain ⟨cs, ecs, lcs⟩ := cut_ints (ns := ns) (lo := some 1) (hi := some 64)
  rw [ecs]
  have hC1 : (upd H1 CC (HO.lst (cs.map V.int))) CC = some (.lst (cs.map V.int)) := upd_same
  have M2 := M1.same fun b xs e => (same_new hC (HO.lst (cs.map V.int))) _ _ e
  obtain ⟨H2, eH2⟩ : ∃ H2, (upd H1 CC (HO.lst (cs.map V.int))) = H2 := ⟨_, rfl⟩
  rw [eH2] at hC1 M2 ⊢
  clear eH2 M1
  try dsimp only [gName]
  refine seq_const ?_
  try dsimp only [gName]
  refine cut_seq (t := tWhile _ _) (fun σ' H' => ∃ (at' : Int) (v5 v6 v7 v8 v9 v10 : Option V), σ' = [some (.ref a), some (.int (wide : Int)), some (.ref m), some (.ref CC), some (.int at'), v5, v6, v7, v8, v9, v10] ∧ Same H2 H') ?_ (fun nxt => ?_)
  rotate_left
  · refine while_W (fun mm σ' H' => ∃ (at' : Int) (v5 v6 v7 v8 v9 v10 : Option V), mm = (100 - at').toNat ∧ 0 ≤ at' ∧ σ' = [some (.ref a), some (.int (wide : Int)), some (.ref m), some (.ref CC), some (.int at'), v5, v6, v7, v8, v9, v10] ∧ Same H2 H')
      ⟨_, 0, none, none, none, none, none, none, rfl, by decide, rfl, fun _ _ e => e⟩ ?_
    rintro mm σ' H3 ⟨at', v5, v6, v7, v8, v9, v10, rfl, a0, rfl, s3⟩
    have hC3 := s3 _ _ hC1
    refine by_body (fun hB => ⟨_, rfl, rfl, _, rfl, iteI (fun c => iteT (hB (by omega))) (fun c => ⟨_, rfl, _, rfl, CC, _, rfl, .inl (SqL.of hC3), _, _, rfl, rfl, _, rfl, iteD (fun c => hB (by rw [List.length_map] at c; omega)) (fun c => nxt _ _ ⟨_, _, _, _, _, _, _, rfl, s3⟩)⟩)⟩) (fun a1 : at' < 63 => ?_)
    refine ⟨fun σ' H' => ∃ m', m' < (100 - at').toNat ∧ ∃ (at' : Int) (v5 v6 v7 v8 v9 v10 : Option V), m' = (100 - at').toNat ∧ 0 ≤ at' ∧ σ' = [some (.ref a), some (.int (wide : Int)), some (.ref m), some (.ref CC), some (.int at'), v5, v6, v7, v8, v9, v10] ∧ Same H2 H', fun σ' H' h => h, ?_⟩
    try dsimp only [gName]
    refine cut_seq (t := tAsg _ _) (fun σ' H' => ∃ tn : Int, σ' = [some (.ref a), some (.int (wide : Int)), some (.ref m), some (.ref CC), some (.int at'), some (.int tn), v6, v7, v8, v9, v10] ∧ H' = H3) ?_ (fun nxt2 => ?_)
    rotate_left
    · refine ⟨_, rfl, _, rfl, CC, at', cs, rfl, SqL.of hC3, a0, fun x => ?_⟩
      exact ⟨_, _, rfl, rfl, (by show (0 : Int) < 1000003; decide), _, _, rfl, rfl, .inr ⟨by decide, by decide⟩, _, rfl, _, _, rfl, rfl, .inr ⟨by decide, by decide⟩, _, _, rfl, rfl, _, _, rfl, rfl, _, _, rfl, rfl, (by show (0 : Int) < 1000003; decide), nxt2 _ _ ⟨_, rfl, rfl⟩⟩
    rintro σ' H3' ⟨tn, rfl, rfl⟩
    try dsimp only [gName]
    refine cut_seq (t := tAsg _ _) (fun σ' H' => ∃ mn : Nat, mn ≤ 3 ∧ σ' = [some (.ref a), some (.int (wide : Int)), some (.ref m), some (.ref CC), some (.int at'), some (.int tn), some (.int (mn : Int)), v7, v8, v9, v10] ∧ H' = H3') ?_ (fun nxt2 => ?_)
    rotate_left
    · have md := mod_in (a := tn) (b := 4) (by decide)
      obtain ⟨mn, em⟩ := nat_of md.1
      refine ⟨_, rfl, _, _, rfl, rfl, (by show (0 : Int) < 4; decide), nxt2 _ _ ⟨mn, by omega, ?_, rfl⟩⟩
      rw [← em]
      rfl
    rintro σ' H3 ⟨mn, m3, rfl, rfl⟩
    try dsimp only [gName]
    refine cut_seq (t := tAsg _ _) (fun σ' H' => ∃ ms : Int, (0 < ms ∧ ms ≤ 1000000000) ∧ σ' = [some (.ref a), some (.int (wide : Int)), some (.ref m), some (.ref CC), some (.int at'), some (.int tn), some (.int (mn : Int)), some (.int ms), v8, v9, v10] ∧ Same H3 H') ?_ (fun nxt2 => ?_)
    rotate_left
    · refine ⟨_, _, rfl, rfl, ⟨by decide, by decide, by decide⟩, (by show 4 ≤ sizeLine; decide), fun L hL => ?_⟩
      have md := mod_in (a := tn / 4) (b := 4) (by decide)
      have pick : ∃ ms : Int, atI [V.int 10, V.int 10, V.int 10, V.int (10 ^ (9 : Int).toNat)] (tn / 4 % 4) = some (V.int ms) ∧ 0 < ms ∧ ms ≤ 1000000000 := by
        have h4 : tn / 4 % 4 = 0 ∨ tn / 4 % 4 = 1 ∨ tn / 4 % 4 = 2 ∨ tn / 4 % 4 = 3 := by omega
        rcases h4 with e | e | e | e <;> rw [e]
        · exact ⟨10, rfl, by decide, by decide⟩
        · exact ⟨10, rfl, by decide, by decide⟩
        · exact ⟨10, rfl, by decide, by decide⟩
        · exact ⟨_, rfl, by decide, by decide⟩
      obtain ⟨ms, ek, k0⟩ := pick
      exact ⟨_, rfl, _, _, rfl, rfl, ⟨by decide, by decide⟩, _, _, rfl, rfl, (by show (0 : Int) < 4; decide), L, _, _, _, rfl, rfl, SqL.of upd_same, ek, nxt2 _ _ ⟨ms, k0, rfl, same_new hL _⟩⟩
    rintro σ' H4 ⟨ms, ⟨ms0, ms1⟩, rfl, s4⟩
    have hC4 := s4 _ _ hC3
    -- factors
    refine ⟨_, rfl, (mn : Int), rfl, by omega, by omega, ?_⟩
    refine comp_range (fun D i ys H' => Same H4 H' ∧ ys.length = i ∧ IntsIn 0 1000000000 ys) (fun D hD => ⟨same_new hD _, rfl, IntsIn.nil⟩) ?_ ?_
    · rintro D i ys H' Q' hD hi hy ⟨hs, hln, hin⟩ k'
      refine ⟨_, rfl, _, rfl, _, _, rfl, rfl, _, rfl, _, _, rfl, rfl, CC, _, cs, rfl, SqL.of (hs _ _ hC4), by omega, fun x => ?_⟩
      have md := mod_in (a := x) (b := ms) ms0
      exact ⟨_, rfl, _, _, rfl, rfl, ms0, k' _ _ hy (small1000 (by omega)) ⟨same_upd hs hD, by simp [hln], hin.snoc md.1 (by omega)⟩⟩
    rintro fa ys H5 hfa hF ⟨s5, hlF, hinF⟩
    rw [Int.toNat_natCast] at hlF
    obtain ⟨Fs, rfl, hFs⟩ := hinF.ints
    rw [List.length_map] at hlF
    have hC5 := s5 _ _ hC4
    -- numbers
    refine ⟨_, rfl, (mn : Int), rfl, by omega, by omega, ?_⟩
    refine comp_range (fun D i ys H' => Same H5 H' ∧ ys.length = i ∧ IntsIn 0 1000000000000000000 ys) (fun D hD => ⟨same_new hD _, rfl, IntsIn.nil⟩) ?_ ?_
    · rintro D i ys H' Q' hD hi hy ⟨hs, hln, hin⟩ k'
      refine ⟨_, rfl, _, rfl, _, _, rfl, rfl, _, rfl, _, _, rfl, rfl, _, rfl, _, _, rfl, rfl, CC, _, cs, rfl, SqL.of (hs _ _ hC5), by omega, fun x => ?_⟩
      have md := mod_in (a := x) (b := 1000000000000000000) (by decide)
      exact ⟨_, _, rfl, rfl, ⟨by decide, by decide, by decide⟩, _, _, rfl, rfl, (by show (0 : Int) < 10 ^ 18; decide), k' _ _ hy (small1000 (by omega)) ⟨same_upd hs hD, by simp [hln], hin.snoc (show (0 : Int) ≤ x % 1000000000000000000 from md.1) md.2⟩⟩
    rintro na ys H6 hna hN ⟨s6, hlN, hinN⟩
    rw [Int.toNat_natCast] at hlN
    obtain ⟨Ns, rfl, hNs⟩ := hinN.ints
    rw [List.length_map] at hlN
    have hF6 := s6 _ _ hF
    have hC6 := s6 _ _ hC5
    -- more
    try dsimp only [gName]
    refine cut_seq (t := tAsg _ _) (fun σ' H' => ∃ mo : Int, (0 ≤ mo ∧ mo < 1000000000000000000) ∧ σ' = [some (.ref a), some (.int (wide : Int)), some (.ref m), some (.ref CC), some (.int at'), some (.int tn), some (.int (mn : Int)), some (.int ms), some (.ref fa), some (.ref na), some (.int mo)] ∧ Same H6 H') ?_ (fun nxt2 => ?_)
    rotate_left
    · refine ⟨_, rfl, _, rfl, _, _, rfl, rfl, _, rfl, _, _, rfl, rfl, .inl ⟨by decide, by decide⟩, _, _, rfl, rfl, CC, _, cs, rfl, SqL.of hC6, by omega, fun x => ?_⟩
      refine ⟨_, _, rfl, rfl, ⟨by decide, by decide, by decide⟩, (by show 2 ≤ sizeLine; decide), fun L hL => ?_⟩
      have md := mod_in (a := tn / 16) (b := 2) (by decide)
      have pick : ∃ ms : Int, atI [V.int 9, V.int (10 ^ (18 : Int).toNat)] (tn / 16 % 2) = some (V.int ms) ∧ 0 < ms ∧ ms ≤ 1000000000000000000 := by
        have h4 : tn / 16 % 2 = 0 ∨ tn / 16 % 2 = 1 := by omega
        rcases h4 with e | e <;> rw [e]
        · exact ⟨9, rfl, by decide, by decide⟩
        · exact ⟨_, rfl, by decide, by decide⟩
      obtain ⟨mb, ek, k0, k1'⟩ := pick
      have md2 := mod_in (a := x) (b := mb) k0
      exact ⟨_, rfl, _, _, rfl, rfl, ⟨by decide, by decide⟩, _, _, rfl, rfl, (by show (0 : Int) < 2; decide), L, _, _, _, rfl, rfl, SqL.of upd_same, ek, _, _, rfl, rfl, k0, nxt2 _ _ ⟨_, ⟨md2.1, by omega⟩, rfl, same_new hL _⟩⟩
    rintro σ' H7 ⟨mo, hmo, rfl, s7⟩
    have sAll := s3.trans (s4.trans (s5.trans (s6.trans s7)))
    refine ⟨_, rfl, _, rfl, _, rfl, _, rfl, m, r, g, fa, na, Fs, Ns, mo, many, wide, rows, signs, rfl, s7 _ _ hF6, s7 _ _ hN, by omega, by omega, fun z hz => hFs z hz, fun z hz => hNs z hz, hmo, M2.same fun b xs e => sAll _ _ e, R, lsg, ⟨hmany.1, by omega⟩, ⟨w0, by omega⟩, SS, fun H8 s8 => ⟨_, rfl, iteF ?_⟩⟩
    exact ⟨_, rfl, _, _, rfl, rfl, _, rfl, _, _, rfl, rfl, .inl ⟨by decide, by decide⟩, _, _, rfl, rfl, _, by omega, _, _, _, _, _, _, _, rfl, by omega, rfl, sAll.trans s8⟩
  rintro σ' H3 ⟨at', v5, v6, v7, v8, v9, v10, rfl, s3⟩
  refine ⟨_, rfl, (by show 1 ≤ sizeLine; decide), fun L hL => ⟨_, rfl, fun x dx hx hdx _ => ⟨x, dx, m, L, [1], 0, wide, rfl, upd_same, made_at hx hdx upd_same, fun H4 k4 W4 => ⟨rfl, ?_⟩⟩⟩⟩
  obtain ⟨d, fb, h1, _⟩ := W4.ob
  exact ⟨_, _, _, _, _, rfl, tyL h1, rfl, k1, k _⟩
end
end My

set_option Elab.async false
set_option linter.all false
set_option maxRecDepth 100000
set_option maxHeartbeats 8000000
namespace My
open PySem L2
theorem all_mk {l : PySem.W.OpenLaw} {w : World} {K : PySem.W.Frag} {h : Heap} {mg : Str → Option Value} {fa : Addr} (X : K.In h) (G : h.Ns mainGlobals mg) (hfa : mg "law" = some (.ref fa))
    {f_is_whole f_is_whole_from f_need_whole f_halved f_figures f_room f_weight_of f_Looking___init__ f_Looking_begin f_Looking_step f_Looking_sign f__law_cell_at f__law_whole f__law_pick f__law_rest f__law_machine f__law_read f__law_there f__law_walked f_law : Addr} {od_is_whole an_is_whole od_is_whole_from an_is_whole_from od_need_whole an_need_whole od_halved an_halved od_figures an_figures od_room an_room od_weight_of an_weight_of od_Looking___init__ an_Looking___init__ od_Looking_begin an_Looking_begin od_Looking_step an_Looking_step od_Looking_sign an_Looking_sign od__law_cell_at an__law_cell_at od__law_whole an__law_whole od__law_pick an__law_pick od__law_rest an__law_rest od__law_machine an__law_machine od__law_read an__law_read od__law_there an__law_there od__law_walked an__law_walked od_law an_law : Option Addr} {sl_is_whole sl_is_whole_from sl_need_whole sl_halved sl_figures sl_room sl_weight_of sl_Looking___init__ sl_Looking_begin sl_Looking_step sl_Looking_sign sl__law_cell_at sl__law_whole sl__law_pick sl__law_rest sl__law_machine sl__law_read sl__law_there sl__law_walked sl_law : Array (Option Value)} {oc_is_whole kV_is_whole dc_is_whole pm_is_whole cd_is_whole ct_is_whole oc_is_whole_from kV_is_whole_from dc_is_whole_from pm_is_whole_from cd_is_whole_from ct_is_whole_from oc_need_whole kV_need_whole dc_need_whole pm_need_whole cd_need_whole ct_need_whole oc_halved kV_halved dc_halved pm_halved cd_halved ct_halved oc_figures kV_figures dc_figures pm_figures cd_figures ct_figures oc_room kV_room dc_room pm_room cd_room ct_room oc_weight_of kV_weight_of dc_weight_of pm_weight_of cd_weight_of ct_weight_of oc_Looking___init__ kV_Looking___init__ dc_Looking___init__ pm_Looking___init__ cd_Looking___init__ ct_Looking___init__ oc_Looking_begin kV_Looking_begin dc_Looking_begin pm_Looking_begin cd_Looking_begin ct_Looking_begin oc_Looking_step kV_Looking_step dc_Looking_step pm_Looking_step cd_Looking_step ct_Looking_step oc_Looking_sign kV_Looking_sign dc_Looking_sign pm_Looking_sign cd_Looking_sign ct_Looking_sign oc__law_cell_at kV__law_cell_at dc__law_cell_at pm__law_cell_at cd__law_cell_at ct__law_cell_at oc__law_whole kV__law_whole dc__law_whole pm__law_whole cd__law_whole ct__law_whole oc__law_pick kV__law_pick dc__law_pick pm__law_pick cd__law_pick ct__law_pick oc__law_rest kV__law_rest dc__law_rest pm__law_rest cd__law_rest ct__law_rest oc__law_machine kV__law_machine dc__law_machine pm__law_machine cd__law_machine ct__law_machine oc__law_read kV__law_read dc__law_read pm__law_read cd__law_read ct__law_read oc__law_there kV__law_there dc__law_there pm__law_there cd__law_there ct__law_there oc__law_walked kV__law_walked dc__law_walked pm__law_walked cd__law_walked ct__law_walked oc_law kV_law dc_law pm_law cd_law ct_law : Value}
    (a_is_whole : PySem.W.nsIn K mainGlobals "is_whole" = some (some (.ref f_is_whole))) (l_is_whole : K.lookup f_is_whole = some ⟨oc_is_whole, od_is_whole, .func (PySem.W.fnOf "is_whole" "is_whole" (defArgs s_is_whole) (defBody s_is_whole) (defScope s_is_whole) .none kV_is_whole dc_is_whole pm_is_whole an_is_whole cd_is_whole ct_is_whole), sl_is_whole⟩) (c_is_whole : PySem.W.codeIn K cd_is_whole "is_whole" = true) (k_is_whole : PySem.W.keepIn K (.ref f_is_whole) = true)
    (a_is_whole_from : PySem.W.nsIn K mainGlobals "is_whole_from" = some (some (.ref f_is_whole_from))) (l_is_whole_from : K.lookup f_is_whole_from = some ⟨oc_is_whole_from, od_is_whole_from, .func (PySem.W.fnOf "is_whole_from" "is_whole_from" (defArgs s_is_whole_from) (defBody s_is_whole_from) (defScope s_is_whole_from) .none kV_is_whole_from dc_is_whole_from pm_is_whole_from an_is_whole_from cd_is_whole_from ct_is_whole_from), sl_is_whole_from⟩) (c_is_whole_from : PySem.W.codeIn K cd_is_whole_from "is_whole_from" = true) (k_is_whole_from : PySem.W.keepIn K (.ref f_is_whole_from) = true)
    (a_need_whole : PySem.W.nsIn K mainGlobals "need_whole" = some (some (.ref f_need_whole))) (l_need_whole : K.lookup f_need_whole = some ⟨oc_need_whole, od_need_whole, .func (PySem.W.fnOf "need_whole" "need_whole" (defArgs s_need_whole) (defBody s_need_whole) (defScope s_need_whole) .none kV_need_whole dc_need_whole pm_need_whole an_need_whole cd_need_whole ct_need_whole), sl_need_whole⟩) (c_need_whole : PySem.W.codeIn K cd_need_whole "need_whole" = true) (k_need_whole : PySem.W.keepIn K (.ref f_need_whole) = true)
    (a_halved : PySem.W.nsIn K mainGlobals "halved" = some (some (.ref f_halved))) (l_halved : K.lookup f_halved = some ⟨oc_halved, od_halved, .func (PySem.W.fnOf "halved" "halved" (defArgs s_halved) (defBody s_halved) (defScope s_halved) .none kV_halved dc_halved pm_halved an_halved cd_halved ct_halved), sl_halved⟩) (c_halved : PySem.W.codeIn K cd_halved "halved" = true) (k_halved : PySem.W.keepIn K (.ref f_halved) = true)
    {T_figures tn_figures : Nat} {tc_figures : Value} {td_figures : Option Addr} {tsl_figures : Array (Option Value)} {tk0_figures : Tok}
    (a_figures : PySem.W.nsIn K mainGlobals "figures" = some (some (.ref f_figures))) (l_figures : K.lookup f_figures = some ⟨oc_figures, od_figures, .func (PySem.W.fnOf "figures" "figures" (defArgs s_figures) (defBody s_figures) (defScope s_figures) (.ref T_figures) kV_figures dc_figures pm_figures an_figures cd_figures ct_figures), sl_figures⟩) (c_figures : PySem.W.codeIn K cd_figures "figures" = true) (k_figures : PySem.W.keepIn K (.ref f_figures) = true)
    (t_figures : K.lookup T_figures = some ⟨tc_figures, td_figures, .seq #[Value.int 10 tk0_figures] tn_figures, tsl_figures⟩)
    {T_room tn_room : Nat} {tc_room : Value} {td_room : Option Addr} {tsl_room : Array (Option Value)} {tk0_room : Tok}
    (a_room : PySem.W.nsIn K mainGlobals "room" = some (some (.ref f_room))) (l_room : K.lookup f_room = some ⟨oc_room, od_room, .func (PySem.W.fnOf "room" "room" (defArgs s_room) (defBody s_room) (defScope s_room) (.ref T_room) kV_room dc_room pm_room an_room cd_room ct_room), sl_room⟩) (c_room : PySem.W.codeIn K cd_room "room" = true) (k_room : PySem.W.keepIn K (.ref f_room) = true)
    (t_room : K.lookup T_room = some ⟨tc_room, td_room, .seq #[Value.int 0 tk0_room] tn_room, tsl_room⟩)
    (a_weight_of : PySem.W.nsIn K mainGlobals "weight_of" = some (some (.ref f_weight_of))) (l_weight_of : K.lookup f_weight_of = some ⟨oc_weight_of, od_weight_of, .func (PySem.W.fnOf "weight_of" "weight_of" (defArgs s_weight_of) (defBody s_weight_of) (defScope s_weight_of) .none kV_weight_of dc_weight_of pm_weight_of an_weight_of cd_weight_of ct_weight_of), sl_weight_of⟩) (c_weight_of : PySem.W.codeIn K cd_weight_of "weight_of" = true) (k_weight_of : PySem.W.keepIn K (.ref f_weight_of) = true)
    (a__law_cell_at : PySem.W.nsIn K mainGlobals "_law_cell_at" = some (some (.ref f__law_cell_at))) (l__law_cell_at : K.lookup f__law_cell_at = some ⟨oc__law_cell_at, od__law_cell_at, .func (PySem.W.fnOf "_law_cell_at" "_law_cell_at" (defArgs s__law_cell_at) (defBody s__law_cell_at) (defScope s__law_cell_at) .none kV__law_cell_at dc__law_cell_at pm__law_cell_at an__law_cell_at cd__law_cell_at ct__law_cell_at), sl__law_cell_at⟩) (c__law_cell_at : PySem.W.codeIn K cd__law_cell_at "_law_cell_at" = true) (k__law_cell_at : PySem.W.keepIn K (.ref f__law_cell_at) = true)
    (a__law_whole : PySem.W.nsIn K mainGlobals "_law_whole" = some (some (.ref f__law_whole))) (l__law_whole : K.lookup f__law_whole = some ⟨oc__law_whole, od__law_whole, .func (PySem.W.fnOf "_law_whole" "_law_whole" (defArgs s__law_whole) (defBody s__law_whole) (defScope s__law_whole) .none kV__law_whole dc__law_whole pm__law_whole an__law_whole cd__law_whole ct__law_whole), sl__law_whole⟩) (c__law_whole : PySem.W.codeIn K cd__law_whole "_law_whole" = true) (k__law_whole : PySem.W.keepIn K (.ref f__law_whole) = true)
    (a__law_pick : PySem.W.nsIn K mainGlobals "_law_pick" = some (some (.ref f__law_pick))) (l__law_pick : K.lookup f__law_pick = some ⟨oc__law_pick, od__law_pick, .func (PySem.W.fnOf "_law_pick" "_law_pick" (defArgs s__law_pick) (defBody s__law_pick) (defScope s__law_pick) .none kV__law_pick dc__law_pick pm__law_pick an__law_pick cd__law_pick ct__law_pick), sl__law_pick⟩) (c__law_pick : PySem.W.codeIn K cd__law_pick "_law_pick" = true) (k__law_pick : PySem.W.keepIn K (.ref f__law_pick) = true)
    (a__law_rest : PySem.W.nsIn K mainGlobals "_law_rest" = some (some (.ref f__law_rest))) (l__law_rest : K.lookup f__law_rest = some ⟨oc__law_rest, od__law_rest, .func (PySem.W.fnOf "_law_rest" "_law_rest" (defArgs s__law_rest) (defBody s__law_rest) (defScope s__law_rest) .none kV__law_rest dc__law_rest pm__law_rest an__law_rest cd__law_rest ct__law_rest), sl__law_rest⟩) (c__law_rest : PySem.W.codeIn K cd__law_rest "_law_rest" = true) (k__law_rest : PySem.W.keepIn K (.ref f__law_rest) = true)
    (a__law_machine : PySem.W.nsIn K mainGlobals "_law_machine" = some (some (.ref f__law_machine))) (l__law_machine : K.lookup f__law_machine = some ⟨oc__law_machine, od__law_machine, .func (PySem.W.fnOf "_law_machine" "_law_machine" (defArgs s__law_machine) (defBody s__law_machine) (defScope s__law_machine) .none kV__law_machine dc__law_machine pm__law_machine an__law_machine cd__law_machine ct__law_machine), sl__law_machine⟩) (c__law_machine : PySem.W.codeIn K cd__law_machine "_law_machine" = true) (k__law_machine : PySem.W.keepIn K (.ref f__law_machine) = true)
    (a__law_read : PySem.W.nsIn K mainGlobals "_law_read" = some (some (.ref f__law_read))) (l__law_read : K.lookup f__law_read = some ⟨oc__law_read, od__law_read, .func (PySem.W.fnOf "_law_read" "_law_read" (defArgs s__law_read) (defBody s__law_read) (defScope s__law_read) .none kV__law_read dc__law_read pm__law_read an__law_read cd__law_read ct__law_read), sl__law_read⟩) (c__law_read : PySem.W.codeIn K cd__law_read "_law_read" = true) (k__law_read : PySem.W.keepIn K (.ref f__law_read) = true)
    (a__law_there : PySem.W.nsIn K mainGlobals "_law_there" = some (some (.ref f__law_there))) (l__law_there : K.lookup f__law_there = some ⟨oc__law_there, od__law_there, .func (PySem.W.fnOf "_law_there" "_law_there" (defArgs s__law_there) (defBody s__law_there) (defScope s__law_there) .none kV__law_there dc__law_there pm__law_there an__law_there cd__law_there ct__law_there), sl__law_there⟩) (c__law_there : PySem.W.codeIn K cd__law_there "_law_there" = true) (k__law_there : PySem.W.keepIn K (.ref f__law_there) = true)
    (a__law_walked : PySem.W.nsIn K mainGlobals "_law_walked" = some (some (.ref f__law_walked))) (l__law_walked : K.lookup f__law_walked = some ⟨oc__law_walked, od__law_walked, .func (PySem.W.fnOf "_law_walked" "_law_walked" (defArgs s__law_walked) (defBody s__law_walked) (defScope s__law_walked) .none kV__law_walked dc__law_walked pm__law_walked an__law_walked cd__law_walked ct__law_walked), sl__law_walked⟩) (c__law_walked : PySem.W.codeIn K cd__law_walked "_law_walked" = true) (k__law_walked : PySem.W.keepIn K (.ref f__law_walked) = true)
    (a_law : PySem.W.nsIn K mainGlobals "law" = some (some (.ref f_law))) (l_law : K.lookup f_law = some ⟨oc_law, od_law, .func (PySem.W.fnOf "law" "law" (defArgs s_law) (defBody s_law) (defScope s_law) .none kV_law dc_law pm_law an_law cd_law ct_law), sl_law⟩) (c_law : PySem.W.codeIn K cd_law "law" = true) (k_law : PySem.W.keepIn K (.ref f_law) = true)
    (y_len : PySem.W.nsIn K mainGlobals "len" = some none)
    (y_range : PySem.W.nsIn K mainGlobals "range" = some none)
    (y_tuple : PySem.W.nsIn K mainGlobals "tuple" = some none)
    (y_list : PySem.W.nsIn K mainGlobals "list" = some none)
    (y_isinstance : PySem.W.nsIn K mainGlobals "isinstance" = some none)
    (y_int : PySem.W.nsIn K mainGlobals "int" = some none)
    (y_bool : PySem.W.nsIn K mainGlobals "bool" = some none)
    (y_sum : PySem.W.nsIn K mainGlobals "sum" = some none)
    (y_zip : PySem.W.nsIn K mainGlobals "zip" = some none)
    (y_max : PySem.W.nsIn K mainGlobals "max" = some none)
    (y_reversed : PySem.W.nsIn K mainGlobals "reversed" = some none)
    (y_min : PySem.W.nsIn K mainGlobals "min" = some none)
    {C_Walk : Addr} (cl_Walk : PySem.W.nsIn K mainGlobals "Walk" = some (some (.ref C_Walk)))
    {C_Looking : Addr} (cl_Looking : PySem.W.nsIn K mainGlobals "Looking" = some (some (.ref C_Looking)))
    (a_Looking___init__ : PySem.W.findIn K (.ref C_Looking) "__init__" = some (some (.ref f_Looking___init__))) (l_Looking___init__ : K.lookup f_Looking___init__ = some ⟨oc_Looking___init__, od_Looking___init__, .func (PySem.W.fnOf "__init__" "Looking.__init__" (defArgs s_Looking___init__) (defBody s_Looking___init__) (defScope s_Looking___init__) .none kV_Looking___init__ dc_Looking___init__ pm_Looking___init__ an_Looking___init__ cd_Looking___init__ ct_Looking___init__), sl_Looking___init__⟩) (c_Looking___init__ : PySem.W.codeIn K cd_Looking___init__ "Looking.__init__" = true) (k_Looking___init__ : PySem.W.keepIn K (.ref f_Looking___init__) = true)
    (a_Looking_begin : PySem.W.findIn K (.ref C_Looking) "begin" = some (some (.ref f_Looking_begin))) (l_Looking_begin : K.lookup f_Looking_begin = some ⟨oc_Looking_begin, od_Looking_begin, .func (PySem.W.fnOf "begin" "Looking.begin" (defArgs s_Looking_begin) (defBody s_Looking_begin) (defScope s_Looking_begin) .none kV_Looking_begin dc_Looking_begin pm_Looking_begin an_Looking_begin cd_Looking_begin ct_Looking_begin), sl_Looking_begin⟩) (c_Looking_begin : PySem.W.codeIn K cd_Looking_begin "Looking.begin" = true) (k_Looking_begin : PySem.W.keepIn K (.ref f_Looking_begin) = true)
    (a_Looking_step : PySem.W.findIn K (.ref C_Looking) "step" = some (some (.ref f_Looking_step))) (l_Looking_step : K.lookup f_Looking_step = some ⟨oc_Looking_step, od_Looking_step, .func (PySem.W.fnOf "step" "Looking.step" (defArgs s_Looking_step) (defBody s_Looking_step) (defScope s_Looking_step) .none kV_Looking_step dc_Looking_step pm_Looking_step an_Looking_step cd_Looking_step ct_Looking_step), sl_Looking_step⟩) (c_Looking_step : PySem.W.codeIn K cd_Looking_step "Looking.step" = true) (k_Looking_step : PySem.W.keepIn K (.ref f_Looking_step) = true)
    (a_Looking_sign : PySem.W.findIn K (.ref C_Looking) "sign" = some (some (.ref f_Looking_sign))) (l_Looking_sign : K.lookup f_Looking_sign = some ⟨oc_Looking_sign, od_Looking_sign, .func (PySem.W.fnOf "sign" "Looking.sign" (defArgs s_Looking_sign) (defBody s_Looking_sign) (defScope s_Looking_sign) .none kV_Looking_sign dc_Looking_sign pm_Looking_sign an_Looking_sign cd_Looking_sign ct_Looking_sign), sl_Looking_sign⟩) (c_Looking_sign : PySem.W.codeIn K cd_Looking_sign "Looking.sign" = true) (k_Looking_sign : PySem.W.keepIn K (.ref f_Looking_sign) = true)
    (c_pg : PySem.W.plainGet K C_Looking Str.empty = true)
    (c_hd : PySem.W.hasDictIn K C_Looking = true)
    (c_po : PySem.W.plainOver K C_Looking = true)
    (c_sa : PySem.W.findIn K (.ref C_Looking) "__setattr__" = some (some (.builtin "object.__setattr__")))
    (c_nm : PySem.W.findIn K (.ref C_Looking) "machine" = some none)
    (c_nf : PySem.W.findIn K (.ref C_Looking) "factors" = some none)
    (c_no : PySem.W.findIn K (.ref C_Looking) "more" = some none)
    (c_nb : PySem.W.findIn K (.ref C_Looking) "base" = some none)
    (c_mk : PySem.W.makesIn K C_Looking = true)
    (c_fi : PySem.W.isFn K (.ref f_Looking___init__) = true)
    (c_kp : PySem.W.keepIn K (.ref C_Looking) = true)
    (c_cc : PySem.W.findIn K (.ref C_Looking) "__class__" = some (some (.builtin "object.__class__")))
    (c_sp : PySem.W.specialIn K (.builtin "object.__class__") "__get__" = some (some (.builtin "getset_descriptor.__get__")))
    (c_tk : PySem.W.takesIn K (.builtin "object.__class__") = some true)
    (c_mo : PySem.W.mroIn K C_Looking (.type "object") = some true)
    (kk1 : PySem.W.kitOne K (.ref C_Looking) (.ref C_Walk) = some true)
    (fn_Looking_begin : PySem.W.isFn K (.ref f_Looking_begin) = true)
    (fn_Looking_step : PySem.W.isFn K (.ref f_Looking_step) = true)
    (fn_Looking_sign : PySem.W.isFn K (.ref f_Looking_sign) = true) :
    ∃ fd : FuncData, (∀ (s : Shared) (v : Value), BindsTo s fd ⟨[v], []⟩ [("_law_script", v)]) ∧ ∀ base : Heap, K.In base → base.Ns mainGlobals mg → FnOk l.prog w K mg base CX0 8 fa fd ["_law_script"] (spLaw K) := by
  have e := hfa.symm.trans (PySem.W.mg_of X G a_law)
  cases e
  have F_is_whole := fund_mk (st := s_is_whole) l_is_whole c_is_whole k_is_whole
  have b_is_whole := F_is_whole.binds (ps := ["thing"]) fun _ _ _ _ _ _ us hl => match us, hl with | [_], _ => rfl
  have m_is_whole := PySem.W.mg_of X G a_is_whole
  have F_is_whole_from := fund_mk (st := s_is_whole_from) l_is_whole_from c_is_whole_from k_is_whole_from
  have b_is_whole_from := F_is_whole_from.binds (ps := ["thing", "least"]) fun _ _ _ _ _ _ us hl => match us, hl with | [_, _], _ => rfl
  have m_is_whole_from := PySem.W.mg_of X G a_is_whole_from
  have F_need_whole := fund_mk (st := s_need_whole) l_need_whole c_need_whole k_need_whole
  have b_need_whole := F_need_whole.binds (ps := ["thing", "least", "called"]) fun _ _ _ _ _ _ us hl => match us, hl with | [_, _, _], _ => rfl
  have m_need_whole := PySem.W.mg_of X G a_need_whole
  have F_halved := fund_mk (st := s_halved) l_halved c_halved k_halved
  have b_halved := F_halved.binds (ps := ["parts", "middle"]) fun _ _ _ _ _ _ us hl => match us, hl with | [_, _], _ => rfl
  have m_halved := PySem.W.mg_of X G a_halved
  have F_figures := fund_mk (st := s_figures) l_figures c_figures k_figures
  have b_figures : Binds K _ ["number", "wide"] [] := F_figures.bindsD t_figures rfl 2 rfl fun _ _ _ _ _ _ us hl => match us, hl with | [_, _], _ => ⟨_, rfl, rfl⟩
  have b_figures_d : Binds K _ ["number", "wide"] [Value.int 10 tk0_figures] := F_figures.bindsD t_figures rfl 1 rfl fun _ _ _ _ _ _ us hl => match us, hl with | [_], _ => ⟨_, rfl, rfl⟩
  have m_figures := PySem.W.mg_of X G a_figures
  have F_room := fund_mk (st := s_room) l_room c_room k_room
  have b_room : Binds K _ ["machine", "row", "start"] [] := F_room.bindsD t_room rfl 3 rfl fun _ _ _ _ _ _ us hl => match us, hl with | [_, _, _], _ => ⟨_, rfl, rfl⟩
  have b_room_d : Binds K _ ["machine", "row", "start"] [Value.int 0 tk0_room] := F_room.bindsD t_room rfl 2 rfl fun _ _ _ _ _ _ us hl => match us, hl with | [_, _], _ => ⟨_, rfl, rfl⟩
  have m_room := PySem.W.mg_of X G a_room
  have F_weight_of := fund_mk (st := s_weight_of) l_weight_of c_weight_of k_weight_of
  have b_weight_of := F_weight_of.binds (ps := ["factors", "base", "figure"]) fun _ _ _ _ _ _ us hl => match us, hl with | [_, _, _], _ => rfl
  have m_weight_of := PySem.W.mg_of X G a_weight_of
  have F_Looking___init__ := fund_mk (st := s_Looking___init__) l_Looking___init__ c_Looking___init__ k_Looking___init__
  have b_Looking___init__ := F_Looking___init__.binds (ps := ["self", "machine", "factors", "more", "base"]) fun _ _ _ _ _ _ us hl => match us, hl with | [_, _, _, _, _], _ => rfl
  have F_Looking_begin := fund_mk (st := s_Looking_begin) l_Looking_begin c_Looking_begin k_Looking_begin
  have b_Looking_begin := F_Looking_begin.binds (ps := ["self"]) fun _ _ _ _ _ _ us hl => match us, hl with | [_], _ => rfl
  have F_Looking_step := fund_mk (st := s_Looking_step) l_Looking_step c_Looking_step k_Looking_step
  have b_Looking_step := F_Looking_step.binds (ps := ["self", "place", "figure"]) fun _ _ _ _ _ _ us hl => match us, hl with | [_, _, _], _ => rfl
  have F_Looking_sign := fund_mk (st := s_Looking_sign) l_Looking_sign c_Looking_sign k_Looking_sign
  have b_Looking_sign := F_Looking_sign.binds (ps := ["self", "place"]) fun _ _ _ _ _ _ us hl => match us, hl with | [_, _], _ => rfl
  have F__law_cell_at := fund_mk (st := s__law_cell_at) l__law_cell_at c__law_cell_at k__law_cell_at
  have b__law_cell_at := F__law_cell_at.binds (ps := ["_law_script", "_law_k"]) fun _ _ _ _ _ _ us hl => match us, hl with | [_, _], _ => rfl
  have m__law_cell_at := PySem.W.mg_of X G a__law_cell_at
  have F__law_whole := fund_mk (st := s__law_whole) l__law_whole c__law_whole k__law_whole
  have b__law_whole := F__law_whole.binds (ps := ["_law_found"]) fun _ _ _ _ _ _ us hl => match us, hl with | [_], _ => rfl
  have m__law_whole := PySem.W.mg_of X G a__law_whole
  have F__law_pick := fund_mk (st := s__law_pick) l__law_pick c__law_pick k__law_pick
  have b__law_pick := F__law_pick.binds (ps := ["_law_script", "_law_k"]) fun _ _ _ _ _ _ us hl => match us, hl with | [_, _], _ => rfl
  have m__law_pick := PySem.W.mg_of X G a__law_pick
  have F__law_rest := fund_mk (st := s__law_rest) l__law_rest c__law_rest k__law_rest
  have b__law_rest := F__law_rest.binds (ps := ["_law_rows", "_law_here"]) fun _ _ _ _ _ _ us hl => match us, hl with | [_, _], _ => rfl
  have m__law_rest := PySem.W.mg_of X G a__law_rest
  have F__law_machine := fund_mk (st := s__law_machine) l__law_machine c__law_machine k__law_machine
  have b__law_machine := F__law_machine.binds (ps := ["_law_script", "_law_base"]) fun _ _ _ _ _ _ us hl => match us, hl with | [_, _], _ => rfl
  have m__law_machine := PySem.W.mg_of X G a__law_machine
  have F__law_read := fund_mk (st := s__law_read) l__law_read c__law_read k__law_read
  have b__law_read := F__law_read.binds (ps := ["_law_machine_here", "_law_number", "_law_here"]) fun _ _ _ _ _ _ us hl => match us, hl with | [_, _, _], _ => rfl
  have m__law_read := PySem.W.mg_of X G a__law_read
  have F__law_there := fund_mk (st := s__law_there) l__law_there c__law_there k__law_there
  have b__law_there := F__law_there.binds (ps := ["_law_walk", "_law_place", "_law_carried", "_law_here", "_law_machine_here"]) fun _ _ _ _ _ _ us hl => match us, hl with | [_, _, _, _, _], _ => rfl
  have m__law_there := PySem.W.mg_of X G a__law_there
  have F__law_walked := fund_mk (st := s__law_walked) l__law_walked c__law_walked k__law_walked
  have b__law_walked := F__law_walked.binds (ps := ["_law_machine_here", "_law_factors", "_law_numbers", "_law_more"]) fun _ _ _ _ _ _ us hl => match us, hl with | [_, _, _, _], _ => rfl
  have m__law_walked := PySem.W.mg_of X G a__law_walked
  have F_law := fund_mk (st := s_law) l_law c_law k_law
  have b_law := F_law.binds (ps := ["_law_script"]) fun _ _ _ _ _ _ us hl => match us, hl with | [_], _ => rfl
  have m_law := PySem.W.mg_of X G a_law
  have z_len := PySem.W.mg_none_of X G y_len
  have z_range := PySem.W.mg_none_of X G y_range
  have z_tuple := PySem.W.mg_none_of X G y_tuple
  have z_list := PySem.W.mg_none_of X G y_list
  have z_isinstance := PySem.W.mg_none_of X G y_isinstance
  have z_int := PySem.W.mg_none_of X G y_int
  have z_bool := PySem.W.mg_none_of X G y_bool
  have z_sum := PySem.W.mg_none_of X G y_sum
  have z_zip := PySem.W.mg_none_of X G y_zip
  have z_max := PySem.W.mg_none_of X G y_max
  have z_reversed := PySem.W.mg_none_of X G y_reversed
  have z_min := PySem.W.mg_none_of X G y_min
  have g_Walk := PySem.W.mg_of X G cl_Walk
  have g_Looking := PySem.W.mg_of X G cl_Looking
  refine ⟨PySem.W.fnOf "law" "law" (defArgs s_law) (defBody s_law) (defScope s_law) .none kV_law dc_law pm_law an_law cd_law ct_law, fun s v => .of_eq rfl, fun base _ _ => ?_⟩
  have cls_Looking := (show Cls K C_Looking from ⟨c_pg, c_hd, c_po, c_sa⟩)
  have mk_Looking := (show Mk K C_Looking f_Looking___init__ from ⟨c_mk, a_Looking___init__, c_fi, c_kp⟩)
  have lc := (show LCls K C_Looking from ⟨cls_Looking, c_nm, c_nf, c_no, c_nb⟩)
  have G_is_whole : DefOk l.prog w K mg base "is_whole" 1 ["thing"] [] (spWhole) := ⟨_, _, [], m_is_whole, k_is_whole, .nil, b_is_whole, ok_is_whole F_is_whole z_isinstance z_int z_bool⟩
  have G_is_whole_from : DefOk l.prog w K mg base "is_whole_from" 2 ["thing", "least"] [] (spFrom) := ⟨_, _, [], m_is_whole_from, k_is_whole_from, .nil, b_is_whole_from, ok_from F_is_whole_from G_is_whole⟩
  have G_need_whole : DefOk l.prog w K mg base "need_whole" 3 ["thing", "least", "called"] [] (spNeed) := ⟨_, _, [], m_need_whole, k_need_whole, .nil, b_need_whole, ok_need F_need_whole G_is_whole_from⟩
  have G_halved : DefOk l.prog w K mg base "halved" 1 ["parts", "middle"] [] (spHalved K) := ⟨_, _, [], m_halved, k_halved, .nil, b_halved, ok_halved F_halved ⟩
  have G_figures : DefOk l.prog w K mg base "figures" 4 ["number", "wide"] [] (spFigures K) := ⟨_, _, [], m_figures, k_figures, .nil, b_figures, ok_figures F_figures G_need_whole G_halved z_reversed z_tuple⟩
  have G_room : DefOk l.prog w K mg base "room" 1 ["machine", "row", "start"] [] (spRoom K) := ⟨_, _, [], m_room, k_room, .nil, b_room, ok_room F_room ⟩
  have G_weight_of : DefOk l.prog w K mg base "weight_of" 1 ["factors", "base", "figure"] [] (spWof) := ⟨_, _, [], m_weight_of, k_weight_of, .nil, b_weight_of, ok_wof F_weight_of ⟩
  have GM_Looking : DefMk l.prog w K mg base "Looking" C_Looking 1 ["self", "machine", "factors", "more", "base"] (spLInit C_Looking) := ⟨g_Looking, cls_Looking, _, _, mk_Looking, b_Looking___init__, ok_linit F_Looking___init__ lc z_tuple⟩
  have GE_begin : DefMe l.prog w K mg base C_Looking "begin" 1 ["self"] (spLBegin C_Looking) := ⟨cls_Looking, _, _, ⟨a_Looking_begin, fn_Looking_begin, k_Looking_begin⟩, b_Looking_begin, ok_lbegin F_Looking_begin lc⟩
  have GE_step : DefMe l.prog w K mg base C_Looking "step" 2 ["self", "place", "figure"] (spLStep C_Looking) := ⟨cls_Looking, _, _, ⟨a_Looking_step, fn_Looking_step, k_Looking_step⟩, b_Looking_step, ok_lstep F_Looking_step lc G_weight_of⟩
  have GE_sign : DefMe l.prog w K mg base C_Looking "sign" 5 ["self", "place"] (spLSign C_Looking) := ⟨cls_Looking, _, _, ⟨a_Looking_sign, fn_Looking_sign, k_Looking_sign⟩, b_Looking_sign, ok_lsign F_Looking_sign lc G_room G_figures⟩
  have G__law_cell_at : DefOk l.prog w K mg base "_law_cell_at" 1 ["_law_script", "_law_k"] [] (spCell K) := ⟨_, _, [], m__law_cell_at, k__law_cell_at, .nil, b__law_cell_at, ok_cell F__law_cell_at z_len⟩
  have G__law_whole : DefOk l.prog w K mg base "_law_whole" 1 ["_law_found"] [] (spWholeN) := ⟨_, _, [], m__law_whole, k__law_whole, .nil, b__law_whole, ok_wholeN F__law_whole z_isinstance z_int z_bool⟩
  have G__law_pick : DefOk l.prog w K mg base "_law_pick" 1 ["_law_script", "_law_k"] [] (spPick K) := ⟨_, _, [], m__law_pick, k__law_pick, .nil, b__law_pick, ok_pick F__law_pick z_len⟩
  have G__law_rest : DefOk l.prog w K mg base "_law_rest" 1 ["_law_rows", "_law_here"] [] (spRest K) := ⟨_, _, [], m__law_rest, k__law_rest, .nil, b__law_rest, ok_rest F__law_rest z_len z_range z_min⟩
  have G__law_machine : DefOk l.prog w K mg base "_law_machine" 2 ["_law_script", "_law_base"] [] (spMachL K) := ⟨_, _, [], m__law_machine, k__law_machine, .nil, b__law_machine, ok_machL F__law_machine G__law_pick G__law_rest z_range z_tuple⟩
  have G__law_read : DefOk l.prog w K mg base "_law_read" 1 ["_law_machine_here", "_law_number", "_law_here"] [] (spReadL) := ⟨_, _, [], m__law_read, k__law_read, .nil, b__law_read, ok_readL F__law_read ⟩
  have G__law_there : DefOk l.prog w K mg base "_law_there" 6 ["_law_walk", "_law_place", "_law_carried", "_law_here", "_law_machine_here"] [] (spThereL C_Looking) := ⟨_, _, [], m__law_there, k__law_there, .nil, b__law_there, ok_thereL F__law_there G__law_whole G__law_read GE_sign z_isinstance z_tuple z_len⟩
  have G__law_walked : DefOk l.prog w K mg base "_law_walked" 7 ["_law_machine_here", "_law_factors", "_law_numbers", "_law_more"] [] (spWalked C_Looking) := ⟨_, _, [], m__law_walked, k__law_walked, .nil, b__law_walked, ok_walked F__law_walked GM_Looking GE_begin GE_step GE_sign G__law_there G__law_read z_list z_max z_sum z_zip z_reversed⟩
  exact ok_law F_law GM_Looking G__law_pick G__law_machine G__law_cell_at G__law_walked g_Walk (fun e => TyOf.ins e cls_Looking c_cc c_sp c_tk c_mo) kk1 z_len z_range z_isinstance
theorem walk {l : PySem.W.OpenLaw} {q : Program} {loose : List Str} {XP : (Str → Option Value) → Heap → Prop} {YP : World → Heap → Prop} {d : DefRec} {K : Params → PySem.W.Frag} (hn : l.most = some 63) (hdf : d.params.defaults = [])
    (hY : ∀ (w : World) (h : Heap), YP w h → (K w.params).In h)
    (F : ∀ (w : World) (mg : Str → Option Value) (fa : Addr) (h : Heap), (K w.params).In h → h.Ns mainGlobals mg → mg d.name = some (.ref fa) →
      ∃ fd : FuncData, (∀ (s : Shared) (u : Value), BindsTo s fd ⟨[u], []⟩ [("_law_script", u)]) ∧ ∀ base : Heap, (K w.params).In base → base.Ns mainGlobals mg → FnOk l.prog w (K w.params) mg base CX0 8 fa fd ["_law_script"] (spLaw (K w.params))) :
    PySem.W.WalkO q loose XP YP l.row.toRowW d [] (fun f vs => PySem.call f vs) :=
  L2.walk_of (n := 63) (k := 8) (x := "_law_script") (CX := fun _ => CX0) (sp := fun w => spLaw (K w.params)) hn (by decide) hdf ⟨rfl, by decide, by decide⟩ hY F (fun _ _ a ns hl _ hS => ⟨a, ns, rfl, hS, hl, fun _ => rfl⟩) fun _ _ _ _ _ z => z
end My
open PySem PySem.W PyProof.Rows
set_option maxRecDepth 100000 in
set_option maxHeartbeats 0 in
theorem PySem.Challenge.cw_figuretell_k62_looking_holds : PySem.Challenge.rw_figuretell_k62_looking.Holds := by
  w_on; o_law; k_head; (case hw => w_witness2)
  k_fill
  refine My.walk (l := PySem.Challenge.rw_figuretell_k62_looking) rfl rfl (fun w h Y => PySem.W.kIn_of Y) ?F
  case F =>
    intro w mg fa h KX G hmg
    refine' My.all_mk KX G hmg ?a_is_whole ?l_is_whole ?c_is_whole ?k_is_whole ?a_is_whole_from ?l_is_whole_from ?c_is_whole_from ?k_is_whole_from ?a_need_whole ?l_need_whole ?c_need_whole ?k_need_whole ?a_halved ?l_halved ?c_halved ?k_halved ?a_figures ?l_figures ?c_figures ?k_figures ?t_figures ?a_room ?l_room ?c_room ?k_room ?t_room ?a_weight_of ?l_weight_of ?c_weight_of ?k_weight_of ?a__law_cell_at ?l__law_cell_at ?c__law_cell_at ?k__law_cell_at ?a__law_whole ?l__law_whole ?c__law_whole ?k__law_whole ?a__law_pick ?l__law_pick ?c__law_pick ?k__law_pick ?a__law_rest ?l__law_rest ?c__law_rest ?k__law_rest ?a__law_machine ?l__law_machine ?c__law_machine ?k__law_machine ?a__law_read ?l__law_read ?c__law_read ?k__law_read ?a__law_there ?l__law_there ?c__law_there ?k__law_there ?a__law_walked ?l__law_walked ?c__law_walked ?k__law_walked ?a_law ?l_law ?c_law ?k_law ?y_len ?y_range ?y_tuple ?y_list ?y_isinstance ?y_int ?y_bool ?y_sum ?y_zip ?y_max ?y_reversed ?y_min ?cl_Walk ?cl_Looking ?a_Looking___init__ ?l_Looking___init__ ?c_Looking___init__ ?k_Looking___init__ ?a_Looking_begin ?l_Looking_begin ?c_Looking_begin ?k_Looking_begin ?a_Looking_step ?l_Looking_step ?c_Looking_step ?k_Looking_step ?a_Looking_sign ?l_Looking_sign ?c_Looking_sign ?k_Looking_sign ?c_pg ?c_hd ?c_po ?c_sa ?c_nm ?c_nf ?c_no ?c_nb ?c_mk ?c_fi ?c_kp ?c_cc ?c_sp ?c_tk ?c_mo ?kk1 ?fn_Looking_begin ?fn_Looking_step ?fn_Looking_sign
    (case a_is_whole => k_is); (case l_is_whole => k_is); (case c_is_whole => k_is); (case k_is_whole => k_is)
    (case a_is_whole_from => k_is); (case l_is_whole_from => k_is); (case c_is_whole_from => k_is); (case k_is_whole_from => k_is)
    (case a_need_whole => k_is); (case l_need_whole => k_is); (case c_need_whole => k_is); (case k_need_whole => k_is)
    (case a_halved => k_is); (case l_halved => k_is); (case c_halved => k_is); (case k_halved => k_is)
    (case a_figures => k_is); (case l_figures => k_is); (case c_figures => k_is); (case k_figures => k_is); (case t_figures => k_is)
    (case a_room => k_is); (case l_room => k_is); (case c_room => k_is); (case k_room => k_is); (case t_room => k_is)
    (case a_weight_of => k_is); (case l_weight_of => k_is); (case c_weight_of => k_is); (case k_weight_of => k_is)
    (case a__law_cell_at => k_is); (case l__law_cell_at => k_is); (case c__law_cell_at => k_is); (case k__law_cell_at => k_is)
    (case a__law_whole => k_is); (case l__law_whole => k_is); (case c__law_whole => k_is); (case k__law_whole => k_is)
    (case a__law_pick => k_is); (case l__law_pick => k_is); (case c__law_pick => k_is); (case k__law_pick => k_is)
    (case a__law_rest => k_is); (case l__law_rest => k_is); (case c__law_rest => k_is); (case k__law_rest => k_is)
    (case a__law_machine => k_is); (case l__law_machine => k_is); (case c__law_machine => k_is); (case k__law_machine => k_is)
    (case a__law_read => k_is); (case l__law_read => k_is); (case c__law_read => k_is); (case k__law_read => k_is)
    (case a__law_there => k_is); (case l__law_there => k_is); (case c__law_there => k_is); (case k__law_there => k_is)
    (case a__law_walked => k_is); (case l__law_walked => k_is); (case c__law_walked => k_is); (case k__law_walked => k_is)
    (case a_law => k_is); (case l_law => k_is); (case c_law => k_is); (case k_law => k_is)
    (case y_len => k_is); (case y_range => k_is); (case y_tuple => k_is); (case y_list => k_is); (case y_isinstance => k_is); (case y_int => k_is); (case y_bool => k_is); (case y_sum => k_is); (case y_zip => k_is); (case y_max => k_is); (case y_reversed => k_is); (case y_min => k_is)
    (case cl_Walk => k_is)
    (case cl_Looking => k_is)
    (case a_Looking___init__ => k_is); (case l_Looking___init__ => k_is); (case c_Looking___init__ => k_is); (case k_Looking___init__ => k_is)
    (case a_Looking_begin => k_is); (case l_Looking_begin => k_is); (case c_Looking_begin => k_is); (case k_Looking_begin => k_is)
    (case a_Looking_step => k_is); (case l_Looking_step => k_is); (case c_Looking_step => k_is); (case k_Looking_step => k_is)
    (case a_Looking_sign => k_is); (case l_Looking_sign => k_is); (case c_Looking_sign => k_is); (case k_Looking_sign => k_is)
    (case c_pg => first | k_is | k_exc | decide | kernel_rfl)
    (case c_hd => first | k_is | k_exc | decide | kernel_rfl)
    (case c_po => first | k_is | k_exc | decide | kernel_rfl)
    (case c_sa => first | k_is | k_exc | decide | kernel_rfl)
    (case c_nm => first | k_is | k_exc | decide | kernel_rfl)
    (case c_nf => first | k_is | k_exc | decide | kernel_rfl)
    (case c_no => first | k_is | k_exc | decide | kernel_rfl)
    (case c_nb => first | k_is | k_exc | decide | kernel_rfl)
    (case c_mk => first | k_is | k_exc | decide | kernel_rfl)
    (case c_fi => first | k_is | k_exc | decide | kernel_rfl)
    (case c_kp => first | k_is | k_exc | decide | kernel_rfl)
    (case c_cc => first | k_is | k_exc | decide | kernel_rfl)
    (case c_sp => first | k_is | k_exc | decide | kernel_rfl)
    (case c_tk => first | k_is | k_exc | decide | kernel_rfl)
    (case c_mo => first | k_is | k_exc | decide | kernel_rfl)
    (case kk1 => first | k_is | k_exc | decide | kernel_rfl)
    (case fn_Looking_begin => first | k_is | k_exc | decide | kernel_rfl)
    (case fn_Looking_step => first | k_is | k_exc | decide | kernel_rfl)
    (case fn_Looking_sign => first | k_is | k_exc | decide | kernel_rfl)

