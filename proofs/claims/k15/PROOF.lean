import PyProof.Rows.All
import Wide.All
import OpenK.AllK
import Wide.FinOn
import Lean
import PyProof.EqAt
import PyProof.EqKinds
import PyProof.TupleCall
import PyProof.NeKinds
import PyProof.ExcBaseAll.ValueError
import PyProof.ExcClass3
import OpenK.KOwn
import PyProof.Rows.FStr
import KE.KTryMore
import PyProof.ExcAttrAll.ValueError
import KE.KDictList
import PyProof.CompMap
import PyProof.CollectIter
import PyProof.SetRoads
import PyProof.Rows.SortShell
import PyProof.Rows.SortWalk
import PyProof.Draws
import PyProof.ListRange
import PyProof.ZipIter
import PySem.Challenge.RW_figuretell_k15_leads_and_partings
set_option Elab.async false
set_option linter.all false
set_option maxRecDepth 100000
/-! THE HAND LAYER, for ints, bools, texts, own classes, LISTS and tuples (index, slices, in, append, pop ..), calls, loops. Paste it whole ahead of your own text; what your proof does not reach may be deleted. -/
namespace L2
open PySem PySem.Spec PyProof.Rows

/-- a key: an int or a str -/
abbrev Key := Sum Int Str
def keyIs : Key → Value → Bool
  | .inl k, v => Value.isInt k v
  | .inr x, v => Value.isStrOf x v
def keyH (w : World) : Key → Int
  | .inl k => hashInt k
  | .inr x => hashStr w x
theorem keyIs_shape : ∀ {k : Key} {v : Value}, keyIs k v = true → (∃ i t, k = Sum.inl i ∧ v = Value.int i t) ∨ (∃ x t, k = Sum.inr x ∧ v = Value.str x t)
  | .inl i, v, h => by
    obtain ⟨t, e⟩ := Value.isInt_shape (k := i) (v := v) h
    exact .inl ⟨i, t, rfl, e⟩
  | .inr x, v, h => by
    obtain ⟨t, e⟩ := Value.isStrOf_shape (x := x) (v := v) h
    exact .inr ⟨x, t, rfl, e⟩
theorem keyIs_int (i : Int) (t : Tok) : keyIs (.inl i) (.int i t) = true := by simp [keyIs, Value.isInt]
theorem keyIs_str (x : Str) (t : Tok) : keyIs (.inr x) (.str x t) = true := by simp [keyIs, Value.isStrOf]
theorem key_ll (a b : Int) : decide ((Sum.inl a : Key) = Sum.inl b) = (a == b) := by
  by_cases e : a = b
  · subst e; simp
  · have h : ¬ (Sum.inl a : Key) = Sum.inl b := fun q => e (Sum.inl.inj q)
    rw [decide_eq_false h]
    exact (beq_eq_false_iff_ne.mpr e).symm
theorem key_rr (a b : Str) : decide ((Sum.inr a : Key) = Sum.inr b) = decide (a = b) := by
  by_cases e : a = b
  · subst e; simp
  · have h : ¬ (Sum.inr a : Key) = Sum.inr b := fun q => e (Sum.inr.inj q)
    rw [decide_eq_false h, decide_eq_false e]
theorem key_lr (a : Int) (b : Str) : decide ((Sum.inl a : Key) = Sum.inr b) = false := decide_eq_false (fun q => nomatch q)
theorem key_rl (a : Str) (b : Int) : decide ((Sum.inr a : Key) = Sum.inl b) = false := decide_eq_false (fun q => nomatch q)

def mixKind (prog : Program) (w : World) : PySem.KeyKind prog w Key where
  is := keyIs
  hash := keyH w
  inj := fun v a b ha hb => by
    rcases keyIs_shape ha with ⟨i, t, rfl, rfl⟩ | ⟨x, t, rfl, rfl⟩
    · rcases keyIs_shape hb with ⟨j, u, rfl, e⟩ | ⟨y, u, rfl, e⟩
      · injection e with e1 _; rw [e1]
      · exact nomatch e
    · rcases keyIs_shape hb with ⟨j, u, rfl, e⟩ | ⟨y, u, rfl, e⟩
      · exact nomatch e
      · injection e with e1 _; rw [e1]
  byValue := fun k v h => by
    rcases keyIs_shape h with ⟨i, t, rfl, rfl⟩ | ⟨x, t, rfl, rfl⟩ <;> rfl
  pyHash := fun hv h => by
    rcases keyIs_shape hv with ⟨i, t, rfl, rfl⟩ | ⟨x, t, rfl, rfl⟩
    · exact wpAny_pyHash_int h
    · exact wpAny_pyHash_str h
  eqBool := fun hu hv h => by
    rcases keyIs_shape hu with ⟨i, t, rfl, rfl⟩ | ⟨x, t, rfl, rfl⟩
    · rcases keyIs_shape hv with ⟨j, u, rfl, rfl⟩ | ⟨y, u, rfl, rfl⟩
      · rw [key_ll] at h; exact wpAny_eqBool_int h
      · rw [key_lr] at h; exact SeqAt.EqAt.int_str i t y u _ _ _ _ h
    · rcases keyIs_shape hv with ⟨j, u, rfl, rfl⟩ | ⟨y, u, rfl, rfl⟩
      · rw [key_rl] at h; exact SeqAt.EqAt.str_int x t j u _ _ _ _ h
      · rw [key_rr] at h; exact wpAny_eqBool_str h
  «strs» := fun k x t v h => by
    rcases keyIs_shape h with ⟨i, u, rfl, e⟩ | ⟨y, u, rfl, e⟩
    · exact nomatch e
    · injection e with e1 _
      subst e1
      cases v <;> rfl

theorem mixKind_int (prog : Program) (w : World) (i : Int) (t : Tok) : (mixKind prog w).is (.inl i) (.int i t) = true := keyIs_int i t
theorem mixKind_str (prog : Program) (w : World) (x : Str) (t : Tok) : (mixKind prog w).is (.inr x) (.str x t) = true := keyIs_str x t
end L2

namespace L2
open PySem PySem.Spec PyProof.Rows

/-- a value, without the heap -/
inductive V where
  | non | bl (b : Bool) | int (i : Int) | str (x : Str) | byt (b : Array UInt8) | flt (b : UInt64) | ref (a : Addr) | ty (n : String)
  deriving DecidableEq

def RelV : V → Value → Prop
  | .non, u => u = Value.none
  | .bl b, u => u = Value.bool b
  | .int i, u => ∃ t, u = Value.int i t
  | .str x, u => ∃ t, u = Value.str x t
  | .byt b, u => ∃ t, u = Value.bytes b t
  | .flt b, u => ∃ t, u = Value.float b t
  | .ref a, u => u = Value.ref a
  | .ty n, u => u = Value.type n

abbrev Vals : List V → List Value → Prop := Paired RelV
theorem Vals.length {xs : List V} {us : List Value} (r : Vals xs us) : xs.length = us.length := Paired.length r
theorem Vals.get : ∀ {xs : List V} {us : List Value} {i : Nat} {x : V}, Vals xs us → xs[i]? = some x → ∃ u, us[i]? = some u ∧ RelV x u
  | _, _, _, _, .nil, e => by simp at e
  | _, _, 0, _, .cons r _, e => by simp at e; subst e; exact ⟨_, rfl, r⟩
  | _, _, i + 1, x, .cons _ t, e => by
    obtain ⟨u, h1, h2⟩ := Vals.get (i := i) (x := x) t (by simpa using e)
    exact ⟨u, by simpa using h1, h2⟩
theorem Vals.set {x : V} {u : Value} (r : RelV x u) : ∀ {xs : List V} {us : List Value} (i : Nat), Vals xs us → Vals (xs.set i x) (us.set i u)
  | _, _, _, .nil => .nil
  | _, _, 0, .cons _ t => .cons r t
  | _, _, i + 1, .cons q t => .cons q (Vals.set r i t)
theorem Vals.append : ∀ {xs ys : List V} {us ws : List Value}, Vals xs us → Vals ys ws → Vals (xs ++ ys) (us ++ ws)
  | _, _, _, _, .nil, s => s
  | _, _, _, _, .cons r t, s => .cons r (Vals.append t s)
theorem Vals.take : ∀ {xs : List V} {us : List Value} (n : Nat), Vals xs us → Vals (xs.take n) (us.take n)
  | _, _, 0, _ => .nil
  | _, _, _ + 1, .nil => .nil
  | _, _, n + 1, .cons r t => .cons r (Vals.take n t)
theorem Vals.drop : ∀ {xs : List V} {us : List Value} (n : Nat), Vals xs us → Vals (xs.drop n) (us.drop n)
  | _, _, 0, r => r
  | _, _, _ + 1, .nil => .nil
  | _, _, n + 1, .cons _ t => Vals.drop n t
theorem Vals.none_of : ∀ {xs : List V} {us : List Value} {i : Nat}, Vals xs us → xs[i]? = none → us[i]? = none := fun {xs us i} r e => by
  have h1 := r.length
  have h2 : xs.length ≤ i := List.getElem?_eq_none_iff.mp e
  exact List.getElem?_eq_none_iff.mpr (by omega)

def RelO : Option V → Option Value → Prop
  | some v, some u => RelV v u
  | none, none => True
  | _, _ => False
def KV {κ : Type} : List (κ × V) → List (κ × Value) → Prop := Paired fun (p : κ × V) (q : κ × Value) => p.1 = q.1 ∧ RelV p.2 q.2

/-- a key of a dict (00_mix): an int or a text -/
def kV : Key → V
  | .inl i => .int i
  | .inr x => .str x

/-- what stands at a tracked address -/
inductive HO where
  /-- a list -/
  | lst (xs : List V)
  /-- a tuple (never changes) -/
  | tup (xs : List V)
  /-- a dict whose keys are ints and texts; one whose keys are tuples of ints and texts (the empty one is both) -/
  | dK (kvs : List (Key × V)) | dT (kvs : List (List Key × V))
  /-- a set of ints: its members, its size -/
  | set (S : Int → Bool) (n : Nat)
  /-- an instance of the class at C, its dict at dx, its attributes -/
  | ins (C dx : Addr) (fs : List (Str × V))
  /-- the dict of the instance at x -/
  | own (x : Addr)
  /-- the dict of an exception -/
  | xd (fs : List (Str × V))
  /-- a bound method, f of x -/
  | met (f x : Addr)
  /-- a range object lo, lo + 1, .. below hi -/
  | rng (lo hi : Int)
  /-- a thing that is known to the object (the script; a dict while a loop walks it): read, never written while it is so -/
  | frz (o : Obj) (u : HO)
  /-- a code object's table -/
  | tbl (ps : Array Value)
  /-- any other thing, by what is true of its one object (a def of one's own: SetO a S n := HO.ext fun h => ..) -/
  | ext (φ : Heap → Prop)

abbrev Hp := Addr → Option HO
def upd (H : Hp) (a : Addr) (o : HO) : Hp := fun b => if b = a then some o else H b
theorem upd_same {H : Hp} {a : Addr} {o : HO} : upd H a o a = some o := by unfold upd; rw [if_pos rfl]
theorem upd_ne {H : Hp} {a b : Addr} {o : HO} (h : b ≠ a) : upd H a o b = H b := by unfold upd; rw [if_neg h]
theorem upd_upd {H : Hp} {a : Addr} {o u : HO} : upd (upd H a o) a u = upd H a u := by
  funext b; unfold upd; split <;> rfl
/-- two objects of different content stand apart -/
theorem ne_of {H : Hp} {a b : Addr} {o u : HO} (h : H a = some o) (h' : H b = some u) (d : o ≠ u) : a ≠ b := by
  intro e; subst e; rw [h] at h'; exact d (Option.some.inj h')
theorem ne_of_none {H : Hp} {a b : Addr} {o : HO} (h : H a = some o) (h' : H b = none) : a ≠ b := by
  intro e; subst e; rw [h] at h'; cases h'

section
variable (P : Program) (w : World)
def ObjOk (H : Hp) (h : Heap) (a : Addr) : HO → Prop
  | .lst xs => xs.length ≤ sizeLine ∧ ∃ (its : List Value) (n : Nat), Vals xs its ∧ h.get? a = some { cls := .type "list", data := .seq its.toArray n }
  | .tup xs => xs.length ≤ sizeLine ∧ ∃ its : List Value, Vals xs its ∧ IsTup h a its.toArray
  | .dK kvs => kvs.length ≤ sizeLine ∧ (a == sysModules) = false ∧ ∃ vs, KV kvs vs ∧ h.DictOf (mixKind P w) a vs
  | .dT kvs => kvs.length ≤ sizeLine ∧ (a == sysModules) = false ∧ ∃ xs : List (List Key × Addr × Value),
      Paired (fun (p : List Key × V) (q : List Key × Addr × Value) => p.1 = q.1 ∧ H q.2.1 = some (.tup (p.1.map kV)) ∧ RelV p.2 q.2.2) kvs xs ∧
      ∃ o es ep, h.get? a = some o ∧ o.ExactDict ∧ o.data = .dict es ep ∧ es.toList = xs.map (entryOfKey (tupleKind (mixKind P w))) ∧ (xs.map (·.1)).Nodup
  | .set S n => h.SetOf (intKind P w) a S n
  | .ins C dx fs => H dx = some (.own a) ∧ fs.length ≤ 1000 ∧ dx ≠ a ∧ h.get? a = some (PySem.W.instObj C dx) ∧
      ∃ mA, h.Ns1 dx mA ∧ (∀ f, RelO (fs.lookup f) (mA f)) ∧ PySem.Within mA (fs.map (·.1))
  | .own _ => ∃ o, h.get? a = some o
  | .xd fs => ∃ mA, h.Ns1 a mA ∧ ∀ f, RelO (fs.lookup f) (mA f)
  | .rng lo hi => ∃ t u v, h.get? a = some { cls := .type "range", data := .fields #[.int lo t, .int hi u, .int 1 v] }
  | .frz o u => h.get? a = some o ∧ ObjOk H h a u
  | .tbl ps => h.get? a = some { cls := .none, data := .fields ps }
  | .met f x => h.get? a = some (PySem.W.methodObj (.ref f) (.ref x))
  | .ext φ => φ h ∧ (∃ o, h.get? a = some o) ∧ ∀ h1 h2 : Heap, φ h1 → (∀ o, h1.get? a = some o → h2.get? a = some o) → φ h2
/-- the abstract heap is held -/
def HOk (H : Hp) (h : Heap) : Prop := ∀ a o, H a = some o → ObjOk P w H h a o
end

section
variable {P : Program} {w : World} {H H' : Hp} {h h' : Heap} {a : Addr} {o : HO}
theorem ObjOk.lt (x : ObjOk P w H h a o) : a < h.objs.size := by
  cases o with
  | lst xs => obtain ⟨_, _, _, _, e⟩ := x; exact Heap.lt_size e
  | tup xs => obtain ⟨_, _, _, p⟩ := x; exact p.lt
  | dK kvs => obtain ⟨_, _, _, _, o, _, _, e, _⟩ := x; exact Heap.lt_size e
  | dT kvs => obtain ⟨_, _, _, _, o, _, _, e, _⟩ := x; exact Heap.lt_size e
  | set S n => obtain ⟨o, _, _, _, e, _⟩ := x; exact Heap.lt_size e
  | ins C dx fs => obtain ⟨_, _, _, e, _⟩ := x; exact Heap.lt_size e
  | own y => obtain ⟨_, e⟩ := x; exact Heap.lt_size e
  | xd fs => obtain ⟨_, ⟨_, _, _, e, _⟩, _⟩ := x; exact Heap.lt_size e
  | rng lo hi => obtain ⟨_, _, _, e⟩ := x; exact Heap.lt_size e
  | frz ob u => obtain ⟨e, _⟩ := x; exact Heap.lt_size e
  | tbl ps => exact Heap.lt_size (show h.get? a = some _ from x)
  | met f y => exact Heap.lt_size (show h.get? a = some _ from x)
  | ext φ => obtain ⟨_, ⟨_, e⟩, _⟩ := x; exact Heap.lt_size e
theorem Paired.mapP {α β : Type} {F G : α → β → Prop} : ∀ {l₁ : List α} {l₂ : List β}, Paired F l₁ l₂ → (∀ a b, F a b → G a b) → Paired G l₁ l₂
  | _, _, .nil, _ => .nil
  | _, _, .cons r t, f => .cons (f _ _ r) (Paired.mapP t f)
/-- what an object's description leans on: its own object, its own dict, the tuples -/
theorem ObjOk.stay (x : ObjOk P w H h a o) (k : ∀ b u, (b = a ∨ H b = some (.own a)) → h.get? b = some u → h'.get? b = some u)
    (ho : ∀ b, H b = some (.own a) → H' b = some (.own a)) (ht : ∀ b xs, H b = some (.tup xs) → H' b = some (.tup xs)) : ObjOk P w H' h' a o := by
  induction o with
  | lst xs => obtain ⟨z, its, n, r, e⟩ := x; exact ⟨z, its, n, r, k _ _ (.inl rfl) e⟩
  | tup xs => obtain ⟨z, its, r, ob, e, c⟩ := x; exact ⟨z, its, r, ob, k _ _ (.inl rfl) e, c⟩
  | dK kvs => obtain ⟨z, y, vs, r, ob, es, ep, e, c⟩ := x; exact ⟨z, y, vs, r, ob, es, ep, k _ _ (.inl rfl) e, c⟩
  | dT kvs =>
    obtain ⟨z, y, xs, r, ob, es, ep, e, c⟩ := x
    exact ⟨z, y, xs, Paired.mapP r fun p q z => ⟨z.1, ht _ _ z.2.1, z.2.2⟩, ob, es, ep, k _ _ (.inl rfl) e, c⟩
  | set S n => obtain ⟨ob, es, ep, t, e, c⟩ := x; exact ⟨ob, es, ep, t, k _ _ (.inl rfl) e, c⟩
  | ins C dx fs =>
    obtain ⟨d, z, ne, e, mA, ⟨od, es, ep, e2, c⟩, r⟩ := x
    exact ⟨ho _ d, z, ne, k _ _ (.inl rfl) e, mA, ⟨od, es, ep, k _ _ (.inr d) e2, c⟩, r⟩
  | own y => obtain ⟨ob, e⟩ := x; exact ⟨ob, k _ _ (.inl rfl) e⟩
  | xd fs => obtain ⟨mA, ⟨od, es, ep, e, c⟩, r⟩ := x; exact ⟨mA, ⟨od, es, ep, k _ _ (.inl rfl) e, c⟩, r⟩
  | rng lo hi => obtain ⟨t, u, v, e⟩ := x; exact ⟨t, u, v, k _ _ (.inl rfl) e⟩
  | frz ob u ih => obtain ⟨e, q⟩ := x; exact ⟨k _ _ (.inl rfl) e, ih q⟩
  | tbl ps =>
    have e : h.get? a = some { cls := .none, data := .fields ps } := x
    show h'.get? a = some { cls := .none, data := .fields ps }
    exact k a _ (.inl rfl) e
  | met f y =>
    have e : h.get? a = some (PySem.W.methodObj (.ref f) (.ref y)) := x
    show h'.get? a = some (PySem.W.methodObj (.ref f) (.ref y))
    exact k a _ (.inl rfl) e
  | ext φ => obtain ⟨p, ⟨o, e⟩, st⟩ := x; exact ⟨st _ _ p fun o q => k _ _ (.inl rfl) q, ⟨o, k _ _ (.inl rfl) e⟩, st⟩
theorem HOk.lt (x : HOk P w H h) (e : H a = some o) : a < h.objs.size := (x a o e).lt
theorem HOk.fresh (x : HOk P w H h) (e : h.objs.size ≤ a) : H a = none := by
  cases q : H a with
  | none => rfl
  | some u => exact absurd (Nat.lt_of_lt_of_le (x.lt q) e) (Nat.lt_irrefl _)
/-- every object of the heap is kept -/
theorem HOk.kept (x : HOk P w H h) (k : ∀ b u, h.get? b = some u → h'.get? b = some u) : HOk P w H h' := fun a o e =>
  (x a o e).stay (fun b u _ q => k b u q) (fun _ q => q) fun _ _ q => q
/-- a new object is laid and tracked -/
theorem HOk.laid (x : HOk P w H h) (k : ∀ b u, h.get? b = some u → h'.get? b = some u) (hp : h.objs.size ≤ a) (new : ObjOk P w (upd H a o) h' a o) : HOk P w (upd H a o) h' := fun b u e => by
  have hn := x.fresh hp
  by_cases hb : b = a
  · subst hb; rw [upd_same] at e; cases e; exact new
  · rw [upd_ne hb] at e
    exact (x b u e).stay (fun c v _ q => k c v q) (fun c q => by rw [upd_ne (ne_of_none q hn)]; exact q) fun c xs q => by rw [upd_ne (ne_of_none q hn)]; exact q
end

/-- what may be read as u: it is u, or a known u -/
def Rd (H : Hp) (a : Addr) (u : HO) : Prop := H a = some u ∨ ∃ o, H a = some (.frz o u)
theorem Rd.of {H : Hp} {a : Addr} {u : HO} (h : H a = some u) : Rd H a u := .inl h
theorem Rd.ok {P : Program} {w : World} {H : Hp} {h : Heap} {a : Addr} {u : HO} (r : Rd H a u) (x : HOk P w H h) : ObjOk P w H h a u := by
  rcases r with r | ⟨o, r⟩
  · exact x a u r
  · obtain ⟨_, q⟩ := x a _ r
    exact q
/-- what may be written -/
def Mut : Option HO → Prop
  | some (.lst _) => True
  | some (.dK _) => True
  | some (.dT _) => True
  | some (.set _ _) => True
  | some (.ins _ _ _) => True
  | some (.ext _) => True
  | _ => False
section
variable {P : Program} {w : World} {H : Hp} {h h' : Heap} {x e : Addr} {o' : HO}
/-- the object at e is changed: x itself, or the dict of the instance x -/
theorem HOk.write (ok : HOk P w H h) (mu : Mut (H x)) (he : e = x ∨ H e = some (.own x)) (k : ∀ b u, b ≠ e → h.get? b = some u → h'.get? b = some u) (heo : ∃ u, h'.get? e = some u)
    (new : ObjOk P w (upd H x o') h' x o') : HOk P w (upd H x o') h' := fun b u q => by
  have nown : ∀ c y, H c = some (.own y) → c ≠ x := fun c y r z => by subst z; rw [r] at mu; exact mu
  have ntup : ∀ c xs, H c = some (.tup xs) → c ≠ x := fun c xs r z => by subst z; rw [r] at mu; exact mu
  by_cases hb : b = x
  · subst hb; rw [upd_same] at q; cases q; exact new
  · rw [upd_ne hb] at q
    by_cases hbe : b = e
    · have q' : H b = some (.own x) := by
        rcases he with z | z
        · exact absurd (hbe.trans z) hb
        · rw [hbe]; exact z
      rw [q] at q'; cases q'
      obtain ⟨v, hv⟩ := heo
      exact ⟨v, by rw [hbe]; exact hv⟩
    · refine (ok b u q).stay (fun c v hc r => k c v ?_ r) (fun c r => by rw [upd_ne (nown c b r)]; exact r) fun c xs r => by rw [upd_ne (ntup c xs r)]; exact r
      rcases hc with rfl | hc
      · exact hbe
      · rintro rfl
        rcases he with z | z
        · exact nown c b hc z
        · rw [hc] at z; cases z; exact hb rfl
end

/-! ### kept unless tracked; of the frames at fs (the callers') the slots may change (an exception that passes writes there); of the records at ex (iterators) nothing is said -/
structure Un (fs ex : List Addr) (H H' : Hp) (h h' : Heap) : Prop where
  keep : ∀ b o, h.get? b = some o → H b = none → b ∉ fs → b ∉ ex → h'.get? b = some o
  slot : ∀ b o, h.get? b = some o → H b = none → b ∈ fs → b ∉ ex → ∃ sl, h'.get? b = some { o with slots := sl }
  free : ∀ b o, h.get? b = some o → H b = none → b ∉ ex → H' b = none
  there : ∀ b o, h.get? b = some o → b ∉ ex → ∃ o', h'.get? b = some o'
  tups : ∀ b xs, H b = some (.tup xs) → H' b = some (.tup xs)
  frzs : ∀ b o u, H b = some (.frz o u) → H' b = some (.frz o u)
  tbls : ∀ b ps, H b = some (.tbl ps) → ∃ more, H' b = some (.tbl (ps ++ more))
section
variable {fs fs' ex ex' : List Addr} {H H1 H2 : Hp} {h h1 h2 h' : Heap} {a x e : Addr} {o : HO}
theorem Un.any (u : Un fs ex H H1 h h1) {b : Addr} {ob : Obj} (q : h.get? b = some ob) (n : H b = none) (hx : b ∉ ex) : ∃ sl, h1.get? b = some { ob with slots := sl } := by
  by_cases hb : b ∈ fs
  · exact u.slot b ob q n hb hx
  · exact ⟨ob.slots, u.keep b ob q n hb hx⟩
theorem Un.trans (a : Un fs ex H H1 h h1) (b : Un fs ex H1 H2 h1 h2) : Un fs ex H H2 h h2 where
  keep := fun c ob q n hc hx => b.keep c ob (a.keep c ob q n hc hx) (a.free c ob q n hx) hc hx
  slot := fun c ob q n hc hx => by
    obtain ⟨sl, e1⟩ := a.slot c ob q n hc hx
    obtain ⟨sl', e2⟩ := b.slot c _ e1 (a.free c ob q n hx) hc hx
    exact ⟨sl', e2⟩
  free := fun c ob q n hx => by
    obtain ⟨o', e1⟩ := a.there c ob q hx
    exact b.free c o' e1 (a.free c ob q n hx) hx
  there := fun c ob q hx => by
    obtain ⟨o', e1⟩ := a.there c ob q hx
    exact b.there c o' e1 hx
  tups := fun c xs q => b.tups c xs (a.tups c xs q)
  frzs := fun c ob xs q => b.frzs c ob xs (a.frzs c ob xs q)
  tbls := fun c ps q => by
    obtain ⟨m1, e1⟩ := a.tbls c ps q
    obtain ⟨m2, e2⟩ := b.tbls c _ e1
    exact ⟨m1 ++ m2, by rw [e2, Array.append_assoc]⟩
theorem Un.kept (k : ∀ b u, h.get? b = some u → h'.get? b = some u) : Un fs ex H H h h' :=
  ⟨fun b ob q _ _ _ => k b ob q, fun b ob q _ _ _ => ⟨ob.slots, k b ob q⟩, fun _ _ _ n _ => n, fun b ob q _ => ⟨ob, k b ob q⟩, fun _ _ q => q, fun _ _ _ q => q, fun _ ps q => ⟨#[], by rw [q]; simp⟩⟩
theorem Un.refl : Un fs ex H H h h := Un.kept fun _ _ q => q
theorem Un.laid (k : ∀ b u, h.get? b = some u → h'.get? b = some u) (hp : h.objs.size ≤ a) (hn : H a = none) : Un fs ex H (upd H a o) h h' where
  keep := fun b u q _ _ _ => k b u q
  slot := fun b u q _ _ _ => ⟨u.slots, k b u q⟩
  free := fun b u q n _ => by rw [upd_ne (Nat.ne_of_lt (Nat.lt_of_lt_of_le (Heap.lt_size q) hp))]; exact n
  there := fun b u q _ => ⟨u, k b u q⟩
  tups := fun b xs q => by rw [upd_ne (ne_of_none q hn)]; exact q
  frzs := fun b u xs q => by rw [upd_ne (ne_of_none q hn)]; exact q
  tbls := fun b ps q => ⟨#[], by rw [upd_ne (ne_of_none q hn), q]; simp⟩
theorem Un.write (mu : Mut (H x)) (he : e = x ∨ H e = some (.own x)) (k : ∀ b u, b ≠ e → h.get? b = some u → h'.get? b = some u) (heo : ∃ u, h'.get? e = some u) : Un fs ex H (upd H x o) h h' := by
  have hx : ∀ b, H b = none → b ≠ x := fun b n z => by subst z; rw [n] at mu; exact mu
  have hb : ∀ b, H b = none → b ≠ e := fun b n z => by
    subst z
    rcases he with r | r
    · exact hx b n r
    · rw [n] at r; cases r
  have hm : ∀ b u, H b = some u → ¬ Mut (some u) → b ≠ x := fun b u q nm z => by subst z; rw [q] at mu; exact nm mu
  refine ⟨fun b u q n _ _ => k b u (hb b n) q, fun b u q n _ _ => ⟨u.slots, k b u (hb b n) q⟩, fun b u q n _ => by rw [upd_ne (hx b n)]; exact n, fun b u q _ => ?_,
    fun b xs q => by rw [upd_ne (hm b _ q fun z => z)]; exact q, fun b u xs q => by rw [upd_ne (hm b _ q fun z => z)]; exact q, fun b ps q => ⟨#[], by rw [upd_ne (hm b _ q fun z => z), q]; simp⟩⟩
  by_cases hbe : b = e
  · subst hbe; exact heo
  · exact ⟨u, k b u hbe q⟩
theorem Un.mono (u : Un fs ex H H1 h h1) (hs : ∀ b ∈ fs, b ∈ fs') (hx : ∀ b ∈ ex, b ∈ ex') : Un fs' ex' H H1 h h1 :=
  ⟨fun b ob q n hb he => u.keep b ob q n (fun z => hb (hs b z)) fun z => he (hx b z), fun _ _ q n _ he => u.any q n fun z => he (hx _ z), fun b ob q n he => u.free b ob q n fun z => he (hx b z), fun b ob q he => u.there b ob q fun z => he (hx b z), u.tups, u.frzs, u.tbls⟩
end

/-! ### the heap without what is tracked -/
def trk (h : Heap) (H : Hp) : List Addr := (List.range h.objs.size).filter fun a => (H a).isSome
def hidT (h : Heap) (H : Hp) : Heap := PySem.W.hideAll h (trk h H)
theorem hidT_size (h : Heap) (H : Hp) : (hidT h H).objs.size = h.objs.size := PySem.W.hideAll_size _ _
theorem hidT_get {h : Heap} {H : Hp} {b : Addr} {o : Obj} (e : h.get? b = some o) (n : H b = none) : (hidT h H).get? b = some o :=
  PySem.W.hideAll_get _ e fun hm => by
    have q : (H b).isSome = true := (List.mem_filter.mp hm).2
    rw [n] at q; simp at q
theorem of_hidT {h : Heap} {H : Hp} {b : Addr} {o : Obj} (e : (hidT h H).get? b = some o) : h.get? b = some o ∧ H b = none := by
  have e' : h.get? b = some o := PySem.W.of_hideAll (trk h H) e
  refine ⟨e', ?_⟩
  cases q : H b with
  | none => rfl
  | some x =>
    have hm : b ∈ trk h H := List.mem_filter.mpr ⟨List.mem_range.mpr (Heap.lt_size e'), by simp [q]⟩
    have z : (hidT h H).get? b = none := PySem.W.hideAll_none (trk h H) hm
    rw [z] at e; cases e

/-! ### OpenK's ledger, filled with every new object but one -/
def allNews (g h : Heap) (L : Addr) : List (Addr × Obj) := (List.range h.objs.size).filterMap fun a => if a = L ∨ (g.get? a).isSome = true then none else (h.get? a).map fun o => (a, o)
def rest (g h : Heap) (L d : Addr) : List (Addr × Obj) := (allNews g h L).filter fun p => decide (p.1 ≠ d)
end L2

namespace L2
open PySem PySem.Spec PyProof.Rows

/-- the module's facts, over the base: the heap at the law's entry without what is tracked there -/
structure Mod (K : PySem.W.Frag) (mg : Str → Option Value) (base : Heap) : Prop where
  kin : K.In base
  glob : base.Ns mainGlobals mg
  blt : ∃ mb, base.Ns builtinsNs mb ∧ ∀ x : Str, x ≠ "__name__" → mb x = bootBuiltins x
  nolimit : base.NoLimit

/-- the context: a def's body (or a comprehension's block) running. base: fixed through the whole law; s₀, H₀: the entry; outer: the frames whose slots others may change (a def's callers); stack: all frames that run;
   ex: iterators that were made ahead of the entry and are walked here (a comprehension's); fn: the names whose cells were made at the entry (a def: all; a comprehension's block: its own); calm: not within an except suite; pn: pins that every state bears; xe: what is wanted of an exception that leaves the code -/
structure Cx where
  prog : Program
  w : World
  K : PySem.W.Frag
  mg : Str → Option Value
  base : Heap
  A : Around
  N : List Str
  s₀ : Shared
  H₀ : Hp
  env : Env
  outer : List Env
  stack : List Env
  ex : List Addr
  fn : Str → Bool
  calm : Bool
  pn : List (Addr × Obj)
  xe : Value → Shared → Prop
/-- the callers' frames -/
def frs (l : List Env) : List Addr := l.filterMap (·.frame)
abbrev Cx.fs (X : Cx) : List Addr := frs X.outer

def Vis (sc : Scope) (x : Str) : Prop := sc.names.lookup x = some .local ∨ sc.names.lookup x = some .cell ∨ sc.names.lookup x = some .free
def Loc (sc : Scope) (x : Str) : Prop := sc.names.lookup x = some .local ∨ sc.names.lookup x = some .cell
def Look (env : Env) (h : Heap) (m : Str → Option Value) (x : Str) (u : Value) : Prop :=
  (env.kindOf x = some .local ∧ m x = some u) ∨ ((env.kindOf x = some .cell ∨ env.kindOf x = some .free) ∧ ∃ c, env.cells.lookup x = some c ∧ h.IsCell c (some u))

structure Cx.Ok (X : Cx) : Prop where
  mod : Mod X.K X.mg X.base
  kind : X.env.scope.kind = .function
  glob : X.env.globals = mainGlobals
  blt : X.env.builtins = builtinsNs
  above : X.s₀.heap.objs.size ≤ X.env.locals
  inj : ∀ x y c, X.env.cells.lookup x = some c → X.env.cells.lookup y = some c → x = y
  has : ∀ x, (X.env.kindOf x = some .cell ∨ X.env.kindOf x = some .free) → ∃ c, X.env.cells.lookup x = some c
  cab : ∀ x c, X.fn x = true → X.env.cells.lookup x = some c → X.s₀.heap.objs.size ≤ c
  hd : X.calm = true → X.A.handled = none
  frames : X.A.frames = some X.stack
  stk : X.stack = X.outer ∨ (X.stack = X.env :: X.outer ∧ X.env.frame = some X.env.locals)
  exf : ∀ b ∈ X.ex, b ≠ X.env.locals ∧ ∀ x c, X.env.cells.lookup x = some c → c ≠ b
  bs : ∀ b o, X.base.get? b = some o → X.s₀.heap.get? b = some o ∧ X.H₀ b = none
  bsz : X.base.objs.size ≤ X.s₀.heap.objs.size
  noex : ∀ b o, X.base.get? b = some o → b ∉ X.ex
  exfs : ∀ b ∈ X.ex, b ∉ X.fs
  funs : X.s₀.heap.FunFrames X.base X.outer
  frf : ∀ b ∈ X.fs, X.H₀ b = none

structure Inv (X : Cx) (pins : List (Addr × Obj)) (σ : List (Option V)) (H : Hp) (s : Shared) : Prop where
  ok : X.Ok
  os : s.os = X.s₀.os
  bare : AllBare s.gens
  base : Un X.fs X.ex X.H₀ H X.s₀.heap s.heap
  loc : ∃ m, s.heap.Ns X.env.locals m ∧ ∀ (i : Nat) (x : Str) (v : V), X.N[i]? = some x → σ[i]? = some (some v) → Vis X.env.scope x → ∃ u, RelV v u ∧ Look X.env s.heap m x u
  cell : ∀ x c, X.env.cells.lookup x = some c → ∃ v, s.heap.IsCell c v
  free : H X.env.locals = none
  freeC : ∀ x c, X.env.cells.lookup x = some c → H c = none
  pin : ∀ p ∈ X.pn ++ pins, s.heap.get? p.1 = some p.2 ∧ H p.1 = none ∧ p.1 ≠ X.env.locals ∧ p.1 ∉ X.fs ∧ ∀ v, p.2.data ≠ .cell v
  hok : HOk X.prog X.w H s.heap
  len : σ.length = X.N.length

section
variable {X : Cx} {pins : List (Addr × Obj)} {σ : List (Option V)} {H H' : Hp} {s : Shared} {h' : Heap}

theorem Cx.Ok.nofr (ok : X.Ok) {b : Addr} {o : Obj} (e : X.base.get? b = some o) : b ∉ X.fs := fun hb => by
  have := (ok.funs.mem hb).1
  rw [e] at this; cases this
theorem Inv.bs (I : Inv X pins σ H s) : ∀ b o, X.base.get? b = some o → s.heap.get? b = some o ∧ H b = none := fun b o e =>
  ⟨I.base.keep b o (I.ok.bs b o e).1 (I.ok.bs b o e).2 (I.ok.nofr e) (I.ok.noex b o e), I.base.free b o (I.ok.bs b o e).1 (I.ok.bs b o e).2 (I.ok.noex b o e)⟩
theorem Inv.bk (I : Inv X pins σ H s) : ∀ b o, X.base.get? b = some o → s.heap.get? b = some o := fun b o e => (I.bs b o e).1
theorem Inv.mod (I : Inv X pins σ H s) : Mod X.K X.mg X.base := I.ok.mod
theorem Inv.kIn (I : Inv X pins σ H s) : X.K.In s.heap := I.ok.mod.kin.keeps I.bk
theorem Inv.nolimit (I : Inv X pins σ H s) : s.heap.NoLimit := I.ok.mod.nolimit.keeps I.bk
/-- the frame over the base: for OpenK's rules (K.In X.base is I.mod.kin) -/
theorem Inv.fr (I : Inv X pins σ H s) : ∃ m, Fr X.base X.env.locals s.heap m :=
  let ⟨m, hn, _⟩ := I.loc
  ⟨m, hn, I.bk, Nat.le_trans I.ok.bsz I.ok.above⟩
theorem Inv.lt (I : Inv X pins σ H s) : X.env.locals < s.heap.objs.size := let ⟨_, hn, _⟩ := I.loc; hn.lt
theorem Inv.sz (I : Inv X pins σ H s) : X.s₀.heap.objs.size ≤ s.heap.objs.size := Nat.le_trans I.ok.above (Nat.le_of_lt I.lt)
theorem Inv.nofs (I : Inv X pins σ H s) {a : Addr} (h : s.heap.objs.size ≤ a) : a ∉ X.fs := fun hb => by
  obtain ⟨_, o, ho, _⟩ := I.ok.funs.mem hb
  exact absurd (Nat.lt_of_lt_of_le (Heap.lt_size ho) (Nat.le_trans I.sz h)) (Nat.lt_irrefl _)
theorem Inv.cne (I : Inv X pins σ H s) : ∀ x c, X.env.cells.lookup x = some c → c ≠ X.env.locals := fun x c e z => by
  obtain ⟨v, o, ho, hd⟩ := I.cell x c e
  obtain ⟨m, ⟨o', es, ep, ho', hd', _⟩, _⟩ := I.loc
  rw [z, ho'] at ho; cases ho; rw [hd'] at hd; cases hd
theorem Inv.funs (I : Inv X pins σ H s) : s.heap.FunFrames X.base X.outer := by
  have all : ∀ (l : List Env), (∀ b ∈ frs l, b ∈ X.fs) → X.s₀.heap.FunFrames X.base l → s.heap.FunFrames X.base l := by
    intro l
    induction l with
    | nil => intro _ _; trivial
    | cons env r ih =>
      intro hs hl
      obtain ⟨hk, ⟨L, o, hf, hn, ho, hd⟩, hr⟩ := hl
      have hL : L ∈ X.fs := hs L (by unfold frs; rw [List.filterMap_cons, hf]; exact List.mem_cons_self)
      obtain ⟨sl, e⟩ := I.base.slot L o ho (I.ok.frf L hL) hL fun z => I.ok.exfs L z hL
      exact ⟨hk, ⟨L, _, hf, hn, e, hd⟩, ih (fun b hb => hs b (by unfold frs; rw [List.filterMap_cons, hf]; exact List.mem_cons_of_mem _ hb)) hr⟩
  exact all X.outer (fun _ hb => hb) I.ok.funs

/-- the frames that run, for a call -/
theorem Inv.stack (I : Inv X pins σ H s) : s.heap.FunFrames X.base X.stack := by
  rcases I.ok.stk with e | ⟨e, hf⟩
  · rw [e]; exact I.funs
  · rw [e]
    obtain ⟨m, hn, _⟩ := I.loc
    refine .cons (by rw [I.ok.kind]; decide) hf hn ?_ I.funs
    exact Heap.get?_none_of_le (Nat.le_trans I.ok.bsz I.ok.above)
theorem Inv.stkSub (I : Inv X pins σ H s) : ∀ b ∈ frs X.stack, b ∈ X.env.locals :: X.fs := fun b hb => by
  rcases I.ok.stk with e | ⟨e, hf⟩
  · rw [e] at hb; exact List.mem_cons_of_mem _ hb
  · rw [e] at hb
    unfold frs at hb
    rw [List.filterMap_cons, hf] at hb
    exact hb
theorem Inv.stkFree (I : Inv X pins σ H s) : ∀ b ∈ frs X.stack, H b = none := fun b hb => by
  rcases List.mem_cons.mp (I.stkSub b hb) with e | hb
  · rw [e]; exact I.free
  · obtain ⟨_, o, ho, _⟩ := I.ok.funs.mem hb
    exact I.base.free b o ho (I.ok.frf b hb) fun z => I.ok.exfs b z hb

/-- THE STEP: the untracked objects but the frame and the records at ch are kept (the callers' frames up to slots), the frame's map is kept, the new abstract heap is held -/
theorem Inv.step {g' : Array GenState} {t' : Nat} {d' : Drawn} {ch : List Addr} (I : Inv X pins σ H s)
    (hch : ∀ b ∈ ch, (b ∈ X.ex ∨ X.s₀.heap.objs.size ≤ b) ∧ b ≠ X.env.locals ∧ (∀ x c, X.env.cells.lookup x = some c → c ≠ b) ∧ ∀ p ∈ X.pn ++ pins, p.1 ≠ b)
    (keep : ∀ b o, b ≠ X.env.locals → b ∉ X.fs → b ∉ ch → s.heap.get? b = some o → H b = none → h'.get? b = some o)
    (slot : ∀ b o, b ≠ X.env.locals → b ∈ X.fs → b ∉ ch → s.heap.get? b = some o → H b = none → ∃ sl, h'.get? b = some { o with slots := sl }) (free : ∀ b o, b ∉ ch → s.heap.get? b = some o → H b = none → H' b = none)
    (there : ∀ b o, b ∉ ch → s.heap.get? b = some o → ∃ o', h'.get? b = some o')
    (tups : ∀ b xs, H b = some (.tup xs) → H' b = some (.tup xs)) (frzs : ∀ b o u, H b = some (.frz o u) → H' b = some (.frz o u)) (tbls : ∀ b ps, H b = some (.tbl ps) → ∃ more, H' b = some (.tbl (ps ++ more)))
    (ns : ∀ m, s.heap.Ns X.env.locals m → h'.Ns X.env.locals m) (hok : HOk X.prog X.w H' h') (hg : AllBare g') :
    Inv X pins σ H' { s with heap := h', gens := g', drawn := d', toks := t' } := by
  have neL : ∀ b o, X.s₀.heap.get? b = some o → b ≠ X.env.locals := fun b o e => Nat.ne_of_lt (Nat.lt_of_lt_of_le (Heap.lt_size e) I.ok.above)
  have neC : ∀ b o, X.s₀.heap.get? b = some o → b ∉ X.ex → b ∉ ch := fun b o e hx hb => by
    rcases (hch b hb).1 with z | z
    · exact hx z
    · exact absurd (Nat.lt_of_lt_of_le (Heap.lt_size e) z) (Nat.lt_irrefl _)
  have cellK : ∀ x c, X.env.cells.lookup x = some c → ∀ v, s.heap.IsCell c v → h'.IsCell c v := fun x c e v ⟨o, ho, hd⟩ => by
    have nch : c ∉ ch := fun z => (hch c z).2.2.1 x c e rfl
    by_cases hc : c ∈ X.fs
    · obtain ⟨sl, q⟩ := slot c o (I.cne x c e) hc nch ho (I.freeC x c e)
      exact ⟨_, q, hd⟩
    · exact ⟨o, keep c o (I.cne x c e) hc nch ho (I.freeC x c e), hd⟩
  refine ⟨I.ok, I.os, hg, ⟨fun b o e n hb hx => ?_, fun b o e n hb hx => ?_, fun b o e n hx => ?_, fun b o e hx => ?_, fun b xs e => tups b xs (I.base.tups b xs e), fun b o xs e => frzs b o xs (I.base.frzs b o xs e), fun b ps e => ?_⟩, ?_, fun x c e => ?_, ?_, fun x c e => ?_, fun p hp => ?_, hok, I.len⟩
  · exact keep b o (neL b o e) hb (neC b o e hx) (I.base.keep b o e n hb hx) (I.base.free b o e n hx)
  · obtain ⟨sl, e1⟩ := I.base.slot b o e n hb hx
    obtain ⟨sl', e2⟩ := slot b _ (neL b o e) hb (neC b o e hx) e1 (I.base.free b o e n hx)
    exact ⟨sl', e2⟩
  · obtain ⟨o', e1⟩ := I.base.there b o e hx
    exact free b o' (neC b o e hx) e1 (I.base.free b o e n hx)
  · obtain ⟨o', e1⟩ := I.base.there b o e hx
    exact there b o' (neC b o e hx) e1
  · obtain ⟨m1, e1⟩ := I.base.tbls b ps e
    obtain ⟨m2, e2⟩ := tbls b _ e1
    exact ⟨m1 ++ m2, by rw [e2, Array.append_assoc]⟩
  · obtain ⟨m, hn, hl⟩ := I.loc
    refine ⟨m, ns m hn, fun i x v e1 e2 e3 => ?_⟩
    obtain ⟨u, r, l⟩ := hl i x v e1 e2 e3
    refine ⟨u, r, ?_⟩
    rcases l with l | ⟨k, c, e, z⟩
    · exact .inl l
    · exact .inr ⟨k, c, e, cellK x c e _ z⟩
  · obtain ⟨v, z⟩ := I.cell x c e
    exact ⟨v, cellK x c e v z⟩
  · obtain ⟨m, ⟨o, _, _, ho, _⟩, _⟩ := I.loc
    exact free _ o (fun z => (hch _ z).2.1 rfl) ho I.free
  · obtain ⟨v, o, ho, hd⟩ := I.cell x c e
    exact free c o (fun z => (hch c z).2.2.1 x c e rfl) ho (I.freeC x c e)
  · obtain ⟨e, n, ne, nf, d⟩ := I.pin p hp
    have nch : p.1 ∉ ch := fun z => (hch p.1 z).2.2.2 p hp rfl
    exact ⟨keep p.1 p.2 ne nf nch e n, free p.1 p.2 nch e n, ne, nf, d⟩
/-- .. where the frame's own object is kept too -/
theorem Inv.un {t' : Nat} (I : Inv X pins σ H s) (u : Un X.fs [] H H' s.heap h') (hok : HOk X.prog X.w H' h') : Inv X pins σ H' { s with heap := h', toks := t' } := by
  obtain ⟨m, ⟨o, es, ep, ho, r⟩, _⟩ := id I.loc
  obtain ⟨sl, hL⟩ := u.any ho I.free (by simp)
  exact I.step (g' := s.gens) (d' := s.drawn) (ch := []) (fun _ z => nomatch z) (fun b o _ hb _ e n => u.keep b o e n hb (by simp)) (fun b o _ hb _ e n => u.slot b o e n hb (by simp)) (fun b o _ e n => u.free b o e n (by simp)) (fun b o _ e => u.there b o e (by simp)) u.tups u.frzs u.tbls (fun m' hm => by
    obtain ⟨o', es', ep', ho', r'⟩ := hm
    rw [ho] at ho'; cases ho'
    exact ⟨_, es', ep', hL, r'⟩) hok I.bare
/-- behind a call (or a comprehension's block): the slots of this frame may have changed too, the records at ch may have turned -/
theorem Inv.call {g' : Array GenState} {t' : Nat} {d' : Drawn} {ch : List Addr} (I : Inv X pins σ H s) (u : Un (frs X.stack) ch H H' s.heap h') (hok : HOk X.prog X.w H' h') (hg : AllBare g')
    (hch : ∀ b ∈ ch, (b ∈ X.ex ∨ X.s₀.heap.objs.size ≤ b) ∧ b ≠ X.env.locals ∧ (∀ x c, X.env.cells.lookup x = some c → c ≠ b) ∧ ∀ p ∈ X.pn ++ pins, p.1 ≠ b) :
    Inv X pins σ H' { s with heap := h', gens := g', drawn := d', toks := t' } := by
  obtain ⟨m, ⟨o, es, ep, ho, r⟩, _⟩ := id I.loc
  obtain ⟨sl, hL⟩ := u.any ho I.free fun z => (hch _ z).2.1 rfl
  exact I.step (ch := ch) hch (fun b o hL hb hc e n => u.keep b o e n (fun z => (List.mem_cons.mp (I.stkSub b z)).elim hL hb) hc) (fun b o _ _ hc e n => u.any e n hc) (fun b o hc e n => u.free b o e n hc) (fun b o hc e => u.there b o e hc) u.tups u.frzs u.tbls (fun m' hm => by
    obtain ⟨o', es', ep', ho', r'⟩ := hm
    rw [ho] at ho'; cases ho'
    exact ⟨_, es', ep', hL, r'⟩) hok hg
/-- an untracked record of ours (an iterator) has turned -/
theorem Inv.turned {t' : Nat} {it : Addr} (I : Inv X pins σ H s) (k : ∀ b o, b ≠ it → s.heap.get? b = some o → h'.get? b = some o) (hn : H it = none) (hL : it ≠ X.env.locals)
    (h1 : it ∈ X.ex ∨ X.s₀.heap.objs.size ≤ it) (h2 : ∀ x c, X.env.cells.lookup x = some c → c ≠ it) (h3 : ∀ p ∈ X.pn ++ pins, p.1 ≠ it) : Inv X pins σ H { s with heap := h', toks := t' } := by
  have nit : ∀ b u, H b = some u → b ≠ it := fun b u e z => by rw [z, hn] at e; cases e
  refine I.step (g' := s.gens) (d' := s.drawn) (ch := [it]) (fun b hb => ?_) (fun b o _ _ hc e _ => k b o (fun z => hc (by simp [z])) e) (fun b o _ _ hc e _ => ⟨o.slots, k b o (fun z => hc (by simp [z])) e⟩) (fun _ _ _ _ n => n)
    (fun b o hc e => ⟨o, k b o (fun z => hc (by simp [z])) e⟩) (fun _ _ e => e) (fun _ _ _ e => e) (fun b ps e => ⟨#[], by rw [e]; simp⟩) (fun m hm => ?_) (fun b u e => ?_) I.bare
  · have e : b = it := by simpa using hb
    subst e
    exact ⟨h1, hL, h2, h3⟩
  · obtain ⟨o, es, ep, ho, r⟩ := hm
    exact ⟨o, es, ep, k _ o (Ne.symm hL) ho, r⟩
  · refine (I.hok b u e).stay (fun c v hc q => k c v ?_ q) (fun _ q => q) fun _ _ q => q
    rcases hc with z | z
    · rw [z]; exact nit b u e
    · exact nit c _ z
theorem Inv.tok (I : Inv X pins σ H s) (t : Nat) : Inv X pins σ H { s with toks := t } := I.un (h' := s.heap) (t' := t) Un.refl I.hok
/-- all objects kept -/
theorem Inv.kept {t' : Nat} (I : Inv X pins σ H s) (k : ∀ b u, s.heap.get? b = some u → h'.get? b = some u) : Inv X pins σ H { s with heap := h', toks := t' } := I.un (Un.kept k) (I.hok.kept k)
/-- a new object laid and tracked -/
theorem Inv.laid {a : Addr} {o : HO} {t' : Nat} (I : Inv X pins σ H s) (k : ∀ b u, s.heap.get? b = some u → h'.get? b = some u) (hp : s.heap.objs.size ≤ a) (new : ObjOk X.prog X.w (upd H a o) h' a o) :
    Inv X pins σ (upd H a o) { s with heap := h', toks := t' } := I.un (Un.laid k hp (I.hok.fresh hp)) (I.hok.laid k hp new)
/-- an object written -/
theorem Inv.write {x e : Addr} {o : HO} {t' : Nat} (I : Inv X pins σ H s) (mu : Mut (H x)) (he : e = x ∨ H e = some (.own x)) (k : ∀ b u, b ≠ e → s.heap.get? b = some u → h'.get? b = some u) (heo : ∃ u, h'.get? e = some u)
    (new : ObjOk X.prog X.w (upd H x o) h' x o) : Inv X pins σ (upd H x o) { s with heap := h', toks := t' } := I.un (Un.write mu he k heo) (I.hok.write mu he k heo new)
theorem Inv.pins_of {pins' : List (Addr × Obj)} (I : Inv X pins σ H s) (h : ∀ p ∈ pins', s.heap.get? p.1 = some p.2 ∧ H p.1 = none ∧ p.1 ≠ X.env.locals ∧ p.1 ∉ X.fs ∧ ∀ v, p.2.data ≠ .cell v) : Inv X pins' σ H s :=
  ⟨I.ok, I.os, I.bare, I.base, I.loc, I.cell, I.free, I.freeC, fun p hp => (List.mem_append.mp hp).elim (fun z => I.pin p (List.mem_append_left _ z)) (h p), I.hok, I.len⟩

theorem nodup_ix {N : List Str} (hN : N.Nodup) {i j : Nat} {x : Str} (a : N[i]? = some x) (b : N[j]? = some x) : i = j := by
  obtain ⟨h1, e1⟩ := List.getElem?_eq_some_iff.mp a
  obtain ⟨h2, e2⟩ := List.getElem?_eq_some_iff.mp b
  exact (List.getElem_inj hN).mp (e1.trans e2.symm)

/-- a name is stored; what changed -/
theorem store_ok2 {M : Model} {A : Around} {E : Value → Shared → Prop} {i : Nat} {x : Str} {v : V} {u : Value} {Q : Unit → Shared → Prop} (I : Inv X pins σ H s) (hN : X.N.Nodup) (hi : X.N[i]? = some x) (hx : Loc X.env.scope x) (r : RelV v u)
    (h : ∀ s', Inv X pins (σ.set i (some v)) H s' → (∃ a, Heap.SameBut a s.heap s'.heap ∧ (a = X.env.locals ∨ X.env.cells.lookup x = some a)) → Q () s') (hf : X.fn x = true ∨ X.env.scope.names.lookup x = some .local := by first | exact .inl rfl | exact .inr rfl | assumption) : wpAny M A (storeName X.env x u) Q E s := by
  obtain ⟨m, hn, hl⟩ := id I.loc
  have hcls : (X.env.scope.kind == .class || (X.env.scope.kind == .module && X.env.locals != X.env.globals)) = false := by rw [I.ok.kind]; rfl
  have hiσ : i < σ.length := by rw [I.len]; exact (List.getElem?_eq_some_iff.mp hi).1
  have cne := I.cne
  have tracked : ∀ {a : Addr} {h' : Heap}, (∃ o, s.heap.get? a = some o ∧ H a = none) → Heap.SameBut a s.heap h' → HOk X.prog X.w H h' := fun {a h'} ha hs b ob e => by
    obtain ⟨_, _, hfree⟩ := ha
    refine (I.hok b ob e).stay (fun c w' hc q => (hs.2 c ?_).trans q) (fun _ q => q) fun _ _ q => q
    rintro rfl
    rcases hc with rfl | hc
    · rw [hfree] at e; cases e
    · rw [hfree] at hc; cases hc
  rcases hx with hk | hk
  · refine wpAny_storeName_local hk hn (fun h' hn' hs => ?_) hcls
    obtain ⟨oL, _, _, hoL, _⟩ := id hn
    refine h _ ⟨I.ok, I.os, I.bare, ⟨fun b o e n hb hx => ?_, fun b o e n hb hx => ?_, I.base.free, fun b o e hx => ?_, I.base.tups, I.base.frzs, I.base.tbls⟩, ⟨_, hn', fun j y v' e1 e2 e3 => ?_⟩, fun y c e => ?_, I.free, I.freeC, fun p hp => ?_, tracked ⟨oL, hoL, I.free⟩ hs, by simpa using I.len⟩ ⟨_, hs, .inl rfl⟩
    · exact (hs.2 b (Nat.ne_of_lt (Nat.lt_of_lt_of_le (Heap.lt_size e) I.ok.above))).trans (I.base.keep b o e n hb hx)
    · obtain ⟨sl, e1⟩ := I.base.slot b o e n hb hx
      exact ⟨sl, (hs.2 b (Nat.ne_of_lt (Nat.lt_of_lt_of_le (Heap.lt_size e) I.ok.above))).trans e1⟩
    · obtain ⟨o', e1⟩ := I.base.there b o e hx
      exact ⟨o', (hs.2 b (Nat.ne_of_lt (Nat.lt_of_lt_of_le (Heap.lt_size e) I.ok.above))).trans e1⟩
    · by_cases hj : j = i
      · subst hj
        rw [hi] at e1; cases e1
        rw [List.getElem?_set_self hiσ] at e2
        cases e2
        exact ⟨u, r, .inl ⟨hk, by simp⟩⟩
      · rw [List.getElem?_set_ne (Ne.symm hj)] at e2
        obtain ⟨u', r', q⟩ := hl j y v' e1 e2 e3
        refine ⟨u', r', ?_⟩
        rcases q with ⟨k, e⟩ | ⟨k, c, e, z⟩
        · refine .inl ⟨k, ?_⟩
          have : y ≠ x := fun e => hj (nodup_ix hN e1 (e ▸ hi))
          simp [this, e]
        · exact .inr ⟨k, c, e, z.sameBut hs (cne y c e)⟩
    · obtain ⟨w', z⟩ := I.cell y c e
      exact ⟨w', z.sameBut hs (cne y c e)⟩
    · obtain ⟨e, n, ne, nf, d⟩ := I.pin p hp
      exact ⟨(hs.2 p.1 ne).trans e, n, ne, nf, d⟩
  · have hfn : X.fn x = true := by
      rcases hf with z | z
      · exact z
      · rw [z] at hk; cases hk
    obtain ⟨c, hc⟩ := I.ok.has x (.inl hk)
    obtain ⟨w', z⟩ := I.cell x c hc
    refine wpAny_storeName_cell I.ok.kind hk hc z (fun h' hc' hs => ?_)
    obtain ⟨oc, hoc, hocd⟩ := id z
    refine h { s with heap := h' } ⟨I.ok, I.os, I.bare, ⟨fun b o e n hb hx => ?_, fun b o e n hb hx => ?_, I.base.free, fun b o e hx => ?_, I.base.tups, I.base.frzs, I.base.tbls⟩, ⟨m, hn.sameBut hs (Ne.symm (cne x c hc)), fun j y v' e1 e2 e3 => ?_⟩, fun y c' e => ?_, I.free, I.freeC, fun p hp => ?_, tracked ⟨oc, hoc, I.freeC x c hc⟩ hs, by simpa using I.len⟩ ⟨c, hs, .inr hc⟩
    · exact (hs.2 b (Nat.ne_of_lt (Nat.lt_of_lt_of_le (Heap.lt_size e) (I.ok.cab x c hfn hc)))).trans (I.base.keep b o e n hb hx)
    · obtain ⟨sl, e1⟩ := I.base.slot b o e n hb hx
      exact ⟨sl, (hs.2 b (Nat.ne_of_lt (Nat.lt_of_lt_of_le (Heap.lt_size e) (I.ok.cab x c hfn hc)))).trans e1⟩
    · obtain ⟨o', e1⟩ := I.base.there b o e hx
      exact ⟨o', (hs.2 b (Nat.ne_of_lt (Nat.lt_of_lt_of_le (Heap.lt_size e) (I.ok.cab x c hfn hc)))).trans e1⟩
    · by_cases hj : j = i
      · subst hj
        rw [hi] at e1; cases e1
        rw [List.getElem?_set_self hiσ] at e2
        cases e2
        exact ⟨u, r, .inr ⟨.inl hk, c, hc, hc'⟩⟩
      · rw [List.getElem?_set_ne (Ne.symm hj)] at e2
        obtain ⟨u', r', q⟩ := hl j y v' e1 e2 e3
        refine ⟨u', r', ?_⟩
        rcases q with q | ⟨k, c', e, z'⟩
        · exact .inl q
        · refine .inr ⟨k, c', e, z'.sameBut hs ?_⟩
          rintro rfl
          exact hj (nodup_ix hN e1 (I.ok.inj _ _ _ e hc ▸ hi))
    · by_cases hcc : c' = c
      · subst hcc; exact ⟨_, hc'⟩
      · obtain ⟨w2, z2⟩ := I.cell y c' e
        exact ⟨w2, z2.sameBut hs hcc⟩
    · obtain ⟨e, n, ne, nf, d⟩ := I.pin p hp
      refine ⟨(hs.2 p.1 ?_).trans e, n, ne, nf, d⟩
      intro q
      rw [q, hoc] at e
      have q' : oc = p.2 := Option.some.inj e
      exact d w' (by rw [← q']; exact hocd)
theorem store_ok {M : Model} {A : Around} {E : Value → Shared → Prop} {i : Nat} {x : Str} {v : V} {u : Value} {Q : Unit → Shared → Prop} (I : Inv X pins σ H s) (hN : X.N.Nodup) (hi : X.N[i]? = some x) (hx : Loc X.env.scope x) (r : RelV v u)
    (h : ∀ s', Inv X pins (σ.set i (some v)) H s' → Q () s') (hf : X.fn x = true ∨ X.env.scope.names.lookup x = some .local := by first | exact .inl rfl | exact .inr rfl | assumption) : wpAny M A (storeName X.env x u) Q E s :=
  store_ok2 I hN hi hx r (fun s' I' _ => h s' I') hf
/-- behind a call or a block, the state as it is -/
theorem Inv.call' {s' : Shared} {ch : List Addr} (I : Inv X pins σ H s) (ho : s'.os = s.os) (u : Un (frs X.stack) ch H H' s.heap s'.heap) (hok : HOk X.prog X.w H' s'.heap) (hg : AllBare s'.gens)
    (hch : ∀ b ∈ ch, (b ∈ X.ex ∨ X.s₀.heap.objs.size ≤ b) ∧ b ≠ X.env.locals ∧ (∀ x c, X.env.cells.lookup x = some c → c ≠ b) ∧ ∀ p ∈ X.pn ++ pins, p.1 ≠ b) : Inv X pins σ H' s' := by
  obtain ⟨h', g', d', t', o'⟩ := s'
  have e : o' = s.os := ho
  subst e
  exact I.call (g' := g') (t' := t') (d' := d') u hok hg hch
end

/-! ### the judgements -/
/-- an exception: its class, its own dict's address (where it has one), the abstract heap behind it -/
abbrev XK := Value → Option Addr → Hp → Prop
abbrev St := List (Option V)
abbrev VK := V → Hp → Prop
/-- an expression's reading; a test's; an argument list's -/
abbrev TE := St → Hp → VK → Prop
abbrev TT := St → Hp → (Bool → Hp → Prop) → Prop
abbrev TA := St → Hp → (List V → Hp → Prop) → Prop
/-- what is wanted behind a statement -/
structure Ends where
  nx : St → Hp → Prop
  rt : VK
  bk : St → Hp → Prop := fun _ _ => False
  ct : St → Hp → Prop := fun _ _ => False
abbrev TS := Ends → St → Hp → Prop

def EP (X : Cx) (pins : List (Addr × Obj)) (σ : St) (Q : VK) (u : Value) (s' : Shared) : Prop := ∃ v H', Inv X pins σ H' s' ∧ RelV v u ∧ Q v H'
def TP (X : Cx) (pins : List (Addr × Obj)) (σ : St) (Q : Bool → Hp → Prop) (b : Bool) (s' : Shared) : Prop := ∃ H', Inv X pins σ H' s' ∧ Q b H'
def AP (X : Cx) (pins : List (Addr × Obj)) (σ : St) (Q : List V → Hp → Prop) (us : List Value) (s' : Shared) : Prop := ∃ vs H', Inv X pins σ H' s' ∧ Vals vs us ∧ Q vs H'
def SP (X : Cx) (pins : List (Addr × Obj)) (D : Ends) (f : Flow) (s' : Shared) : Prop :=
  match f with
  | .next => ∃ σ' H', Inv X pins σ' H' s' ∧ D.nx σ' H'
  | .brk => ∃ σ' H', Inv X pins σ' H' s' ∧ D.bk σ' H'
  | .cont => ∃ σ' H', Inv X pins σ' H' s' ∧ D.ct σ' H'
  | .ret u => ∃ v σ' H', Inv X pins σ' H' s' ∧ RelV v u ∧ D.rt v H'

def PE (X : Cx) (e : Expr) (t : TE) : Prop :=
  ∀ (pins : List (Addr × Obj)) (s : Shared) (σ : St) (H : Hp) (Q : VK), Inv X pins σ H s → t σ H Q → wpAny (model X.prog X.w) X.A (eval e X.env) (EP X pins σ Q) X.xe s
def PT (X : Cx) (e : Expr) (t : TT) : Prop :=
  ∀ (pins : List (Addr × Obj)) (s : Shared) (σ : St) (H : Hp) (Q : Bool → Hp → Prop), Inv X pins σ H s → t σ H Q → wpAny (model X.prog X.w) X.A (isTrue e X.env (eval e X.env)) (TP X pins σ Q) X.xe s
/-- a test whatever its 'whole' is (and, or) -/
def PW (X : Cx) (e : Expr) (t : TT) : Prop :=
  ∀ (whole : Sem Value) (pins : List (Addr × Obj)) (s : Shared) (σ : St) (H : Hp) (Q : Bool → Hp → Prop), Inv X pins σ H s → t σ H Q → wpAny (model X.prog X.w) X.A (isTrue e X.env whole) (TP X pins σ Q) X.xe s
theorem PW.pt {X : Cx} {e : Expr} {t : TT} (h : PW X e t) : PT X e t := h _
/-- an argument list (no star), from the left -/
def PA (X : Cx) (es : List Expr) (t : TA) : Prop :=
  ∀ (pos : Pos) (pins : List (Addr × Obj)) (s : Shared) (σ : St) (H : Hp) (Q : List V → Hp → Prop), Inv X pins σ H s → t σ H Q → wpAny (model X.prog X.w) X.A (spliced (backTo pos (starEach es X.env))) (AP X pins σ Q) X.xe s
def PS (X : Cx) (st : Stmt) (t : TS) : Prop :=
  ∀ (pins : List (Addr × Obj)) (s : Shared) (σ : St) (H : Hp) (D : Ends), Inv X pins σ H s → t D σ H → wpAny (model X.prog X.w) X.A (exec st X.env) (SP X pins D) X.xe s
def PSs (X : Cx) (st : List Stmt) (t : TS) : Prop :=
  ∀ (pins : List (Addr × Obj)) (s : Shared) (σ : St) (H : Hp) (D : Ends), Inv X pins σ H s → t D σ H → wpAny (model X.prog X.w) X.A (execs st X.env) (SP X pins D) X.xe s
/-- weaken the end -/
theorem thn {α : Type} {t : Sem α} {Q Q' : α → Shared → Prop} {M : Model} {A : Around} {E : Value → Shared → Prop} {s : Shared} (h : wpAny M A t Q E s) (hQ : ∀ a s, Q a s → Q' a s) : wpAny M A t Q' E s := wpAny_mono h hQ fun _ _ x => x
end L2

namespace L2
open PySem PySem.Spec PyProof.Rows
section
variable {X : Cx}

/-! ### names and constants -/
def tVar (i : Nat) : TE := fun σ H Q => ∃ v, σ[i]? = some (some v) ∧ Q v H
def tC (v : V) : TE := fun _ H Q => Q v H
theorem pe_var {i : Nat} {x : Str} {pos : Pos} (hN : X.N[i]? = some x) (hv : Vis X.env.scope x) (hd : (x == ("__debug__" : Str)) = false := by decide) (hcd : (x == ("__classdict__" : Str)) = false := by decide) : PE X (.Name x pos) (tVar i) := by
  intro pins s σ H Q I h
  obtain ⟨v, e, h⟩ := h
  obtain ⟨m, hn, hl⟩ := I.loc
  obtain ⟨u, r, l⟩ := hl i x v hN e hv
  have fin : EP X pins σ Q u s := ⟨v, H, I, r, h⟩
  rcases l with ⟨hk, hm⟩ | ⟨hk, c, hc, hcell⟩
  · exact wpAny_Name (wpAny_loadName_local I.ok.kind hk hn hm fin) hd
  · rcases hk with hk | hk
    · exact wpAny_Name (wpAny_loadName_cell I.ok.kind hk hc hcell fin) hd
    · exact wpAny_Name (wpAny_loadName_free I.ok.kind hk hc hcell fin hcd) hd
theorem pe_int {i j pos} : PE X (.Constant (.int i) j pos) (tC (.int i)) := fun _ _ _ H _ I h => wpAny_Constant_int ⟨.int i, H, I.tok _, ⟨_, rfl⟩, h⟩
theorem pe_bl {b j pos} : PE X (.Constant (.bool b) j pos) (tC (.bl b)) := fun _ _ _ H _ I h => Constant_bool ⟨.bl b, H, I, rfl, h⟩
theorem pe_non {j pos} : PE X (.Constant .none j pos) (tC .non) := fun _ _ _ H _ I h => Constant_none ⟨.non, H, I, rfl, h⟩
/-- a global name of the def -/
def Gl (X : Cx) (x : Str) : Prop := X.env.kindOf x = some .globalImplicit
theorem ld_glob {E : Value → Shared → Prop} {pins : List (Addr × Obj)} {s : Shared} {σ : St} {H : Hp} {x : Str} {u : Value} {pos : Pos} {Q : Value → Shared → Prop} (I : Inv X pins σ H s) (hg : Gl X x) (hm : X.mg x = some u) (h : Q u s)
    (hd : (x == ("__debug__" : Str)) = false := by decide) : wpAny (model X.prog X.w) X.A (eval (.Name x pos) X.env) Q E s :=
  Calls.Name_function_global I.ok.kind hg (Calls.loadGlobal_global (by rw [I.ok.glob]; exact I.mod.glob.keeps I.bk) hm h) hd
theorem ld_blt {E : Value → Shared → Prop} {pins : List (Addr × Obj)} {s : Shared} {σ : St} {H : Hp} {x : Str} {u : Value} {pos : Pos} {Q : Value → Shared → Prop} (I : Inv X pins σ H s) (hg : Gl X x) (hm : X.mg x = none) (hv : bootBuiltins x = some u) (h : Q u s)
    (hn : x ≠ "__name__" := by decide) (hd : (x == ("__debug__" : Str)) = false := by decide) : wpAny (model X.prog X.w) X.A (eval (.Name x pos) X.env) Q E s := by
  obtain ⟨mb, h1, h2⟩ := I.mod.blt
  exact Calls.Name_function_global I.ok.kind hg (Calls.loadGlobal_builtin (by rw [I.ok.glob]; exact I.mod.glob.keeps I.bk) hm (by rw [I.ok.blt]; exact h1.keeps I.bk) ((h2 x hn).trans hv) h) hd
theorem pe_bltn {x : Str} {v : V} {u : Value} {pos : Pos} (hg : Gl X x) (hm : X.mg x = none) (hv : bootBuiltins x = some u) (r : RelV v u) (hn : x ≠ "__name__" := by decide) (hd : (x == ("__debug__" : Str)) = false := by decide) : PE X (.Name x pos) (tC v) :=
  fun _ _ _ H _ I h => ld_blt I hg hm hv ⟨v, H, I, r, h⟩ hn hd

/-! ### arithmetic -/
/-- two ints -/
def t2I (ta tb : TE) (k : Int → Int → Hp → Prop) : St → Hp → Prop := fun σ H => ta σ H fun x H1 => tb σ H1 fun y H2 => ∃ i j, x = .int i ∧ y = .int j ∧ k i j H2
def tAdd (ta tb : TE) : TE := fun σ H Q => t2I ta tb (fun i j H2 => Q (.int (i + j)) H2) σ H
def tSub (ta tb : TE) : TE := fun σ H Q => t2I ta tb (fun i j H2 => Q (.int (i - j)) H2) σ H
/-- the left factor below 2^64 -/
def tMul (ta tb : TE) : TE := fun σ H Q => t2I ta tb (fun i j H2 => (-(2 ^ 64) < i ∧ i < 2 ^ 64) ∧ Q (.int (i * j)) H2) σ H
variable {a b : Expr} {ta tb : TE} {pos : Pos}
/-! ### comparisons -/
def PC (X : Cx) (op : CmpOp) (a b : Expr) (t : TE) : Prop :=
  ∀ (pins : List (Addr × Obj)) (s : Shared) (σ : St) (H : Hp) (Q : VK), Inv X pins σ H s → t σ H Q →
    wpAny (model X.prog X.w) X.A (eval a X.env) (fun v s₁ => wpAny (model X.prog X.w) X.A (eval b X.env) (fun u s₂ => wpAny (model X.prog X.w) X.A (compareOp op v u) (EP X pins σ Q) X.xe s₂) X.xe s₁) X.xe s
theorem nobehind (b : Expr) {op : CmpOp} (h : op ≠ .In) (h2 : op ≠ .NotIn) : behindInMarks op b = false := by
  have e1 : (op == CmpOp.In) = false := by cases op <;> first | rfl | exact absurd rfl h
  have e2 : (op == CmpOp.NotIn) = false := by cases op <;> first | rfl | exact absurd rfl h2
  cases b <;> simp [behindInMarks, e1, e2]
def tCmp (p : Int → Int → Bool) (ta tb : TE) : TE := fun σ H Q => t2I ta tb (fun i j H2 => Q (.bl (p i j)) H2) σ H
abbrev tLt : TE → TE → TE := tCmp fun i j => decide (i < j)
abbrev tLe : TE → TE → TE := tCmp fun i j => decide (i ≤ j)
abbrev tGt : TE → TE → TE := tCmp fun i j => decide (j < i)
abbrev tGe : TE → TE → TE := tCmp fun i j => decide (j ≤ i)
abbrev tEqI : TE → TE → TE := tCmp fun i j => decide (i = j)
abbrev tNeI : TE → TE → TE := tCmp fun i j => !decide (i = j)
/-- is None -/
def tIsN (ta : TE) : TE := fun σ H Q => ta σ H fun x H1 => Q (.bl (decide (x = .non))) H1
def tNotN (ta : TE) : TE := fun σ H Q => ta σ H fun x H1 => Q (.bl (!decide (x = .non))) H1
/-- a comparison as a value, as a test -/
def tB (t : TE) : TT := fun σ H Q => t σ H fun x H1 => ∃ c, x = .bl c ∧ Q c H1
theorem pt_cmp {op : CmpOp} {t : TE} (h : PC X op a b t) (h1 : behindInMarks op b = false := by first | exact nobehind _ (by decide) (by decide) | rfl) : PT X (.Compare a [op] [b] pos) (tB t) := by
  intro pins s σ H Q I hw
  refine wpAny_isTrue_Compare1 (thn (h pins s σ H _ I hw) fun v s1 h1 => thn h1 fun u s2 h2 => thn h2 fun c s3 ⟨x, H1, I1, r1, q1⟩ => ?_) h1
  obtain ⟨d, rfl, q⟩ := q1
  cases r1
  exact wpAny_truthy_bool ⟨H1, I1, q⟩
/-- an expression whose value is a bool, as a test -/
theorem pt_val {e : Expr} {t : TE} (h : PE X e t) (he : ∀ whole, isTrue e X.env whole = (do let v ← whole; standAt e.pos; holding [v] (truthy v)) := by intro _; rfl) : PT X e (tB t) := by
  intro pins s σ H Q I hw
  refine isTrue_plain (thn (h pins s σ H _ I hw) fun v s1 ⟨x, H1, I1, r1, q1⟩ => ?_) (he _)
  obtain ⟨d, rfl, q⟩ := q1
  cases r1
  exact wpAny_truthy_bool ⟨H1, I1, q⟩

/-! ### and, or, not -/
variable {tA tB' : TT} {rest : List Expr}
def tAnd (t u : TT) : TT := fun σ H Q => t σ H fun c H1 => if c = true then u σ H1 Q else Q false H1
def tOr (t u : TT) : TT := fun σ H Q => t σ H fun c H1 => if c = true then Q true H1 else u σ H1 Q
def tNot (t : TT) : TT := fun σ H Q => t σ H fun c H1 => Q (!c) H1
theorem pw_and1 (ha : PT X a tA) : PW X (.BoolOp .And [a] pos) tA := by
  intro wh pins s σ H Q I h
  refine isTrue_and (thn (ha pins s σ H Q I h) fun c s1 e => ?_)
  cases c with
  | true => exact isTrue_and_nil e
  | false => exact e
theorem pw_or1 (ha : PT X a tA) : PW X (.BoolOp .Or [a] pos) tA := by
  intro wh pins s σ H Q I h
  refine isTrue_or (thn (ha pins s σ H Q I h) fun c s1 e => ?_)
  cases c with
  | false => exact isTrue_or_nil e
  | true => exact e
theorem pw_and (ha : PT X a tA) (hb : PW X (.BoolOp .And (b :: rest) pos) tB') : PW X (.BoolOp .And (a :: b :: rest) pos) (tAnd tA tB') := by
  intro wh pins s σ H Q I h
  refine isTrue_and (thn (ha pins s σ H _ I h) fun c s1 ⟨H1, I1, q1⟩ => ?_)
  cases c with
  | true => exact hb wh pins s1 σ H1 Q I1 q1
  | false => exact ⟨H1, I1, q1⟩
theorem pw_or (ha : PT X a tA) (hb : PW X (.BoolOp .Or (b :: rest) pos) tB') : PW X (.BoolOp .Or (a :: b :: rest) pos) (tOr tA tB') := by
  intro wh pins s σ H Q I h
  refine isTrue_or (thn (ha pins s σ H _ I h) fun c s1 ⟨H1, I1, q1⟩ => ?_)
  cases c with
  | true => exact ⟨H1, I1, q1⟩
  | false => exact hb wh pins s1 σ H1 Q I1 q1
theorem pt_not (ha : PT X a tA) : PT X (.UnaryOp .Not a pos) (tNot tA) := by
  intro pins s σ H Q I h
  exact isTrue_not (ha pins s σ H (fun c H1 => Q (!c) H1) I h)
/-- .. as values (bools) -/
def tAndV (ta tb : TE) : TE := fun σ H Q => ta σ H fun x H1 => ∃ c, x = .bl c ∧ if c = true then tb σ H1 Q else Q (.bl false) H1
def tOrV (ta tb : TE) : TE := fun σ H Q => ta σ H fun x H1 => ∃ c, x = .bl c ∧ if c = true then Q (.bl true) H1 else tb σ H1 Q
def tNotV (ta : TE) : TE := fun σ H Q => ta σ H fun x H1 => ∃ c, x = .bl c ∧ Q (.bl (!c)) H1
theorem pe_one {op} {t : TE} (h : PE X a t) : PE X (.BoolOp op [a] pos) t := fun pins s σ H Q I hw => BoolOp_one (h pins s σ H Q I hw)
theorem pe_and (ha : PE X a ta) (hb : PE X (.BoolOp .And (b :: rest) pos) tb) : PE X (.BoolOp .And (a :: b :: rest) pos) (tAndV ta tb) := by
  intro pins s σ H Q I h
  refine BoolOp_and (thn (ha pins s σ H _ I h) fun v s1 ⟨x, H1, I1, r1, q1⟩ => ?_)
  obtain ⟨c, rfl, q1⟩ := q1
  cases r1
  refine wpAny_truthy_bool ?_
  cases c with
  | true => exact hb pins s1 σ H1 Q I1 q1
  | false => exact ⟨.bl false, H1, I1, rfl, q1⟩
/-- a if t else b -/
def tIf (t : TT) (ta tb : TE) : TE := fun σ H Q => t σ H fun c H1 => if c = true then ta σ H1 Q else tb σ H1 Q
end
end L2

namespace L2
open PySem PySem.Spec PyProof.Rows

/-! ### a list, a tuple that is read: tracked, frozen, or an object of the module -/
def SqL (K : PySem.W.Frag) (H : Hp) (a : Addr) (xs : List V) : Prop :=
  Rd H a (.lst xs) ∨
    ∃ (o : Obj) (its : Array Value) (n : Nat), K.lookup a = some o ∧ o.cls = .type "list" ∧ o.dict = none ∧ o.data = .seq its n ∧ its.size ≤ sizeLine ∧ Vals xs its.toList
def SqT (K : PySem.W.Frag) (H : Hp) (a : Addr) (xs : List V) : Prop :=
  Rd H a (.tup xs) ∨
    ∃ (o : Obj) (its : Array Value) (n : Nat), K.lookup a = some o ∧ o.cls = .type "tuple" ∧ o.data = .seq its n ∧ its.size ≤ sizeLine ∧ Vals xs its.toList
def absV : Value → Option V
  | .none => some .non
  | .bool b => some (.bl b)
  | .int i _ => some (.int i)
  | .str x _ => some (.str x)
  | .bytes b _ => some (.byt b)
  | .float b _ => some (.flt b)
  | .ref a => some (.ref a)
  | .type n => some (.ty n)
  | _ => none
theorem RelV.abs {x : V} {u : Value} (r : RelV x u) : absV u = some x := by
  cases x with
  | non => cases r; rfl
  | bl _ => cases r; rfl
  | int _ => obtain ⟨t, rfl⟩ := r; rfl
  | str _ => obtain ⟨t, rfl⟩ := r; rfl
  | byt _ => obtain ⟨t, rfl⟩ := r; rfl
  | flt _ => obtain ⟨t, rfl⟩ := r; rfl
  | ref _ => cases r; rfl
  | ty _ => cases r; rfl
theorem RelV.inj {x y : V} {u : Value} (r : RelV x u) (q : RelV y u) : x = y := Option.some.inj (r.abs.symm.trans q.abs)
theorem Vals.inj : ∀ {xs ys : List V} {us : List Value}, Vals xs us → Vals ys us → xs = ys
  | _, _, _, .nil, .nil => rfl
  | _, _, _, .cons r t, .cons r' t' => by rw [r.inj r', Vals.inj t t']
section
variable {X : Cx} {pins : List (Addr × Obj)} {σ : St} {H : Hp} {s : Shared} {a : Addr} {xs ys : List V}
theorem SqL.of {K : PySem.W.Frag} (h : H a = some (.lst xs)) : SqL K H a xs := .inl (.inl h)
theorem SqT.of {K : PySem.W.Frag} (h : H a = some (.tup xs)) : SqT K H a xs := .inl (.inl h)
theorem Inv.list (I : Inv X pins σ H s) (h : SqL X.K H a xs) : ∃ its : List Value, Vals xs its ∧ PlainL s.heap a its.toArray ∧ xs.length ≤ sizeLine := by
  rcases h with h | ⟨o, its, n, hk, hc, hd, hs, hz, r⟩
  · obtain ⟨z, its, n, r, e⟩ := h.ok I.hok
    exact ⟨its, r, ⟨_, n, e, rfl, rfl, rfl⟩, z⟩
  · refine ⟨its.toList, r, ⟨o, n, I.kIn a o hk, hc, hd, by simpa using hs⟩, ?_⟩
    have e := r.length
    simp only [Array.length_toList] at e
    omega
theorem Inv.tuple (I : Inv X pins σ H s) (h : SqT X.K H a xs) : ∃ its : List Value, Vals xs its ∧ IsTup s.heap a its.toArray ∧ xs.length ≤ sizeLine := by
  rcases h with h | ⟨o, its, n, hk, hc, hs, hz, r⟩
  · obtain ⟨z, its, r, p⟩ := h.ok I.hok
    exact ⟨its, r, p, z⟩
  · refine ⟨its.toList, r, ⟨o, I.kIn a o hk, hc, n, by simpa using hs⟩, ?_⟩
    have e := r.length
    simp only [Array.length_toList] at e
    omega
theorem Inv.list_inj (I : Inv X pins σ H s) (h : SqL X.K H a xs) (h' : SqL X.K H a ys) : xs = ys := by
  obtain ⟨its, r, ⟨o, n, e, _, _, d⟩, _⟩ := I.list h
  obtain ⟨its', r', ⟨o', n', e', _, _, d'⟩, _⟩ := I.list h'
  rw [e] at e'; cases e'
  rw [d] at d'
  injection d' with d1 _
  have : its = its' := by simpa using congrArg Array.toList d1
  subst this
  exact r.inj r'
theorem Inv.tuple_inj (I : Inv X pins σ H s) (h : SqT X.K H a xs) (h' : SqT X.K H a ys) : xs = ys := by
  obtain ⟨its, r, ⟨o, e, _, n, d⟩, _⟩ := I.tuple h
  obtain ⟨its', r', ⟨o', e', _, n', d'⟩, _⟩ := I.tuple h'
  rw [e] at e'; cases e'
  rw [d] at d'
  injection d' with d1 _
  have : its = its' := by simpa using congrArg Array.toList d1
  subst this
  exact r.inj r'
end

/-! ### another wish about exceptions -/
abbrev Cx.wish (X : Cx) (E : Value → Shared → Prop) : Cx := { X with xe := E }
/-- no exception leaves -/
abbrev Cx.nox (X : Cx) : Cx := X.wish fun _ _ => False
theorem Cx.Ok.wish {X : Cx} (ok : X.Ok) (E : Value → Shared → Prop) : (X.wish E).Ok :=
  ⟨ok.mod, ok.kind, ok.glob, ok.blt, ok.above, ok.inj, ok.has, ok.cab, ok.hd, ok.frames, ok.stk, ok.exf, ok.bs, ok.bsz, ok.noex, ok.exfs, ok.funs, ok.frf⟩
theorem Cx.Ok.unwish {X : Cx} {E : Value → Shared → Prop} (ok : (X.wish E).Ok) : X.Ok :=
  ⟨ok.mod, ok.kind, ok.glob, ok.blt, ok.above, ok.inj, ok.has, ok.cab, ok.hd, ok.frames, ok.stk, ok.exf, ok.bs, ok.bsz, ok.noex, ok.exfs, ok.funs, ok.frf⟩
section
variable {X : Cx} {pins : List (Addr × Obj)} {σ : St} {H : Hp} {s : Shared} {E : Value → Shared → Prop}
theorem Inv.wish (I : Inv X pins σ H s) (E : Value → Shared → Prop) : Inv (X.wish E) pins σ H s := ⟨I.ok.wish E, I.os, I.bare, I.base, I.loc, I.cell, I.free, I.freeC, I.pin, I.hok, I.len⟩
theorem Inv.unwish (I : Inv (X.wish E) pins σ H s) : Inv X pins σ H s := ⟨I.ok.unwish, I.os, I.bare, I.base, I.loc, I.cell, I.free, I.freeC, I.pin, I.hok, I.len⟩
theorem SP.unwish {D : Ends} {f : Flow} {s' : Shared} (h : SP (X.wish E) pins D f s') : SP X pins D f s' := by
  cases f with
  | next => obtain ⟨σ', H', I, q⟩ := h; exact ⟨σ', H', I.unwish, q⟩
  | brk => obtain ⟨σ', H', I, q⟩ := h; exact ⟨σ', H', I.unwish, q⟩
  | cont => obtain ⟨σ', H', I, q⟩ := h; exact ⟨σ', H', I.unwish, q⟩
  | ret u => obtain ⟨v, σ', H', I, r, q⟩ := h; exact ⟨v, σ', H', I.unwish, r, q⟩
theorem PE.nox {e : Expr} {t : TE} (h : PE X.nox e t) : PE X e t := fun pins s σ H Q I hw =>
  wpAny_mono (h pins s σ H Q (I.wish _) hw) (fun _ _ ⟨v, H', I', r, q⟩ => ⟨v, H', I'.unwish, r, q⟩) fun _ _ z => False.elim z
theorem PT.nox {e : Expr} {t : TT} (h : PT X.nox e t) : PT X e t := fun pins s σ H Q I hw =>
  wpAny_mono (h pins s σ H Q (I.wish _) hw) (fun _ _ ⟨H', I', q⟩ => ⟨H', I'.unwish, q⟩) fun _ _ z => False.elim z
theorem PSs.nox {st : List Stmt} {t : TS} (h : PSs X.nox st t) : PSs X st t := fun pins s σ H D I hw =>
  wpAny_mono (h pins s σ H D (I.wish _) hw) (fun _ _ q => q.unwish) fun _ _ z => False.elim z
end

/-! ### blocks and small statements -/
section
variable {X : Cx} {st : Stmt} {rest : List Stmt} {t u : TS} {e : Expr} {te : TE} {pos : Pos}
def tNext : TS := fun D σ H => D.nx σ H
def tSeq (t u : TS) : TS := fun D σ H => t { D with nx := u D } σ H
theorem pss_nil : PSs X [] tNext := fun _ _ σ H _ I h => wpAny_execs_nil ⟨σ, H, I, h⟩
theorem pss_cons (h1 : PS X st t) (h2 : PSs X rest u) : PSs X (st :: rest) (tSeq t u) := by
  intro pins s σ H D I h
  refine wpAny_execs_cons (thn (h1 pins s σ H { D with nx := u D } I h) fun f s1 q => ?_)
  cases f with
  | next =>
    obtain ⟨σ', H', I', q⟩ := q
    exact h2 pins s1 σ' H' D I' q
  | ret v => exact q
  | brk => exact q
  | cont => exact q
theorem pss_one (h1 : PS X st t) : PSs X [st] t := by
  intro pins s σ H D I h
  refine wpAny_execs_cons (thn (h1 pins s σ H D I h) fun f s1 q => ?_)
  cases f with
  | next => exact wpAny_execs_nil q
  | ret v => exact q
  | brk => exact q
  | cont => exact q
def tBreak : TS := fun D σ H => D.bk σ H
def tCont : TS := fun D σ H => D.ct σ H
/-- in a def's body nothing is shown -/
theorem Inv.quiet {pins : List (Addr × Obj)} {σ : St} {H : Hp} {s : Shared} (I : Inv X pins σ H s) : interactive X.env = false := by simp [interactive, I.ok.kind]
/-- an expression whose value is dropped -/
def tDrop (te : TE) : TS := fun D σ H => te σ H fun _ H1 => D.nx σ H1
theorem ps_expr (he : PE X e te) (hs : swapsWith e none pos.line X.env = pure false := by rfl) : PS X (.Expr e pos) (tDrop te) := by
  intro pins s σ H D I h
  exact wpAny_Expr_any (thn (he pins s σ H _ I h) fun v s1 ⟨x, H1, I1, r1, q1⟩ => ⟨σ, H1, I1, q1⟩) I.quiet hs
def tRet (te : TE) : TS := fun D σ H => te σ H D.rt
theorem ps_ret (he : PE X e te) : PS X (.Return (some e) pos) (tRet te) := by
  intro pins s σ H D I h
  exact wpAny_Return_some (thn (he pins s σ H _ I h) fun v s1 ⟨x, H1, I1, r1, q1⟩ => ⟨x, σ, H1, I1, r1, q1⟩)
def tRetN : TS := fun D _ H => D.rt .non H
def tIfS (c : TT) (t u : TS) : TS := fun D σ H => c σ H fun b H1 => if b = true then t D σ H1 else u D σ H1
theorem ps_if {c : Expr} {a b : List Stmt} {tc : TT} (hc : PT X c tc) (ha : PSs X a t) (hb : PSs X b u) : PS X (.If c a b pos) (tIfS tc t u) := by
  intro pins s σ H D I h
  refine wpAny_If (thn (hc pins s σ H _ I h) fun d s1 ⟨H1, I1, q1⟩ => ?_)
  cases d with
  | true => exact ha pins s1 σ H1 D I1 q1
  | false => exact hb pins s1 σ H1 D I1 q1
/-- code that the proof never comes to -/
def tNever : TS := fun _ _ _ => False
end

/-! ### targets -/
abbrev TG := V → St → Hp → (St → Hp → Prop) → Prop
abbrev TGs := List V → St → Hp → (St → Hp → Prop) → Prop
def PG (X : Cx) (target : Expr) (t : TG) : Prop :=
  ∀ (pins : List (Addr × Obj)) (s : Shared) (σ : St) (H : Hp) (v : V) (u : Value) (Q : St → Hp → Prop), Inv X pins σ H s → RelV v u → t v σ H Q →
    wpAny (model X.prog X.w) X.A (assign target X.env u) (fun _ s' => ∃ σ' H', Inv X pins σ' H' s' ∧ Q σ' H') X.xe s
/-- several targets, one after another -/
def PGs (X : Cx) (ts : List Expr) (t : TGs) : Prop :=
  ∀ (pins : List (Addr × Obj)) (s : Shared) (σ : St) (H : Hp) (vs : List V) (us : List Value) (Q : St → Hp → Prop), Inv X pins σ H s → Vals vs us → t vs σ H Q →
    wpAny (model X.prog X.w) X.A (assignInOrder ((assignEach ts X.env).map (·.2)) us) (fun _ s' => ∃ σ' H', Inv X pins σ' H' s' ∧ Q σ' H') X.xe s
/-- o[i] = v, by values -/
abbrev TSet := V → V → V → Hp → (Hp → Prop) → Prop
def PSet (X : Cx) (t : TSet) : Prop :=
  ∀ (pins : List (Addr × Obj)) (s : Shared) (σ : St) (H : Hp) (o i v : V) (ov iv u : Value) (Q : Hp → Prop), Inv X pins σ H s → RelV o ov → RelV i iv → RelV v u → t o i v H Q →
    wpAny (model X.prog X.w) X.A (setItem ov iv u) (fun _ s' => ∃ H', Inv X pins σ H' s' ∧ Q H') X.xe s
/-- a op= b, by values -/
abbrev TIp := V → V → Hp → VK → Prop
def PIp (X : Cx) (op : Operator) (t : TIp) : Prop :=
  ∀ (pins : List (Addr × Obj)) (s : Shared) (σ : St) (H : Hp) (x y : V) (v u : Value) (Q : VK), Inv X pins σ H s → RelV x v → RelV y u → t x y H Q →
    wpAny (model X.prog X.w) X.A (inplaceOp op v u) (EP X pins σ Q) X.xe s
section
variable {X : Cx} {pos : Pos}
def gName (i : Nat) : TG := fun v σ H Q => Q (σ.set i (some v)) H
theorem pg_name {i : Nat} {x : Str} (hN : X.N.Nodup) (hi : X.N[i]? = some x) (hx : Loc X.env.scope x) (hf : X.fn x = true ∨ X.env.scope.names.lookup x = some .local := by first | exact .inl rfl | exact .inr rfl | assumption) : PG X (.Name x pos) (gName i) := by
  intro pins s σ H v u Q I r h
  exact wpAny_assign_Name (store_ok I hN hi hx r (fun s' I' => ⟨_, H, I', h⟩) hf)
def gNil : TGs := fun vs σ H Q => vs = [] ∧ Q σ H
def gCons (t : TG) (u : TGs) : TGs := fun vs σ H Q => ∃ v r, vs = v :: r ∧ t v σ H fun σ' H' => u r σ' H' Q
theorem pgs_nil : PGs X [] gNil := by
  intro pins s σ H vs us Q I r h
  obtain ⟨e, h⟩ := h
  subst e
  cases r
  exact assignInOrder_nil ⟨σ, H, I, h⟩
theorem pgs_cons {e : Expr} {es : List Expr} {t : TG} {u : TGs} (h1 : PG X e t) (h2 : PGs X es u)
    (hs : (assignEach (e :: es) X.env).map (·.2) = assign e X.env :: (assignEach es X.env).map (·.2) := by rfl) : PGs X (e :: es) (gCons t u) := by
  intro pins s σ H vs us Q I r h
  obtain ⟨v, vr, e1, h⟩ := h
  subst e1
  cases r with
  | cons r rr =>
    rw [hs]
    refine assignInOrder_cons (thn (h1 pins s σ H _ _ _ I r h) fun _ s1 ⟨σ1, H1, I1, q1⟩ => ?_)
    exact h2 pins s1 σ1 H1 _ _ Q I1 rr q1
/-- (a, b, ..) = a tuple of that length -/
def gTup (K : PySem.W.Frag) (n : Nat) (t : TGs) : TG := fun v σ H Q => ∃ a xs, v = .ref a ∧ SqT K H a xs ∧ xs.length = n ∧ t xs σ H Q
theorem pg_tup {es : List Expr} {k : Nat} {t : TGs} {n : Nat} (hc : X.calm = true) (h : PGs X es t)
    (hn : (assignEach es X.env).length = n := by rfl) (hst : (assignEach es X.env).findIdx? (·.1) = none := by rfl) : PG X (.Tuple es k pos) (gTup X.K n t) := by
  intro pins s σ H v u Q I r hw
  obtain ⟨a, xs, e1, hq, hl, hw⟩ := hw
  subst e1
  cases r
  obtain ⟨its, rv, ht, hz⟩ := I.tuple hq
  refine assign_Tuple_tuple (I.ok.hd hc) ht (by simp [hn, ← hl, rv.length]) hst fun h' hx => ?_
  have I1 : Inv X pins σ H { s with heap := h' } := I.kept (t' := s.toks) fun b o e => hx b o (Nat.ne_of_lt (Heap.lt_size e)) e
  exact h pins _ σ H xs _ Q I1 (by simpa using rv) hw
/-- o[i] = .. -/
def gSub (to ti : TE) (t : TSet) : TG := fun v σ H Q => to σ H fun o H1 => ti σ H1 fun i H2 => t o i v H2 fun H3 => Q σ H3
theorem pg_sub {o i : Expr} {to ti : TE} {t : TSet} (ho : PE X o to) (hi : PE X i ti) (hs : PSet X t)
    (ha : ∀ v, assign (.Subscript o i pos) X.env v = (do
      let ov ← holding [v] (eval o X.env)
      let iv ← holding [v, ov] (eval i X.env)
      standAt pos
      holding [v, ov, iv] (setItem ov iv v)
      release [v, ov, iv] []) := by intro _; rfl) : PG X (.Subscript o i pos) (gSub to ti t) := by
  intro pins s σ H v u Q I r h
  rw [ha]
  refine wpAny_bind (wpAny_holding (thn (ho pins s σ H _ I h) fun ov s1 ⟨x, H1, I1, r1, q1⟩ => ?_))
  refine wpAny_bind (wpAny_holding (thn (hi pins s1 σ H1 _ I1 q1) fun iv s2 ⟨y, H2, I2, r2, q2⟩ => ?_))
  refine wpAny_bind (wpAny_standAt (wpAny_bind (wpAny_holding (thn (hs pins s2 σ H2 x y v ov iv u _ I2 r1 r2 r q2) fun _ s3 ⟨H3, I3, q3⟩ => ?_))))
  exact wpAny_release ⟨σ, H3, I3, q3⟩
/-- target = value -/
def tAsg (te : TE) (g : TG) : TS := fun D σ H => te σ H fun x H1 => g x σ H1 D.nx
theorem ps_asg {tg e : Expr} {te : TE} {g : TG} (he : PE X e te) (hg : PG X tg g) (hs : swapsWithSole [tg] e pos.line X.env = pure false := by rfl) (hw : swappedStores [tg] e X.env = pure none := by rfl)
    (h1 : (assignEach [tg] X.env).map (·.2) = [assign tg X.env] := by rfl) : PS X (.Assign [tg] e pos) (tAsg te g) := by
  intro pins s σ H D I h
  refine wpAny_Assign_stores (thn (he pins s σ H _ I h) fun v s1 ⟨x, H1, I1, r1, q1⟩ => ?_) hs hw
  rw [h1]
  exact thn (hg pins s1 σ H1 x v _ I1 r1 q1) fun _ s2 q => q
/-- name = value -/
theorem ps_set {i : Nat} {x : Str} {e : Expr} {te : TE} {pos' : Pos} (hN : X.N.Nodup) (hi : X.N[i]? = some x) (hx : Loc X.env.scope x) (he : PE X e te) (hs : swapsWith e (some (.Name x pos')) pos.line X.env = pure false := by rfl) (hf : X.fn x = true ∨ X.env.scope.names.lookup x = some .local := by first | exact .inl rfl | exact .inr rfl | assumption) :
    PS X (.Assign [.Name x pos'] e pos) (tAsg te (gName i)) := by
  intro pins s σ H D I h
  refine wpAny_Assign_Name (thn (he pins s σ H _ I h) fun v s1 ⟨y, H1, I1, r1, q1⟩ => ?_) hs
  exact store_ok I1 hN hi hx r1 (fun s2 I2 => ⟨_, H1, I2, q1⟩) hf
/-- a, b = x, y with plain local names: stored from the right; the pair itself is not tracked (the opening rows as in PyProof/Rows/TupAssign.lean:23) -/
def tPar (i j : Nat) (ta : TA) : TS := fun D σ H => ta σ H fun vs H1 => ∃ v w, vs = [v, w] ∧ D.nx ((σ.set i (some v)).set j (some w)) H1
/-- name op= e -/
def tAug (i : Nat) (te : TE) (ti : TIp) : TS := fun D σ H => ∃ x, σ[i]? = some (some x) ∧ te σ H fun y H1 => ti x y H1 fun z H2 => D.nx (σ.set i (some z)) H2
/-- o[i] op= e -/
def tAugS (to ti te : TE) (tget : V → V → Hp → VK → Prop) (tip : TIp) (tset : TSet) : TS := fun D σ H => to σ H fun o H1 => ti σ H1 fun i H2 => tget o i H2 fun x H3 => te σ H3 fun y H4 => tip x y H4 fun z H5 => tset o i z H5 fun H6 => D.nx σ H6
/-- o[i], by values -/
def PGet (X : Cx) (t : V → V → Hp → VK → Prop) : Prop :=
  ∀ (pins : List (Addr × Obj)) (s : Shared) (σ : St) (H : Hp) (o i : V) (ov iv : Value) (Q : VK), Inv X pins σ H s → RelV o ov → RelV i iv → t o i H Q →
    wpAny (model X.prog X.w) X.A (getItem ov iv) (EP X pins σ Q) X.xe s
/-- ints -/
def ipI (f : Int → Int → Int) : TIp := fun x y H Q => ∃ i j, x = .int i ∧ y = .int j ∧ Q (.int (f i j)) H
end

/-! ### while -/
section
variable {X : Cx} {pos : Pos}
/-- the invariant W with its measure -/
def tWhile (c : TT) (tb : TS) : TS := fun D σ H => ∃ W : Nat → St → Hp → Prop, (∃ m, W m σ H) ∧ ∀ m σ H, W m σ H →
  c σ H fun b H1 => if b = true then ∃ N : St → Hp → Prop, (∀ σ' H', N σ' H' → ∃ m', m' < m ∧ W m' σ' H') ∧ tb { D with nx := N, ct := N, bk := D.nx } σ H1 else D.nx σ H1
theorem ps_while {c : Expr} {body : List Stmt} {tc : TT} {tb : TS} (hp : PassesOwn (model X.prog X.w) X.A X.env X.xe) (hc : PT X c tc) (hb : PSs X body tb) : PS X (.While c body [] pos) (tWhile tc tb) := by
  intro pins s σ H D I h
  obtain ⟨W, ⟨m0, w0⟩, turn⟩ := h
  refine wpAny_While (codeAny_whileLoop (fun n s' => ∃ σ' H', Inv X pins σ' H' s' ∧ W n σ' H') ?_ m0 ⟨σ, H, I, w0⟩)
  rintro n s1 ⟨σ1, H1, I1, w1⟩
  refine wpAny_passesOwn hp (thn (hc pins s1 σ1 H1 _ I1 (turn n σ1 H1 w1)) fun b s2 ⟨H2, I2, q2⟩ => ?_)
  cases b with
  | true =>
    obtain ⟨N, hN, q2⟩ := q2
    rw [if_pos rfl]
    refine wpAny_passesOwn hp (thn (hb pins s2 σ1 H2 _ I2 q2) fun f s3 q3 => ?_)
    cases f with
    | next =>
      obtain ⟨σ3, H3, I3, n3⟩ := q3
      obtain ⟨m', hm, w3⟩ := hN σ3 H3 n3
      exact ⟨m', hm, σ3, H3, I3, w3⟩
    | cont =>
      obtain ⟨σ3, H3, I3, n3⟩ := q3
      obtain ⟨m', hm, w3⟩ := hN σ3 H3 n3
      exact ⟨m', hm, σ3, H3, I3, w3⟩
    | brk => exact q3
    | ret v => exact q3
  | false =>
    rw [if_neg Bool.false_ne_true]
    exact wpAny_execs_nil ⟨σ1, H2, I2, q2⟩
end

/-! ### what a loop or a comprehension walks -/
/-- at turn i: it yields x (the heap may grow), or it stops -/
structure It where
  go : Nat → Hp → Prop
  yld : Nat → Hp → V → Hp → Prop
  stop : Nat → Hp → Prop
/-- the iterator's own objects may turn: they are not the frame's, not pinned, younger than the entry (or a comprehension's own) -/
def FpOk (X : Cx) (pins : List (Addr × Obj)) (H : Hp) (b : Addr) : Prop :=
  H b = none ∧ b ≠ X.env.locals ∧ b ∉ X.fs ∧ (b ∈ X.ex ∨ X.s₀.heap.objs.size ≤ b) ∧ (∀ x c, X.env.cells.lookup x = some c → c ≠ b) ∧ ∀ p ∈ X.pn ++ pins, p.1 ≠ b
theorem Inv.fpOk {X : Cx} {pins : List (Addr × Obj)} {σ : St} {H H' : Hp} {s : Shared} {b : Addr} (I : Inv X pins σ H s) (hb : s.heap.objs.size ≤ b) (hn : H' b = none) : FpOk X pins H' b := by
  refine ⟨hn, Nat.ne_of_gt (Nat.lt_of_lt_of_le I.lt hb), I.nofs hb, .inr (Nat.le_trans I.sz hb), fun x c e z => ?_, fun p hp z => ?_⟩
  · obtain ⟨v, q⟩ := I.cell x c e
    exact absurd (Nat.lt_of_lt_of_le q.lt (by rw [z]; exact hb)) (Nat.lt_irrefl _)
  · exact absurd (Nat.lt_of_lt_of_le (Heap.lt_size (I.pin p hp).1) (by rw [z]; exact hb)) (Nat.lt_irrefl _)
structure Turn (P : Program) (w : World) (K : PySem.W.Frag) (tg : Expr) (J : It) (fp : List Addr) (it : Addr) (tn : Nat → Heap → Prop) : Prop where
  mem : it ∈ fp
  obj : ∀ i h, tn i h → ∀ b ∈ fp, ∃ o, h.get? b = some o ∧ ∀ v, o.data ≠ .cell v
  keep : ∀ i h h', tn i h → (∀ b ∈ fp, ∀ o, h.get? b = some o → h'.get? b = some o) → tn i h'
  item : ∀ (X : Cx), X.prog = P → X.w = w → X.K = K → X.calm = true → ∀ (i : Nat) (pins : List (Addr × Obj)) (s : Shared) (σ : St) (H : Hp) (E : Value → Shared → Prop), Inv X pins σ H s → (∀ b ∈ fp, FpOk X pins H b) → tn i s.heap → J.go i H →
    wpAny (model P w) X.A (pyNext (.ref it)) (fun r s1 => ∃ u, r = some u ∧
      wpAny (model P w) X.A (letOwnedTupleGo tg (.ref it) u) (fun _ s2 => ∃ x H', Inv X pins σ H' s2 ∧ RelV x u ∧ J.yld i H x H' ∧ tn (i + 1) s2.heap ∧ ∀ b ∈ fp, H' b = none) E s1) E s
  done : ∀ (X : Cx), X.prog = P → X.w = w → X.K = K → X.calm = true → ∀ (i : Nat) (pins : List (Addr × Obj)) (s : Shared) (σ : St) (H : Hp) (E : Value → Shared → Prop), Inv X pins σ H s → (∀ b ∈ fp, FpOk X pins H b) → tn i s.heap → J.stop i H →
    wpAny (model P w) X.A (pyNext (.ref it)) (fun r s1 => r = none ∧ Inv X pins σ H s1) E s
  self : ∀ (A : Around) (i : Nat) (s : Shared) (Q : Value → Shared → Prop) (E : Value → Shared → Prop), tn i s.heap → Q (.ref it) s → wpAny (model P w) A (pyIter (.ref it)) Q E s
abbrev TI := St → Hp → (It → Hp → Prop) → Prop
/-- an iterator has come -/
def PIE (X : Cx) (pins : List (Addr × Obj)) (σ : St) (tg : Expr) (R : It → Hp → Prop) (itv : Value) (s2 : Shared) : Prop :=
  ∃ (it : Addr) (fp : List Addr) (tn : Nat → Heap → Prop) (J : It) (H' : Hp), itv = .ref it ∧ Inv X pins σ H' s2 ∧ Turn X.prog X.w X.K tg J fp it tn ∧ tn 0 s2.heap ∧ (∀ b ∈ fp, FpOk X pins H' b) ∧ R J H'
def PI (X : Cx) (tg iter : Expr) (wi : TI) : Prop :=
  ∀ (pins : List (Addr × Obj)) (s : Shared) (σ : St) (H : Hp) (R : It → Hp → Prop), Inv X pins σ H s → wi σ H R →
    wpAny (model X.prog X.w) X.A (eval iter X.env) (fun v s1 => wpAny (model X.prog X.w) X.A (pyIter v) (PIE X pins σ tg R) X.xe s1) X.xe s

/-- the step ahead of the store is nothing for an iterator that keeps no tuple -/
theorem go_of {M : Model} {A : Around} {E : Value → Shared → Prop} {s : Shared} {tg : Expr} {it : Addr} {u : Value} {o : Obj} {n : String} {vs : Array Value} {Q : Unit → Shared → Prop} (ho : s.heap.get? it = some o) (hc : o.cls = .type n) (hd : o.data = .fields vs)
    (hn : ["enumerate", "zip", "dict_itemiterator", "dict_reverseitemiterator", "odict_iterator", "itertools.zip_longest", "itertools.pairwise"].contains n = false) (hQ : Q () s) : wpAny M A (letOwnedTupleGo tg (.ref it) u) Q E s := by
  unfold letOwnedTupleGo
  cases tg <;> first
    | exact wpAny_pure hQ
    | (cases u <;> first
        | exact wpAny_pure hQ
        | (refine wpAny_bind (wpAny_load ho ?_)
           rw [hc, hd]
           show wpAny M A (if (["enumerate", "zip", "dict_itemiterator", "dict_reverseitemiterator", "odict_iterator", "itertools.zip_longest", "itertools.pairwise"].contains n && vs[0]? == some (rawInt _)) = true then _ else _) Q E s
           rw [if_neg (by intro h; rw [hn, Bool.false_and] at h; cases h)]
           exact wpAny_pure hQ))

/-- the list at a, as it stands at each turn (a loop may append to it) -/
def Itl (K : PySem.W.Frag) (a : Addr) : It :=
  ⟨fun i H => ∃ xs x, SqL K H a xs ∧ xs[i]? = some x, fun i H x H' => H' = H ∧ ∀ xs, SqL K H a xs → xs[i]? = some x, fun i H => ∃ xs, SqL K H a xs ∧ xs.length ≤ i⟩
def Itt (K : PySem.W.Frag) (a : Addr) : It :=
  ⟨fun i H => ∃ xs x, SqT K H a xs ∧ xs[i]? = some x, fun i H x H' => H' = H ∧ ∀ xs, SqT K H a xs → xs[i]? = some x, fun i H => ∃ xs, SqT K H a xs ∧ xs.length ≤ i⟩
/-- lo, lo + 1, .. (n of them) -/
def Itr (lo : Int) (n : Nat) : It := ⟨fun i _ => i < n, fun i H x H' => H' = H ∧ x = .int (lo + i), fun i _ => n ≤ i⟩
theorem turn_list {P : Program} {w : World} {K : PySem.W.Frag} {tg : Expr} (a it : Addr) : Turn P w K tg (Itl K a) [it] it (fun i h => h.IsListIter it a i) where
  mem := by simp
  obj := fun i h st b hb => by
    have e : b = it := by simpa using hb
    subst e
    obtain ⟨o, e, c, d⟩ := st
    exact ⟨o, e, fun v z => by rw [d] at z; cases z⟩
  keep := fun i h h' st k => st.at fun o e => k it (by simp) o e
  item := by
    intro X hP hw hK hc i pins s σ H E I hf st hg
    subst hP hw hK
    obtain ⟨xs, x, hq, hx⟩ := hg
    obtain ⟨its, rv, p, hz⟩ := I.list hq
    obtain ⟨u, hu, ru⟩ := rv.get hx
    obtain ⟨f0, f1, f2, f3, f4, f5⟩ := hf it (by simp)
    refine wpAny_pyNext_list_item st p.isList (x := u) (by simpa using hu) fun h' st' sb => ?_
    have I1 : Inv X pins σ H { s with heap := h' } := I.turned (t' := s.toks) (fun b o hb e => (sb.2 b hb).trans e) f0 f1 f3 f4 f5
    obtain ⟨o, e, c, d⟩ := id st'
    exact ⟨u, rfl, go_of (s := { s with heap := h' }) e c d (by decide) ⟨x, H, I1, ru, ⟨rfl, fun ys hy => by rw [I.list_inj hy hq]; exact hx⟩, st', fun b hb => (hf b hb).1⟩⟩
  done := by
    intro X hP hw hK hc i pins s σ H E I hf st hg
    subst hP hw hK
    obtain ⟨xs, hq, hx⟩ := hg
    obtain ⟨its, rv, p, hz⟩ := I.list hq
    obtain ⟨f0, f1, f2, f3, f4, f5⟩ := hf it (by simp)
    have hl := rv.length
    exact wpAny_pyNext_list_end (I.ok.hd hc) st p.isList (by simp; omega) fun h' eb => ⟨rfl, I.turned (t' := s.toks) (fun b o hb e => eb b o hb e) f0 f1 f3 f4 f5⟩
  self := fun _ _ _ _ _ st h => wpAny_pyIter_listiter st h
theorem turn_tuple {P : Program} {w : World} {K : PySem.W.Frag} {tg : Expr} (a it : Addr) : Turn P w K tg (Itt K a) [it] it (fun i h => h.IsTupleIter it a i) where
  mem := by simp
  obj := fun i h st b hb => by
    have e : b = it := by simpa using hb
    subst e
    obtain ⟨o, e, c, d⟩ := st
    exact ⟨o, e, fun v z => by rw [d] at z; cases z⟩
  keep := fun i h h' st k => st.at fun o e => k it (by simp) o e
  item := by
    intro X hP hw hK hc i pins s σ H E I hf st hg
    subst hP hw hK
    obtain ⟨xs, x, hq, hx⟩ := hg
    obtain ⟨its, rv, p, hz⟩ := I.tuple hq
    obtain ⟨u, hu, ru⟩ := rv.get hx
    obtain ⟨f0, f1, f2, f3, f4, f5⟩ := hf it (by simp)
    refine wpAny_pyNext_tuple_item st (show s.heap.IsTuple a its.toArray from p) (x := u) (by simpa using hu) fun h' st' sb => ?_
    have I1 : Inv X pins σ H { s with heap := h' } := I.turned (t' := s.toks) (fun b o hb e => (sb.2 b hb).trans e) f0 f1 f3 f4 f5
    obtain ⟨o, e, c, d⟩ := id st'
    exact ⟨u, rfl, go_of (s := { s with heap := h' }) e c d (by decide) ⟨x, H, I1, ru, ⟨rfl, fun ys hy => by rw [I.tuple_inj hy hq]; exact hx⟩, st', fun b hb => (hf b hb).1⟩⟩
  done := by
    intro X hP hw hK hc i pins s σ H E I hf st hg
    subst hP hw hK
    obtain ⟨xs, hq, hx⟩ := hg
    obtain ⟨its, rv, p, hz⟩ := I.tuple hq
    obtain ⟨f0, f1, f2, f3, f4, f5⟩ := hf it (by simp)
    have hl := rv.length
    exact wpAny_pyNext_tuple_end (I.ok.hd hc) st (show s.heap.IsTuple a its.toArray from p) (by simp; omega) fun h' eb => ⟨rfl, I.turned (t' := s.toks) (fun b o hb e => eb b o hb e) f0 f1 f3 f4 f5⟩
  self := fun _ _ _ _ _ st h => wpAny_pyIter_tupleiter st h
theorem turn_range {P : Program} {w : World} {K : PySem.W.Frag} {tg : Expr} (it : Addr) (lo : Int) (n : Nat) : Turn P w K tg (Itr lo n) [it] it (fun i h => IsRangeIter h it (lo + (i : Nat) * 1) ((n : Int) - (i : Nat)) 1) where
  mem := by simp
  obj := fun i h st b hb => by
    have e : b = it := by simpa using hb
    subst e
    exact ⟨_, st, fun v z => by
      have z' : Data.fields _ = Data.cell v := z
      cases z'⟩
  keep := fun i h h' st k => k it (by simp) _ st
  item := by
    intro X hP hw hK hc i pins s σ H E I hf st hg
    subst hP hw hK
    obtain ⟨f0, f1, f2, f3, f4, f5⟩ := hf it (by simp)
    have W := Walks.range (prog := X.prog) (w := X.w) (I.ok.hd hc) it lo 1 n
    refine W.item i s _ _ hg st fun v h' tk hv st' kk => ?_
    obtain ⟨t, rfl⟩ := hv
    have I1 : Inv X pins σ H { s with heap := h', toks := tk } := I.turned (fun b o hb e => kk b o (by simpa using hb) e) f0 f1 f3 f4 f5
    refine ⟨_, rfl, go_of (s := { s with heap := h', toks := tk }) (n := "range_iterator") st' rfl rfl (by decide) ⟨.int (lo + i), H, I1, ⟨t, ?_⟩, ⟨rfl, rfl⟩, st', fun b hb => (hf b hb).1⟩⟩
    rw [Int.mul_one]
  done := by
    intro X hP hw hK hc i pins s σ H E I hf st hg
    subst hP hw hK
    obtain ⟨f0, f1, f2, f3, f4, f5⟩ := hf it (by simp)
    exact wpAny_pyNext_range_end (I.ok.hd hc) st (by have : n ≤ i := hg; omega) fun h' eb => ⟨rfl, I.turned (t' := s.toks) (fun b o hb e => eb b o hb e) f0 f1 f3 f4 f5⟩
  self := fun _ _ _ _ _ st h => wpAny_pyIter_rangeiter st h
end L2

namespace L2
open PySem PySem.Spec PyProof.Rows
section
variable {X : Cx} {tg : Expr}
def iList (K : PySem.W.Frag) (tl : TE) : TI := fun σ H R => tl σ H fun x H1 => ∃ a, x = .ref a ∧ (∃ xs, SqL K H1 a xs) ∧ R (Itl K a) H1
def iTup (K : PySem.W.Frag) (tl : TE) : TI := fun σ H R => tl σ H fun x H1 => ∃ a, x = .ref a ∧ (∃ xs, SqT K H1 a xs) ∧ R (Itt K a) H1
theorem pi_list {l : Expr} {tl : TE} (hl : PE X l tl) : PI X tg l (iList X.K tl) := by
  intro pins s σ H R I h
  refine thn (hl pins s σ H _ I h) fun v s1 ⟨x, H1, I1, r1, q1⟩ => ?_
  obtain ⟨a, e, ⟨xs, hq⟩, q⟩ := q1
  subst e
  cases r1
  obtain ⟨its, rv, p, hz⟩ := I1.list hq
  refine wpAny_pyIter_list p.isList ?_
  refine ⟨s1.heap.objs.size, [s1.heap.objs.size], _, _, H1, rfl, I1.kept (t' := s1.toks) fun b o e => Heap.get?_push_of_some _ e, turn_list a _, ⟨_, Heap.get?_push_size _ rfl, rfl, rfl⟩, fun b hb => ?_, q⟩
  have e : b = s1.heap.objs.size := by simpa using hb
  subst e
  exact I1.fpOk (Nat.le_refl _) (I1.hok.fresh (Nat.le_refl _))
theorem pi_tup {l : Expr} {tl : TE} (hl : PE X l tl) : PI X tg l (iTup X.K tl) := by
  intro pins s σ H R I h
  refine thn (hl pins s σ H _ I h) fun v s1 ⟨x, H1, I1, r1, q1⟩ => ?_
  obtain ⟨a, e, ⟨xs, hq⟩, q⟩ := q1
  subst e
  cases r1
  obtain ⟨its, rv, p, hz⟩ := I1.tuple hq
  refine wpAny_pyIter_tuple (show s1.heap.IsTuple a its.toArray from p) ?_
  refine ⟨s1.heap.objs.size, [s1.heap.objs.size], _, _, H1, rfl, I1.kept (t' := s1.toks) fun b o e => Heap.get?_push_of_some _ e, turn_tuple a _, ⟨_, Heap.get?_push_size _ rfl, rfl, rfl⟩, fun b hb => ?_, q⟩
  have e : b = s1.heap.objs.size := by simpa using hb
  subst e
  exact I1.fpOk (Nat.le_refl _) (I1.hok.fresh (Nat.le_refl _))
/-- a range object just made, walked -/
theorem range_it {pins : List (Addr × Obj)} {σ : St} {H : Hp} {s : Shared} {R : It → Hp → Prop} {E : Value → Shared → Prop} {lo hi : Int} {t u v : Tok} {tk : Nat} (I : Inv X pins σ H s) (h1 : -(2 ^ 62) ≤ lo) (h2 : lo < 2 ^ 62) (h3 : -(2 ^ 62) ≤ hi) (h4 : hi < 2 ^ 62)
    (q : R (Itr lo (hi - lo).toNat) H) : wpAny (model X.prog X.w) X.A (pyIter (.ref s.heap.objs.size)) (PIE X pins σ tg R) E { s with heap := s.heap.push { cls := .type "range", data := .fields #[.int lo t, .int hi u, .int 1 v] }, toks := tk } := by
  refine wpAny_pyIter_range (IsRange.new ..) (small_one h1 h2 h3 h4) ?_
  have I1 : Inv X pins σ H { s with heap := s.heap.push { cls := .type "range", data := .fields #[.int lo t, .int hi u, .int 1 v] }, toks := tk } := I.kept fun b o e => Heap.get?_push_of_some _ e
  refine ⟨(s.heap.push { cls := .type "range", data := .fields #[.int lo t, .int hi u, .int 1 v] }).objs.size, [(s.heap.push { cls := .type "range", data := .fields #[.int lo t, .int hi u, .int 1 v] }).objs.size], _, _, H, rfl,
    I1.kept (t' := tk) fun b o e => Heap.get?_push_of_some _ e, turn_range _ lo (hi - lo).toNat, ?_, fun b hb => ?_, q⟩
  · have e1 : lo + ((0 : Nat) : Int) * 1 = lo := by simp
    have e2 : (((hi - lo).toNat : Nat) : Int) - ((0 : Nat) : Int) = Builtin.Range.rangeSize lo hi 1 := by rw [rangeSize_one]; split <;> omega
    show IsRangeIter _ _ (lo + ((0 : Nat) : Int) * 1) ((((hi - lo).toNat : Nat) : Int) - ((0 : Nat) : Int)) 1
    rw [e1, e2]
    exact Heap.get?_push_size _ rfl
  · have e : b = (s.heap.push { cls := .type "range", data := .fields #[.int lo t, .int hi u, .int 1 v] }).objs.size := by simpa using hb
    subst e
    exact I1.fpOk (Nat.le_refl _) (I1.hok.fresh (Nat.le_refl _))
def iRng1 (ta : TA) : TI := fun σ H R => ta σ H fun vs H1 => ∃ j : Int, vs = [.int j] ∧ -(2 ^ 62) ≤ j ∧ j < 2 ^ 62 ∧ R (Itr 0 j.toNat) H1
def iRng2 (ta : TA) : TI := fun σ H R => ta σ H fun vs H1 => ∃ i j : Int, vs = [.int i, .int j] ∧ (-(2 ^ 62) ≤ i ∧ i < 2 ^ 62 ∧ -(2 ^ 62) ≤ j ∧ j < 2 ^ 62) ∧ R (Itr i (j - i).toNat) H1
theorem pi_range1 {a : Expr} {ta : TA} {p pos : Pos} (hg : Gl X "range") (hm : X.mg "range" = none) (ha : PA X [a] ta) (hs : starEach [a] X.env = [(false, eval a X.env)] := by rfl) : PI X tg (.Call (.Name "range" p) [a] [] pos) (iRng1 ta) := by
  intro pins s σ H R I h
  refine Call_ (ld_blt I hg hm boot_range (PyProof.Rows.callWith_type1 (thn (ha pos pins s σ H _ I h) fun us s1 ⟨vs, H1, I1, r1, q1⟩ => ?_) hs rfl))
  obtain ⟨j, e, q1, q2, q⟩ := q1
  subst e
  cases r1 with
  | cons r rr =>
    cases rr
    obtain ⟨t, rfl⟩ := r
    exact call_range_1 (range_it I1 (by omega) (by omega) q1 q2 (by simpa using q))
/-! ### for -/
/-- W: the invariant by the turn and a measure; N: what the body is to reach -/
def tFor (wi : TI) (g : TG) (tb : TS) : TS := fun D σ H => wi σ H fun J H1 => ∃ W : Nat → Nat → St → Hp → Prop, (∃ m, W 0 m σ H1) ∧ ∀ i m σ H, W i m σ H →
  (J.stop i H ∧ D.nx σ H) ∨ (J.go i H ∧ ∃ N : St → Hp → Prop, (∀ σ' H', N σ' H' → ∃ m', m' < m ∧ W (i + 1) m' σ' H') ∧ ∀ x H', J.yld i H x H' → g x σ H' fun σ2 H2 => tb { D with nx := N, ct := N, bk := D.nx } σ2 H2)
/-- the records at fp as they stand -/
def pinsAt (fp : List Addr) (h : Heap) : List (Addr × Obj) := fp.filterMap fun b => (h.get? b).map fun o => (b, o)
theorem mem_pinsAt {fp : List Addr} {h : Heap} {b : Addr} {o : Obj} (hb : b ∈ fp) (e : h.get? b = some o) : (b, o) ∈ pinsAt fp h := List.mem_filterMap.mpr ⟨b, hb, by rw [e]; rfl⟩
theorem of_pinsAt {fp : List Addr} {h : Heap} {p : Addr × Obj} (hp : p ∈ pinsAt fp h) : p.1 ∈ fp ∧ h.get? p.1 = some p.2 := by
  obtain ⟨b, hb, e⟩ := List.mem_filterMap.mp hp
  cases q : h.get? b with
  | none => rw [q] at e; cases e
  | some o =>
    rw [q] at e
    have e' : (b, o) = p := Option.some.inj e
    subst e'
    exact ⟨hb, q⟩
theorem Inv.pinned {pins : List (Addr × Obj)} {σ : St} {H : Hp} {s : Shared} {fp : List Addr} (I : Inv X pins σ H s) (hf : ∀ b ∈ fp, FpOk X pins H b) (ho : ∀ b ∈ fp, ∃ o, s.heap.get? b = some o ∧ ∀ v, o.data ≠ .cell v) : Inv X (pins ++ pinsAt fp s.heap) σ H s :=
  I.pins_of fun p hp => (List.mem_append.mp hp).elim (fun z => I.pin p (List.mem_append_right _ z)) fun z => by
    obtain ⟨hb, e⟩ := of_pinsAt z
    obtain ⟨f0, f1, f2, _⟩ := hf p.1 hb
    obtain ⟨o, e', d⟩ := ho p.1 hb
    rw [e] at e'; cases e'
    exact ⟨e, f0, f1, f2, d⟩
theorem Inv.unpinned {pins pl : List (Addr × Obj)} {σ : St} {H : Hp} {s : Shared} (I : Inv X (pins ++ pl) σ H s) : Inv X pins σ H s := I.pins_of fun p hp => I.pin p (List.mem_append_right _ (List.mem_append_left _ hp))
theorem ps_for {iter : Expr} {body : List Stmt} {wi : TI} {g : TG} {tb : TS} {pos : Pos} (hp : PassesOwn (model X.prog X.w) X.A X.env X.xe) (hc : X.calm = true) (hi : PI X tg iter wi) (hg : PG X tg g) (hb : PSs X body tb)
    (hs : ∀ x, foldedSetIterable iter X.env x = pure x := by intro _; rfl) : PS X (.For tg iter body [] pos) (tFor wi g tb) := by
  intro pins s σ H D I h
  refine wpAny_For (thn (hi pins s σ H _ I h) fun v s1 h1 => thn h1 fun itv s2 h2 => ?_) hs
  obtain ⟨it, fp, tn, J, H2, e, I2, T, st2, f2, W, ⟨m0, w0⟩, turn⟩ := h2
  subst e
  -- what stays true of the iterator's objects through the loop
  have stat : ∀ {H' : Hp}, (∀ b ∈ fp, H' b = none) → ∀ b ∈ fp, FpOk X pins H' b := fun hn b hb => ⟨hn b hb, (f2 b hb).2⟩
  refine codeAny_forLoop_any (fun n s' => ∃ i σ' H', Inv X pins σ' H' s' ∧ tn i s'.heap ∧ (∀ b ∈ fp, H' b = none) ∧ W i n σ' H') ?_ m0 ⟨0, σ, H2, I2, st2, fun b hb => (f2 b hb).1, w0⟩
  rintro n s3 ⟨i, σ3, H3, I3, st3, fr3, w3⟩
  rcases turn i n σ3 H3 w3 with ⟨stop, qn⟩ | ⟨go, N, hN, step⟩
  · refine wpAny_passesOwn hp (thn (T.done X rfl rfl rfl hc i pins s3 σ3 H3 X.xe I3 (stat fr3) st3 stop) fun r s4 ⟨hr, I4⟩ => ?_)
    subst hr
    exact wpAny_execs_nil ⟨σ3, H3, I4, qn⟩
  · refine wpAny_passesOwn hp (thn (T.item X rfl rfl rfl hc i pins s3 σ3 H3 X.xe I3 (stat fr3) st3 go) fun r s4 ⟨u, hr, h4⟩ => ?_)
    subst hr
    refine wpAny_passesOwn hp (thn h4 fun _ s5 ⟨x, H5, I5, r5, y5, st5, fr5⟩ => ?_)
    have I5' := I5.pinned (stat fr5) (T.obj _ _ st5)
    refine wpAny_passesOwn hp (thn (hg _ s5 σ3 H5 x u _ I5' r5 (step x H5 y5)) fun _ s6 ⟨σ6, H6, I6, q6⟩ => ?_)
    refine wpAny_passesOwn hp (thn (hb _ s6 σ6 H6 _ I6 q6) fun f s7 q7 => ?_)
    have again : ∀ {σ7 : St} {H7 : Hp}, Inv X (pins ++ pinsAt fp s5.heap) σ7 H7 s7 → N σ7 H7 → ∃ m, m < n ∧ ∃ i σ' H', Inv X pins σ' H' s7 ∧ tn i s7.heap ∧ (∀ b ∈ fp, H' b = none) ∧ W i m σ' H' := fun {σ7 H7} I7 n7 => by
      obtain ⟨m', hm, w7⟩ := hN σ7 H7 n7
      refine ⟨m', hm, i + 1, σ7, H7, I7.unpinned, T.keep _ _ _ st5 fun b hb o e => (I7.pin (b, o) (List.mem_append_right _ (List.mem_append_right _ (mem_pinsAt hb e)))).1, fun b hb => ?_, w7⟩
      obtain ⟨o, e, d⟩ := T.obj _ _ st5 b hb
      exact (I7.pin (b, o) (List.mem_append_right _ (List.mem_append_right _ (mem_pinsAt hb e)))).2.1
    cases f with
    | next => obtain ⟨σ7, H7, I7, n7⟩ := q7; exact again I7 n7
    | cont => obtain ⟨σ7, H7, I7, n7⟩ := q7; exact again I7 n7
    | brk => obtain ⟨σ7, H7, I7, q7⟩ := q7; exact ⟨σ7, H7, I7.unpinned, q7⟩
    | ret v => obtain ⟨x7, σ7, H7, I7, r7, q7⟩ := q7; exact ⟨x7, σ7, H7, I7.unpinned, r7, q7⟩
end

/-! ### the forms one uses -/
/-- over a list that the body leaves as it is -/
theorem for_list {K : PySem.W.Frag} {a : Addr} {xs : List V} {g : TG} {tb : TS} {D : Ends} {σ : St} {H : Hp} (Pv : Nat → St → Hp → Prop) (h0 : Pv 0 σ H) (hl : ∀ i σ H, i ≤ xs.length → Pv i σ H → SqL K H a xs)
    (hs : ∀ i x σ H, xs[i]? = some x → Pv i σ H → g x σ H fun σ2 H2 => tb { D with nx := Pv (i + 1), ct := Pv (i + 1), bk := D.nx } σ2 H2) (hd : ∀ σ H, Pv xs.length σ H → D.nx σ H) :
    ∃ W : Nat → Nat → St → Hp → Prop, (∃ m, W 0 m σ H) ∧ ∀ i m σ H, W i m σ H →
      ((Itl K a).stop i H ∧ D.nx σ H) ∨ ((Itl K a).go i H ∧ ∃ N : St → Hp → Prop, (∀ σ' H', N σ' H' → ∃ m', m' < m ∧ W (i + 1) m' σ' H') ∧ ∀ x H', (Itl K a).yld i H x H' → g x σ H' fun σ2 H2 => tb { D with nx := N, ct := N, bk := D.nx } σ2 H2) := by
  refine ⟨fun i m σ H => m = xs.length - i ∧ i ≤ xs.length ∧ Pv i σ H, ⟨xs.length, by simp, Nat.zero_le _, h0⟩, ?_⟩
  rintro i m σ H ⟨rfl, hi, p⟩
  have q := hl i σ H hi p
  by_cases hlt : i < xs.length
  · refine .inr ⟨⟨xs, xs[i], q, by simp [hlt]⟩, Pv (i + 1), fun σ' H' p' => ⟨xs.length - (i + 1), by omega, rfl, hlt, p'⟩, fun x H' y => ?_⟩
    obtain ⟨e, y⟩ := y
    subst e
    exact hs i x σ _ (y xs q) p
  · have e : i = xs.length := by omega
    subst e
    exact .inl ⟨⟨xs, q, Nat.le_refl _⟩, hd σ H p⟩
theorem for_tup {K : PySem.W.Frag} {a : Addr} {xs : List V} {g : TG} {tb : TS} {D : Ends} {σ : St} {H : Hp} (Pv : Nat → St → Hp → Prop) (h0 : Pv 0 σ H) (hl : ∀ i σ H, i ≤ xs.length → Pv i σ H → SqT K H a xs)
    (hs : ∀ i x σ H, xs[i]? = some x → Pv i σ H → g x σ H fun σ2 H2 => tb { D with nx := Pv (i + 1), ct := Pv (i + 1), bk := D.nx } σ2 H2) (hd : ∀ σ H, Pv xs.length σ H → D.nx σ H) :
    ∃ W : Nat → Nat → St → Hp → Prop, (∃ m, W 0 m σ H) ∧ ∀ i m σ H, W i m σ H →
      ((Itt K a).stop i H ∧ D.nx σ H) ∨ ((Itt K a).go i H ∧ ∃ N : St → Hp → Prop, (∀ σ' H', N σ' H' → ∃ m', m' < m ∧ W (i + 1) m' σ' H') ∧ ∀ x H', (Itt K a).yld i H x H' → g x σ H' fun σ2 H2 => tb { D with nx := N, ct := N, bk := D.nx } σ2 H2) := by
  refine ⟨fun i m σ H => m = xs.length - i ∧ i ≤ xs.length ∧ Pv i σ H, ⟨xs.length, by simp, Nat.zero_le _, h0⟩, ?_⟩
  rintro i m σ H ⟨rfl, hi, p⟩
  have q := hl i σ H hi p
  by_cases hlt : i < xs.length
  · refine .inr ⟨⟨xs, xs[i], q, by simp [hlt]⟩, Pv (i + 1), fun σ' H' p' => ⟨xs.length - (i + 1), by omega, rfl, hlt, p'⟩, fun x H' y => ?_⟩
    obtain ⟨e, y⟩ := y
    subst e
    exact hs i x σ _ (y xs q) p
  · have e : i = xs.length := by omega
    subst e
    exact .inl ⟨⟨xs, q, Nat.le_refl _⟩, hd σ H p⟩
theorem for_range {lo : Int} {n : Nat} {g : TG} {tb : TS} {D : Ends} {σ : St} {H : Hp} (Pv : Nat → St → Hp → Prop) (h0 : Pv 0 σ H)
    (hs : ∀ i σ H, i < n → Pv i σ H → g (.int (lo + i)) σ H fun σ2 H2 => tb { D with nx := Pv (i + 1), ct := Pv (i + 1), bk := D.nx } σ2 H2) (hd : ∀ σ H, Pv n σ H → D.nx σ H) :
    ∃ W : Nat → Nat → St → Hp → Prop, (∃ m, W 0 m σ H) ∧ ∀ i m σ H, W i m σ H →
      ((Itr lo n).stop i H ∧ D.nx σ H) ∨ ((Itr lo n).go i H ∧ ∃ N : St → Hp → Prop, (∀ σ' H', N σ' H' → ∃ m', m' < m ∧ W (i + 1) m' σ' H') ∧ ∀ x H', (Itr lo n).yld i H x H' → g x σ H' fun σ2 H2 => tb { D with nx := N, ct := N, bk := D.nx } σ2 H2) := by
  refine ⟨fun i m σ H => m = n - i ∧ i ≤ n ∧ Pv i σ H, ⟨n, by simp, Nat.zero_le _, h0⟩, ?_⟩
  rintro i m σ H ⟨rfl, hi, p⟩
  by_cases hlt : i < n
  · refine .inr ⟨hlt, Pv (i + 1), fun σ' H' p' => ⟨n - (i + 1), by omega, rfl, hlt, p'⟩, fun x H' y => ?_⟩
    obtain ⟨e, y⟩ := y
    subst e y
    exact hs i σ _ hlt p
  · have e : i = n := by omega
    subst e
    exact .inl ⟨Nat.le_refl _, hd σ H p⟩
end L2

namespace L2
open PySem PySem.Spec PyProof.Rows

abbrev R2 := V → V → Hp → VK → Prop
/-- a two-place operation on values: f is binaryOp op, inplaceOp op or compareOp op -/
def OpR (X : Cx) (f : Value → Value → Sem Value) (r : R2) : Prop :=
  ∀ (pins : List (Addr × Obj)) (s : Shared) (σ : St) (H : Hp) (x y : V) (v u : Value) (Q : VK), Inv X pins σ H s → RelV x v → RelV y u → r x y H Q →
    wpAny (model X.prog X.w) X.A (f v u) (EP X pins σ Q) X.xe s
/-- a one-place operation -/
def UnR (X : Cx) (f : Value → Sem Value) (r : V → Hp → VK → Prop) : Prop :=
  ∀ (pins : List (Addr × Obj)) (s : Shared) (σ : St) (H : Hp) (x : V) (v : Value) (Q : VK), Inv X pins σ H s → RelV x v → r x H Q →
    wpAny (model X.prog X.w) X.A (f v) (EP X pins σ Q) X.xe s
/-- a call of a value that is known (a builtin, a type) with values -/
def CallR (X : Cx) (f : Value) (r : List V → Hp → VK → Prop) : Prop :=
  ∀ (pins : List (Addr × Obj)) (s : Shared) (σ : St) (H : Hp) (xs : List V) (us : List Value) (Q : VK), Inv X pins σ H s → Vals xs us → r xs H Q →
    wpAny (model X.prog X.w) X.A (call f us) (EP X pins σ Q) X.xe s
/-- a value's truth -/
def TruR (X : Cx) (r : V → Hp → (Bool → Hp → Prop) → Prop) : Prop :=
  ∀ (pins : List (Addr × Obj)) (s : Shared) (σ : St) (H : Hp) (x : V) (v : Value) (Q : Bool → Hp → Prop), Inv X pins σ H s → RelV x v → r x H Q →
    wpAny (model X.prog X.w) X.A (truthy v) (TP X pins σ Q) X.xe s

def tOp (r : R2) (ta tb : TE) : TE := fun σ H Q => ta σ H fun x H1 => tb σ H1 fun y H2 => r x y H2 Q
def tUn (r : V → Hp → VK → Prop) (ta : TE) : TE := fun σ H Q => ta σ H fun x H1 => r x H1 Q
/-- ints in, under C, and a value out -/
def rI (C : Int → Int → Prop) (g : Int → Int → V) : R2 := fun x y H Q => ∃ i j, x = .int i ∧ y = .int j ∧ C i j ∧ Q (g i j) H
def rI0 (g : Int → Int → V) : R2 := fun x y H Q => ∃ i j, x = .int i ∧ y = .int j ∧ Q (g i j) H
def rU (g : Int → V) : V → Hp → VK → Prop := fun x H Q => ∃ i, x = .int i ∧ Q (g i) H

section
variable {X : Cx} {a b c : Expr} {ta tb tc : TE} {pos : Pos}

theorem binT (ha : PE X a ta) (hb : PE X b tb) {pins : List (Addr × Obj)} {s : Shared} {σ : St} {H : Hp} {R : V → V → Hp → Prop} (I : Inv X pins σ H s)
    (h : ta σ H fun x H1 => tb σ H1 fun y H2 => R x y H2) {Q : Value → Shared → Prop} {f : Value → Value → Sem Value}
    (hf : ∀ v u s2 x y H2, Inv X pins σ H2 s2 → RelV x v → RelV y u → R x y H2 → wpAny (model X.prog X.w) X.A (f v u) Q X.xe s2) :
    wpAny (model X.prog X.w) X.A (eval a X.env) (fun v s₁ => wpAny (model X.prog X.w) X.A (eval b X.env) (fun u s₂ => wpAny (model X.prog X.w) X.A (f v u) Q X.xe s₂) X.xe s₁) X.xe s := by
  refine thn (ha pins s σ H _ I h) fun v s1 ⟨x, H1, I1, r1, q1⟩ => ?_
  refine thn (hb pins s1 σ H1 _ I1 q1) fun u s2 ⟨y, H2, I2, r2, q2⟩ => ?_
  exact hf v u s2 x y H2 I2 r1 r2 q2

theorem pe_op {op : Operator} {r : R2} (ho : OpR X (binaryOp op) r) (ha : PE X a ta) (hb : PE X b tb) : PE X (.BinOp a op b pos) (tOp r ta tb) := by
  intro pins s σ H Q I h
  exact wpAny_BinOp (binT ha hb I h fun v u s2 x y H2 I2 rx ry q => ho pins s2 σ H2 x y v u Q I2 rx ry q)
/-! ### ints -/
theorem opI {f : Value → Value → Sem Value} {C : Int → Int → Prop} {g : Int → Int → Int}
    (rule : ∀ (i j : Int) (t u : Tok) (s : Shared) (Q : Value → Shared → Prop) (E : Value → Shared → Prop), C i j → Q (.int (g i j) s.toks) { s with toks := s.toks + 1 } → wpAny (model X.prog X.w) X.A (f (.int i t) (.int j u)) Q E s) :
    OpR X f (rI C fun i j => .int (g i j)) := by
  intro pins s σ H x y v u Q I rx ry h
  obtain ⟨i, j, rfl, rfl, hc, q⟩ := h
  obtain ⟨t, rfl⟩ := rx
  obtain ⟨t', rfl⟩ := ry
  exact rule i j t t' s _ _ hc ⟨.int (g i j), H, I.tok _, ⟨_, rfl⟩, q⟩
theorem opI0 {f : Value → Value → Sem Value} {g : Int → Int → Int}
    (rule : ∀ (i j : Int) (t u : Tok) (s : Shared) (Q : Value → Shared → Prop) (E : Value → Shared → Prop), Q (.int (g i j) s.toks) { s with toks := s.toks + 1 } → wpAny (model X.prog X.w) X.A (f (.int i t) (.int j u)) Q E s) :
    OpR X f (rI0 fun i j => .int (g i j)) := by
  intro pins s σ H x y v u Q I rx ry h
  obtain ⟨i, j, rfl, rfl, q⟩ := h
  obtain ⟨t, rfl⟩ := rx
  obtain ⟨t', rfl⟩ := ry
  exact rule i j t t' s _ _ ⟨.int (g i j), H, I.tok _, ⟨_, rfl⟩, q⟩
theorem opB0 {f : Value → Value → Sem Value} {g : Int → Int → Bool}
    (rule : ∀ (i j : Int) (t u : Tok) (s : Shared) (Q : Value → Shared → Prop) (E : Value → Shared → Prop), Q (.bool (g i j)) s → wpAny (model X.prog X.w) X.A (f (.int i t) (.int j u)) Q E s) :
    OpR X f (rI0 fun i j => .bl (g i j)) := by
  intro pins s σ H x y v u Q I rx ry h
  obtain ⟨i, j, rfl, rfl, q⟩ := h
  obtain ⟨t, rfl⟩ := rx
  obtain ⟨t', rfl⟩ := ry
  exact rule i j t t' s _ _ ⟨.bl (g i j), H, I, rfl, q⟩

def CDiv (i j : Int) : Prop := 0 < j ∧ j < 1073741824
def CDivN (i j : Int) : Prop := j ≠ 0 ∧ j.natAbs < 1073741824
def CPow (i j : Int) : Prop := 0 ≤ j ∧ j ≤ 1000000 ∧ i.natAbs < 2 ^ 64
def CMul (i j : Int) : Prop := (-(2 ^ 64) < i ∧ i < 2 ^ 64) ∨ (-(2 ^ 64) < j ∧ j < 2 ^ 64)
theorem CMul.ok {i j : Int} (h : CMul i j) : IntMulOk i j := by
  rcases h with ⟨h1, h2⟩ | ⟨h1, h2⟩
  · exact .of_left (intBits_le_64 h1 h2)
  · exact .of_right (intBits_le_64 h1 h2)
theorem op_add : OpR X (binaryOp .Add) (rI0 fun i j => .int (i + j)) := opI0 fun _ _ _ _ _ _ _ q => add_int q
theorem op_sub : OpR X (binaryOp .Sub) (rI0 fun i j => .int (i - j)) := opI0 fun _ _ _ _ _ _ _ q => sub_int q
theorem op_mul : OpR X (binaryOp .Mult) (rI CMul fun i j => .int (i * j)) := opI fun _ _ _ _ _ _ _ hc q => mul_int q hc.ok
/-- // by a positive divisor -/
theorem op_fdiv : OpR X (binaryOp .FloorDiv) (rI CDiv fun i j => .int (i / j)) := opI fun i j _ _ _ _ _ hc q => by
  have h1 : (0 : Int) < j := hc.1
  have h2 : j < 1073741824 := hc.2
  exact floordiv_int (by omega) (by rw [Int.fdiv_eq_ediv_of_nonneg i (by omega)]; exact q) (.inl (PyProof.noPylong_small (by omega)))
/-- % by a positive divisor of any size -/
theorem op_mod : OpR X (binaryOp .Mod) (rI (fun _ j => 0 < j) fun i j => .int (i % j)) := opI fun i j _ _ _ _ _ hc q => by
  have h1 : (0 : Int) < j := hc
  exact mod_int' (by omega) (by rw [Int.fmod_eq_emod_of_nonneg i (by omega)]; exact q)
/-! ### bools among ints: n += (a < b) -/
end

/-! ### comparisons -/
/-- the scalars that == tells apart as data does -/
def scal : V → V → Bool
  | .non, .non => true | .non, .int _ => true | .int _, .non => true | .non, .bl _ => true | .bl _, .non => true | .non, .str _ => true | .str _, .non => true
  | .int _, .int _ => true | .bl _, .bl _ => true | .str _, .str _ => true | .byt _, .byt _ => true
  | .int _, .str _ => true | .str _, .int _ => true | .bl _, .str _ => true | .str _, .bl _ => true
  | _, _ => false
def rEq : R2 := fun x y H Q => scal x y = true ∧ Q (.bl (decide (x = y))) H
def rNe : R2 := fun x y H Q => scal x y = true ∧ Q (.bl (!decide (x = y))) H

theorem dec_int {i j : Int} : decide (V.int i = V.int j) = (i == j) := by
  rw [Bool.eq_iff_iff]
  simp
theorem dec_bl {i j : Bool} : decide (V.bl i = V.bl j) = (i == j) := by
  rw [Bool.eq_iff_iff]
  simp
theorem dec_str {i j : Str} : decide (V.str i = V.str j) = (i == j) := by
  rw [Bool.eq_iff_iff]
  simp
theorem dec_byt {i j : Array UInt8} : decide (V.byt i = V.byt j) = (i.toList == j.toList) := by
  rw [Bool.eq_iff_iff]
  cases i
  cases j
  simp

section
variable {X : Cx} {a b c : Expr} {ta tb tc : TE} {pos : Pos}
theorem fin_bl {pins : List (Addr × Obj)} {σ : St} {H : Hp} {s : Shared} {Q : VK} {k k' : Bool} (I : Inv X pins σ H s) (q : Q (.bl k) H) (e : k = k') : EP X pins σ Q (.bool k') s := by
  subst e
  exact ⟨.bl k, H, I, rfl, q⟩
theorem op_eq : OpR X (compareOp .Eq) rEq := by
  intro pins s σ H x y v u Q I rx ry h
  obtain ⟨hs, q⟩ := h
  cases x with
  | non =>
    cases rx
    cases y with
    | non => cases ry; exact PySem.EqNone.eq_none_none (fin_bl I q (by simp))
    | bl j => cases ry; exact PySem.EqNone.eq_none_bool (fin_bl I q (by simp))
    | int j => obtain ⟨t', rfl⟩ := ry; exact PySem.EqNone.eq_none_int (fin_bl I q (by simp))
    | str j => obtain ⟨t', rfl⟩ := ry; exact PySem.EqNone.eq_none_str (fin_bl I q (by simp))
    | _ => exact absurd (show false = true from hs) Bool.false_ne_true
  | bl i =>
    cases rx
    cases y with
    | non => cases ry; exact PySem.EqNone.eq_bool_none (fin_bl I q (by simp))
    | bl j => cases ry; exact eq_bool (fin_bl I q dec_bl)
    | str j => obtain ⟨t', rfl⟩ := ry; exact PySem.EqMixed.eq_bool_str (fin_bl I q (by simp))
    | _ => exact absurd (show false = true from hs) Bool.false_ne_true
  | int i =>
    obtain ⟨t, rfl⟩ := rx
    cases y with
    | non => cases ry; exact PySem.EqNone.eq_int_none (fin_bl I q (by simp))
    | int j => obtain ⟨t', rfl⟩ := ry; exact eq_int (fin_bl I q dec_int)
    | str j => obtain ⟨t', rfl⟩ := ry; exact PySem.EqMixed.eq_int_str (fin_bl I q (by simp))
    | _ => exact absurd (show false = true from hs) Bool.false_ne_true
  | str i =>
    obtain ⟨t, rfl⟩ := rx
    cases y with
    | non => cases ry; exact PySem.EqNone.eq_str_none (fin_bl I q (by simp))
    | bl j => cases ry; exact PySem.EqMixed.eq_str_bool (fin_bl I q (by simp))
    | int j => obtain ⟨t', rfl⟩ := ry; exact PySem.EqMixed.eq_str_int (fin_bl I q (by simp))
    | str j => obtain ⟨t', rfl⟩ := ry; exact eq_str (fin_bl I q dec_str)
    | _ => exact absurd (show false = true from hs) Bool.false_ne_true
  | byt i =>
    obtain ⟨t, rfl⟩ := rx
    cases y with
    | byt j => obtain ⟨t', rfl⟩ := ry; exact PySem.W.eq_bytes (fin_bl I q dec_byt)
    | _ => exact absurd (show false = true from hs) Bool.false_ne_true
  | _ => cases y <;> exact absurd (show false = true from hs) Bool.false_ne_true
theorem op_ne : OpR X (compareOp .NotEq) rNe := by
  intro pins s σ H x y v u Q I rx ry h
  obtain ⟨hs, q⟩ := h
  cases x with
  | non =>
    cases rx
    cases y with
    | non => cases ry; exact PySem.EqNone.ne_none_none (fin_bl I q (by simp))
    | bl j => cases ry; exact PySem.EqNone.ne_none_bool (fin_bl I q (by simp))
    | int j => obtain ⟨t', rfl⟩ := ry; exact PySem.EqNone.ne_none_int (fin_bl I q (by simp))
    | str j => obtain ⟨t', rfl⟩ := ry; exact PySem.EqNone.ne_none_str (fin_bl I q (by simp))
    | _ => exact absurd (show false = true from hs) Bool.false_ne_true
  | bl i =>
    cases rx
    cases y with
    | non => cases ry; exact PySem.EqNone.ne_bool_none (fin_bl I q (by simp))
    | bl j => cases ry; exact ne_bool (fin_bl I q (congrArg not dec_bl))
    | str j => obtain ⟨t', rfl⟩ := ry; exact PySem.EqMixed.ne_bool_str (fin_bl I q (by simp))
    | _ => exact absurd (show false = true from hs) Bool.false_ne_true
  | int i =>
    obtain ⟨t, rfl⟩ := rx
    cases y with
    | non => cases ry; exact PySem.EqNone.ne_int_none (fin_bl I q (by simp))
    | int j => obtain ⟨t', rfl⟩ := ry; exact ne_int (fin_bl I q (congrArg not dec_int))
    | str j => obtain ⟨t', rfl⟩ := ry; exact PySem.EqMixed.ne_int_str (fin_bl I q (by simp))
    | _ => exact absurd (show false = true from hs) Bool.false_ne_true
  | str i =>
    obtain ⟨t, rfl⟩ := rx
    cases y with
    | non => cases ry; exact PySem.EqNone.ne_str_none (fin_bl I q (by simp))
    | bl j => cases ry; exact PySem.EqMixed.ne_str_bool (fin_bl I q (by simp))
    | int j => obtain ⟨t', rfl⟩ := ry; exact PySem.EqMixed.ne_str_int (fin_bl I q (by simp))
    | str j => obtain ⟨t', rfl⟩ := ry; exact ne_str (fin_bl I q (congrArg not dec_str))
    | _ => exact absurd (show false = true from hs) Bool.false_ne_true
  | byt i =>
    obtain ⟨t, rfl⟩ := rx
    cases y with
    | byt j => obtain ⟨t', rfl⟩ := ry; exact PySem.W.ne_bytes (fin_bl I q (congrArg not dec_byt))
    | _ => exact absurd (show false = true from hs) Bool.false_ne_true
  | _ => cases y <;> exact absurd (show false = true from hs) Bool.false_ne_true

theorem op_lt : OpR X (compareOp .Lt) (rI0 fun i j => .bl (decide (i < j))) := opB0 fun _ _ _ _ _ _ _ q => lt_int q
theorem op_gt : OpR X (compareOp .Gt) (rI0 fun i j => .bl (decide (j < i))) := opB0 fun _ _ _ _ _ _ _ q => gt_int q
theorem op_ge : OpR X (compareOp .GtE) (rI0 fun i j => .bl (decide (j ≤ i))) := opB0 fun _ _ _ _ _ _ _ q => ge_int q
/-- is None, is not None: the right side a value none -/
theorem op_isN : OpR X (compareOp .Is) (fun x y H Q => y = .non ∧ Q (.bl (decide (x = .non))) H) := by
  intro pins s σ H x y v u Q I rx ry h
  obtain ⟨rfl, q⟩ := h
  cases ry
  refine is_none_gen (fin_bl I q ?_)
  cases x <;> first
    | (cases rx; rfl)
    | (obtain ⟨t, rfl⟩ := rx; rfl)
theorem op_notN : OpR X (compareOp .IsNot) (fun x y H Q => y = .non ∧ Q (.bl (!decide (x = .non))) H) := by
  intro pins s σ H x y v u Q I rx ry h
  obtain ⟨rfl, q⟩ := h
  cases ry
  refine isnot_none_gen (fin_bl I q ?_)
  cases x <;> first
    | (cases rx; rfl)
    | (obtain ⟨t, rfl⟩ := rx; rfl)

/-- is, is not of two objects that are tracked lists or instances -/
def isObj : HO → Bool
  | .lst _ => true
  | .ins _ _ _ => true
  | _ => false
/-- two rules for one operation: by cases -/
theorem OpR.or {f : Value → Value → Sem Value} {r r' : R2} (h : OpR X f r) (h' : OpR X f r') : OpR X f (fun x y H Q => r x y H Q ∨ r' x y H Q) := by
  intro pins s σ H x y v u Q I rx ry q
  rcases q with q | q
  · exact h pins s σ H x y v u Q I rx ry q
  · exact h' pins s σ H x y v u Q I rx ry q

theorem nomark (b : Expr) {op : CmpOp} (h : op ≠ .In := by decide) (h2 : op ≠ .NotIn := by decide) : behindInMarks op b = false := by
  have e1 : (op == CmpOp.In) = false := by cases op <;> first | rfl | exact absurd rfl h
  have e2 : (op == CmpOp.NotIn) = false := by cases op <;> first | rfl | exact absurd rfl h2
  cases b <;> simp [behindInMarks, e1, e2]
/-- a comparison as a value; hm: nomark b, or (for in, not in) by with_unfolding_all rfl -/
theorem pe_cmpR {op : CmpOp} {r : R2} (ho : OpR X (compareOp op) r) (ha : PE X a ta) (hb : PE X b tb) (hm : behindInMarks op b = false) : PE X (.Compare a [op] [b] pos) (tOp r ta tb) := by
  intro pins s σ H Q I h
  exact wpAny_Compare1 (binT ha hb I h fun v u s2 x y H2 I2 rx ry q => ho pins s2 σ H2 x y v u Q I2 rx ry q) hm
/-- a reading of a value as a test -/
def tTest (t : TE) : TT := fun σ H Q => t σ H fun x H' => ∃ k, x = .bl k ∧ Q k H'
theorem pt_cmpR {op : CmpOp} {r : R2} (ho : OpR X (compareOp op) r) (ha : PE X a ta) (hb : PE X b tb) (hm : behindInMarks op b = false) : PT X (.Compare a [op] [b] pos) (tTest (tOp r ta tb)) := by
  intro pins s σ H Q I h
  refine wpAny_isTrue_Compare1 (thn (ha pins s σ H _ I h) fun v s1 ⟨x, H1, I1, r1, q1⟩ => thn (hb pins s1 σ H1 _ I1 q1) fun u s2 ⟨y, H2, I2, r2, q2⟩ =>
    thn (ho pins s2 σ H2 x y v u _ I2 r1 r2 q2) fun c s3 ⟨z, H3, I3, r3, k, e, q3⟩ => ?_) hm
  subst e
  cases r3
  exact wpAny_truthy_bool ⟨H3, I3, q3⟩
/-- a op1 b op2 c -/
def tChain (r r' : R2) (ta tb tc : TE) : TE := fun σ H Q => ta σ H fun x H1 => tb σ H1 fun y H2 => r x y H2 fun z H3 => ∃ k, z = .bl k ∧
  (if k = true then tc σ H3 fun w' H4 => r' y w' H4 Q else Q (.bl false) H3)
/-! ### truth -/
/-- a value's truth by the abstract heap -/
def TruV (K : PySem.W.Frag) (x : V) (H : Hp) (k : Bool) : Prop :=
  match x with
  | .non => k = false
  | .bl b => k = b
  | .int i => k = (i != 0)
  | .str y => y.length ≤ sizeLine ∧ k = ((y.length : Int) != 0)
  | .byt y => y.size ≤ sizeLine ∧ k = ((y.size : Int) != 0)
  | .ref p => (∃ xs, SqL K H p xs ∧ k = !xs.isEmpty) ∨ (∃ xs, SqT K H p xs ∧ k = !xs.isEmpty) ∨ ∃ kvs, H p = some (.dK kvs) ∧ k = !kvs.isEmpty
  | _ => False
theorem isEmpty_kv {κ : Type} {kvs : List (κ × V)} {vs : List (κ × Value)} (r : KV kvs vs) : (!vs.isEmpty) = !kvs.isEmpty := by
  cases r <;> rfl
theorem isEmpty_of {xs : List V} {its : List Value} (r : Vals xs its) : (!its.toArray.isEmpty) = !xs.isEmpty := by
  cases r <;> simp
theorem line63 : (sizeLine : Nat) < 2 ^ 63 := by rw [sizeLine_eq]; decide
theorem tru_ok : TruR X (fun x H Q => ∃ k, TruV X.K x H k ∧ Q k H) := by
  intro pins s σ H x v Q I rx h
  obtain ⟨k, e, q⟩ := h
  have hl := line63
  have hs : sizeLine = 16777216 := sizeLine_eq
  cases x with
  | non =>
    cases rx
    have e' : k = false := e
    subst e'
    exact truthy_none ⟨H, I, q⟩
  | bl b =>
    cases rx
    have e' : k = b := e
    subst e'
    exact wpAny_truthy_bool ⟨H, I, q⟩
  | int i =>
    obtain ⟨t, rfl⟩ := rx
    have e' : k = (i != 0) := e
    subst e'
    exact PySem.P.truthy_int ⟨H, I, q⟩
  | str y =>
    obtain ⟨t, rfl⟩ := rx
    obtain ⟨hy, e'⟩ : y.length ≤ sizeLine ∧ k = ((y.length : Int) != 0) := e
    subst e'
    exact PySem.P.truthy_str (by omega) ⟨H, I.tok _, q⟩
  | byt y =>
    obtain ⟨t, rfl⟩ := rx
    obtain ⟨hy, e'⟩ : y.size ≤ sizeLine ∧ k = ((y.size : Int) != 0) := e
    subst e'
    exact PySem.W.truthy_bytes (by omega) ⟨H, I.tok _, q⟩
  | ref p =>
    cases rx
    have e' : (∃ xs, SqL X.K H p xs ∧ k = !xs.isEmpty) ∨ (∃ xs, SqT X.K H p xs ∧ k = !xs.isEmpty) ∨ ∃ kvs, H p = some (.dK kvs) ∧ k = !kvs.isEmpty := e
    rcases e' with ⟨xs, hx, e'⟩ | ⟨xs, hx, e'⟩ | ⟨kvs, hx, e'⟩
    · subst e'
      obtain ⟨its, r, pl, hz⟩ := I.list hx
      have hlen := r.length
      exact wpAny_truthy_list pl.isList (by simp only [List.size_toArray]; omega) ⟨H, I.tok _, by rw [isEmpty_of r]; exact q⟩
    · subst e'
      obtain ⟨its, r, pl, hz⟩ := I.tuple hx
      have hlen := r.length
      exact truthy_tuple pl (by simp only [List.size_toArray]; omega) ⟨H, I.tok _, by rw [isEmpty_of r]; exact q⟩
    · subst e'
      obtain ⟨hz, hS, vs, r, m⟩ : kvs.length ≤ sizeLine ∧ (p == sysModules) = false ∧ ∃ vs, KV kvs vs ∧ s.heap.DictOf (mixKind X.prog X.w) p vs := I.hok p _ hx
      have hlen : kvs.length = vs.length := Paired.length r
      exact wpAny_truthy_dict hS m (by omega) ⟨H, I.tok _, by rw [isEmpty_kv r]; exact q⟩
  | _ => exact (show False from e).elim
/-- any expression whose test is its value's truth (a name, a call, a subscript, a field ..: he by fun _ => rfl) -/
theorem pt_truth (ha : PE X a ta) (he : ∀ whole, isTrue a X.env whole = (do let v ← whole; standAt a.pos; holding [v] (truthy v))) :
    PT X a (fun σ H Q => ta σ H fun x H' => ∃ k, TruV X.K x H' k ∧ Q k H') := by
  intro pins s σ H Q I h
  exact isTrue_plain (thn (ha pins s σ H _ I h) fun v s1 ⟨x, H1, I1, r1, q1⟩ => tru_ok pins s1 σ H1 x v Q I1 r1 q1) (he _)

/-! ### strs and bytes -/
def PlainIxT (b : Expr) : Prop := ∀ o i, subscripted b false o i = operate [o, i] (getItem o i)
/-! ### scalar builtins, by CallR -/
theorem vals1 {x : V} {us : List Value} (r : Vals [x] us) : ∃ u, us = [u] ∧ RelV x u := by
  cases r with
  | cons r1 r2 => cases r2; exact ⟨_, rfl, r1⟩
theorem vals2 {x y : V} {us : List Value} (r : Vals [x, y] us) : ∃ u w', us = [u, w'] ∧ RelV x u ∧ RelV y w' := by
  cases r with
  | cons r1 r2 =>
    cases r2 with
    | cons r3 r4 => cases r4; exact ⟨_, _, rfl, r1, r3⟩
theorem call_min2 (hc : X.calm = true) : CallR X (.builtin "min") (fun xs H Q => ∃ i j, xs = [.int i, .int j] ∧ Q (.int (if j < i then j else i)) H) := by
  intro pins s σ H xs us Q I r h
  obtain ⟨i, j, rfl, q⟩ := h
  obtain ⟨u, w', rfl, ⟨t, rfl⟩, ⟨t', rfl⟩⟩ := vals2 r
  refine min_two_ints (I.ok.hd hc) fun h' tk k => ⟨_, H, I.kept k, ?_, q⟩
  by_cases hj : j < i
  · rw [if_pos hj, if_pos hj]; exact ⟨_, rfl⟩
  · rw [if_neg hj, if_neg hj]; exact ⟨_, rfl⟩
theorem call_int1 : CallR X (.type "int") (fun xs H Q => (∃ i, xs = [.int i] ∧ Q (.int i) H) ∨ ∃ k, xs = [.bl k] ∧ Q (.int (if k then 1 else 0)) H) := by
  intro pins s σ H xs us Q I r h
  rcases h with ⟨i, rfl, q⟩ | ⟨k, rfl, q⟩
  · obtain ⟨u, rfl, t, rfl⟩ := vals1 r
    exact call_int_int ⟨.int i, H, I, ⟨_, rfl⟩, q⟩
  · obtain ⟨u, rfl, r1⟩ := vals1 r
    cases r1
    exact call_int_bool ⟨.int (if k then 1 else 0), H, I.tok _, ⟨_, rfl⟩, q⟩
/-- len of a str, a bytes, a list, a tuple -/
def LenV (K : PySem.W.Frag) (x : V) (H : Hp) (n : Nat) : Prop :=
  match x with
  | .str y => y.length ≤ sizeLine ∧ n = y.length
  | .byt y => y.size ≤ sizeLine ∧ n = y.size
  | .ref p => (∃ xs, SqL K H p xs ∧ n = xs.length) ∨ ∃ xs, SqT K H p xs ∧ n = xs.length
  | _ => False
end
end L2

namespace L2
open PySem PySem.Spec PyProof.Rows

/-! ### an instance, its attributes a map -/
structure ObjM (h : Heap) (x dx C : Addr) (mA : Str → Option Value) : Prop where
  obj : h.get? x = some (PySem.W.instObj C dx)
  ns : h.Ns1 dx mA
  ne : dx ≠ x

theorem lookIn_ns {h : Heap} {dx : Addr} {mA : Str → Option Value} (n : h.Ns1 dx mA) : ∃ od, h.get? dx = some od ∧ ∀ name, PySem.W.lookIn name od = some (mA name) := by
  obtain ⟨o, es, ep, ho, hd, hk, _, hm⟩ := n
  refine ⟨o, ho, fun name => ?_⟩
  have e := hm name
  unfold nsFind findBy at e
  rw [← Array.find?_toList] at e
  unfold PySem.W.lookIn
  rw [hd]
  dsimp only
  split
  · rename_i y q
    rw [q] at e
    exact congrArg some e
  · rename_i q
    rw [q] at e
    have a : es.toList.any (·.refKey) = false := by
      rw [List.any_eq_false]
      intro y hy
      obtain ⟨z, t, hkey⟩ := hk y (Array.mem_toList_iff.mp hy)
      simp [DictEntry.refKey, hkey]
    have a' : ¬ es.toList.any (·.refKey) = true := by rw [a]; exact Bool.false_ne_true
    rw [if_neg a']
    exact congrArg some e

theorem ObjM.look {h : Heap} {x dx C : Addr} {mA : Str → Option Value} (I : ObjM h x dx C mA) : ∃ od, PySem.W.InstAt h x (PySem.W.instObj C dx) C (some od) ∧ ∀ name, PySem.W.lookIn name od = some (mA name) :=
  let ⟨od, ho, hl⟩ := lookIn_ns I.ns
  ⟨od, ⟨I.obj, rfl, rfl, ho⟩, hl⟩

section
variable {prog : Program} {w : World} {A : Around} {E : Value → Shared → Prop} {s : Shared} {K : PySem.W.Frag} {x dx C f : Addr} {mA : Str → Option Value} {name : Str} {v : Value}

theorem get_map {expr : Bool} {Q : Value → Shared → Prop} (X : K.In s.heap) (I : ObjM s.heap x dx C mA) (hg : PySem.W.plainGet K C name = true) (hh : PySem.W.hasDictIn K C = true)
    (ha : PySem.W.findIn K (.ref C) name = some none) (hv : mA name = some v) (hv' : PySem.W.handedIn v = true) (h : Q v { s with toks := s.toks + 1 }) :
    wpAny (model prog w) A (getAttr (.ref x) name expr) Q E s := by
  obtain ⟨od, J, hl⟩ := I.look
  exact PySem.W.get_value X J (PySem.W.plainGet_of hg).1 (PySem.W.findObj_own hh ha rfl (by rw [hl, hv])) hv' h

theorem get_meth {pl : Sem Bool} {Q : Value × List Value → Shared → Prop} (X : K.In s.heap) (I : ObjM s.heap x dx C mA) (hg : PySem.W.plainGet K C name = true)
    (hf : PySem.W.findIn K (.ref C) name = some (some (.ref f))) (ht : PySem.W.isFn K (.ref f) = true) (hv : mA name = none) (h : Q (.ref f, [.ref x]) s) :
    wpAny (model prog w) A (getMethod (.ref x) name pl) Q E s := by
  obtain ⟨od, J, hl⟩ := I.look
  exact PySem.W.method_fn X J (PySem.W.plainGet_of hg).1 (PySem.W.plainGet_of hg).2 hf (beq_iff_eq.mp ht) (by show (PySem.W.lookIn name od).map (·.isSome) = some false; rw [hl, hv]; rfl) h

theorem set_map {ns : List Str} {Q : Unit → Shared → Prop} (X : K.In s.heap) (I : ObjM s.heap x dx C mA)
    (hs : PySem.W.findIn K (.ref C) "__setattr__" = some (some (.builtin "object.__setattr__"))) (hp : PySem.W.plainOver K C = true) (ht : PySem.W.takerIn K C name = some none) (hh : PySem.W.hasDictIn K C = true)
    (hw : PySem.Within mA ns) (hsz : ns.length ≤ sizeLine)
    (h : ∀ h', ObjM h' x dx C (fun y => if y = name then some v else mA y) → Heap.SameBut dx s.heap h' → Q () { s with heap := h', toks := s.toks + 2 }) :
    wpAny (model prog w) A (setAttr (.ref x) name v) Q E s := by
  obtain ⟨od, J, hl⟩ := I.look
  refine PySem.W.set_plain X J hs (PySem.W.osa_open (s := { s with toks := s.toks + 1 }) (r := none) X J hp ht fun b => ?_)
  obtain ⟨cd, hc, hd'⟩ := PySem.W.any_some hh
  have hx : s.heap.get? x = some ⟨.ref C, some dx, .plain, #[]⟩ := I.obj
  refine wpAny_bind (wpAny_pure (wpAny_bind (wpAny_bind (wpAny_loadPart hx (wpAny_bind (PySem.W.Looks.here (s := { s with toks := s.toks + 1 }) (PySem.W.looks_clsIn X hc) ?_))))))
  rw [hd']
  refine wpAny_pure (a := some dx) (wpAny_bind (wpAny_pure (wpAny_bind ?_)))
  refine wpAny_nsSet1 (s := { s with toks := s.toks + 1 }) I.ns fun h' hn2 hs2 => ?_
  obtain ⟨oD, esD, epD, hoD, hdD, hcD⟩ := hn2.count (PySem.Within.cons name v hw)
  refine wpAny_bind (wpAny_lookBehind hoD (by rw [hdD]; exact pastItsLine_dict (Nat.le_trans hcD (by rw [List.length_cons]; omega))) ?_)
  exact wpAny_pure (h _ ⟨(hs2.2 _ (Ne.symm I.ne)).trans I.obj, hn2, I.ne⟩ hs2)

/-- C(..): the dict at the heap's end, the instance behind it; then its __init__ -/
theorem make_map {R : Result → Shared → Prop} {vs : List Value} {kw : List (Str × Value)} (X : K.In s.heap) (hm : PySem.W.makesIn K C = true)
    (hi : PySem.W.findIn K (.ref C) "__init__" = some (some (.ref f))) (hf : PySem.W.typeIn K (.ref f) = some (.type "function"))
    (h : codeAny (model prog w) (A.under (.builtin "type.__call__" ⟨.ref C :: vs, kw⟩)) (.call (.ref f) ⟨.ref (s.heap.objs.size + 1) :: vs, kw⟩) (PySem.W.InitBack (s.heap.objs.size + 1) R)
      { s with heap := (s.heap.push PySem.W.emptyDict).push (PySem.W.instObj C s.heap.objs.size) }) :
    codeAny (model prog w) A (.call (.ref C) ⟨vs, kw⟩) R s := by
  obtain ⟨hh, g, d, t, os⟩ := s
  exact PySem.W.make_core (PySem.W.makes_of X hm) (PySem.W.looks_findIn X hi) (fun self => PySem.W.bind_fn X self hf) (.inl rfl) h
end

/-! ### the attributes as a list of pairs -/
def putF (f : Str) (v : V) : List (Str × V) → List (Str × V)
  | [] => [(f, v)]
  | (g, x) :: r => if g = f then (g, v) :: r else (g, x) :: putF f v r
theorem lookup_putF (f g : Str) (v : V) : ∀ fs : List (Str × V), (putF f v fs).lookup g = if g = f then some v else fs.lookup g
  | [] => by
    show List.lookup g [(f, v)] = _
    by_cases h : g = f
    · have hb : (g == f) = true := beq_iff_eq.mpr h
      simp only [List.lookup, hb, if_pos h]
    · have hb : (g == f) = false := beq_eq_false_iff_ne.mpr h
      simp only [List.lookup, hb, if_neg h]
  | (k, x) :: r => by
    have ih := lookup_putF f g v r
    rw [show putF f v ((k, x) :: r) = (if k = f then (k, v) :: r else (k, x) :: putF f v r) from rfl]
    by_cases hk : k = f
    · rw [if_pos hk]
      by_cases h : g = k
      · have hb : (g == k) = true := beq_iff_eq.mpr h
        simp only [List.lookup, hb, if_pos (h.trans hk)]
      · have hb : (g == k) = false := beq_eq_false_iff_ne.mpr h
        simp only [List.lookup, hb, if_neg (fun e : g = f => h (e.trans hk.symm))]
    · rw [if_neg hk]
      by_cases h : g = k
      · have hb : (g == k) = true := beq_iff_eq.mpr h
        simp only [List.lookup, hb, if_neg (fun e : g = f => hk (h.symm.trans e))]
      · have hb : (g == k) = false := beq_eq_false_iff_ne.mpr h
        simp only [List.lookup, hb]
        exact ih
theorem keys_putF (f : Str) (v : V) : ∀ fs : List (Str × V), f ∈ (putF f v fs).map (·.1) ∧ ∀ g, g ∈ fs.map (·.1) → g ∈ (putF f v fs).map (·.1)
  | [] => ⟨by simp [putF], fun g h => by simp at h⟩
  | (k, x) :: r => by
    obtain ⟨i1, i2⟩ := keys_putF f v r
    rw [show putF f v ((k, x) :: r) = (if k = f then (k, v) :: r else (k, x) :: putF f v r) from rfl]
    by_cases hk : k = f
    · rw [if_pos hk]
      subst hk
      exact ⟨by simp, fun g h => by simpa using h⟩
    · rw [if_neg hk]
      refine ⟨?_, fun g h => ?_⟩
      · rw [List.map_cons]
        exact List.mem_cons_of_mem _ i1
      · rw [List.map_cons] at h ⊢
        rcases List.mem_cons.mp h with e | e
        · exact List.mem_cons.mpr (.inl e)
        · exact List.mem_cons_of_mem _ (i2 g e)
theorem length_putF (f : Str) (v : V) : ∀ fs : List (Str × V), (putF f v fs).length ≤ fs.length + 1
  | [] => by simp [putF]
  | (k, x) :: r => by
    have ih := length_putF f v r
    rw [show putF f v ((k, x) :: r) = (if k = f then (k, v) :: r else (k, x) :: putF f v r) from rfl]
    by_cases hk : k = f
    · rw [if_pos hk, List.length_cons, List.length_cons]; omega
    · rw [if_neg hk, List.length_cons, List.length_cons]; omega

theorem RelO.some_of {v : V} {o : Option Value} (r : RelO (some v) o) : ∃ u, o = some u ∧ RelV v u := by
  cases o with
  | none => exact (show False from r).elim
  | some u => exact ⟨u, rfl, r⟩
theorem RelO.none_of {o : Option Value} (r : RelO none o) : o = none := by
  cases o with
  | none => rfl
  | some u => exact (show False from r).elim
theorem handed_of {v : V} {u : Value} (r : RelV v u) : PySem.W.handedIn u = true := by
  cases v with
  | non => cases (show u = Value.none from r); rfl
  | bl b => cases (show u = Value.bool b from r); rfl
  | int i => obtain ⟨t, e⟩ := (show ∃ t, u = Value.int i t from r); cases e; rfl
  | str x => obtain ⟨t, e⟩ := (show ∃ t, u = Value.str x t from r); cases e; rfl
  | byt b => obtain ⟨t, e⟩ := (show ∃ t, u = Value.bytes b t from r); cases e; rfl
  | flt b => obtain ⟨t, e⟩ := (show ∃ t, u = Value.float b t from r); cases e; rfl
  | ref a => cases (show u = Value.ref a from r); rfl
  | ty n => cases (show u = Value.type n from r); rfl

section
variable {P : Program} {w : World} {H H' : Hp} {h h' : Heap} {a C dx : Addr} {fs fs' : List (Str × V)}
theorem ins_get (hok : HOk P w H h) (e : H a = some (.ins C dx fs)) : ∃ mA, ObjM h a dx C mA ∧ (∀ f, RelO (fs.lookup f) (mA f)) ∧ PySem.Within mA (fs.map (·.1)) ∧ fs.length ≤ 1000 ∧ H dx = some (.own a) := by
  obtain ⟨d, z, ne, ob, mA, n, r, q⟩ := (show ObjOk P w H h a (.ins C dx fs) from hok a _ e)
  exact ⟨mA, ⟨ob, n, ne⟩, r, q, z, d⟩
end

/-! ### what of the text a class must have -/
structure Cls (K : PySem.W.Frag) (C : Addr) : Prop where
  pg : PySem.W.plainGet K C Str.empty = true
  hd : PySem.W.hasDictIn K C = true
  po : PySem.W.plainOver K C = true
  sa : PySem.W.findIn K (.ref C) "__setattr__" = some (some (.builtin "object.__setattr__"))
theorem Cls.get {K : PySem.W.Frag} {C : Addr} (c : Cls K C) (f : Str) : PySem.W.plainGet K C f = true := c.pg
/-- no class of it has the name -/
def NoAttr (K : PySem.W.Frag) (C : Addr) (f : Str) : Prop := PySem.W.findIn K (.ref C) f = some none
theorem NoAttr.taker {K : PySem.W.Frag} {C : Addr} {f : Str} (n : NoAttr K C f) : PySem.W.takerIn K C f = some none := by
  unfold PySem.W.takerIn
  rw [show PySem.W.findIn K (.ref C) f = some none from n]
  rfl
/-- a constant of the class -/
structure Con (K : PySem.W.Frag) (C : Addr) (f : Str) (v : V) (u : Value) : Prop where
  at_ : PySem.W.findIn K (.ref C) f = some (some u)
  rel : RelV v u
  get : PySem.W.specialIn K u "__get__" = some none
  cp : PySem.W.copiedNames.contains f = false
/-- a method: a plain def of the class or of one above it -/
structure Meth (K : PySem.W.Frag) (C : Addr) (m : Str) (f : Addr) : Prop where
  at_ : PySem.W.findIn K (.ref C) m = some (some (.ref f))
  fn : PySem.W.isFn K (.ref f) = true
  kp : PySem.W.keepIn K (.ref f) = true

section
variable {X : Cx} {pins : List (Addr × Obj)} {σ : St} {H : Hp} {s : Shared} {a C dx : Addr} {fs : List (Str × V)} {f : Str} {v : V} {A : Around} {E : Value → Shared → Prop}

theorem getattr_ok {b : Bool} {Q : Value → Shared → Prop} (I : Inv X pins σ H s) (e : H a = some (.ins C dx fs)) (c : Cls X.K C) (n : NoAttr X.K C f) (l : fs.lookup f = some v)
    (h : ∀ u s', Inv X pins σ H s' → RelV v u → Q u s') : wpAny (model X.prog X.w) A (getAttr (.ref a) f b) Q E s := by
  obtain ⟨mA, O, r, _, _, _⟩ := ins_get I.hok e
  obtain ⟨u, hu, ru⟩ := RelO.some_of (v := v) (o := mA f) (by rw [← l]; exact r f)
  exact get_map I.kIn O (c.get f) c.hd n hu (handed_of ru) (h u _ (I.tok _) ru)

theorem getmeth_ok {m : Str} {g : Addr} {pl : Sem Bool} {Q : Value × List Value → Shared → Prop} (I : Inv X pins σ H s) (e : H a = some (.ins C dx fs)) (c : Cls X.K C) (k : Meth X.K C m g) (l : fs.lookup m = none)
    (h : Q (.ref g, [.ref a]) s) : wpAny (model X.prog X.w) A (getMethod (.ref a) m pl) Q E s := by
  obtain ⟨mA, O, r, _, _, _⟩ := ins_get I.hok e
  have hn : mA m = none := RelO.none_of (by rw [← l]; exact r m)
  exact get_meth I.kIn O (c.get m) k.at_ k.fn hn h

theorem setattr_ok {y : V} {u : Value} {Q : Unit → Shared → Prop} (I : Inv X pins σ H s) (e : H a = some (.ins C dx fs)) (c : Cls X.K C) (n : NoAttr X.K C f) (hl : fs.length < 1000) (ry : RelV y u)
    (h : ∀ s', Inv X pins σ (upd H a (.ins C dx (putF f y fs))) s' → Q () s') : wpAny (model X.prog X.w) A (setAttr (.ref a) f u) Q E s := by
  obtain ⟨mA, O, r, wi, _, ho⟩ := ins_get I.hok e
  have hz : (fs.map (·.1)).length ≤ sizeLine := by rw [List.length_map, sizeLine_eq]; omega
  refine set_map I.kIn O c.sa c.po n.taker c.hd wi hz fun h' O' sb => h _ ?_
  have hd : ∃ o, h'.get? dx = some o := let ⟨o, _, _, e', _⟩ := O'.ns; ⟨o, e'⟩
  refine I.write (x := a) (e := dx) (by rw [e]; exact True.intro) (.inr ho) (fun b q hb z => (sb.2 b hb).trans z) hd ?_
  refine ⟨by rw [upd_ne O.ne]; exact ho, ?_, O.ne, O'.obj, _, O'.ns, fun g => ?_, fun g hg => ?_⟩
  · have := length_putF f y fs; omega
  · show RelO ((putF f y fs).lookup g) (if g = f then some u else mA g)
    rw [lookup_putF]
    by_cases q : g = f
    · rw [if_pos q, if_pos q]; exact ry
    · rw [if_neg q, if_neg q]; exact r g
  · by_cases q : g = f
    · rw [q]; exact (keys_putF f y fs).1
    · refine (keys_putF f y fs).2 g (wi g fun z => hg ?_)
      show (if g = f then some u else mA g) = none
      rw [if_neg q]; exact z

/-- a new instance, tracked, without attributes -/
theorem Inv.made (I : Inv X pins σ H s) : Inv X pins σ (upd (upd H s.heap.objs.size (.own (s.heap.objs.size + 1))) (s.heap.objs.size + 1) (.ins C s.heap.objs.size []))
    { s with heap := (s.heap.push PySem.W.emptyDict).push (PySem.W.instObj C s.heap.objs.size) } := by
  have e1 : (s.heap.push PySem.W.emptyDict).get? s.heap.objs.size = some PySem.W.emptyDict := Heap.get?_push_size s.heap rfl
  have e2 : ((s.heap.push PySem.W.emptyDict).push (PySem.W.instObj C s.heap.objs.size)).get? (s.heap.objs.size + 1) = some (PySem.W.instObj C s.heap.objs.size) := by
    have := Heap.get?_push_size (s.heap.push PySem.W.emptyDict) (o := PySem.W.instObj C s.heap.objs.size) rfl
    rwa [Heap.size_push] at this
  have e3 : (s.heap.push PySem.W.emptyDict).Ns s.heap.objs.size (fun _ => none) := ⟨PySem.W.emptyDict, #[], _, e1, rfl, (fun e he => absurd he (by simp)), fun _ => rfl⟩
  have I1 := I.laid (a := s.heap.objs.size) (o := .own (s.heap.objs.size + 1)) (h' := s.heap.push PySem.W.emptyDict) (t' := s.toks) (fun b u q => Heap.get?_push_of_some _ q) (Nat.le_refl _) ⟨_, e1⟩
  refine I1.laid (a := s.heap.objs.size + 1) (o := .ins C s.heap.objs.size []) (t' := s.toks) (fun b u q => Heap.get?_push_of_some _ q) (Nat.le_of_eq (Heap.size_push _ _)) ?_
  have ne : s.heap.objs.size ≠ s.heap.objs.size + 1 := Nat.ne_of_lt (Nat.lt_succ_self _)
  refine ⟨by rw [upd_ne ne, upd_same], Nat.zero_le _, ne, e2, fun _ => none, (Heap.Ns1.of_empty e3).at fun o q => Heap.get?_push_of_some _ q, fun _ => True.intro, fun y hy => absurd rfl hy⟩

/-- e.f where nothing but the object is asked: through attributeBase (super) and the last hold -/
theorem attr_of {prog : Program} {w : World} {env : Env} {e : Expr} {f : Str} {pos : Pos} {s : Shared} {Q : Value → Shared → Prop} (hb : attributeBase e f env (eval e env) = eval e env)
    (h : wpAny (model prog w) A (eval e env) (fun o s₁ => wpAny (model prog w) A (getAttr o f true) Q E s₁) E s) : wpAny (model prog w) A (eval (.Attribute e f pos) env) Q E s :=
  Attribute_any_ h (by rw [arm_eval_Attribute, hb])
end

/-! ### readings and rules -/
/-- e.f, an attribute of the instance -/
def tFld (K : PySem.W.Frag) (ta : TE) (f : Str) : TE := fun σ H Q => ta σ H fun x H1 => ∃ a C dx fs v, x = .ref a ∧ H1 a = some (.ins C dx fs) ∧ Cls K C ∧ NoAttr K C f ∧ fs.lookup f = some v ∧ Q v H1
/-- e.f, a constant of the class -/
def tCon (K : PySem.W.Frag) (ta : TE) (f : Str) : TE := fun σ H Q => ta σ H fun x H1 => ∃ a C dx fs v u, x = .ref a ∧ H1 a = some (.ins C dx fs) ∧ Cls K C ∧ Con K C f v u ∧ fs.lookup f = none ∧ Q v H1
/-- e.f = value -/
def sFld (K : PySem.W.Frag) (ta tv : TE) (f : Str) : TS := fun D σ H => tv σ H fun y H1 => ta σ H1 fun x H2 => ∃ a C dx fs, x = .ref a ∧ H2 a = some (.ins C dx fs) ∧ Cls K C ∧ NoAttr K C f ∧ fs.length < 1000 ∧
  D.nx σ (upd H2 a (.ins C dx (putF f y fs)))
/-- an augmented operator on two values -/
def InOp (X : Cx) (op : Operator) (rd : V → V → Hp → VK → Prop) : Prop :=
  ∀ (pins : List (Addr × Obj)) (s : Shared) (σ : St) (H : Hp) (x y : V) (u v : Value) (Q : VK), Inv X pins σ H s → RelV x u → RelV y v → rd x y H Q → wpAny (model X.prog X.w) X.A (inplaceOp op u v) (EP X pins σ Q) X.xe s
/-- e.f op= value -/
def sFldAug (K : PySem.W.Frag) (ta tv : TE) (rd : V → V → Hp → VK → Prop) (f : Str) : TS := fun D σ H => ta σ H fun x H1 => ∃ a C dx fs v, x = .ref a ∧ H1 a = some (.ins C dx fs) ∧ Cls K C ∧ NoAttr K C f ∧ fs.lookup f = some v ∧
  tv σ H1 fun y H2 => rd v y H2 fun z H3 => ∃ dx' fs', H3 a = some (.ins C dx' fs') ∧ fs'.length < 1000 ∧ D.nx σ (upd H3 a (.ins C dx' (putF f z fs')))

section
variable {X : Cx} {o e value : Expr} {f : Str} {pos pos' tpos : Pos} {ta tv : TE}
theorem pe_fld (he : PE X e ta) (hb : attributeBase e f X.env (eval e X.env) = eval e X.env) : PE X (.Attribute e f pos) (tFld X.K ta f) := by
  intro pins s σ H Q I h
  refine attr_of hb (thn (he pins s σ H _ I h) fun u s1 ⟨x, H1, I1, rx, a, C, dx, fs, v, ex, ea, c, n, l, q⟩ => ?_)
  subst ex
  obtain rfl : u = Value.ref a := rx
  exact getattr_ok I1 ea c n l fun u' s2 I2 ru => ⟨v, H1, I2, ru, q⟩
theorem ps_fld (ha : PE X o ta) (hv : PE X value tv) (hs : swapsWith value (some (.Attribute o f pos')) pos.line X.env = pure false) : PS X (.Assign [.Attribute o f pos'] value pos) (sFld X.K ta tv f) := by
  intro pins s σ H D I h
  refine plainObj_wpAny_Assign_Attribute (thn (hv pins s σ H _ I h) fun u s1 ⟨y, H1, I1, ry, q⟩ => thn (ha pins s1 σ H1 _ I1 q) fun ov s2 ⟨x, H2, I2, rx, a, C, dx, fs, ex, ea, c, n, l, q2⟩ => ?_) hs
  subst ex
  obtain rfl : ov = Value.ref a := rx
  exact setattr_ok I2 ea c n l ry fun s3 I3 => ⟨σ, _, I3, q2⟩
def rAdd : V → V → Hp → VK → Prop := fun x y H Q => ∃ i j, x = .int i ∧ y = .int j ∧ Q (.int (i + j)) H
def rSub : V → V → Hp → VK → Prop := fun x y H Q => ∃ i j, x = .int i ∧ y = .int j ∧ Q (.int (i - j)) H
end

/-! ### isinstance -/
section
variable {X : Cx} {pins : List (Addr × Obj)} {σ : St} {H : Hp} {s : Shared} {A : Around} {E : Value → Shared → Prop} {Q : Value → Shared → Prop} {c : Value} {b : Bool}
/-- the type of a value, as the fragment's deciders take it; for an instance its class -/
inductive TyOf (K : PySem.W.Frag) (H : Hp) : V → Value → Prop where
  | non : TyOf K H .non (.type "NoneType")
  | bl (x : Bool) : TyOf K H (.bl x) (.type "bool")
  | int (i : Int) : TyOf K H (.int i) (.type "int")
  | str (x : Str) : TyOf K H (.str x) (.type "str")
  | flt (x : UInt64) : TyOf K H (.flt x) (.type "float")
  | lst {a : Addr} {xs : List V} (e : H a = some (.lst xs)) : TyOf K H (.ref a) (.type "list")
  | frz {a : Addr} {o : Obj} {xs : List V} (e : H a = some (.frz o (.lst xs))) : TyOf K H (.ref a) (.type "list")
  | tup {a : Addr} {xs : List V} (e : H a = some (.tup xs)) : TyOf K H (.ref a) (.type "tuple")
  | dK {a : Addr} {kvs : List (Key × V)} (e : H a = some (.dK kvs)) : TyOf K H (.ref a) (.type "dict")
  | dT {a : Addr} {kvs : List (List Key × V)} (e : H a = some (.dT kvs)) : TyOf K H (.ref a) (.type "dict")
  | ins {a C dx : Addr} {fs : List (Str × V)} (e : H a = some (.ins C dx fs)) (cl : Cls K C) (ha : PySem.W.findIn K (.ref C) "__class__" = some (some (.builtin "object.__class__")))
      (hn : PySem.W.specialIn K (.builtin "object.__class__") "__get__" = some (some (.builtin "getset_descriptor.__get__"))) (htk : PySem.W.takesIn K (.builtin "object.__class__") = some true)
      (hm : PySem.W.mroIn K C (.type "object") = some true) : TyOf K H (.ref a) (.ref C)
/-- isinstance(x, c) for one class c, a built-in or an own one: kitOne's answer -/
theorem isinst_ok {x : V} {u t : Value} (I : Inv X pins σ H s) (rx : RelV x u) (ty : TyOf X.K H x t) (e : PySem.W.kitOne X.K t c = some b) (h : ∀ tk, Q (.bool b) { s with toks := tk }) :
    wpAny (model X.prog X.w) A (call (.builtin "isinstance") [u, c]) Q E s := by
  cases ty with
  | non => cases (show u = Value.none from rx); exact PySem.W.kia_one PySem.W.kitx_none I.kIn True.intro e (fun z => nomatch z) h
  | bl y => cases (show u = Value.bool y from rx); exact PySem.W.kia_one PySem.W.kitx_bool I.kIn True.intro e (fun z => nomatch z) h
  | int i => obtain ⟨t, q⟩ := (show ∃ t, u = Value.int i t from rx); cases q; exact PySem.W.kia_one PySem.W.kitx_int I.kIn True.intro e (fun z => nomatch z) h
  | str y => obtain ⟨t, q⟩ := (show ∃ t, u = Value.str y t from rx); cases q; exact PySem.W.kia_one PySem.W.kitx_str I.kIn True.intro e (fun z => nomatch z) h
  | flt y => obtain ⟨t, q⟩ := (show ∃ t, u = Value.float y t from rx); cases q; exact PySem.W.kia_one PySem.W.kitx_float I.kIn True.intro e (fun z => nomatch z) h
  | @lst a xs ea =>
    cases (show u = Value.ref a from rx)
    obtain ⟨_, _, n, _, h1⟩ := (show ObjOk X.prog X.w H s.heap a (.lst xs) from I.hok a _ ea)
    exact PySem.W.kia_one PySem.W.kitx_list I.kIn ⟨_, h1, rfl⟩ e (fun z => nomatch z) h
  | @frz a ob xs ea =>
    cases (show u = Value.ref a from rx)
    obtain ⟨_, _, _, n, _, h1⟩ := (show ObjOk X.prog X.w H s.heap a (.frz ob (.lst xs)) from I.hok a _ ea)
    exact PySem.W.kia_one PySem.W.kitx_list I.kIn ⟨_, h1, rfl⟩ e (fun z => nomatch z) h
  | @tup a xs ea =>
    cases (show u = Value.ref a from rx)
    obtain ⟨_, _, _, p⟩ := (show ObjOk X.prog X.w H s.heap a (.tup xs) from I.hok a _ ea)
    obtain ⟨o, h1, h2, _⟩ := p
    exact PySem.W.kia_one PySem.W.kitx_tuple I.kIn ⟨o, h1, h2⟩ e (fun z => nomatch z) h
  | @dK a kvs ea =>
    cases (show u = Value.ref a from rx)
    obtain ⟨_, _, vs, _, p⟩ := (show ObjOk X.prog X.w H s.heap a (.dK kvs) from I.hok a _ ea)
    obtain ⟨o, es, ep, h1, h2, _⟩ := p
    exact PySem.W.kia_one PySem.W.kitx_dict I.kIn ⟨o, h1, h2.1⟩ e (fun z => nomatch z) h
  | @dT a kvs ea =>
    cases (show u = Value.ref a from rx)
    obtain ⟨_, _, xs, _, o, es, ep, h1, h2, _⟩ := (show ObjOk X.prog X.w H s.heap a (.dT kvs) from I.hok a _ ea)
    exact PySem.W.kia_one PySem.W.kitx_dict I.kIn ⟨o, h1, h2.1⟩ e (fun z => nomatch z) h
  | @ins a C dx fs ea cl ha hn htk hm =>
    cases (show u = Value.ref a from rx)
    obtain ⟨mA, O, _⟩ := ins_get I.hok ea
    obtain ⟨od, J, _⟩ := O.look
    exact PySem.W.kia_one (PySem.W.kitx_own (cl.get _) cl.hd ha hn htk hm) I.kIn J e (fun z => nomatch z) h
end
end L2

namespace L2
open PySem PySem.Spec PyProof.Rows

/-! ### room -/
structure Room (k : Nat) (A : Around) : Prop where
  hd : A.handled = none
  dp : A.depth + 3 * k + 5 < recursionLimit
  un : A.units + 16 * k + 200 < cLine
theorem Room.mono {j k : Nat} {A : Around} (r : Room k A) (h : j ≤ k) : Room j A := ⟨r.hd, by have := r.dp; omega, by have := r.un; omega⟩
theorem Room.deeper {k : Nat} {A : Around} (r : Room (k + 1) A) (env : Env) : Room k (A.deeper env) :=
  ⟨r.hd, by have := r.dp; show A.depth + 1 + 3 * k + 5 < _; omega, by have := r.un; show A.units + 3 + 16 * k + 200 < _; omega⟩
theorem Room.in1 {k : Nat} {A : Around} (r : Room (k + 1) A) : Room k A.in1 :=
  ⟨r.hd, by have := r.dp; show A.depth + 3 * k + 5 < _; omega, by have := r.un; show A.units + 1 + 16 * k + 200 < _; omega⟩
theorem make_depth {A : Around} {C : Addr} {us : List Value} {kw : List (Str × Value)} : (A.under (.builtin "type.__call__" ⟨.ref C :: us, kw⟩)).depth = A.depth + 1 := by
  first | rfl | simp [Around.under, Code.weight, Code.isCreation, Code.isGuard, Code.isCaller, Code.frames, Code.isFrame, guardIds]
theorem make_units {A : Around} {C : Addr} {us : List Value} {kw : List (Str × Value)} : (A.under (.builtin "type.__call__" ⟨.ref C :: us, kw⟩)).units = A.units + 1 := by
  first | rfl | simp [Around.under, Code.cUnits, Code.frames, Code.isFrame]
theorem Room.make {k : Nat} {A : Around} (r : Room (k + 1) A) (C : Addr) (us : List Value) (kw : List (Str × Value)) : Room k (A.under (.builtin "type.__call__" ⟨.ref C :: us, kw⟩)) :=
  ⟨r.hd, by have := r.dp; rw [make_depth]; omega, by have := r.un; rw [make_units]; omega⟩
theorem Room.depth {k : Nat} {A : Around} (r : Room k A) : A.depth < recursionLimit := by have := r.dp; omega
theorem Room.units {k : Nat} {A : Around} (r : Room k A) : A.units + 64 < cLine := by have := r.un; omega
theorem Room.units0 {k : Nat} {A : Around} (r : Room k A) : A.units < cLine := by have := r.un; omega

/-! ### argument lists and displays -/
def tNil : TA := fun _ H Q => Q [] H
def tCons (ta : TE) (tr : TA) : TA := fun σ H Q => ta σ H fun x H1 => tr σ H1 fun xs H2 => Q (x :: xs) H2
section
variable {X : Cx} {e : Expr} {es : List Expr} {te : TE} {t : TA} {pos : Pos}
theorem pa_nil : PA X [] tNil := fun _ _ _ _ H Q I h => Calls.spliced_nil ⟨[], H, I, .nil, h⟩
theorem pa_cons (ha : PE X e te) (hr : PA X es t) (hs : starEach (e :: es) X.env = (false, eval e X.env) :: starEach es X.env := by rfl) : PA X (e :: es) (tCons te t) := by
  intro pos pins s σ H Q I h
  rw [hs]
  show wpAny _ _ (spliced ((false, eval e X.env) :: backTo pos (starEach es X.env))) _ _ s
  refine Calls.spliced_cons (thn (ha pins s σ H _ I h) fun u s1 ⟨x, H1, I1, r1, q1⟩ => ?_)
  exact thn (hr pos pins s1 σ H1 _ I1 q1) fun us s2 ⟨xs, H2, I2, r2, q2⟩ => ⟨x :: xs, H2, I2, .cons r1 r2, q2⟩

/-- a tuple, a list of written items -/
def tTup (t : TA) : TE := fun σ H Q => t σ H fun xs H1 => xs.length ≤ sizeLine ∧ ∀ p, H1 p = none → Q (.ref p) (upd H1 p (.tup xs))
def tLst (t : TA) : TE := fun σ H Q => t σ H fun xs H1 => xs.length ≤ sizeLine ∧ ∀ p, H1 p = none → Q (.ref p) (upd H1 p (.lst xs))
theorem pe_tup {x1} (h : PA X es t) : PE X (.Tuple es x1 pos) (tTup t) := by
  intro pins s σ H Q I hq
  refine wpAny_Tuple_spliced (thn (h pos pins s σ H _ I hq) fun us s1 ⟨xs, H1, I1, r, z, q⟩ => ⟨by rw [← r.length]; exact z, ?_⟩)
  have hf : H1 s1.heap.objs.size = none := I1.hok.fresh (Nat.le_refl _)
  refine ⟨.ref s1.heap.objs.size, upd H1 s1.heap.objs.size (.tup xs), I1.laid (t' := s1.toks) (fun b u e => Heap.get?_push_of_some _ e) (Nat.le_refl _) ?_, rfl, q _ hf⟩
  exact ⟨z, us, r, ⟨_, Heap.get?_push_size _ rfl, rfl, _, rfl⟩⟩
theorem pe_lst (h : PA X es t) : PE X (.List es pos) (tLst t) := by
  intro pins s σ H Q I hq
  refine wpAny_List_spliced (thn (h pos pins s σ H _ I hq) fun us s1 ⟨xs, H1, I1, r, z, q⟩ => ⟨by rw [← r.length]; exact z, ?_⟩)
  have hf : H1 s1.heap.objs.size = none := I1.hok.fresh (Nat.le_refl _)
  refine ⟨.ref s1.heap.objs.size, upd H1 s1.heap.objs.size (.lst xs), I1.laid (t' := s1.toks) (fun b u e => Heap.get?_push_of_some _ e) (Nat.le_refl _) ?_, rfl, q _ hf⟩
  exact ⟨z, us, 0, r, Heap.get?_push_size _ rfl⟩
end

/-! ### what a def promises -/
/-- a def's promise: the bound arguments in the parameters' order, the heap, the wanted end, the wanted exception -/
abbrev Sp := List V → Hp → VK → XK → Prop
/-- how an exception lies behind a call (file 08 gives it): the callers' frames, abstract heap and state ahead of the call, the wish, the exception, the state -/
abbrev CXT := List Env → Hp → Shared → XK → Value → Shared → Prop

/-- the state at a call -/
structure Env0 (P : Program) (w : World) (K : PySem.W.Frag) (mg : Str → Option Value) (base : Heap) (A : Around) (outer : List Env) (s : Shared) (H : Hp) : Prop where
  frames : A.frames = some outer
  mod : Mod K mg base
  bs : ∀ b o, base.get? b = some o → s.heap.get? b = some o ∧ H b = none
  bsz : base.objs.size ≤ s.heap.objs.size
  funs : s.heap.FunFrames base outer
  frf : ∀ b ∈ frs outer, H b = none
  hok : HOk P w H s.heap
  bare : AllBare s.gens
/-- a call's end -/
def CE (outer : List Env) (P : Program) (w : World) (H : Hp) (s : Shared) (Q : VK) (u : Value) (s' : Shared) : Prop :=
  ∃ v H', s'.os = s.os ∧ AllBare s'.gens ∧ Un (frs outer) [] H H' s.heap s'.heap ∧ HOk P w H' s'.heap ∧ RelV v u ∧ Q v H'
def CR (CX : CXT) (outer : List Env) (P : Program) (w : World) (H : Hp) (s : Shared) (Q : VK) (E : XK) (r : Result) (s' : Shared) : Prop :=
  match r with
  | .ok (.ret u) => CE outer P w H s Q u s'
  | .ok _ => False
  | .error e => CX outer H s E e s'
structure FnOk (P : Program) (w : World) (K : PySem.W.Frag) (mg : Str → Option Value) (base : Heap) (CX : CXT) (k : Nat) (f : Addr) (fd : FuncData) (ps : List Str) (sp : Sp) : Prop where
  len : ∀ vs H Q E, sp vs H Q E → vs.length = ps.length
  run : ∀ (A : Around) (outer : List Env) (s : Shared) (H : Hp) (args : Args) (us : List Value) (vs : List V) (Q : VK) (E : XK), Room k A → Env0 P w K mg base A outer s H → BindsTo s fd args (ps.zip us) → Vals vs us → sp vs H Q E →
    codeAny (model P w) A (.call (.ref f) args) (CR CX outer P w H s Q E) s
theorem FnOk.mono {P : Program} {w : World} {K : PySem.W.Frag} {mg : Str → Option Value} {base : Heap} {CX : CXT} {j k : Nat} {f : Addr} {fd : FuncData} {ps : List Str} {sp : Sp} (F : FnOk P w K mg base CX j f fd ps sp) (h : j ≤ k) :
    FnOk P w K mg base CX k f fd ps sp := ⟨F.len, fun A outer s H args us vs Q E hr => F.run A outer s H args us vs Q E (hr.mono h)⟩
theorem Env0.make {P : Program} {w : World} {K : PySem.W.Frag} {mg : Str → Option Value} {base : Heap} {A : Around} {outer : List Env} {s : Shared} {H : Hp} (e : Env0 P w K mg base A outer s H) (C : Addr) (us : List Value) (kw : List (Str × Value)) :
    Env0 P w K mg base (A.under (.builtin "type.__call__" ⟨.ref C :: us, kw⟩)) outer s H := ⟨by first | exact e.frames | (simpa [Around.under, Code.envs, Code.isFrame, pushEnvs] using e.frames), e.mod, e.bs, e.bsz, e.funs, e.frf, e.hok, e.bare⟩
theorem Env0.in1 {P : Program} {w : World} {K : PySem.W.Frag} {mg : Str → Option Value} {base : Heap} {A : Around} {outer : List Env} {s : Shared} {H : Hp} (e : Env0 P w K mg base A outer s H) :
    Env0 P w K mg base A.in1 outer s H := ⟨e.frames, e.mod, e.bs, e.bsz, e.funs, e.frf, e.hok, e.bare⟩

section
variable {X : Cx} {pins : List (Addr × Obj)} {σ : St} {H : Hp} {s s' : Shared}
/-- from a body: what a callee wants -/
theorem Inv.env0 (I : Inv X pins σ H s) : Env0 X.prog X.w X.K X.mg X.base X.A X.stack s H :=
  ⟨I.ok.frames, I.ok.mod, I.bs, Nat.le_trans I.ok.bsz I.sz, I.stack, I.stkFree, I.hok, I.bare⟩
/-- behind a call -/
theorem Inv.after {Q : VK} {u : Value} (I : Inv X pins σ H s) (h : CE X.stack X.prog X.w H s Q u s') : EP X pins σ Q u s' := by
  obtain ⟨v, H', os, bare, un, hok, r, q⟩ := h
  obtain ⟨hh, g, d, t, os'⟩ := s'
  obtain rfl : os' = s.os := os
  exact ⟨v, H', I.call (h' := hh) (g' := g) (d' := d) (t' := t) (ch := []) un hok bare (fun b z => absurd z (by simp)), r, q⟩
end

/-! ### calls -/
/-- f(..): the written arguments, then the defaults dvs; E: what is wanted of an exception -/
def tCall (sp : Sp) (dvs : List V) (E : XK) (t : TA) : TE := fun σ H Q => t σ H fun vs H1 => sp (vs ++ dvs) H1 Q E
/-- o.m(..) of an instance of the class at C -/
def tMeth (C : Addr) (m : Str) (sp : Sp) (dvs : List V) (E : XK) (ta : TE) (t : TA) : TE := fun σ H Q => ta σ H fun x H1 => ∃ a dx fs, x = .ref a ∧ H1 a = some (.ins C dx fs) ∧ fs.lookup m = none ∧
  t σ H1 fun vs H2 => sp (x :: (vs ++ dvs)) H2 Q E
/-- C(..): a new instance and its dict, then __init__ -/
def tMake (C : Addr) (sp : Sp) (dvs : List V) (E : XK) (t : TA) : TE := fun σ H Q => t σ H fun vs H1 => ∀ x dx, H1 x = none → H1 dx = none → dx ≠ x →
  sp (.ref x :: (vs ++ dvs)) (upd (upd H1 dx (.own x)) x (.ins C dx [])) (fun v H2 => v = .non ∧ Q (.ref x) H2) E

/-- how the parameters are bound: us the positional arguments, kw the keywords' values by name, ds the defaults that fill up -/
def Binds (K : PySem.W.Frag) (fd : FuncData) (ps : List Str) (ds : List Value) : Prop :=
  ∀ (s : Shared) (us : List Value), K.In s.heap → (us ++ ds).length = ps.length → BindsTo s fd ⟨us, []⟩ (ps.zip (us ++ ds))
/-- every parameter is given -/
theorem Binds.all {K : PySem.W.Frag} {fd : FuncData} {ps : List Str} (h : ∀ us : List Value, us.length = ps.length → bindArgs fd ⟨us, []⟩ = pure (ps.zip us)) : Binds K fd ps [] := fun s us _ hl => by
  rw [List.append_nil] at hl ⊢
  exact .of_eq (h us hl)

/-- an exception of a callee reaches what this body wants of exceptions -/
def Passes (CX : CXT) (X : Cx) (E : XK) : Prop := ∀ (pins : List (Addr × Obj)) (σ : St) (H : Hp) (s : Shared) (e : Value) (s' : Shared), Inv X pins σ H s → CX X.stack H s E e s' → X.xe e s'

section
variable {X : Cx} {CX : CXT} {k : Nat} {f C : Addr} {fd : FuncData} {ps : List Str} {sp : Sp} {dvs : List V} {ds : List Value} {E : XK} {x m : Str} {p pos apos : Pos} {e o : Expr} {es : List Expr} {ta : TE} {t : TA}

/-- the callee runs -/
theorem run_fn {pins : List (Addr × Obj)} {σ : St} {H : Hp} {s : Shared} {Q : VK} {us : List Value} {vs : List V} (F : FnOk X.prog X.w X.K X.mg X.base CX k f fd ps sp) (hr : Room k X.A) (hb : Binds X.K fd ps ds) (hd : Vals dvs ds) (hx : Passes CX X E)
    (I : Inv X pins σ H s) (r : Vals vs us) (h : sp (vs ++ dvs) H Q E) : wpAny (model X.prog X.w) X.A (call (.ref f) us) (EP X pins σ Q) X.xe s := by
  have r2 : Vals (vs ++ dvs) (us ++ ds) := r.append hd
  have hl : (us ++ ds).length = ps.length := by rw [← r2.length]; exact F.len _ _ _ _ h
  refine wpAny_call (codeAny_mono (F.run X.A X.stack s H ⟨us, []⟩ (us ++ ds) (vs ++ dvs) Q E hr I.env0 (hb s us I.kIn hl) r2 h) fun r s' hq => ?_)
  cases r with
  | error e => exact hx pins σ H s e s' I hq
  | ok fl =>
    cases fl with
    | ret u => exact I.after hq
    | next => exact False.elim hq
    | brk => exact False.elim hq
    | cont => exact False.elim hq

theorem pe_call (F : FnOk X.prog X.w X.K X.mg X.base CX k f fd ps sp) (hr : Room k X.A) (hg : Gl X x) (hm : X.mg x = some (.ref f)) (hk : PySem.W.keepIn X.K (.ref f) = true) (hb : Binds X.K fd ps ds) (hd : Vals dvs ds) (hx : Passes CX X E)
    (ha : PA X (e :: es) t) (hdb : (x == ("__debug__" : Str)) = false := by decide) (he : starEach (e :: es) X.env = (false, eval e X.env) :: starEach es X.env := by rfl) (hpl : (backTo pos (starEach es X.env)).any (·.1) = false := by rfl) :
    PE X (.Call (.Name x p) (e :: es) [] pos) (tCall sp dvs E t) := by
  intro pins s σ H Q I h
  refine wpAny_Call_Name_kw (ld_glob I hg hm ?_ hdb)
  refine PySem.W.callWith_K (h₀ := X.base) I.ok.mod.kin hk (thn (ha pos pins s σ H _ I h) fun us s1 ⟨vs, H1, I1, r, q⟩ => ⟨I1.kIn, ?_⟩) he hpl
  exact run_fn F hr hb hd hx I1 r q
/-- o.m(e, ..) -/
theorem pe_meth {pl : Sem Bool} (he : PE X o ta) (c : Cls X.K C) (hm : Meth X.K C m f) (F : FnOk X.prog X.w X.K X.mg X.base CX k f fd ps sp) (hr : Room k X.A) (hb : Binds X.K fd ps ds) (hd : Vals dvs ds) (hx : Passes CX X E) (ha : PA X (e :: es) t)
    (hst : starEach (e :: es) X.env = (false, eval e X.env) :: starEach es X.env := by rfl) (hpl : (backTo pos (starEach es X.env)).any (·.1) = false := by rfl)
    (ht : eval (.Call (.Attribute o m apos) (e :: es) [] pos) X.env = (do
      let ov ← eval o X.env
      standAt apos.atName
      let (f, first) ← holding [ov] (getMethod ov m pl)
      callWith pos f first (backTo pos (starEach (e :: es) X.env)) (backToKw pos (keywordEach [] X.env))) := by rfl) :
    PE X (.Call (.Attribute o m apos) (e :: es) [] pos) (tMeth C m sp dvs E ta t) := by
  intro pins s σ H Q I h
  refine PySem.W.methodCall_KW (pl := pl) (thn (he pins s σ H _ I h) fun u s1 ⟨x, H1, I1, rx, a, dx, fs, ex, ea, l, q⟩ => ?_) ht
  subst ex
  obtain rfl : u = Value.ref a := rx
  refine getmeth_ok I1 ea c hm l ?_
  refine PySem.W.callWith_K (first := [.ref a]) (h₀ := X.base) I.ok.mod.kin hm.kp (thn (ha pos pins s1 σ H1 _ I1 q) fun us s2 ⟨vs, H2, I2, r, q2⟩ => ⟨I2.kIn, ?_⟩) hst hpl
  exact run_fn (us := .ref a :: us) (vs := .ref a :: vs) F hr hb hd hx I2 (.cons rfl r) q2
/-- what a class must have to be made -/
structure Mk (K : PySem.W.Frag) (C f : Addr) : Prop where
  makes : PySem.W.makesIn K C = true
  init : PySem.W.findIn K (.ref C) "__init__" = some (some (.ref f))
  fn : PySem.W.isFn K (.ref f) = true
  kp : PySem.W.keepIn K (.ref C) = true

theorem run_make {pins : List (Addr × Obj)} {σ : St} {H : Hp} {s : Shared} {Q : VK} {us : List Value} {vs : List V} (M : Mk X.K C f) (F : FnOk X.prog X.w X.K X.mg X.base CX k f fd ps sp) (hr : Room (k + 1) X.A) (hb : Binds X.K fd ps ds) (hd : Vals dvs ds)
    (hx : Passes CX X E) (I : Inv X pins σ H s) (r : Vals vs us)
    (h : ∀ x dx, H x = none → H dx = none → dx ≠ x → sp (.ref x :: (vs ++ dvs)) (upd (upd H dx (.own x)) x (.ins C dx [])) (fun v H2 => v = .non ∧ Q (.ref x) H2) E) :
    wpAny (model X.prog X.w) X.A (call (.ref C) us) (EP X pins σ Q) X.xe s := by
  have hq := h (s.heap.objs.size + 1) s.heap.objs.size (I.hok.fresh (Nat.le_succ _)) (I.hok.fresh (Nat.le_refl _)) (Nat.ne_of_lt (Nat.lt_succ_self _))
  have I2 := Inv.made (C := C) I
  have r2 : Vals (V.ref (s.heap.objs.size + 1) :: (vs ++ dvs)) (Value.ref (s.heap.objs.size + 1) :: (us ++ ds)) := .cons rfl (r.append hd)
  have hl : (Value.ref (s.heap.objs.size + 1) :: us ++ ds).length = ps.length := by
    have e := r2.length
    rw [F.len _ _ _ _ hq] at e
    exact e.symm
  refine wpAny_call (make_map (f := f) I.kIn M.makes M.init (beq_iff_eq.mp M.fn) (codeAny_mono (F.run _ X.stack _ _ ⟨Value.ref (s.heap.objs.size + 1) :: us, []⟩ (Value.ref (s.heap.objs.size + 1) :: (us ++ ds)) _ _ E (hr.make C us [])
    (I2.env0.make C us []) (hb _ (Value.ref (s.heap.objs.size + 1) :: us) I2.kIn hl) r2 hq) fun r s' hq' => ?_))
  cases r with
  | error e => exact hx pins σ _ _ e s' I2 hq'
  | ok fl =>
    cases fl with
    | ret u =>
      obtain ⟨v, H', I3, rv, ev, q3⟩ := I2.after hq'
      subst ev
      exact ⟨rv, ⟨V.ref (s.heap.objs.size + 1), H', I3, rfl, q3⟩⟩
    | next => exact False.elim hq'
    | brk => exact False.elim hq'
    | cont => exact False.elim hq'
theorem pe_make (M : Mk X.K C f) (F : FnOk X.prog X.w X.K X.mg X.base CX k f fd ps sp) (hr : Room (k + 1) X.A) (hg : Gl X x) (hm : X.mg x = some (.ref C)) (hb : Binds X.K fd ps ds) (hd : Vals dvs ds) (hx : Passes CX X E)
    (ha : PA X (e :: es) t) (hdb : (x == ("__debug__" : Str)) = false := by decide) (he : starEach (e :: es) X.env = (false, eval e X.env) :: starEach es X.env := by rfl) (hpl : (backTo pos (starEach es X.env)).any (·.1) = false := by rfl) :
    PE X (.Call (.Name x p) (e :: es) [] pos) (tMake C sp dvs E t) := by
  intro pins s σ H Q I h
  refine wpAny_Call_Name_kw (ld_glob I hg hm ?_ hdb)
  refine PySem.W.callWith_K (h₀ := X.base) I.ok.mod.kin M.kp (thn (ha pos pins s σ H _ I h) fun us s1 ⟨vs, H1, I1, r, q⟩ => ⟨I1.kIn, ?_⟩) he hpl
  exact run_make M F hr hb hd hx I1 r q
end

/-! ### keywords -/
/-- the values of the keywords, from the left -/
def PK (X : Cx) (kws : List Keyword) (t : TA) : Prop :=
  ∀ (pos : Pos) (pins : List (Addr × Obj)) (s : Shared) (σ : St) (H : Hp) (Q : List V → Hp → Prop), Inv X pins σ H s → t σ H Q → wpAny (model X.prog X.w) X.A (evalAll ((backToKw pos (keywordEach kws X.env)).map (·.2))) (AP X pins σ Q) X.xe s
section
variable {X : Cx} {CX : CXT} {k : Nat} {f C : Addr} {fd : FuncData} {ps ks : List Str} {sp : Sp} {E : XK} {x m : Str} {p pos apos kpos : Pos} {e o : Expr} {es : List Expr} {kws : List Keyword} {te ta : TE} {t tk : TA} {nm : Option Str}
/-- how a call with keywords binds: g puts the positional values us and the keywords' values ws (names ks) in the parameters' order, defaults among them -/
structure KBinds (K : PySem.W.Frag) (fd : FuncData) (ps ks : List Str) (g : List Value → List Value → List Value) (gV : List V → List V → List V) : Prop where
  to : ∀ (s : Shared) (us ws : List Value), K.In s.heap → (g us ws).length = ps.length → BindsTo s fd ⟨us, ks.zip ws⟩ (ps.zip (g us ws))
  rel : ∀ {vs : List V} {us : List Value} {zs : List V} {ws : List Value}, Vals vs us → Vals zs ws → Vals (gV vs zs) (g us ws)
def tCallK (sp : Sp) (gV : List V → List V → List V) (E : XK) (t tk : TA) : TE := fun σ H Q => t σ H fun vs H1 => tk σ H1 fun zs H2 => sp (gV vs zs) H2 Q E
variable {g : List Value → List Value → List Value} {gV : List V → List V → List V}
end

/-! ### a def's body keeps its promise -/
/-- names: the parameters first -/
structure FnScope (N P : List Str) (sc : Scope) : Prop where
  kind : sc.kind = .function
  co : sc.isCoroutine = false
  gen : sc.isGenerator = false
  nd : N.Nodup
  pre : N.take P.length = P
  par : ∀ x ∈ P, sc.names.lookup x = some .local ∨ sc.names.lookup x = some .cell
  nofree : ∀ y ∈ sc.names, y.2 ≠ .free

theorem bindL_out {kindOf : Str → Option NameKind} {x : Str} : ∀ {binds : List (Str × Value)} {m : Str → Option Value}, (∀ v, (x, v) ∉ binds) → bindL kindOf binds m x = m x
  | [], _, _ => rfl
  | (n, v) :: r, m, h => by
    unfold bindL
    rw [bindL_out fun w hw => h w (List.mem_cons_of_mem _ hw)]
    split
    · have : x ≠ n := by rintro rfl; exact h v List.mem_cons_self
      simp [this]
    · rfl
theorem bindC_out {kindOf : Str → Option NameKind} {x : Str} : ∀ {binds : List (Str × Value)} {m : Str → Option Value}, (∀ v, (x, v) ∉ binds) → bindC kindOf binds m x = m x
  | [], _, _ => rfl
  | (n, v) :: r, m, h => by
    unfold bindC
    rw [bindC_out fun w hw => h w (List.mem_cons_of_mem _ hw)]
    split
    · rfl
    · have : x ≠ n := by rintro rfl; exact h v List.mem_cons_self
      simp [this]
theorem bindL_get {kindOf : Str → Option NameKind} {x : Str} {v : Value} : ∀ {P : List Str} {vs : List Value} {i : Nat} {m : Str → Option Value}, P.Nodup → P[i]? = some x → vs[i]? = some v → kindOf x = some .local →
    bindL kindOf (P.zip vs) m x = some v
  | [], _, _, _, _, h, _, _ => by simp at h
  | _ :: _, [], _, _, _, _, h, _ => by simp at h
  | p :: P, w :: vs, 0, m, nd, h1, h2, hk => by
    simp at h1 h2; subst h1; subst h2
    show bindL kindOf ((p, w) :: P.zip vs) m p = _
    unfold bindL
    rw [bindL_out fun v hv => (List.nodup_cons.mp nd).1 (List.of_mem_zip hv).1, if_pos hk]
    simp
  | p :: P, w :: vs, i + 1, m, nd, h1, h2, hk => by
    show bindL kindOf ((p, w) :: P.zip vs) m x = _
    unfold bindL
    exact bindL_get (i := i) (List.nodup_cons.mp nd).2 (by simpa using h1) (by simpa using h2) hk
theorem bindC_get {kindOf : Str → Option NameKind} {x : Str} {v : Value} : ∀ {P : List Str} {vs : List Value} {i : Nat} {m : Str → Option Value}, P.Nodup → P[i]? = some x → vs[i]? = some v → kindOf x ≠ some .local →
    bindC kindOf (P.zip vs) m x = some v
  | [], _, _, _, _, h, _, _ => by simp at h
  | _ :: _, [], _, _, _, _, h, _ => by simp at h
  | p :: P, w :: vs, 0, m, nd, h1, h2, hk => by
    simp at h1 h2; subst h1; subst h2
    show bindC kindOf ((p, w) :: P.zip vs) m p = _
    unfold bindC
    rw [bindC_out fun v hv => (List.nodup_cons.mp nd).1 (List.of_mem_zip hv).1, if_neg hk]
    simp
  | p :: P, w :: vs, i + 1, m, nd, h1, h2, hk => by
    show bindC kindOf ((p, w) :: P.zip vs) m x = _
    unfold bindC
    exact bindC_get (i := i) (List.nodup_cons.mp nd).2 (by simpa using h1) (by simpa using h2) hk

/-- the names' values at the entry -/
def start (N : List Str) (vs : List V) : St := vs.map some ++ List.replicate (N.length - vs.length) none

/-- the context of a def's body, at its entry; an exception leaves the frame, then lies as CX says -/
def cxOf (CX : CXT) (P : Program) (w : World) (K : PySem.W.Frag) (mg : Str → Option Value) (base : Heap) (N : List Str) (qual : Str) (scope : Scope) (f : Addr) (cd : Value) (A : Around) (outer : List Env) (s : Shared) (H : Hp) (E : XK) : Cx where
  prog := P
  w := w
  K := K
  mg := mg
  base := base
  A := A.deeper (envOfC qual scope s.heap.objs.size f cd)
  N := N
  s₀ := s
  H₀ := H
  env := envOfC qual scope s.heap.objs.size f cd
  outer := outer
  stack := envOfC qual scope s.heap.objs.size f cd :: outer
  ex := []
  calm := true
  fn := fun _ => true
  pn := []
  xe := fun e s' => wpAny (model P w) (A.deeper (envOfC qual scope s.heap.objs.size f cd)) (leaving (envOfC qual scope s.heap.objs.size f cd) e) (fun _ s'' => CX outer H s E e s'') (fun e' s'' => CX outer H s E e' s'') s'

theorem cell_has {sc : Scope} {n : Nat} {x : Str} (h : sc.names.lookup x = some .cell) : ∃ c, (cellsFrom n sc.names []).lookup x = some c := by
  have q := PySem.W.cellsFrom_some sc.names n [] (.inl h)
  exact Option.isSome_iff_exists.mp q

theorem inv_start {CX : CXT} {P : Program} {w : World} {K : PySem.W.Frag} {mg : Str → Option Value} {base : Heap} {N ps : List Str} {qual : Str} {scope : Scope} {f : Addr} {cd : Value} {A : Around} {outer : List Env} {s s1 : Shared} {H : Hp} {E : XK} {us : List Value} {vs : List V}
    (S : FnScope N ps scope) (hd : A.handled = none) (e0 : Env0 P w K mg base A outer s H) (hl : vs.length = ps.length) (r : Vals vs us)
    (x : InCallC s s.heap.objs.size (bindL (envOfC qual scope s.heap.objs.size f cd).kindOf (ps.zip us) fun _ => none) (cellsFrom (s.heap.objs.size + 1) scope.names []) (bindC (envOfC qual scope s.heap.objs.size f cd).kindOf (ps.zip us) fun _ => none) s1) :
    Inv (cxOf CX P w K mg base N qual scope f cd A outer s H E) [] (start N vs) H s1 := by
  have hpl : ps.length ≤ N.length := by have := congrArg List.length S.pre; rw [List.length_take] at this; omega
  obtain ⟨h1, tk, rfl, hk⟩ := x.done
  have noA : ∀ b : Addr, b ∉ (cxOf CX P w K mg base N qual scope f cd A outer s H E).ex := fun b z => absurd (show b ∈ ([] : List Addr) from z) (by simp)
  refine ⟨⟨e0.mod, S.kind, rfl, rfl, Nat.le_refl _, fun y z c h1 h2 => ?_, fun y hy => ?_, fun y c _ h => ?_, fun _ => hd, Around.frames_deeper e0.frames, .inr ⟨rfl, rfl⟩, fun b z => absurd z (noA b), e0.bs, e0.bsz, fun b _ _ => noA b, fun b z => absurd z (noA b), e0.funs, e0.frf⟩,
    rfl, e0.bare, Un.kept hk, ⟨_, x.toInCall.ns, fun i y v h1 h2 h3 => ?_⟩, fun y c h => ⟨_, x.cell y c h⟩, e0.hok.fresh (Nat.le_refl _), fun y c h => ?_, fun p hp => absurd (show p ∈ ([] : List (Addr × Obj)) from hp) (by simp), e0.hok.kept hk, ?_⟩
  · exact name_of_addr x.apart (PySem.mem_of_lookup h1) (PySem.mem_of_lookup h2)
  · have hy : scope.names.lookup y = some .cell ∨ scope.names.lookup y = some .free := hy
    rcases hy with hy | hy
    · exact cell_has hy
    · exact absurd rfl (S.nofree _ (PySem.mem_of_lookup hy))
  · exact Nat.le_of_lt (x.above y c (PySem.mem_of_lookup h))
  · have hi : i < vs.length := by
      unfold start at h2
      by_cases hi : i < vs.length
      · exact hi
      · rw [List.getElem?_append_right (by simpa using hi)] at h2
        rw [List.getElem?_replicate] at h2
        split at h2 <;> cases h2
    have ha : vs[i]? = some v := by
      unfold start at h2
      rw [List.getElem?_append_left (by simpa using hi), List.getElem?_map] at h2
      cases e : vs[i]? with
      | none => rw [e] at h2; cases h2
      | some a => rw [e] at h2; cases h2; rfl
    obtain ⟨u, hu, rv⟩ := r.get ha
    have hp : ps[i]? = some y := by
      rw [← S.pre, List.getElem?_take_of_lt (by omega)]; exact h1
    have ndP : ps.Nodup := by rw [← S.pre]; exact S.nd.sublist (List.take_sublist _ _)
    refine ⟨u, rv, ?_⟩
    rcases S.par y (List.mem_of_getElem? hp) with k | k
    · exact .inl ⟨k, bindL_get ndP hp hu k⟩
    · obtain ⟨c, e⟩ := cell_has (n := s.heap.objs.size + 1) k
      refine .inr ⟨.inl k, c, e, ?_⟩
      have q := x.cell y c e
      rw [bindC_get ndP hp hu (by show scope.names.lookup y ≠ _; rw [k]; decide)] at q
      exact q
  · exact e0.hok.fresh (Nat.le_of_lt (x.above y c (PySem.mem_of_lookup h)))
  · unfold start
    show _ = N.length
    rw [List.length_append, List.length_map, List.length_replicate]
    omega

/-- THE RULE: a def (or a method) of the text, by its body. The body's reading t is chosen for each entry; it is run at the parameters' values -/
theorem fn_of {CX : CXT} {P : Program} {w : World} {K : PySem.W.Frag} {mg : Str → Option Value} {base : Heap} {k : Nat} {f : Addr} {name qual : Str} {params : Arguments} {body : List Stmt} {scope : Scope} {dV kV doc pm cdv ct oc : Value} {an od : Option Addr}
    {osl : Array (Option Value)} {N ps : List Str} {sp : Sp} (lk : K.lookup f = some ⟨oc, od, .func (PySem.W.fnOf name qual params body scope dV kV doc pm an cdv ct), osl⟩) (hcd : PySem.W.codeIn K cdv qual = true) (S : FnScope N ps scope)
    (len : ∀ vs H Q E, sp vs H Q E → vs.length = ps.length)
    (hbody : ∀ (A : Around) (outer : List Env) (s : Shared) (H : Hp) (vs : List V) (Q : VK) (E : XK), Room k (A.deeper (envOfC qual scope s.heap.objs.size f cdv)) → sp vs H Q E →
      ∃ t, PSs (cxOf CX P w K mg base N qual scope f cdv A outer s H E) body t ∧ t { nx := fun _ H' => Q .non H', rt := Q } (start N vs) H) :
    FnOk P w K mg base CX (k + 1) f (PySem.W.fnOf name qual params body scope dV kV doc pm an cdv ct) ps sp := by
  refine ⟨len, fun A outer s H args us vs Q E hr e0 hb r hsp => ?_⟩
  have hl := len _ _ _ _ hsp
  have KX : K.In s.heap := e0.mod.kin.keeps fun b o e => (e0.bs b o e).1
  have lim : s.heap.NoLimit := e0.mod.nolimit.keeps fun b o e => (e0.bs b o e).1
  have hkind : ∀ y ∈ ps.zip us, scope.names.lookup y.1 = some .local ∨ (scope.names.lookup y.1 = some .cell ∧ ((cellsFrom (s.heap.objs.size + 1) scope.names []).lookup y.1).isSome = true) := fun ⟨n, v⟩ hy => by
    rcases S.par n (List.of_mem_zip hy).1 with q | q
    · exact .inl q
    · exact .inr ⟨q, PySem.W.cellsFrom_some _ _ _ (.inl q)⟩
  refine codeAny_call_function hr.depth (KX _ _ lk) rfl S.co S.gen rfl (PySem.W.codeRec_of KX hcd) (hb _ _ _ _ ?_)
  refine wpAny_newFunctionEnv_cells S.kind hkind fun env he s1 x => ?_
  subst he
  refine ⟨lim.keeps x.toInCall.keep, codeAny_func ?_⟩
  obtain ⟨t, ht, hq⟩ := hbody A outer s H vs Q E (hr.deeper _) hsp
  have I : Inv (cxOf CX P w K mg base N qual scope f cdv A outer s H E) [] (start N vs) H s1 := inv_start S hr.hd e0 hl r x
  refine wpAny_mono (ht [] s1 (start N vs) H _ I hq) (fun fl s' hs => ?_) fun e s' hs => hs
  have fin : ∀ {σ' : St} {H' : Hp} {v : V} {u : Value}, Inv (cxOf CX P w K mg base N qual scope f cdv A outer s H E) [] σ' H' s' → RelV v u → Q v H' → CE outer P w H s Q u s' :=
    fun {σ' H' v u} J rv q => ⟨v, H', J.os, J.bare, J.base, J.hok, rv, q⟩
  cases fl with
  | ret u =>
    obtain ⟨v, σ', H', J, rv, q⟩ := hs
    exact fin J rv q
  | next =>
    obtain ⟨σ', H', J, q⟩ := hs
    exact fin (v := V.non) (u := Value.none) J rfl q
  | brk =>
    obtain ⟨_, _, _, q⟩ := hs
    exact False.elim q
  | cont =>
    obtain ⟨_, _, _, q⟩ := hs
    exact False.elim q
end L2

namespace L2
open PySem PySem.Spec PyProof.Rows
section
variable {X : Cx} {x : Str} {p pos : Pos} {e : Expr} {es : List Expr} {t : TA} {id T : String} {r : List V → Hp → VK → Prop}

def tCB (r : List V → Hp → VK → Prop) (t : TA) : TE := fun σ H Q => t σ H fun vs H1 => r vs H1 Q
/-- f(e, ..), f a built-in function -/
theorem pe_callB (hc : CallR X (.builtin id) r) (hg : Gl X x) (hm : X.mg x = none) (hv : bootBuiltins x = some (.builtin id)) (ha : PA X (e :: es) t) (hn : x ≠ "__name__" := by decide) (hdb : (x == ("__debug__" : Str)) = false := by decide)
    (he : starEach (e :: es) X.env = (false, eval e X.env) :: starEach es X.env := by rfl) (hpl : (backTo pos (starEach es X.env)).any (·.1) = false := by rfl) : PE X (.Call (.Name x p) (e :: es) [] pos) (tCB r t) := by
  intro pins s σ H Q I h
  refine wpAny_Call_Name_kw (ld_blt I hg hm hv ?_ hn hdb)
  exact PyProof.Rows.callWith_builtin1 (thn (ha pos pins s σ H _ I h) fun us s1 ⟨vs, H1, I1, r1, q1⟩ => hc pins s1 σ H1 vs us Q I1 r1 q1) he hpl
/-- T(e, ..), T a built-in type -/
theorem pe_callTy (hc : CallR X (.type T) r) (hg : Gl X x) (hm : X.mg x = none) (hv : bootBuiltins x = some (.type T)) (ha : PA X (e :: es) t) (hn : x ≠ "__name__" := by decide) (hdb : (x == ("__debug__" : Str)) = false := by decide)
    (he : starEach (e :: es) X.env = (false, eval e X.env) :: starEach es X.env := by rfl) (hpl : (backTo pos (starEach es X.env)).any (·.1) = false := by rfl) : PE X (.Call (.Name x p) (e :: es) [] pos) (tCB r t) := by
  intro pins s σ H Q I h
  refine wpAny_Call_Name_kw (ld_blt I hg hm hv ?_ hn hdb)
  exact PyProof.Rows.callWith_type1 (thn (ha pos pins s σ H _ I h) fun us s1 ⟨vs, H1, I1, r1, q1⟩ => hc pins s1 σ H1 vs us Q I1 r1 q1) he hpl
end
end L2

namespace HT
open PySem PyProof.Rows

/-- t < u of tuples of ints -/
def lexLt : List Int → List Int → Bool
  | [], [] => false
  | [], _ :: _ => true
  | _ :: _, [] => false
  | x :: xs, y :: ys => if x = y then lexLt xs ys else decide (x < y)
section
open PySem.SeqAt
open PySem.AutoSeq1 (wpAny_loadPart')
open PySem.MeetsSeq PySem.MeetsSeq2 PySem.MeetsSeq3

end

section
variable {prog : Program} {w : World} {A : Around} {E : Value → Shared → Prop} {s : Shared}

/-- t + u, t not empty -/
theorem cat_tup {t b : Addr} {vs ws : List Value} {Q : Value → Shared → Prop} (ht : IsTup s.heap t vs.toArray) (hb : IsTup s.heap b ws.toArray) (hv : vs ≠ [])
    (h1 : ws = [] → Q (.ref t) s) (h2 : ws ≠ [] → Q (.ref s.heap.objs.size) { s with heap := s.heap.push { cls := .type "tuple", data := .seq (vs ++ ws).toArray } })
    (hsz : vs.length + ws.length ≤ sizeLine) : wpAny (model prog w) A (binaryOp .Add (.ref t) (.ref b)) Q E s := by
  obtain ⟨⟨cls, dd, data, sl⟩, ho, hc, n, hd⟩ := id ht
  obtain ⟨⟨cls2, dd2, data2, sl2⟩, ho2, hc2, n2, hd2⟩ := id hb
  simp only at hc hd hc2 hd2
  subst hc hd hc2 hd2
  have e : vs.toArray ++ ws.toArray = (vs ++ ws).toArray := by simp
  by_cases hw : ws = []
  · exact concat_meets ⟨_, ho, rfl⟩ ⟨_, ho2, rfl⟩ noFill_tuple_add seq_tuple_add PySem.F.slot_tuple_add PySem.F.entry_tuple_add (PySem.F.args_tuple_add_2 _ _)
      (tuple_addW1 t b vs.toArray ws.toArray n n2 dd dd2 sl sl2 (by simpa using hv) (by simp [hw])) ⟨ho, ho2, h1 hw⟩
  · refine concat_meets ⟨_, ho, rfl⟩ ⟨_, ho2, rfl⟩ noFill_tuple_add seq_tuple_add PySem.F.slot_tuple_add PySem.F.entry_tuple_add (PySem.F.args_tuple_add_2 _ _)
      (tuple_addW2 t b vs.toArray ws.toArray n n2 dd dd2 sl sl2 (by simpa using hv) (by simpa using hw) (by rw [List.size_toArray, List.size_toArray]; exact hsz)) ⟨ho, ho2, ?_⟩
    rw [e]
    exact h2 hw

/-! ### t[a:b], not the whole -/
/-- a slice's bound as a place among n (d where it is left out) -/
def sIx (n d : Nat) : Option Int → Nat
  | none => d
  | some v => if v < 0 then (v + (n : Int)).toNat else min v.toNat n
end
end HT

namespace L2
open PySem PySem.Spec PyProof.Rows

/-! ### the parts of a slice -/
abbrev TO := St → Hp → (Option Int → Hp → Prop) → Prop
/-- a slice's part (left out, or an int) -/
def PO (X : Cx) (e : Option Expr) (t : TO) : Prop :=
  ∀ (pins : List (Addr × Obj)) (s : Shared) (σ : St) (H : Hp) (Q : Option Int → Hp → Prop), Inv X pins σ H s → t σ H Q →
    wpAny (model X.prog X.w) X.A (evalPart e X.env) (fun u s' => ∃ o H', Inv X pins σ H' s' ∧ IsPart u o ∧ Q o H') X.xe s
def tNoPart : TO := fun _ H Q => Q none H
def tPart (t : TE) : TO := fun σ H Q => t σ H fun x H1 => ∃ i, x = .int i ∧ Q (some i) H1

section
variable {X : Cx} {e : Expr} {te : TE} {lo hi : Option Expr} {tl th : TO} {pos p2 : Pos}

/-- what a slice of a value is, by values: the slice object stands at sl -/
def SlR (X : Cx) (r : V → Option Int → Option Int → Hp → VK → Prop) : Prop :=
  ∀ (pins : List (Addr × Obj)) (s : Shared) (σ : St) (H : Hp) (x : V) (v vl vu : Value) (lo hi : Option Int) (sl : Addr) (Q : VK), Inv X pins σ H s → RelV x v → s.heap.IsSliceOf sl vl vu .none → IsPart vl lo → IsPart vu hi → r x lo hi H Q →
    ∃ T id, typeLookup (.type T) "__getitem__" = pure (some (.builtin id)) ∧ s.TypeIs v T ∧ wpAny (model X.prog X.w) X.A (getItem v (.ref sl)) (EP X pins σ Q) X.xe s
theorem SlR.or {r r' : V → Option Int → Option Int → Hp → VK → Prop} (h : SlR X r) (h' : SlR X r') : SlR X (fun x lo hi H Q => r x lo hi H Q ∨ r' x lo hi H Q) := by
  intro pins s σ H x v vl vu lo hi sl Q I rx hs pl pu q
  rcases q with q | q
  · exact h pins s σ H x v vl vu lo hi sl Q I rx hs pl pu q
  · exact h' pins s σ H x v vl vu lo hi sl Q I rx hs pl pu q
def tSl (r : V → Option Int → Option Int → Hp → VK → Prop) (te : TE) (tl th : TO) : TE := fun σ H Q => te σ H fun x H1 => tl σ H1 fun l H2 => th σ H2 fun u H3 => r x l u H3 Q
/-- the items of xs[lo:hi] -/
def cutV (xs : List V) (lo hi : Option Int) : List V := (xs.drop (HT.sIx xs.length 0 lo)).take (HT.sIx xs.length xs.length hi - HT.sIx xs.length 0 lo)
/-- t[lo:hi], not the whole of it (the whole would be t itself) -/
def rSlT (K : PySem.W.Frag) : V → Option Int → Option Int → Hp → VK → Prop := fun x lo hi H Q => ∃ a xs, x = .ref a ∧ SqT K H a xs ∧
  ¬ (HT.sIx xs.length 0 lo = 0 ∧ HT.sIx xs.length xs.length hi = xs.length) ∧ ∀ p, H p = none → Q (.ref p) (upd H p (.tup (cutV xs lo hi)))
/-! ### t < u, t + u -/
def rLtT (K : PySem.W.Frag) : R2 := fun x y H Q => ∃ a b ns ms, x = .ref a ∧ y = .ref b ∧ SqT K H a (ns.map V.int) ∧ SqT K H b (ms.map V.int) ∧ Q (.bl (HT.lexLt ns ms)) H
/-- t + u, t not empty: u empty gives t itself -/
def rCatT (K : PySem.W.Frag) : R2 := fun x y H Q => ∃ a b xs ys, x = .ref a ∧ y = .ref b ∧ SqT K H a xs ∧ SqT K H b ys ∧ xs ≠ [] ∧ xs.length + ys.length ≤ sizeLine ∧
  (ys = [] → Q (.ref a) H) ∧ (ys ≠ [] → ∀ p, H p = none → Q (.ref p) (upd H p (.tup (xs ++ ys))))
theorem Vals.nil_iff {xs : List V} {us : List Value} (r : Vals xs us) : us = [] ↔ xs = [] := by
  cases r with
  | nil => simp
  | cons _ _ => simp
theorem op_catT : OpR X (binaryOp .Add) (rCatT X.K) := by
  intro pins s σ H x y v u Q I rx ry h
  obtain ⟨a, b, xs, ys, rfl, rfl, ha, hb, hx, hz, q1, q2⟩ := h
  cases rx
  cases ry
  obtain ⟨its, r1, p1, _⟩ := I.tuple ha
  obtain ⟨its2, r2, p2, _⟩ := I.tuple hb
  refine HT.cat_tup p1 p2 (fun z => hx (r1.nil_iff.mp z)) (fun z => ⟨.ref a, H, I, rfl, q1 (r2.nil_iff.mp z)⟩) (fun z => ?_) (by rw [← r1.length, ← r2.length]; exact hz)
  refine ⟨.ref s.heap.objs.size, _, I.laid (t' := s.toks) (o := .tup (xs ++ ys)) (fun b ob q => Heap.get?_push_of_some _ q) (Nat.le_refl _) ?_, rfl, q2 (fun w => z (r2.nil_iff.mpr w)) _ (I.hok.fresh (Nat.le_refl _))⟩
  exact ⟨by rw [List.length_append]; exact hz, _, r1.append r2, IsTup.new _ _⟩
end
end L2

namespace L2
open PySem PySem.Spec PyProof.Rows

/-! ### places -/
/-- the place that an index of any sign means -/
def ixN (n : Nat) (i : Int) : Option Nat := if 0 ≤ i then (if i < n then some i.toNat else none) else if -(n : Int) ≤ i then some (i + n).toNat else none
def atI {α : Type} (xs : List α) (i : Int) : Option α := (ixN xs.length i).bind fun j => xs[j]?
theorem ixN_seq {n : Nat} {i : Int} {j : Nat} (h : ixN n i = some j) : seqIndex? i n = some j ∧ j < n ∧ -(n : Int) ≤ i ∧ i < n := by
  unfold ixN at h
  by_cases h0 : 0 ≤ i
  · rw [if_pos h0] at h
    by_cases h1 : i < n
    · rw [if_pos h1] at h
      have e : i.toNat = j := Option.some.inj h
      exact ⟨by rw [seqIndex_of h0 h1, e], by omega, by omega, h1⟩
    · rw [if_neg h1] at h; cases h
  · rw [if_neg h0] at h
    by_cases h1 : -(n : Int) ≤ i
    · rw [if_pos h1] at h
      have e : (i + n).toNat = j := Option.some.inj h
      exact ⟨by rw [seqIndex_neg (by omega) h1, e], by omega, h1, by omega⟩
    · rw [if_neg h1] at h; cases h
theorem atI_get {α : Type} {xs : List α} {i : Int} {v : α} (h : atI xs i = some v) : ∃ j, seqIndex? i xs.length = some j ∧ xs[j]? = some v ∧ j < xs.length ∧ -(xs.length : Int) ≤ i ∧ i < xs.length := by
  unfold atI at h
  cases e : ixN xs.length i with
  | none => rw [e] at h; cases h
  | some j =>
    rw [e] at h
    obtain ⟨h1, h2, h3, h4⟩ := ixN_seq e
    exact ⟨j, h1, h, h2, h3, h4⟩
theorem atI_nat {α : Type} {xs : List α} {j : Nat} {v : α} (h : xs[j]? = some v) : atI xs (j : Int) = some v := by
  have hj : j < xs.length := (List.getElem?_eq_some_iff.mp h).1
  have e : ixN xs.length (j : Int) = some j := by
    unfold ixN
    rw [if_pos (by omega), if_pos (by omega)]; simp
  unfold atI; rw [e]; exact h
/-! ### what may be subscripted -/
/-- what stands as an index of a plain subscript -/
def PlainIx (b : Expr) : Prop := ∀ o i, subscripted b false o i = operate [o, i] (getItem o i)
/-- a subscript by values -/
def IxR (X : Cx) (r : R2) : Prop :=
  ∀ (value slice : Expr) (pins : List (Addr × Obj)) (s : Shared) (σ : St) (H : Hp) (x y : V) (v u : Value) (Q : VK), Inv X pins σ H s → RelV x v → RelV y u → r x y H Q →
    subscripted slice false v u = operate [v, u] (getItem v u) → wpAny (model X.prog X.w) X.A (subscriptTail value slice v u) (EP X pins σ Q) X.xe s
/-- a call of a builtin's method by values: the receiver, the arguments -/
def MtR (X : Cx) (id : String) (r : V → List V → Hp → VK → Prop) : Prop :=
  ∀ (pins : List (Addr × Obj)) (s : Shared) (σ : St) (H : Hp) (x : V) (xs : List V) (v : Value) (us : List Value) (Q : VK), Inv X pins σ H s → RelV x v → Vals xs us → r x xs H Q →
    wpAny (model X.prog X.w) X.A (call (.builtin id) (v :: us)) (EP X pins σ Q) X.xe s
section
variable {X : Cx} {a b : Expr} {ta tb : TE} {pos : Pos}
theorem IxR.or {r r' : R2} (h : IxR X r) (h' : IxR X r') : IxR X (fun x y H Q => r x y H Q ∨ r' x y H Q) := by
  intro value slice pins s σ H x y v u Q I rx ry q hs
  rcases q with q | q
  · exact h value slice pins s σ H x y v u Q I rx ry q hs
  · exact h' value slice pins s σ H x y v u Q I rx ry q hs
theorem MtR.or {id : String} {r r' : V → List V → Hp → VK → Prop} (h : MtR X id r) (h' : MtR X id r') : MtR X id (fun x xs H Q => r x xs H Q ∨ r' x xs H Q) := by
  intro pins s σ H x xs v us Q I rx rs q
  rcases q with q | q
  · exact h pins s σ H x xs v us Q I rx rs q
  · exact h' pins s σ H x xs v us Q I rx rs q
/-- a[b] -/
theorem pe_ix {r : R2} (hr : IxR X r) (ha : PE X a ta) (hb : PE X b tb) (hs : PlainIx b) : PE X (.Subscript a b pos) (tOp r ta tb) := by
  intro pins s σ H Q I h
  exact Subscript_ (binT ha hb I h fun v u s2 x y H2 I2 rx ry q => hr a b pins s2 σ H2 x y v u Q I2 rx ry q (hs _ _))

def rIxL (K : PySem.W.Frag) : R2 := fun x y H Q => ∃ p xs i v, x = .ref p ∧ y = .int i ∧ SqL K H p xs ∧ atI xs i = some v ∧ Q v H
def rIxT (K : PySem.W.Frag) : R2 := fun x y H Q => ∃ p xs i v, x = .ref p ∧ y = .int i ∧ SqT K H p xs ∧ atI xs i = some v ∧ Q v H
def rIxS : R2 := fun x y H Q => ∃ z i c, x = .str z ∧ y = .int i ∧ z.length ≤ sizeLine ∧ atI z.cps.toList i = some c ∧ Q (.str ⟨#[c]⟩) H
theorem ix_list : IxR X (rIxL X.K) := by
  intro value slice pins s σ H x y v u Q I rx ry h hs
  obtain ⟨p, xs, i, z, rfl, rfl, hq, he, q⟩ := h
  cases rx
  obtain ⟨t, rfl⟩ := ry
  obtain ⟨its, r, pl, hz⟩ := I.list hq
  obtain ⟨j, h1, h2, h3, h4, h5⟩ := atI_get he
  obtain ⟨w, ew, rw'⟩ := r.get h2
  have hl := r.length
  have hn := line63
  have fin : EP X pins σ Q w s := ⟨z, H, I, rw', q⟩
  by_cases h0 : 0 ≤ i
  · have hj : i.toNat = j := by
      rw [seqIndex_of h0 h5] at h1
      exact Option.some.inj h1
    exact item_listR pl.isList h0 (by omega) (by rw [hj]; simpa using ew) fin hs
  · have hj : (i + (its.toArray.size : Int)).toNat = j := by
      rw [seqIndex_neg (by omega) h4] at h1
      rw [List.size_toArray, ← hl]
      exact Option.some.inj h1
    exact subscriptTail_builtinR (x := w) pl.isList.typeIs slot_list_getitem.lookup
      (wpAny_getItem_list_neg (Q := fun r s' => r = w ∧ EP X pins σ Q r s') pl.isList (by omega) (by rw [List.size_toArray] <;> omega) (by omega) (by rw [hj]; simpa using ew) ⟨rfl, fin⟩) hs
theorem ix_tup : IxR X (rIxT X.K) := by
  intro value slice pins s σ H x y v u Q I rx ry h hs
  obtain ⟨p, xs, i, z, rfl, rfl, hq, he, q⟩ := h
  cases rx
  obtain ⟨t, rfl⟩ := ry
  obtain ⟨its, r, pl, hz⟩ := I.tuple hq
  obtain ⟨j, h1, h2, h3, h4, h5⟩ := atI_get he
  obtain ⟨w, ew, rw'⟩ := r.get h2
  have hl := r.length
  have hn := line63
  have fin : EP X pins σ Q w s := ⟨z, H, I, rw', q⟩
  exact subscriptTail_builtinR (x := w) pl.typeIs slot_tuple_getitem.lookup
    (getItem_tuple (j := j) (Q := fun r s' => r = w ∧ EP X pins σ Q r s') pl (by omega) (by omega) (by rw [List.size_toArray, ← hl]; exact h1) (by simpa using ew) ⟨rfl, fin⟩) hs
/-- list, tuple or str -/
def rIx (K : PySem.W.Frag) : R2 := fun x y H Q => rIxL K x y H Q ∨ rIxT K x y H Q ∨ rIxS x y H Q
/-! ### xs[i] = v, any sign -/
/-- the list's object behind a store -/
theorem mapSeq_set (its : List Value) (n j : Nat) (u : Value) : Obj.mapSeq (·.setIfInBounds j u) { cls := .type "list", data := .seq its.toArray n } = { cls := .type "list", data := .seq (its.set j u).toArray n } := by
  simp [Obj.mapSeq]
theorem Inv.lst {pins : List (Addr × Obj)} {σ : St} {H : Hp} {s : Shared} {p : Addr} {xs : List V} (I : Inv X pins σ H s) (h : H p = some (.lst xs)) :
    ∃ (its : List Value) (n : Nat), Vals xs its ∧ s.heap.get? p = some { cls := .type "list", data := .seq its.toArray n } ∧ xs.length ≤ sizeLine := by
  obtain ⟨z, its, n, r, e⟩ := I.hok p _ h
  exact ⟨its, n, r, e, z⟩
/-- the list at p is written by an update of its object -/
theorem Inv.lstUpd {pins : List (Addr × Obj)} {σ : St} {H : Hp} {s : Shared} {p : Addr} {xs ys : List V} {its its' : List Value} {n n' : Nat} {f : Obj → Obj} (I : Inv X pins σ H s) (h : H p = some (.lst xs))
    (ho : s.heap.get? p = some { cls := .type "list", data := .seq its.toArray n }) (hf : f { cls := .type "list", data := .seq its.toArray n } = { cls := .type "list", data := .seq its'.toArray n' }) (r : Vals ys its') (hz : ys.length ≤ sizeLine) (t : Nat) :
    Inv X pins σ (upd H p (.lst ys)) { s with heap := s.heap.update p f, toks := t } := by
  have e : (s.heap.update p f).get? p = some { cls := .type "list", data := .seq its'.toArray n' } := by
    rw [Heap.get?_update_self f ho (by rw [hf] <;> rfl), hf]
  refine I.write (x := p) (e := p) (by rw [h]; trivial) (.inl rfl) (fun b u hb q => (Heap.get?_update_other _ _ (Ne.symm hb)).trans q) ⟨_, e⟩ ?_
  exact ⟨hz, its', n', r, e⟩
def rSetL : V → V → V → Hp → (Hp → Prop) → Prop := fun o i v H Q => ∃ p xs k j, o = .ref p ∧ i = .int k ∧ H p = some (.lst xs) ∧ ixN xs.length k = some j ∧ Q (upd H p (.lst (xs.set j v)))
theorem set_list : PSet X rSetL := by
  intro pins s σ H o i v ov iv u Q I ro ri rv h
  obtain ⟨p, xs, k, j, rfl, rfl, hp, hj, q⟩ := h
  cases ro
  obtain ⟨t, rfl⟩ := ri
  obtain ⟨its, n, r, ho, hz⟩ := I.lst hp
  obtain ⟨h1, h2, h3, h4⟩ := ixN_seq hj
  have hl := r.length
  have hn := line63
  have I' : Inv X pins σ (upd H p (.lst (xs.set j v))) { s with heap := s.heap.update p (Obj.mapSeq (·.setIfInBounds j u)) } :=
    I.lstUpd hp ho (mapSeq_set its n j u) (r.set rv j) (by rw [List.length_set]; exact hz) s.toks
  by_cases h0 : 0 ≤ k
  · have hk : k.toNat = j := by
      rw [seqIndex_of h0 h4] at h1
      exact Option.some.inj h1
    exact PySem.W.ki_setAt ho h0 (by omega) (by rw [List.size_toArray, ← hl]; exact h4) (by rw [hk]; exact ⟨_, I', q⟩)
  · have hk : (k + (its.toArray.size : Int)).toNat = j := by
      rw [seqIndex_neg (by omega) h3] at h1
      rw [List.size_toArray, ← hl]
      exact Option.some.inj h1
    exact PySem.W.ki_setBack ho (by omega) (by rw [List.size_toArray, ← hl]; exact h3) (by omega) (by rw [hk]; exact ⟨_, I', q⟩)

/-! ### slices -/
/-- xs[lo:hi] of a list: a new list -/
def rSlL (K : PySem.W.Frag) : V → Option Int → Option Int → Hp → VK → Prop := fun x lo hi H Q => ∃ a xs, x = .ref a ∧ SqL K H a xs ∧ ∀ p, H p = none → Q (.ref p) (upd H p (.lst (cutV xs lo hi)))
/-! ### in, not in: flat items -/
def flatV : V → Bool
  | .non => true
  | .bl _ => true
  | .int _ => true
  | .str _ => true
  | _ => false
/-- == of flat values -/
def eqV : V → V → Bool
  | .non, .non => true
  | .bl a, .bl b => a == b
  | .bl a, .int b => (if a then 1 else 0) == b
  | .int a, .bl b => a == (if b then 1 else 0)
  | .int a, .int b => a == b
  | .str a, .str b => a == b
  | _, _ => false
theorem eqAt_V {A : Around} {s : Shared} {y x : V} {u v : Value} (ry : RelV y u) (rx : RelV x v) (fy : flatV y = true) (fx : flatV x = true) : SeqAt.EqAt A s u v (eqV y x) := by
  cases y with
  | non =>
    cases ry
    cases x with
    | non => cases rx; exact SeqAt.EqAt.same _
    | bl b => cases rx; exact SeqAt.EqAt.none_bool b
    | int b => obtain ⟨t, rfl⟩ := rx; exact SeqAt.EqAt.none_int b t
    | str b => obtain ⟨t, rfl⟩ := rx; exact SeqAt.EqAt.none_str b t
    | _ => exact absurd (show false = true from fx) Bool.false_ne_true
  | bl a =>
    cases ry
    cases x with
    | non => cases rx; exact SeqAt.EqAt.bool_none a
    | bl b => cases rx; exact SeqAt.EqAt.bool_bool a b
    | int b => obtain ⟨t, rfl⟩ := rx; exact SeqAt.EqAt.bool_int a b t
    | str b => obtain ⟨t, rfl⟩ := rx; exact SeqAt.EqAt.bool_str a b t
    | _ => exact absurd (show false = true from fx) Bool.false_ne_true
  | int a =>
    obtain ⟨t', rfl⟩ := ry
    cases x with
    | non => cases rx; exact SeqAt.EqAt.int_none a t'
    | bl b => cases rx; exact SeqAt.EqAt.int_bool a t' b
    | int b => obtain ⟨t, rfl⟩ := rx; exact SeqAt.EqAt.int_int a t' b t
    | str b => obtain ⟨t, rfl⟩ := rx; exact SeqAt.EqAt.int_str a t' b t
    | _ => exact absurd (show false = true from fx) Bool.false_ne_true
  | str a =>
    obtain ⟨t', rfl⟩ := ry
    cases x with
    | non => cases rx; exact SeqAt.EqAt.str_none a t'
    | bl b => cases rx; exact SeqAt.EqAt.str_bool a t' b
    | int b => obtain ⟨t, rfl⟩ := rx; exact SeqAt.EqAt.str_int a t' b t
    | str b => obtain ⟨t, rfl⟩ := rx; exact SeqAt.EqAt.str_str a t' b t
    | _ => exact absurd (show false = true from fx) Bool.false_ne_true
  | _ => exact absurd (show false = true from fy) Bool.false_ne_true
/-- the items' answers, read off the values (a value's own answer does not lean on its token) -/
def eqU (x : V) (u : Value) : Bool := match u with
  | .none => eqV .non x
  | .bool b => eqV (.bl b) x
  | .int i _ => eqV (.int i) x
  | .str z _ => eqV (.str z) x
  | _ => false
def inV (x : V) (xs : List V) : Bool := xs.any fun y => eqV y x
/-- x in a list or tuple of flat items -/
def rIn (K : PySem.W.Frag) (neg : Bool) : R2 := fun x y H Q => ∃ p xs, y = .ref p ∧ (SqL K H p xs ∨ SqT K H p xs) ∧ flatV x = true ∧ xs.all flatV = true ∧ Q (.bl (if neg then !inV x xs else inV x xs)) H
/-! ### len, list(x), tuple(x) of any list or tuple that is read -/
theorem call_len_seq : CallR X (.builtin "len") (fun xs H Q => ∃ p ys, xs = [.ref p] ∧ (SqL X.K H p ys ∨ SqT X.K H p ys) ∧ Q (.int ys.length) H) := by
  intro pins s σ H xs us Q I r h
  obtain ⟨p, ys, rfl, hq, q⟩ := h
  obtain ⟨u, rfl, rx⟩ := vals1 r
  cases rx
  have hn := line63
  rcases hq with hq | hq
  · obtain ⟨its, r', pl, hz⟩ := I.list hq
    have hlen := r'.length
    exact Calls.call_len_list pl.isList (by simp only [List.size_toArray] <;> omega) ⟨.int ys.length, H, I.tok _, ⟨s.toks + 1, by rw [List.size_toArray, hlen]⟩, q⟩
  · obtain ⟨its, r', pl, hz⟩ := I.tuple hq
    have hlen := r'.length
    exact len_tuple pl (by simp only [List.size_toArray] <;> omega) ⟨.int ys.length, H, I.tok _, ⟨s.toks + 1, by rw [List.size_toArray, hlen]⟩, q⟩
theorem CallR.or {f : Value} {r r' : List V → Hp → VK → Prop} (h : CallR X f r) (h' : CallR X f r') : CallR X f (fun xs H Q => r xs H Q ∨ r' xs H Q) := by
  intro pins s σ H xs us Q I rs q
  rcases q with q | q
  · exact h pins s σ H xs us Q I rs q
  · exact h' pins s σ H xs us Q I rs q
theorem call_tuple_of : CallR X (.type "tuple") (fun xs H Q => ∃ p ys, xs = [.ref p] ∧ ((SqL X.K H p ys ∧ ∀ l, H l = none → Q (.ref l) (upd H l (.tup ys))) ∨ (SqT X.K H p ys ∧ Q (.ref p) H))) := by
  intro pins s σ H xs us Q I r h
  obtain ⟨p, ys, rfl, h⟩ := h
  obtain ⟨u, rfl, rx⟩ := vals1 r
  cases rx
  rcases h with ⟨hq, q⟩ | ⟨hq, q⟩
  · obtain ⟨its, r', pl, hz⟩ := I.list hq
    have hlen := r'.length
    refine call_tuple_list pl.isList (fun h' kp => ?_) (by simp only [List.size_toArray] <;> omega)
    have I1 : Inv X pins σ H { s with heap := h' } := I.kept (t' := s.toks) kp
    have I2 : Inv X pins σ (upd H h'.objs.size (.tup ys)) { s with heap := h'.push { cls := .type "tuple", data := .seq its.toArray } } :=
      I1.laid (t' := s.toks) (fun b o e => Heap.get?_push_of_some _ e) (Nat.le_refl _) (show ObjOk X.prog X.w _ _ _ (.tup ys) from ⟨hz, its, r', IsTup.new _ _⟩)
    exact ⟨.ref h'.objs.size, _, I2, rfl, q _ (I1.hok.fresh (Nat.le_refl _))⟩
  · obtain ⟨its, r', pl, hz⟩ := I.tuple hq
    exact call_tuple_same pl ⟨.ref p, H, I, rfl, q⟩

/-! ### the call of a builtin's method: o.m(..) -/
/-- the value is of that builtin type -/
def tyV (K : PySem.W.Frag) (T : String) (x : V) (H : Hp) : Prop := match x with
  | .str _ => T = "str"
  | .int _ => T = "int"
  | .ref p => (T = "list" ∧ ∃ xs, SqL K H p xs) ∨ (T = "tuple" ∧ ∃ o, K.lookup p = some o ∧ o.cls = .type "tuple" ∧ o.dict = none) ∨
      (T = "dict" ∧ ((∃ kvs, H p = some (.dK kvs)) ∨ ∃ kvs, H p = some (.dT kvs))) ∨ (T = "set" ∧ ∃ S n, H p = some (.set S n))
  | _ => False
theorem tyV_is {pins : List (Addr × Obj)} {σ : St} {H : Hp} {s : Shared} {T : String} {x : V} {v : Value} (I : Inv X pins σ H s) (r : RelV x v) (ty : tyV X.K T x H) :
    s.TypeIs v T ∧ ∀ a, v = .ref a → ∃ ob, s.heap.get? a = some ob ∧ ob.dict = none := by
  cases x with
  | str z =>
    obtain ⟨t, rfl⟩ := r
    cases (show T = "str" from ty)
    exact ⟨typeIs_str s z t, fun _ e => nomatch e⟩
  | int i =>
    obtain ⟨t, rfl⟩ := r
    cases (show T = "int" from ty)
    exact ⟨typeIs_int s i t, fun _ e => nomatch e⟩
  | ref p =>
    cases r
    rcases ty with ⟨rfl, xs, hq⟩ | ⟨rfl, o, hk, hc, hd⟩ | ⟨rfl, hk⟩ | ⟨rfl, S, n, hk⟩
    · obtain ⟨its, _, pl, _⟩ := I.list hq
      refine ⟨pl.isList.typeIs, fun a e => ?_⟩
      cases e
      obtain ⟨o, n, e, c, hd, _⟩ := pl
      exact ⟨o, e, hd⟩
    · refine ⟨⟨o, I.kIn p o hk, hc⟩, fun a e => ?_⟩
      cases e
      exact ⟨o, I.kIn _ o hk, hd⟩
    · have z : ∃ o, s.heap.get? p = some o ∧ o.ExactDict := by
        rcases hk with ⟨kvs, hk⟩ | ⟨kvs, hk⟩
        · obtain ⟨_, _, _, _, o, _, _, e, ex, _⟩ := I.hok p _ hk
          exact ⟨o, e, ex⟩
        · obtain ⟨_, _, _, _, o, _, _, e, ex, _⟩ := I.hok p _ hk
          exact ⟨o, e, ex⟩
      obtain ⟨o, e, ex⟩ := z
      refine ⟨⟨o, e, ex.1⟩, fun a e2 => ?_⟩
      cases e2
      exact ⟨o, e, ex.2.1⟩
    · obtain ⟨o, _, _, _, e, ex, _⟩ := I.hok p _ hk
      refine ⟨⟨o, e, ex.1⟩, fun a e2 => ?_⟩
      cases e2
      exact ⟨o, e, ex.2.1⟩
  | _ => exact False.elim ty
def tBM0 (K : PySem.W.Frag) (T : String) (r : V → List V → Hp → VK → Prop) (to : TE) : TE := fun σ H Q => to σ H fun x H1 => tyV K T x H1 ∧ r x [] H1 Q
def tBM (K : PySem.W.Frag) (T : String) (r : V → List V → Hp → VK → Prop) (to : TE) (t : TA) : TE := fun σ H Q => to σ H fun x H1 => tyV K T x H1 ∧ t σ H1 fun xs H2 => r x xs H2 Q
variable {o e : Expr} {es : List Expr} {to : TE} {t : TA} {name : Str} {apos cpos : Pos} {T id : String} {r : V → List V → Hp → VK → Prop}
theorem pe_bm (pa : PlainAttrs T) (slot : Slot T name id) (hty : typeOf (.builtin id) = pure (.type "method_descriptor")) (hm : MtR X id r) (ho : PE X o to) (ha : PA X (e :: es) t)
    (hbase : attributeBase o name X.env (eval o X.env) = eval o X.env := by rfl)
    (hfew : ((backTo cpos (starEach (e :: es) X.env)).all (fun x => !x.1) && (backToKw cpos (keywordEach [] X.env)).all (fun x => x.1.isSome)
      && decide ((e :: es).length + ([] : List Keyword).length + (if ([] : List Keyword).isEmpty then 0 else 1) < 30)) = true := by rfl)
    (hline : (apos.endLine == cpos.line) = true := by rfl) (hs : starEach (e :: es) X.env = (false, eval e X.env) :: starEach es X.env := by rfl) (hplain : (backTo cpos (starEach es X.env)).any (·.1) = false := by rfl) :
    PE X (.Call (.Attribute o name apos) (e :: es) [] cpos) (tBM X.K T r to t) := by
  intro pins s σ H Q I h
  refine wpAny_Call_method_late hbase hfew hline rfl (thn (ho pins s σ H _ I h) fun v s1 ⟨x, H1, I1, r1, ty, q1⟩ => ?_)
  obtain ⟨h1, h2⟩ := tyV_is I1 r1 ty
  refine ⟨T, id, pa, slot, hty, h1, h2, ?_⟩
  have hA := ha cpos pins s1 σ H1 _ I1 q1
  rw [hs] at hA ⊢
  refine Calls.callWith_builtin (by show (false || (backTo cpos (starEach es X.env)).any (·.1)) = false; rw [hplain] <;> rfl) (Calls.evalArgs_plain ?_)
  exact thn hA fun us s2 ⟨vs, H2, I2, r2, q2⟩ => hm pins s2 σ H2 x vs v us Q I2 r1 r2 q2
/- xs.append(e), list.index on a module's tuple .. are MtR facts of 06m -/
end
end L2

namespace L2
open PySem PySem.Spec PyProof.Rows

def MtM (X : Cx) (id : String) (r : V → List V → Hp → VK → Prop) : Prop :=
  ∀ (pins : List (Addr × Obj)) (s : Shared) (σ : St) (H : Hp) (x : V) (xs : List V) (v : Value) (us : List Value) (Q : VK), Inv X pins σ H s → RelV x v → Vals xs us → r x xs H Q →
    wpAny (model X.prog X.w) X.A (call (.builtin id) (v :: us)) (EP X pins σ Q) X.xe s

/-! ### lists of values -/
theorem Vals.one : ∀ {x : V} {us : List Value}, Vals [x] us → ∃ u, us = [u] ∧ RelV x u
  | _, _, .cons r .nil => ⟨_, rfl, r⟩
theorem Vals.two : ∀ {x y : V} {us : List Value}, Vals [x, y] us → ∃ u v, us = [u, v] ∧ RelV x u ∧ RelV y v
  | _, _, _, .cons r (.cons q .nil) => ⟨_, _, rfl, r, q⟩
theorem Vals.zero : ∀ {us : List Value}, Vals [] us → us = []
  | _, .nil => rfl
theorem Vals.dropLast {xs : List V} {us : List Value} (h : Vals xs us) : Vals xs.dropLast us.dropLast := by
  induction h with
  | nil => exact .nil
  | cons r t ih =>
    cases t with
    | nil => exact .nil
    | cons q t' => exact .cons r ih
theorem Vals.eraseIdx : ∀ {xs : List V} {us : List Value} (i : Nat), Vals xs us → Vals (xs.eraseIdx i) (us.eraseIdx i)
  | _, _, _, .nil => .nil
  | _, _, 0, .cons _ t => t
  | _, _, i + 1, .cons r t => .cons r (Vals.eraseIdx i t)
theorem Vals.reverse {xs : List V} {us : List Value} (h : Vals xs us) : Vals xs.reverse us.reverse := by
  induction h with
  | nil => exact .nil
  | cons r t ih => rw [List.reverse_cons, List.reverse_cons]; exact Vals.append ih (.cons r .nil)
section
variable {X : Cx} {pins : List (Addr × Obj)} {σ : St} {H : Hp} {s : Shared} {l b : Addr} {xs ys zs : List V}

/-! ### the two steps: a tracked list is rewritten, a new list is laid -/
theorem Inv.lset {its its' : List Value} {n : Nat} {f : Array Value → Array Value} {t' : Nat} (I : Inv X pins σ H s) (hH : H l = some (.lst xs))
    (e : s.heap.get? l = some { cls := .type "list", data := .seq its.toArray n }) (hf : f its.toArray = its'.toArray) (hv : Vals ys its') (hz : ys.length ≤ sizeLine) :
    Inv X pins σ (upd H l (.lst ys)) { s with heap := s.heap.update l (Obj.mapSeq f), toks := t' } := by
  have q := PySem.IsL.update e f
  rw [hf] at q
  refine I.write (x := l) (e := l) (by rw [hH]; exact trivial) (.inl rfl) (fun b' u hb hu => (Heap.get?_update_other s.heap (Obj.mapSeq f) (Ne.symm hb)).trans hu) ⟨_, q⟩ ?_
  exact ⟨hz, its', _, hv, q⟩
theorem Inv.fresh (I : Inv X pins σ H s) : H s.heap.objs.size = none := I.hok.fresh (Nat.le_refl _)
theorem Inv.lstM (I : Inv X pins σ H s) (hH : H l = some (.lst xs)) : xs.length ≤ sizeLine ∧ ∃ (its : List Value) (n : Nat), Vals xs its ∧ xs.length = its.length ∧ s.heap.get? l = some { cls := .type "list", data := .seq its.toArray n } := by
  obtain ⟨z, its, n, r, e⟩ := I.hok l _ hH
  exact ⟨z, its, n, r, r.length, e⟩

theorem notLongL {n : Nat} (h : n ≤ sizeLine) : Builtin.List.listTooLong n = false := by
  unfold Builtin.List.listTooLong
  exact decide_eq_false (by omega)
end

section
variable {X : Cx}

/-! ### methods -/
def rAppend : V → List V → Hp → VK → Prop := fun x vs H Q => ∃ l xs y, x = .ref l ∧ vs = [y] ∧ H l = some (.lst xs) ∧ xs.length < sizeLine ∧ Q .non (upd H l (.lst (xs ++ [y])))
theorem mt_append : MtM X "list.append" rAppend := by
  intro pins s σ H x vs v us Q I rx rv h
  obtain ⟨l, xs, y, rfl, rfl, hH, hz, q⟩ := h
  cases rx
  obtain ⟨u, rfl, ru⟩ := rv.one
  obtain ⟨z, its, n, r, hl, e⟩ := I.lstM hH
  refine call_meets F.slot_list_append ⟨_, e, rfl⟩ F.entry_list_append (F.args_list_append_2 _ _) (PySem.list_append l its.toArray n u (by rw [List.size_toArray]; omega)) ⟨e, ?_⟩
  refine ⟨.non, _, I.lset (its' := its ++ [u]) hH e (by simp) (r.append (.cons ru .nil)) ?_, rfl, q⟩
  rw [List.length_append, List.length_singleton]
  omega

def rExtend : V → List V → Hp → VK → Prop := fun x vs H Q => ∃ l b xs zs, x = .ref l ∧ vs = [.ref b] ∧ H l = some (.lst xs) ∧ H b = some (.lst zs) ∧ xs.length + zs.length ≤ sizeLine ∧ Q .non (upd H l (.lst (xs ++ zs)))
theorem mt_extend : MtM X "list.extend" rExtend := by
  intro pins s σ H x vs v us Q I rx rv h
  obtain ⟨l, b, xs, zs, rfl, rfl, hH, hB, hz, q⟩ := h
  cases rx
  obtain ⟨u, rfl, ru⟩ := rv.one
  cases ru
  obtain ⟨z, its, n, r, hl, e⟩ := I.lstM hH
  obtain ⟨z2, its2, n2, r2, hl2, e2⟩ := I.lstM hB
  have hsz : its.toArray.size + its2.toArray.size ≤ sizeLine := by rw [List.size_toArray, List.size_toArray]; omega
  have hlong : ¬ (!its.toArray.isEmpty && Builtin.List.listTooLong (its.toArray.size + its2.toArray.size)) = true := by
    rw [notLongL hsz, Bool.and_false]
    exact Bool.false_ne_true
  refine call_meets F.slot_list_extend ⟨_, e, rfl⟩ F.entry_list_extend (F.args_list_extend_2 _ _)
    (AutoSeq1.list_extend_list_list_0 l its.toArray n b its2.toArray n2 hlong (by rw [List.size_toArray]; omega) (by omega)) ⟨e, e2, ?_⟩
  refine ⟨.non, _, I.lset (its' := its ++ its2) hH e (by simp) (r.append r2) ?_, rfl, q⟩
  rw [List.length_append]
  omega

def rPop : V → List V → Hp → VK → Prop := fun x vs H Q => ∃ l xs y, x = .ref l ∧ vs = [] ∧ H l = some (.lst xs) ∧ xs[xs.length - 1]? = some y ∧ Q y (upd H l (.lst xs.dropLast))
def rPopAt : V → List V → Hp → VK → Prop := fun x vs H Q => ∃ l xs i k y, x = .ref l ∧ vs = [.int i] ∧ H l = some (.lst xs) ∧ -(2 ^ 63) ≤ i ∧ i < 2 ^ 63 ∧ seqIndex? i xs.length = some k ∧ xs[k]? = some y ∧ Q y (upd H l (.lst (xs.eraseIdx k)))
def rReverse : V → List V → Hp → VK → Prop := fun x vs H Q => ∃ l xs, x = .ref l ∧ vs = [] ∧ H l = some (.lst xs) ∧ Q .non (upd H l (.lst xs.reverse))
def rClear : V → List V → Hp → VK → Prop := fun x vs H Q => ∃ l xs, x = .ref l ∧ vs = [] ∧ H l = some (.lst xs) ∧ Q .non (upd H l (.lst []))
/-! ### list + list, list += list, list * int -/
def rCat : R2 := fun x y H Q => ∃ l b xs zs, x = .ref l ∧ y = .ref b ∧ H l = some (.lst xs) ∧ H b = some (.lst zs) ∧ xs.length + zs.length ≤ sizeLine ∧ ∀ p, H p = none → Q (.ref p) (upd H p (.lst (xs ++ zs)))
/-- a list times an int (a negative one is nothing) -/
def rRep : R2 := fun x y H Q => ∃ l k xs, x = .ref l ∧ y = .int k ∧ H l = some (.lst xs) ∧ -(2 ^ 63) ≤ k ∧ k < 2 ^ 63 ∧ xs.length * k.toNat ≤ sizeLine ∧
  ∀ p, H p = none → Q (.ref p) (upd H p (.lst (List.replicate k.toNat xs).flatten))
/-! ### del xs[i] -/
end

/-! ### xs[a:b] = ys -/
section
variable {prog : Program} {w : World} {A : Around} {E : Value → Shared → Prop} {s : Shared}
end

section
variable {X : Cx}
end
end L2

namespace Att
open PySem PySem.W PySem.Calls PyProof.Rows

/-! ### the script -/
theorem ints_of_wellAll {P : Params} {h : Heap} : ∀ (ns : List Int) (vs : List Value), WellAll P h vs (ns.map WData.int) → IntsAre vs ns := by
  intro ns
  induction ns with
  | nil =>
    intro vs w
    rw [List.map_nil] at w
    cases w
    exact .nil
  | cons n ns ih =>
    intro vs w
    rw [List.map_cons] at w
    cases w with
    | cons a b =>
      cases a
      exact .cons _ _ (ih _ b)

theorem script_of {l : OpenLaw} {n : Nat} (hn : l.most = some n) {P : Params} {h : Heap} {args : List WData} {vals : List Value}
    (hpre : l.row.toRowW.claim.pre args = true) (hwl : WellAll P h vals args) :
    ∃ a vs ns, vals = [Value.ref a] ∧ args = [WData.list (ns.map WData.int)] ∧ h.get? a = some { cls := .type "list", data := .seq vs.toArray } ∧ IntsAre vs ns ∧ ns.length ≤ n := by
  have hsh : WShape.hasAll [] args [.list .int] = true := (pre_splitW hpre).1
  have hc : l.pre.holds [] { args := args } = true := (pre_splitW hpre).2
  obtain ⟨d, r, rfl, h1, h2⟩ := hasAllW_cons hsh
  obtain rfl := hasAllW_nil h2
  obtain ⟨xs, rfl, h3⟩ := hasW_list h1
  obtain ⟨ns, rfl⟩ := items_int h3
  have hlen : ns.length ≤ n := by
    unfold OpenLaw.pre at hc
    have h4 : (WTm.not (.lt (.lit (.int (n : Int))) (.len (.arg 0)))).holds [] { args := [.list (ns.map .int)] } = true := by
      have h4 := (holds_andW hc).1
      rw [hn] at h4
      exact h4
    have h5 := condW_of h4 (w_not (w_lt w_lit (w_len_list (w_arg rfl))))
    rw [List.length_map] at h5
    refine Nat.le_of_not_lt fun q => ?_
    have q' : (n : Int) < ((ns.length : Nat) : Int) := by omega
    first
      | (rw [decide_eq_true q'] at h5; exact absurd h5 (by decide))
      | (simp at h5; omega)
  cases hwl with
  | cons w1 w2 =>
    cases w2
    cases w1 with
    | list ho hall => exact ⟨_, _, ns, rfl, rfl, ho, ints_of_wellAll ns _ hall, hlen⟩

theorem post_true (l : OpenLaw) (args : List WData) : l.row.toRowW.claim.post args (.bool true) args = true :=
  postW_of (r := l.row.toRowW) (X := (true == true))
    (show WShape.has [] (.bool true) .bool = true by first | rfl | decide | simp [WShape.has, WShape.arms, WShape.armsAll])
    (show (WTm.eq .res (.lit (.bool true))).value [] { args := args, res := some (.bool true), after := args } = some (.bool (true == true)) from w_eq_bool (w_res rfl) w_lit) rfl

/-! ### the attachment: holds_open's last premise (the goal 'hc' behind k_head) from a wpAny of the law's body -/
/-- the same from a codeAny of the CALL (for a layer whose function contracts speak of calls) -/
theorem attach_call {l : OpenLaw} {n : Nat} {q : Program} {loose : List Str} {XP : (Str → Option Value) → Heap → Prop} {YP : World → Heap → Prop} {d : DefRec}
    (hn : l.most = some n) (hdf : d.params.defaults = [])
    (call : ∀ (w : World) (s₀ s₁ : Shared) (mg mb : Str → Option Value) (fa : Addr) (o : Obj) (pm cd doc : Value) (a : Addr) (vs : List Value) (ns : List Int),
      Ground q loose [] XP w s₀ mg mb s₁.heap → YP w s₁.heap →
      s₁.heap.get? fa = some o → o.data = .func (docDef d.name d.params d.body d.scope pm cd doc) → s₁.heap.CodeRec cd d.name → mg d.name = some (.ref fa) →
      s₁.heap.get? a = some { cls := .type "list", data := .seq vs.toArray } → IntsAre vs ns → ns.length ≤ n → s₁.gens = #[] →
      codeAny (model l.prog w) callerA (.call (.ref fa) ⟨[.ref a], []⟩) (fun r s' => r = .ok (.ret (.bool true)) ∧ OldK s₁.heap s'.heap ∧ s'.os = s₁.os ∧ AllBare s'.gens) s₁) :
    WalkO q loose XP YP l.row.toRowW d [] (fun f vs => PySem.call f vs) := by
  intro w s₀ s₁ mg mb G Y fa o pm cd doc dV kV ho hd hcd hD hmg hg args vals as hpre hlay hrd hwl hlo
  obtain rfl : dV = .none := Dflts.none hD hdf
  obtain rfl : kV = .none := Dflts.noKw hD
  obtain ⟨a, vs, ns, rfl, rfl, hobj, hints, hlen⟩ := script_of hn hpre hwl
  refine enter_call (codeAny_mono (call w s₀ s₁ mg mb fa o pm cd doc a vs ns G Y ho (fd_plain hd) hcd hmg hobj hints hlen hg) fun r s' hq => ?_)
  obtain ⟨rfl, h2, h3, h4⟩ := hq
  exact ⟨.inl ⟨.bool true, .bool true, [], rfl, fun _ => rfl, .bool true, post_true l _, fun _ => ⟨List.Pairwise.nil, fun _ hm => (nomatch hm)⟩⟩, h2, h3, h4⟩

/-! ### rules over ANY heap (no ledger) from facts about the written part K: the library's own take a ledger (News) for what they write -/
section
variable {prog : Program} {w : World} {A : Around} {E : Value → Shared → Prop} {s : Shared} {K : Frag}

/-! the whole heap as the ledger: makes every rule that writes through a ledger a rule over any heap -/
def noObjs (h : Heap) : Heap := { h with objs := #[] }
def ledger (h : Heap) (L d : Addr) : List (Addr × Obj) := (List.range h.objs.size).filterMap fun a => if a = L ∨ a = d then none else (h.get? a).map fun o => (a, o)
end
end Att

namespace L2
open PySem PySem.Spec PyProof.Rows

theorem vals_ints : ∀ {vs : List Value} {ns : List Int}, IntsAre vs ns → Vals (ns.map V.int) vs
  | _, _, .nil => .nil
  | _, _, .cons n t h => .cons ⟨t, rfl⟩ (vals_ints h)

/-- nothing is tracked but the script, known to the object (or it is an object of the module) -/
def Only (H : Hp) : Prop := ∀ b, H b = none ∨ ∃ o xs, H b = some (.frz o (.lst xs))

/-- THE HEAD: the law's promise, at the heap behind the top. F, the promise of the law's def, may use that base is part of the heap (so K.In base, base.Ns mainGlobals mg stand in Mod) -/
theorem law_call {P : Program} {w : World} {K : PySem.W.Frag} {mg mb : Str → Option Value} {CX : CXT} {k : Nat} {fa a : Addr} {fd : FuncData} {x : Str} {sp : Sp} {s₁ : Shared} {vs : List Value} {ns : List Int}
    (KX : K.In s₁.heap) (hns : s₁.heap.Ns mainGlobals mg) (hb : s₁.heap.Ns builtinsNs mb) (hbb : ∀ x : Str, x ≠ "__name__" → mb x = bootBuiltins x) (hlim : s₁.heap.NoLimit) (hg : s₁.gens = #[])
    (ha : s₁.heap.get? a = some { cls := .type "list", data := .seq vs.toArray }) (hi : IntsAre vs ns) (hl : ns.length ≤ sizeLine) (hr : Room k callerA)
    (F : ∀ base : Heap, K.In base → base.Ns mainGlobals mg → FnOk P w K mg base CX k fa fd [x] sp) (hbind : ∀ (s : Shared) (u : Value), BindsTo s fd ⟨[u], []⟩ [(x, u)])
    (hsp : ∀ H : Hp, Only H → SqL K H a (ns.map V.int) → sp [.ref a] H (fun v _ => v = .bl true) fun _ _ _ => False)
    (hCX : ∀ H e s', CX [] H s₁ (fun _ _ _ => False) e s' → False) :
    codeAny (model P w) callerA (.call (.ref fa) ⟨[.ref a], []⟩) (fun r s' => r = .ok (.ret (.bool true)) ∧ OldK s₁.heap s'.heap ∧ s'.os = s₁.os ∧ AllBare s'.gens) s₁ := by
  have rv := vals_ints hi
  have lenV := hi.length
  -- from an abstract heap in which nothing but the script may be tracked
  have core : ∀ H : Hp, Only H → SqL K H a (ns.map V.int) → HOk P w H s₁.heap → (∀ b, H b ≠ none → b = a) → (H a ≠ none → K.lookup a = none) →
      codeAny (model P w) callerA (.call (.ref fa) ⟨[.ref a], []⟩) (fun r s' => r = .ok (.ret (.bool true)) ∧ OldK s₁.heap s'.heap ∧ s'.os = s₁.os ∧ AllBare s'.gens) s₁ := by
    intro H hO hS hok hA hK
    have base_of : ∀ {b : Addr} {o : Obj}, s₁.heap.get? b = some o → H b = none → (hidT s₁.heap H).get? b = some o := fun e n => hidT_get e n
    have noA : ∀ {b : Addr} {o : Obj} {es : Array DictEntry} {ep : Nat}, s₁.heap.get? b = some o → o.data = .dict es ep → H b = none := fun {b o es ep} e d => by
      cases q : H b with
      | none => rfl
      | some u =>
        have e' : b = a := hA b (by rw [q]; simp)
        subst e'
        rw [ha] at e; cases e
        have d' : Data.seq vs.toArray _ = Data.dict es ep := d
        cases d'
    have nsK : ∀ {b : Addr} {m : Str → Option Value}, s₁.heap.Ns b m → (hidT s₁.heap H).Ns b m := fun {b m} ⟨o, es, ep, e, d, r⟩ => ⟨o, es, ep, base_of e (noA e d), d, r⟩
    have hKb : K.In (hidT s₁.heap H) := fun b o e => base_of (KX b o e) (by
      cases q : H b with
      | none => rfl
      | some u =>
        have e' : b = a := hA b (by rw [q]; simp)
        subst e'
        rw [hK (by rw [q]; simp)] at e; cases e)
    have hM : Mod K mg (hidT s₁.heap H) := ⟨hKb, nsK hns, ⟨mb, nsK hb, hbb⟩, let ⟨mc, h1, h2⟩ := hlim; ⟨mc, nsK h1, h2⟩⟩
    have e0 : Env0 P w K mg (hidT s₁.heap H) callerA [] s₁ H := ⟨rfl, hM, fun b o e => of_hidT e, Nat.le_of_eq (hidT_size _ _), trivial, fun b hb => absurd (show b ∈ ([] : List Addr) from hb) (by simp), hok, .of_eq hg⟩
    refine codeAny_mono ((F _ hKb (nsK hns)).run callerA [] s₁ H ⟨[.ref a], []⟩ [.ref a] [.ref a] _ _ hr e0 (hbind s₁ (.ref a)) (.cons rfl .nil) (hsp H hO hS)) fun r s' h => ?_
    cases r with
    | error e => exact (hCX H e s' h).elim
    | ok fl =>
      cases fl with
      | next => exact False.elim h
      | brk => exact False.elim h
      | cont => exact False.elim h
      | ret u =>
        obtain ⟨v, H', os, bare, un, hok', r', q⟩ := h
        have q' : v = .bl true := q
        subst q'
        obtain rfl : u = Value.bool true := r'
        refine ⟨rfl, OldK.of_keep fun b o e => ?_, os, bare⟩
        cases q : H b with
        | none => exact un.keep b o e q (by intro z; exact absurd (show b ∈ ([] : List Addr) from z) (by simp)) (by simp)
        | some u =>
          rcases hO b with z | ⟨ob, xs, z⟩
          · rw [q] at z; cases z
          · have z2 := un.frzs b ob _ z
            obtain ⟨e1, _⟩ := hok b _ z
            obtain ⟨e2, _⟩ := hok' b _ z2
            rw [e] at e1; cases e1
            exact e2
  cases hk : K.lookup a with
  | some o =>
    -- the script is one of the module's own objects
    have e := KX a o hk
    rw [ha] at e
    cases e
    refine core (fun _ => none) (fun _ => .inl rfl) (.inr ⟨_, vs.toArray, _, hk, rfl, rfl, rfl, by rw [List.size_toArray, lenV]; exact hl, by simpa using rv⟩) (fun b u z => by have z' : (none : Option HO) = some u := z; cases z') (fun b z => absurd rfl z) fun z => absurd rfl z
  | none =>
    refine core (fun b => if b = a then some (.frz { cls := .type "list", data := .seq vs.toArray } (.lst (ns.map V.int))) else none) (fun b => ?_) (.inl (.inr ⟨{ cls := .type "list", data := .seq vs.toArray }, if_pos rfl⟩)) (fun b u z => ?_) (fun b z => ?_) fun _ => hk
    · by_cases hb : b = a
      · exact .inr ⟨_, _, if_pos hb⟩
      · exact .inl (if_neg hb)
    · by_cases hb : b = a
      · have z' := (if_pos hb).symm.trans z
        cases z'
        subst hb
        exact ⟨ha, by rw [List.length_map]; exact hl, vs, _, rv, ha⟩
      · have z' := (if_neg hb).symm.trans z
        cases z'
    · by_cases hb : b = a
      · exact hb
      · exact absurd (if_neg hb) z
end L2

namespace L2
open PySem PySem.Spec PyProof.Rows

abbrev KOf {K : PySem.W.Frag} {h : Heap} (_ : K.In h) : PySem.W.Frag := K

/-- the goal that k_head leaves (case hc), from the law's promise. F gives the function object fd (K's own) once, then the promise over every base -/
theorem walk_of {l : PySem.W.OpenLaw} {n k : Nat} {q : Program} {loose : List Str} {XP : (Str → Option Value) → Heap → Prop} {YP : World → Heap → Prop} {d : DefRec} {K : Params → PySem.W.Frag} {CX : World → CXT} {sp : World → Sp} {x : Str}
    (hn : l.most = some n) (hn2 : n ≤ sizeLine) (hdf : d.params.defaults = []) (hr : Room k callerA)
    (hY : ∀ (w : World) (h : Heap), YP w h → (K w.params).In h)
    (F : ∀ (w : World) (mg : Str → Option Value) (fa : Addr) (h : Heap), (K w.params).In h → h.Ns mainGlobals mg → mg d.name = some (.ref fa) →
      ∃ fd : FuncData, (∀ (s : Shared) (u : Value), BindsTo s fd ⟨[u], []⟩ [(x, u)]) ∧
        ∀ base : Heap, (K w.params).In base → base.Ns mainGlobals mg → FnOk l.prog w (K w.params) mg base (CX w) k fa fd [x] (sp w))
    (hsp : ∀ (w : World) (H : Hp) (a : Addr) (ns : List Int), ns.length ≤ n → Only H → SqL (K w.params) H a (ns.map V.int) → sp w [.ref a] H (fun v _ => v = .bl true) fun _ _ _ => False)
    (hCX : ∀ (w : World) (H : Hp) (s : Shared) (e : Value) (s' : Shared), CX w [] H s (fun _ _ _ => False) e s' → False) :
    PySem.W.WalkO q loose XP YP l.row.toRowW d [] (fun f vs => PySem.call f vs) := by
  refine Att.attach_call hn hdf fun w s₀ s₁ mg mb fa o pm cd doc a vs ns G Y ho hd hcd hmg hobj hints hlen hg => ?_
  have KX := hY w _ Y
  obtain ⟨fd, hb, hF⟩ := F w mg fa _ KX G.T.g hmg
  exact law_call KX G.T.g G.T.b G.T.builtins G.T.nolimit hg hobj hints (Nat.le_trans hlen hn2) hr hF hb (fun H hO hS => hsp w H a ns hlen hO hS) fun H e s' => hCX w H s₁ e s'
end L2


/-! SHORT WORDS over the layer: a def of the text, its body, what a loop and a test want. -/
namespace L2
open PySem PySem.Spec PyProof.Rows

/-! ### the text by places -/
/-- the j-th statement of a class's body -/
def inClass (s : Stmt) (j : Nat) : Stmt := match s with
  | .ClassDef _ _ _ body _ _ _ _ _ _ _ => body.getD j (.Pass ⟨0, 0, 0, 0⟩)
  | _ => .Pass ⟨0, 0, 0, 0⟩
def defArgs (s : Stmt) : Arguments := match s with
  | .FunctionDef _ a _ _ _ _ _ _ _ _ => a
  | _ => { posonlyargs := [], args := [], vararg := none, kwonlyargs := [], kw_defaults := [], kwarg := none, defaults := [] }
def defBody (s : Stmt) : List Stmt := match s with
  | .FunctionDef _ _ b _ _ _ _ _ _ _ => b
  | _ => []
def defScope (s : Stmt) : Scope := match s with
  | .FunctionDef _ _ _ _ _ _ sc _ _ _ => sc
  | _ => { kind := .function, names := [], isGenerator := false, isCoroutine := false }

/-! ### no exception leaves a def -/
abbrev CX0 : CXT := fun _ _ _ _ _ _ => False
abbrev E0 : XK := fun _ _ _ => False
theorem pass0 {X : Cx} : Passes CX0 X E0 := fun _ _ _ _ _ _ _ h => h.elim

/-! ### a def (or method) of the text as it stands behind the top -/
structure Fun (K : PySem.W.Frag) (x qual : Str) (st : Stmt) (f : Addr) (fd : FuncData) : Prop where
  ex : ∃ (oc : Value) (od : Option Addr) (kV doc pm : Value) (an : Option Addr) (cdv ct : Value) (osl : Array (Option Value)),
    fd = PySem.W.fnOf x qual (defArgs st) (defBody st) (defScope st) .none kV doc pm an cdv ct ∧ K.lookup f = some ⟨oc, od, .func fd, osl⟩ ∧ PySem.W.codeIn K cdv qual = true
  kp : PySem.W.keepIn K (.ref f) = true
section
variable {P : Program} {w : World} {K : PySem.W.Frag} {mg : Str → Option Value} {base : Heap}
/-- THE RULE for a def: its body as a term of rules, and the reading of that term -/
theorem Fun.ok {x qual : Str} {st : Stmt} {f : Addr} {fd : FuncData} {N ps : List Str} {k : Nat} {sp : Sp} (F : Fun K x qual st f fd) (S : FnScope N ps (defScope st)) (len : ∀ vs H Q E, sp vs H Q E → vs.length = ps.length)
    (hbody : ∀ (cdv : Value) (A : Around) (outer : List Env) (s : Shared) (H : Hp) (vs : List V) (Q : VK) (E : XK), Room k (A.deeper (envOfC qual (defScope st) s.heap.objs.size f cdv)) → sp vs H Q E →
      ∃ t, PSs (cxOf CX0 P w K mg base N qual (defScope st) f cdv A outer s H E).nox (defBody st) t ∧ t { nx := fun _ H' => Q .non H', rt := Q } (start N vs) H) : FnOk P w K mg base CX0 (k + 1) f fd ps sp := by
  obtain ⟨oc, od, kV, doc, pm, an, cdv, ct, osl, rfl, lk, hcd⟩ := F.ex
  refine fn_of lk hcd S len fun A outer s H vs Q E hr hsp => ?_
  obtain ⟨t, h, q⟩ := hbody cdv A outer s H vs Q E hr hsp
  exact ⟨t, h.nox, q⟩
/-- how its arguments bind (no defaults): h is «fun _ _ _ _ _ _ us hl => match us, hl with | [_, _], _ => rfl», one _ a parameter -/
theorem Fun.binds {x qual : Str} {st : Stmt} {f : Addr} {fd : FuncData} {ps : List Str} (F : Fun K x qual st f fd)
    (h : ∀ (kV doc pm : Value) (an : Option Addr) (cdv ct : Value) (us : List Value), us.length = ps.length → bindArgs (PySem.W.fnOf x qual (defArgs st) (defBody st) (defScope st) .none kV doc pm an cdv ct) ⟨us, []⟩ = pure (ps.zip us)) : Binds K fd ps [] := by
  obtain ⟨oc, od, kV, doc, pm, an, cdv, ct, osl, rfl, lk, hcd⟩ := F.ex
  exact .all (h kV doc pm an cdv ct)
end
theorem hu_of {A : Around} {k : Nat} (hr : Room k A) : A.units + 1 < cLine := Nat.lt_of_le_of_lt (Nat.add_le_add_left (by decide : 1 ≤ 64) _) hr.units
theorem small1000 {n : Nat} (h : n ≤ 1000) : n < sizeLine := Nat.lt_of_le_of_lt h (by decide)

/-! ### expressions in short: the name that stands in the i-th slot -/
section
variable {X : Cx}
theorem pv (i : Nat) {x : Str} {pos : Pos} (hN : X.N[i]? = some x := by rfl) (hv : Vis X.env.scope x := by first | exact Or.inl rfl | exact Or.inr (Or.inl rfl) | exact Or.inr (Or.inr rfl)) (hd : (x == ("__debug__" : Str)) = false := by decide)
    (hcd : (x == ("__classdict__" : Str)) = false := by decide) : PE X (.Name x pos) (tVar i) := pe_var hN hv hd hcd
end

/-! ### tests -/
theorem iteF {A B : Prop} (h : B) : if false = true then A else B := by
  rw [if_neg Bool.false_ne_true]
  exact h
theorem iteT {A B : Prop} (h : A) : if true = true then A else B := by
  rw [if_pos rfl]
  exact h
theorem ite2 {c A B : Prop} [Decidable c] (h1 : c → A) (h2 : ¬ c → B) : if c then A else B := by
  by_cases h : c
  · rw [if_pos h]
    exact h1 h
  · rw [if_neg h]
    exact h2 h
/-! ### heaps -/
/-- all that was tracked is as it was -/
def Same (H H' : Hp) : Prop := ∀ b o, H b = some o → H' b = some o
theorem Same.refl (H : Hp) : Same H H := fun _ _ h => h
theorem Same.trans {H H1 H2 : Hp} (a : Same H H1) (b : Same H1 H2) : Same H H2 := fun c o h => b c o (a c o h)
theorem Same.free {H H' : Hp} (e : Same H H') {l : Addr} (h : H' l = Option.none) : H l = Option.none := by
  cases q : H l with
  | none => rfl
  | some o =>
    rw [e l o q] at h
    cases h
theorem Same.seq {K : PySem.W.Frag} {H H' : Hp} {a : Addr} {xs : List V} (e : Same H H') (h : SqL K H a xs) : SqL K H' a xs := by
  rcases h with (h | ⟨o, h⟩) | h
  · exact .inl (.inl (e _ _ h))
  · exact .inl (.inr ⟨o, e _ _ h⟩)
  · exact .inr h

end L2

set_option Elab.async false
set_option linter.all false
set_option maxRecDepth 100000
/-! My own words over the hand layer: comprehensions, isinstance, a list unpacked, lists compared -/
namespace L2
open PySem PySem.Spec PyProof.Rows

/-! ### the closure of a comprehension's block -/
def closList (cells : List (Str × Addr)) : List (Str × NameKind) → List (Str × Addr) → List (Str × Addr)
  | [], cs => cs
  | (n, k) :: r, cs => closList cells r (if k == .free then (n, (cells.lookup n).getD 0) :: cs else cs)

theorem closureFor_eq {scope : Scope} {env : Env} (h : ∀ y ∈ scope.names, y.2 = .free → ∃ c, env.cells.lookup y.1 = some c) :
    closureFor scope env = pure (closList env.cells scope.names []) := by
  have all : ∀ (ns : List (Str × NameKind)) (cs : List (Str × Addr)), (∀ y ∈ ns, y.2 = .free → ∃ c, env.cells.lookup y.1 = some c) →
      (forIn ns cs (fun (x : Str × NameKind) (r : List (Str × Addr)) => (match x with
        | (name, kind) => if (kind == NameKind.free) = true then (do let c ← cellOf env name; pure (ForInStep.yield ((name, c) :: r))) else pure (ForInStep.yield r) : Sem (ForInStep (List (Str × Addr))))) : Sem (List (Str × Addr)))
      = pure (closList env.cells ns cs) := by
    intro ns
    induction ns with
    | nil => intro cs _; rfl
    | cons y r ih =>
      intro cs hy
      obtain ⟨n, k⟩ := y
      rw [List.forIn_cons]
      by_cases hk : k = .free
      · subst hk
        obtain ⟨c, e⟩ := hy (n, .free) List.mem_cons_self rfl
        have e' : env.cells.lookup n = some c := e
        have e1 : cellOf env n = pure c := by unfold cellOf; rw [e']
        simp only [beq_self_eq_true, if_true, e1, pure_bind]
        rw [ih _ fun z hz => hy z (List.mem_cons_of_mem _ hz)]
        simp only [closList, beq_self_eq_true, if_true, e', Option.getD_some]
      · have hb : (k == NameKind.free) = false := by simpa using hk
        simp only [hb, Bool.false_eq_true, if_false, pure_bind]
        rw [ih _ fun z hz => hy z (List.mem_cons_of_mem _ hz)]
        simp only [closList, hb, Bool.false_eq_true, if_false]
  unfold closureFor
  have q := all scope.names [] h
  simp only [bind_pure]
  exact q

theorem closList_some (cells : List (Str × Addr)) {x : Str} {c : Addr} : ∀ (ns : List (Str × NameKind)) (cs : List (Str × Addr)), (closList cells ns cs).lookup x = some c →
    ((x, NameKind.free) ∈ ns ∧ (cells.lookup x).getD 0 = c) ∨ cs.lookup x = some c
  | [], _, h => .inr h
  | (n, k) :: r, cs, h => by
    rcases closList_some cells r _ h with ⟨h1, h2⟩ | h1
    · exact .inl ⟨List.mem_cons_of_mem _ h1, h2⟩
    · by_cases hk : k = .free
      · subst hk
        simp only [beq_self_eq_true, if_true] at h1
        by_cases hx : x = n
        · subst hx
          simp only [List.lookup_cons, beq_self_eq_true] at h1
          exact .inl ⟨List.mem_cons_self, Option.some.inj h1⟩
        · have hb : (x == n) = false := by simpa using hx
          simp only [List.lookup_cons, hb] at h1
          exact .inr h1
      · have hb : (k == NameKind.free) = false := by simpa using hk
        simp only [hb, Bool.false_eq_true, if_false] at h1
        exact .inr h1
theorem closList_has (cells : List (Str × Addr)) {x : Str} {c : Addr} (e : cells.lookup x = some c) : ∀ (ns : List (Str × NameKind)) (cs : List (Str × Addr)), ((x, NameKind.free) ∈ ns ∨ cs.lookup x = some c) →
    (closList cells ns cs).lookup x = some c
  | [], _, h => by
    rcases h with h | h
    · cases h
    · exact h
  | (n, k) :: r, cs, h => by
    refine closList_has cells e r _ ?_
    rcases h with h | h
    · rcases List.mem_cons.mp h with z | z
      · cases z
        right
        simp only [beq_self_eq_true, if_true, List.lookup_cons, e, Option.getD_some]
      · exact .inl z
    · right
      by_cases hk : (k == NameKind.free) = true
      · rw [if_pos hk]
        by_cases hx : x = n
        · subst hx
          simp only [List.lookup_cons, beq_self_eq_true, e, Option.getD_some]
        · have hb : (x == n) = false := by simpa using hx
          simp only [List.lookup_cons, hb]
          exact h
      · rw [if_neg hk]
        exact h
theorem relabel_free {env : Env} : ∀ {names : List (Str × NameKind)} {x : Str}, names.lookup x = some .free →
    (names.map fun (n, k) => if (k == NameKind.free && env.scope.kind == .function && env.kindOf n == some .cell) then (n, NameKind.cell) else (n, k)).lookup x = some .cell ∨
    (names.map fun (n, k) => if (k == NameKind.free && env.scope.kind == .function && env.kindOf n == some .cell) then (n, NameKind.cell) else (n, k)).lookup x = some .free
  | [], _, h => by simp at h
  | (n, k) :: r, x, h => by
    have ih := @relabel_free env r x
    show List.lookup x ((if (k == NameKind.free && env.scope.kind == .function && env.kindOf n == some .cell) = true then (n, NameKind.cell) else (n, k)) :: _) = _ ∨
      List.lookup x ((if (k == NameKind.free && env.scope.kind == .function && env.kindOf n == some .cell) = true then (n, NameKind.cell) else (n, k)) :: _) = _
    cases hx : x == n with
    | true =>
      simp only [List.lookup_cons, hx] at h
      cases h
      by_cases hc : (NameKind.free == NameKind.free && env.scope.kind == .function && env.kindOf n == some .cell) = true
      · rw [if_pos hc]; simp only [List.lookup_cons, hx]; first | exact .inl trivial | exact .inl rfl
      · rw [if_neg hc]; simp only [List.lookup_cons, hx]; first | exact .inr trivial | exact .inr rfl
    | false =>
      simp only [List.lookup_cons, hx] at h
      by_cases hc : (k == NameKind.free && env.scope.kind == .function && env.kindOf n == some .cell) = true
      · rw [if_pos hc]; simp only [List.lookup_cons, hx]; exact ih h
      · rw [if_neg hc]; simp only [List.lookup_cons, hx]; exact ih h
/-- what is a cell or free behind the change of names was free -/
theorem relabel_back {env : Env} : ∀ {names : List (Str × NameKind)} {x : Str} {k' : NameKind}, k' = .cell ∨ k' = .free → (∀ y ∈ names, y.2 ≠ .cell) →
    (names.map fun (n, k) => if (k == NameKind.free && env.scope.kind == .function && env.kindOf n == some .cell) then (n, NameKind.cell) else (n, k)).lookup x = some k' → (x, NameKind.free) ∈ names
  | [], _, _, _, _, h => by simp at h
  | (n, k) :: r, x, k', hk', hn, h => by
    have ih := @relabel_back env r x k' hk' (fun y hy => hn y (List.mem_cons_of_mem _ hy))
    have h' : List.lookup x ((if (k == NameKind.free && env.scope.kind == .function && env.kindOf n == some .cell) = true then (n, NameKind.cell) else (n, k)) :: (r.map fun (n, k) => if (k == NameKind.free && env.scope.kind == .function && env.kindOf n == some .cell) then (n, NameKind.cell) else (n, k))) = some k' := h
    have hkc : k ≠ .cell := hn (n, k) List.mem_cons_self
    cases hx : x == n with
    | true =>
      have hxn : x = n := by simpa using hx
      subst hxn
      by_cases hc : (k == NameKind.free && env.scope.kind == .function && env.kindOf x == some .cell) = true
      · have hk : k = .free := by
          simp only [Bool.and_eq_true, beq_iff_eq] at hc
          exact hc.1.1
        subst hk
        exact List.mem_cons_self
      · rw [if_neg hc] at h'
        simp only [List.lookup_cons, beq_self_eq_true] at h'
        have hk : k = k' := Option.some.inj h'
        rcases hk' with z | z
        · exact absurd (hk.trans z) hkc
        · rw [hk, z]; exact List.mem_cons_self
    | false =>
      refine List.mem_cons_of_mem _ (ih ?_)
      by_cases hc : (k == NameKind.free && env.scope.kind == .function && env.kindOf n == some .cell) = true
      · rw [if_pos hc] at h'
        simpa only [List.lookup_cons, hx] using h'
      · rw [if_neg hc] at h'
        simpa only [List.lookup_cons, hx] using h'

/-! ### the block -/
def blockSt (ix : List (Option Nat)) (σ : St) : St := ix.map fun o => match o with
  | none => none
  | some i => (σ[i]?).join
/-- the block's names N: its own at none, the frame's i-th at some i -/
structure BlkScope (NX : List Str) (scX : Scope) (N : List Str) (ix : List (Option Nat)) (sc : Scope) : Prop where
  kind : sc.kind = .function
  nd : N.Nodup
  nocell : ∀ y ∈ sc.names, y.2 ≠ .cell
  locs : ∀ y ∈ sc.names, y.2 = .local → sc.names.lookup y.1 = some .local
  free : ∀ y ∈ sc.names, y.2 = .free → scX.names.lookup y.1 = some .cell ∨ scX.names.lookup y.1 = some .free
  len : ix.length = N.length
  at_ : ∀ p ∈ N.zip ix, ∀ i, p.2 = some i → NX[i]? = some p.1 ∧ sc.names.lookup p.1 = some .free

def cxComp (X : Cx) (N : List Str) (scope : Scope) (fp : List Addr) (s : Shared) (H : Hp) (C : Addr) : Cx :=
  { prog := X.prog, w := X.w, K := X.K, mg := X.mg, base := X.base, A := X.A, N := N, s₀ := s, H₀ := H, env := compEnvC scope (closList X.env.cells scope.names []) C X.env, outer := X.stack, stack := X.stack, ex := fp, fn := fun _ => false, calm := X.calm, pn := X.pn, xe := fun _ _ => False }

theorem mem_lookup_free {names : List (Str × NameKind)} {x : Str} (h : names.lookup x = some .free) : (x, NameKind.free) ∈ names := PySem.mem_of_lookup h

section
variable {X : Cx} {pins : List (Addr × Obj)} {σ : St} {H : Hp} {s : Shared} {N : List Str} {ix : List (Option Nat)} {scope : Scope} {fp : List Addr}

theorem BlkScope.clos (S : BlkScope X.N X.env.scope N ix scope) (ok : X.Ok) : ∀ y ∈ scope.names, y.2 = .free → ∃ c, X.env.cells.lookup y.1 = some c := fun y hy hf => ok.has y.1 (S.free y hy hf)

/-- the state at the block's entry: the list at D, the block's names at C -/
theorem inv_block {D C : Addr} {h' : Heap} {tk : Nat} {m : Str → Option Value} (I : Inv X pins σ H s) (S : BlkScope X.N X.env.scope N ix scope) (hf : ∀ b ∈ fp, FpOk X pins H b)
    (hfo : ∀ b ∈ fp, ∃ o, s.heap.get? b = some o ∧ ∀ v, o.data ≠ .cell v)
    (hD : s.heap.objs.size ≤ D) (hC : s.heap.objs.size ≤ C) (hDC : D ≠ C) (hk : ∀ b o, s.heap.get? b = some o → h'.get? b = some o) (hns : h'.Ns C m)
    (hl : ∃ n, h'.get? D = some { cls := .type "list", data := .seq ([] : List Value).toArray n }) :
    Inv (cxComp X N scope fp s H C) pins (blockSt ix σ) (upd H D (.lst [])) { s with heap := h', toks := tk } := by
  have fresh : ∀ {a : Addr}, s.heap.objs.size ≤ a → H a = none := fun h => I.hok.fresh h
  have cl_of : ∀ x c, (closList X.env.cells scope.names []).lookup x = some c → X.env.cells.lookup x = some c := fun x c e => by
    rcases closList_some _ _ _ e with ⟨h1, h2⟩ | h1
    · obtain ⟨c', e'⟩ := S.clos I.ok _ h1 rfl
      have e'' : X.env.cells.lookup x = some c' := e'
      rw [e''] at h2
      rw [e'']
      exact congrArg some h2
    · simp at h1
  have ltO : ∀ {b : Addr} {o : Obj}, s.heap.get? b = some o → b < s.heap.objs.size := fun e => Heap.lt_size e
  have neC : ∀ {b : Addr} {o : Obj}, s.heap.get? b = some o → b ≠ C := fun e => Nat.ne_of_lt (Nat.lt_of_lt_of_le (ltO e) hC)
  have neD : ∀ {b : Addr} {o : Obj}, s.heap.get? b = some o → b ≠ D := fun e => Nat.ne_of_lt (Nat.lt_of_lt_of_le (ltO e) hD)
  have cellG : ∀ x c, X.env.cells.lookup x = some c → ∃ o, s.heap.get? c = some o := fun x c e => by
    obtain ⟨v, o, ho, _⟩ := I.cell x c e
    exact ⟨o, ho⟩
  refine ⟨⟨I.ok.mod, ?_, I.ok.glob, I.ok.blt, hC, fun x y c e1 e2 => I.ok.inj x y c (cl_of x c e1) (cl_of y c e2), fun x hx => ?_, fun x c h _ => ?_, I.ok.hd, I.ok.frames, .inl rfl, fun b hb => ?_, I.bs, Nat.le_trans I.ok.bsz I.sz, fun b o e hb => ?_, fun b hb hb2 => ?_, I.stack, I.stkFree⟩,
    rfl, I.bare, Un.laid hk hD (fresh hD), ⟨m, hns, fun j x v e1 e2 e3 => ?_⟩, fun x c e => ?_, ?_, fun x c e => ?_, fun p hp => ?_, I.hok.laid hk hD ?_, ?_⟩
  · exact S.kind
  · have hx' : (x, NameKind.free) ∈ scope.names := by
      rcases hx with hx | hx
      · exact relabel_back (.inl rfl) S.nocell hx
      · exact relabel_back (.inr rfl) S.nocell hx
    obtain ⟨c, e⟩ := S.clos I.ok _ hx' rfl
    exact ⟨c, closList_has _ e _ _ (.inl hx')⟩
  · exact absurd (show false = true from h) Bool.false_ne_true
  · obtain ⟨f0, f1, f2, f3, f4, f5⟩ := hf b hb
    obtain ⟨o, e, _⟩ := hfo b hb
    exact ⟨neC e, fun x c ec => f4 x c (cl_of x c ec)⟩
  · obtain ⟨f0, f1, f2, f3, f4, f5⟩ := hf b hb
    rcases f3 with z | z
    · exact I.ok.noex b o e z
    · exact absurd (Nat.lt_of_lt_of_le (Heap.lt_size (I.ok.bs b o e).1) z) (Nat.lt_irrefl _)
  · obtain ⟨f0, f1, f2, f3, f4, f5⟩ := hf b hb
    rcases List.mem_cons.mp (I.stkSub b hb2) with z | z
    · exact f1 z
    · exact f2 z
  · -- a name's value
    obtain ⟨mX, hnX, hlX⟩ := id I.loc
    have hj : (blockSt ix σ)[j]? = some (some v) := e2
    unfold blockSt at hj
    rw [List.getElem?_map] at hj
    cases ej : ix[j]? with
    | none => rw [ej] at hj; cases hj
    | some o =>
      rw [ej] at hj
      cases o with
      | none => cases hj
      | some i =>
        have hj' : (σ[i]?).join = some v := Option.some.inj hj
        have hz : (x, some i) ∈ N.zip ix := List.mem_iff_getElem?.mpr ⟨j, by rw [List.getElem?_zip_eq_some]; exact ⟨e1, ej⟩⟩
        obtain ⟨hNi, hfr⟩ := S.at_ _ hz i rfl
        have hmem := mem_lookup_free hfr
        have hσ : σ[i]? = some (some v) := by
          cases q : σ[i]? with
          | none => rw [q] at hj'; cases hj'
          | some w' =>
            rw [q] at hj'
            have q' : w' = some v := hj'
            rw [q']
        have hvx : X.env.scope.names.lookup x = some .cell ∨ X.env.scope.names.lookup x = some .free := S.free _ hmem rfl
        obtain ⟨u, r, lk⟩ := hlX i x v hNi hσ (.inr hvx)
        refine ⟨u, r, .inr ⟨?_, ?_⟩⟩
        · exact relabel_free hfr
        · rcases lk with ⟨k, _⟩ | ⟨k, c, ec, ci⟩
          · have k' : X.env.scope.names.lookup x = some .local := k
            rcases hvx with z | z
            · rw [z] at k'; cases k'
            · rw [z] at k'; cases k'
          · obtain ⟨oc, hoc, hocd⟩ := ci
            exact ⟨c, closList_has _ ec _ _ (.inl hmem), oc, hk c oc hoc, hocd⟩
  · obtain ⟨v, o, ho, hd⟩ := I.cell x c (cl_of x c e)
    exact ⟨v, o, hk c o ho, hd⟩
  · show upd H D (.lst []) C = none
    rw [upd_ne (Ne.symm hDC)]
    exact fresh hC
  · obtain ⟨o, ho⟩ := cellG x c (cl_of x c e)
    rw [upd_ne (neD ho)]
    exact I.freeC x c (cl_of x c e)
  · obtain ⟨e, n, ne, nf, d⟩ := I.pin p hp
    refine ⟨hk _ _ e, by rw [upd_ne (neD e)]; exact n, neC e, fun z => ?_, d⟩
    rcases List.mem_cons.mp (I.stkSub p.1 z) with q | q
    · exact ne q
    · exact nf q
  · obtain ⟨n, hl⟩ := hl
    exact ⟨Nat.zero_le _, [], n, .nil, hl⟩
  · show (blockSt ix σ).length = N.length
    unfold blockSt
    rw [List.length_map]
    exact S.len
end
end L2

set_option Elab.async false
set_option linter.all false
set_option maxRecDepth 100000
namespace L2
open PySem PySem.Spec PyProof.Rows

/-! ### the comprehension's loop -/
theorem compLoop_by {prog : Program} {w : World} {A : Around} {R : Result → Shared → Prop} {s : Shared} {elt target iter : Expr} {scope : Scope} {pos : Pos} {it acc : Value} {env : Env} (I : Nat → Shared → Prop)
    (turn : ∀ n s, I n s → wpAny (model prog w) A (pyNext it) (fun r s₁ => match r with
      | none => R (.ok .next) s₁
      | some v => wpAny (model prog w) A (letOwnedTupleGo target it v) (fun _ s₁' => wpAny (model prog w) A (assign target env v) (fun _ s₂ => wpAny (model prog w) A (eval elt env) (fun x s₃ =>
          wpAny (model prog w) A (call (.builtin "list.append") [acc, x]) (fun _ s₄ => ∃ m, m < n ∧ I m s₄) (fun _ _ => False) s₃)
          (fun _ _ => False) s₂) (fun _ _ => False) s₁') (fun _ _ => False) s₁) (fun _ _ => False) s)
    (n : Nat) (h : I n s) :
    codeAny (model prog w) A (.compLoop (.ListComp elt [⟨target, iter, [], 0⟩] scope pos) 0 it acc env) R s := by
  refine codeAny_loop rfl I (fun n s hI => ?_) n h
  show wpAny _ _ ((compTurn (.ListComp elt [⟨target, iter, [], 0⟩] scope pos) 0 it acc env).onRaise (fun x => do noteFrame x env; theTreesLotGoes x)) _ _ s
  refine wpAny_noted ?_
  rw [compTurn_list1]
  refine wpAny_bind (wpAny_standAt (wpAny_bind (wpAny_mono (turn n s hI) (fun r s₁ h₁ => ?_) fun _ _ h' => h'.elim)))
  cases r with
  | none => exact wpAny_pure h₁
  | some v =>
    refine wpAny_bind (wpAny_mono h₁ (fun _ s₁' h₁' => ?_) fun _ _ h' => h'.elim)
    exact wpAny_bind (wpAny_mono h₁' (fun _ s₂ h₂ => wpAny_bind (wpAny_bind (wpAny_mono h₂ (fun x s₃ h₃ => wpAny_bind (wpAny_mono h₃
      (fun _ s₄ h₄ => wpAny_pure (wpAny_pure ⟨rfl, h₄⟩)) fun _ _ h' => h'.elim)) fun _ _ h' => h'.elim))) fun _ _ h' => h'.elim)

/-- what a comprehension's reading asks behind the source: W the invariant by turn and measure -/
def CompW (J : It) (ix : List (Option Nat)) (g : TG) (te : TE) (σ : St) (H : Hp) (Qd : Addr → Hp → Prop) : Prop :=
  ∀ D, H D = none → ∃ W : Nat → Nat → St → Hp → Prop, (∃ m, W 0 m (blockSt ix σ) (upd H D (.lst []))) ∧ ∀ i m σ' H', W i m σ' H' →
    (J.stop i H' ∧ Qd D H') ∨ (J.go i H' ∧ ∀ x H2, J.yld i H' x H2 → g x σ' H2 fun σ3 H3 => te σ3 H3 fun y H4 => ∃ ys, H4 D = some (.lst ys) ∧ ys.length < sizeLine ∧ ∃ m', m' < m ∧ W (i + 1) m' σ3 (upd H4 D (.lst (ys ++ [y]))))

section
variable {X : Cx} {pins : List (Addr × Obj)} {σ : St} {H : Hp} {s : Shared} {N : List Str} {ix : List (Option Nat)} {scope : Scope} {fp : List Addr} {tg elt iter : Expr} {pos spos : Pos} {J : It} {it : Addr} {tn : Nat → Heap → Prop} {g : TG} {te : TE} {wi : TI}

theorem comp_run {Qd : Addr → Hp → Prop} {RR : Value → Addr → Result → Shared → Prop} {E : Value → Shared → Prop} (I : Inv X pins σ H s) (hc : X.calm = true) (S : BlkScope X.N X.env.scope N ix scope) (T : Turn X.prog X.w X.K tg J fp it tn) (st : tn 0 s.heap) (f2 : ∀ b ∈ fp, FpOk X pins H b)
    (hg : ∀ C, PG (cxComp X N scope fp s H C) tg g) (he : ∀ C, PE (cxComp X N scope fp s H C) elt te) (hW : CompW J ix g te σ H Qd)
    (hR : ∀ D C s' H' m, Inv X pins σ H' s' → s'.heap.Ns C m → FpOk X pins H' C → Qd D H' → RR (.ref D) C (.ok .next) s') :
    wpAny (model X.prog X.w) X.A (newList []) (fun acc s₃ => wpAny (model X.prog X.w) X.A (newFunctionEnv scope X.env.globals (closList X.env.cells scope.names []) [] X.env.qual none .none (some X.env)) (fun cenv s₄ =>
      codeAny (model X.prog X.w) X.A (.compStart (.ListComp elt [⟨tg, iter, [], 0⟩] scope pos) 0 (.ref it) acc { cenv with scope := relabel scope X.env }) (RR acc cenv.locals) s₄) E s₃) E s := by
  refine wpAny_newObj_type (wpAny_newFunctionEnv S.nocell (by intro y hy; simp at hy) (fun h₁ hns₁ hsb₁ => ?_) S.kind)
  dsimp only at hns₁ hsb₁ ⊢
  generalize hH2 : s.heap.push { cls := .type "list", dict := none, data := .seq ([] : List Value).toArray } = H2 at hns₁ hsb₁ ⊢
  have hC : H2.objs.size = s.heap.objs.size + 1 := by rw [← hH2, Heap.size_push]
  have hDC : s.heap.objs.size ≠ H2.objs.size := by rw [hC]; exact Nat.ne_of_lt (Nat.lt_succ_self _)
  have hCle : s.heap.objs.size ≤ H2.objs.size := by rw [hC]; exact Nat.le_succ _
  have below : ∀ b, b < s.heap.objs.size → b ≠ H2.objs.size := fun b hb => by rw [hC]; exact Nat.ne_of_lt (Nat.lt_succ_of_lt hb)
  have old : ∀ b o, s.heap.get? b = some o → h₁.get? b = some o := fun b o e => hsb₁.extBut b o (below b (Heap.lt_size e)) (Heap.get?_push_of_some _ (hH2 ▸ Heap.get?_push_of_some _ e))
  have hacc : ∃ n, h₁.get? s.heap.objs.size = some { cls := .type "list", data := .seq ([] : List Value).toArray n } := ⟨_, hsb₁.extBut _ _ hDC (Heap.get?_push_of_some _ (hH2 ▸ Heap.get?_push_size _ rfl))⟩
  have st1 : tn 0 h₁ := T.keep _ _ _ st fun b _ o e => old b o e
  have fo : ∀ b ∈ fp, ∃ o, s.heap.get? b = some o ∧ ∀ v, o.data ≠ .cell v := T.obj _ _ st
  have I0 : Inv (cxComp X N scope fp s H H2.objs.size) pins (blockSt ix σ) (upd H s.heap.objs.size (.lst [])) { s with heap := h₁, toks := s.toks + ([] : List (Str × Value)).length } :=
    inv_block I S f2 fo (Nat.le_refl _) hCle hDC old hns₁ hacc
  have freshD : H s.heap.objs.size = none := I.hok.fresh (Nat.le_refl _)
  obtain ⟨W, ⟨m0, w0⟩, turn⟩ := hW s.heap.objs.size freshD
  have cl_ne : ∀ b ∈ fp, b ≠ H2.objs.size := fun b hb => by
    obtain ⟨o, e, _⟩ := fo b hb
    exact below b (Heap.lt_size e)
  have stat : ∀ {H' : Hp}, (∀ b ∈ fp, H' b = none) → ∀ b ∈ fp, FpOk (cxComp X N scope fp s H H2.objs.size) pins H' b := fun hn b hb => by
    obtain ⟨f0, f1, f3, f4, f5, f6⟩ := f2 b hb
    exact ⟨hn b hb, cl_ne b hb, I0.ok.exfs b hb, .inl hb, (I0.ok.exf b hb).2, f6⟩
  have fr0 : ∀ b ∈ fp, (upd H s.heap.objs.size (.lst [])) b = none := fun b hb => by
    obtain ⟨o, e, _⟩ := fo b hb
    rw [upd_ne (Nat.ne_of_lt (Heap.lt_size e))]
    exact (f2 b hb).1
  have loop : codeAny (model X.prog X.w) X.A (.compLoop (.ListComp elt [⟨tg, iter, [], 0⟩] scope pos) 0 (.ref it) (.ref s.heap.objs.size) (compEnvC scope (closList X.env.cells scope.names []) H2.objs.size X.env))
      (RR (.ref s.heap.objs.size) H2.objs.size) { s with heap := h₁, toks := s.toks + ([] : List (Str × Value)).length } := by
    refine compLoop_by (fun n s' => ∃ i σ' H', Inv (cxComp X N scope fp s H H2.objs.size) pins σ' H' s' ∧ tn i s'.heap ∧ (∀ b ∈ fp, H' b = none) ∧ W i n σ' H') ?_ m0 ⟨0, _, _, I0, st1, fr0, w0⟩
    rintro n s3 ⟨i, σ3, H3, I3, st3, fr3, w3⟩
    rcases turn i n σ3 H3 w3 with ⟨stop, qn⟩ | ⟨go, step⟩
    · refine thn (T.done (cxComp X N scope fp s H H2.objs.size) rfl rfl rfl hc i pins s3 σ3 H3 _ I3 (stat fr3) st3 stop) fun r s4 ⟨hr, I4⟩ => ?_
      subst hr
      obtain ⟨m4, hn4, _⟩ := id I4.loc
      refine hR _ _ s4 H3 m4 ?_ hn4 (I.fpOk hCle I4.free) qn
      exact I.call' (ch := fp) I4.os I4.base I4.hok I4.bare fun b hb => by
        obtain ⟨f0, f1, f3, f4, f5, f6⟩ := f2 b hb
        exact ⟨f4, f1, f5, f6⟩
    · refine thn (T.item (cxComp X N scope fp s H H2.objs.size) rfl rfl rfl hc i pins s3 σ3 H3 _ I3 (stat fr3) st3 go) fun r s4 ⟨u, hr, h4⟩ => ?_
      subst hr
      refine thn h4 fun _ s5 ⟨x, H5, I5, r5, y5, st5, fr5⟩ => ?_
      have I5' := I5.pinned (stat fr5) (T.obj _ _ st5)
      refine thn (hg _ _ s5 σ3 H5 x u _ I5' r5 (step x H5 y5)) fun _ s6 ⟨σ6, H6, I6, q6⟩ => ?_
      refine thn (he _ _ s6 σ6 H6 _ I6 q6) fun yv s7 ⟨y, H7, I7, r7, ys, hD7, hz7, m', hm, w7⟩ => ?_
      refine thn (mt_append (X := cxComp X N scope fp s H H2.objs.size) _ s7 σ6 H7 (.ref s.heap.objs.size) [y] (.ref s.heap.objs.size) [yv] (fun _ H8 => W (i + 1) m' σ6 H8) I7 rfl (.cons r7 .nil) ⟨_, ys, y, rfl, rfl, hD7, hz7, w7⟩) fun _ s8 ⟨_, H8, I8, _, w8⟩ => ?_
      refine ⟨m', hm, i + 1, σ6, H8, I8.unpinned, T.keep _ _ _ st5 fun b hb o e => (I8.pin (b, o) (List.mem_append_right _ (List.mem_append_right _ (mem_pinsAt hb e)))).1, fun b hb => ?_, w8⟩
      obtain ⟨o, e, d⟩ := T.obj _ _ st5 b hb
      exact (I8.pin (b, o) (List.mem_append_right _ (List.mem_append_right _ (mem_pinsAt hb e)))).2.1
  exact codeAny_compStart_list loop (T.self _ _ _ _ _ st1 loop)

/-- [elt for x in iter] -/
def tComp (ix : List (Option Nat)) (wi : TI) (g : TG) (te : TE) : TE := fun σ H Q => wi σ H fun J H1 => CompW J ix g te σ H1 fun D H' => Q (.ref D) H'
theorem pe_comp (hc : X.calm = true) (S : BlkScope X.N X.env.scope N ix scope) (hi : PI X tg iter wi) (hg : ∀ fp s H C, PG (cxComp X N scope fp s H C) tg g) (he : ∀ fp s H C, PE (cxComp X N scope fp s H C) elt te)
    (hs : ∀ x, foldedSetIterable iter X.env x = pure x := by intro _; rfl) : PE X (.ListComp elt [⟨tg, iter, [], 0⟩] scope pos) (tComp ix wi g te) := by
  intro pins s σ H Q I h
  rw [eval_ListComp]
  refine wpAny_comprehension_free (use := none) rfl hs (closureFor_eq (S.clos I.ok)) S.kind S.locs (thn (hi pins s σ H _ I h) fun v s1 h1 => thn h1 fun itv s2 h2 => ?_)
  obtain ⟨it, fp, tn, J, H2, e, I2, T, st2, f2, hW⟩ := h2
  subst e
  refine comp_run (RR := fun acc C => compPost (model X.prog X.w) X.A X.xe none (EP X pins σ Q) acc C) I2 hc S T st2 f2 (hg _ _ _) (he _ _ _) hW ?_
  intro D C s' H' m I' hn fC q
  exact ⟨m, hn, fun h' sb => ⟨.ref D, H', I'.turned (t' := s'.toks) (fun b o hb e => (sb.2 b hb).trans e) fC.1 fC.2.1 fC.2.2.2.1 fC.2.2.2.2.1 fC.2.2.2.2.2, rfl, q⟩⟩
/-- y = [elt for x in iter], y a plain local name -/
theorem ps_setComp {i : Nat} {y : Str} {py : Pos} (hc : X.calm = true) (hN : X.N.Nodup) (hyi : X.N[i]? = some y) (hy : Loc X.env.scope y) (S : BlkScope X.N X.env.scope N ix scope) (hi : PI X tg iter wi) (hg : ∀ fp s H C, PG (cxComp X N scope fp s H C) tg g) (he : ∀ fp s H C, PE (cxComp X N scope fp s H C) elt te)
    (hsw : swapsWith (.ListComp elt [⟨tg, iter, [], 0⟩] scope pos) (some (.Name y py)) spos.line X.env = pure true := by rfl)
    (hf : X.fn y = true ∨ X.env.scope.names.lookup y = some .local := by first | exact .inl rfl | exact .inr rfl | assumption)
    (hs : ∀ x, foldedSetIterable iter X.env x = pure x := by intro _; rfl) : PS X (.Assign [.Name y py] (.ListComp elt [⟨tg, iter, [], 0⟩] scope pos) spos) (tAsg (tComp ix wi g te) (gName i)) := by
  intro pins s σ H D I h
  rw [exec_Assign_Name_used _ _ _ _ hsw]
  refine wpAny_bind (wpAny_standAt (wpAny_bind ?_))
  show wpAny _ X.A (do let _ ← comprehension (.ListComp elt [⟨tg, iter, [], 0⟩] scope pos) scope X.env _ (newList []) false (eval iter X.env) (some (assign (.Name y py) X.env))) _ _ s
  refine wpAny_bind (wpAny_mono (wpAny_comprehension_free (use := some (assign (.Name y py) X.env)) (Q := fun _ s' => SP X pins D .next s') rfl hs (closureFor_eq (S.clos I.ok)) S.kind S.locs
    (thn (hi pins s σ H _ I h) fun v s1 h1 => thn h1 fun itv s2 h2 => ?_)) (fun _ s' hq => wpAny_pure (wpAny_pure hq)) fun _ _ e => e)
  obtain ⟨it, fp, tn, J, H2, e, I2, T, st2, f2, hW⟩ := h2
  subst e
  refine comp_run (RR := fun acc C => compPost (model X.prog X.w) X.A X.xe (some (assign (.Name y py) X.env)) (fun _ s' => SP X pins D .next s') acc C) I2 hc S T st2 f2 (hg _ _ _) (he _ _ _) hW ?_
  intro Dl C s' H' m I' hn fC q
  show wpAny _ X.A (assign (.Name y py) X.env (.ref Dl)) _ _ s'
  refine wpAny_assign_Name (store_ok2 I' hN hyi hy (v := .ref Dl) rfl (fun s2 I2' hsb => ?_) hf)
  obtain ⟨a, sb, ha⟩ := hsb
  refine ⟨m, hn.sameBut sb ?_, fun h3 sb3 => ⟨_, H', I2'.turned (t' := s2.toks) (fun b o hb e => (sb3.2 b hb).trans e) fC.1 fC.2.1 fC.2.2.2.1 fC.2.2.2.2.1 fC.2.2.2.2.2, q⟩⟩
  rcases ha with z | z
  · rw [z]; exact fC.2.1
  · exact Ne.symm (fC.2.2.2.2.1 _ _ z)
end

/-! ### the forms one uses -/
theorem comp_range {lo : Int} {n : Nat} {ix : List (Option Nat)} {te : TE} {σ : St} {H : Hp} {Qd : Addr → Hp → Prop} (Pv : Addr → Nat → List V → Hp → Prop)
    (h0 : ∀ D, H D = none → Pv D 0 [] (upd H D (.lst [])))
    (hs : ∀ D i ys H' (Q' : VK), H D = none → i < n → H' D = some (.lst ys) → Pv D i ys H' → (∀ y H4, H4 D = some (.lst ys) → ys.length < sizeLine → Pv D (i + 1) (ys ++ [y]) (upd H4 D (.lst (ys ++ [y]))) → Q' y H4) →
      te ((blockSt ix σ).set 0 (some (.int (lo + i)))) H' Q')
    (hd : ∀ D ys H', H D = none → H' D = some (.lst ys) → Pv D n ys H' → Qd D H') : CompW (Itr lo n) ix (gName 0) te σ H Qd := by
  intro D hD
  refine ⟨fun i m σ' H' => m = n - i ∧ i ≤ n ∧ (σ' = blockSt ix σ ∨ ∃ t, σ' = (blockSt ix σ).set 0 t) ∧ ∃ ys, H' D = some (.lst ys) ∧ Pv D i ys H', ⟨n, by simp, Nat.zero_le _, .inl rfl, [], upd_same, h0 D hD⟩, ?_⟩
  rintro i m σ' H' ⟨rfl, hi, hσ, ys, hy, p⟩
  by_cases hlt : i < n
  · refine .inr ⟨hlt, fun x H2 y => ?_⟩
    obtain ⟨e1, e2⟩ := y
    subst e1
    subst e2
    have es : σ'.set 0 (some (V.int (lo + i))) = (blockSt ix σ).set 0 (some (V.int (lo + i))) := by
      rcases hσ with z | ⟨t, z⟩
      · rw [z]
      · rw [z, List.set_set]
    show te (σ'.set 0 (some (V.int (lo + i)))) _ _
    rw [es]
    refine hs D i ys _ _ hD hlt hy p fun y H4 h4 hz p4 => ⟨ys, h4, hz, n - (i + 1), by omega, rfl, hlt, .inr ⟨_, rfl⟩, ys ++ [y], upd_same, p4⟩
  · have e : i = n := by omega
    subst e
    exact .inl ⟨Nat.le_refl _, hd D ys H' hD hy p⟩
/-! ### isinstance -/
section
variable {X : Cx}
def rIsi (K : PySem.W.Frag) : List V → Hp → VK → Prop := fun xs H Q => ∃ x n t b, xs = [x, .ty n] ∧ TyOf K H x t ∧ PySem.W.kitOne K t (.type n) = some b ∧ Q (.bl b) H
theorem call_isi : CallR X (.builtin "isinstance") (rIsi X.K) := by
  intro pins s σ H xs us Q I r h
  obtain ⟨x, n, t, b, rfl, ty, e, q⟩ := h
  obtain ⟨u, v, rfl, ru, rv⟩ := r.two
  cases (show v = Value.type n from rv)
  exact isinst_ok I ru ty e fun tk => ⟨.bl b, H, I.tok tk, rfl, q⟩
end

/-! ### a list unpacked -/
section
variable {prog : Program} {w : World} {A : Around} {E : Value → Shared → Prop} {s : Shared}
theorem draw_list {it t : Addr} {items : Array Value} (hne : t ≠ it) : ∀ (n i : Nat) (s : Shared) (Q : List Value → Shared → Prop), s.heap.IsListIter it t i → s.heap.IsList t items → i + n ≤ items.size →
    (∀ h', h'.IsListIter it t (i + n) → Heap.SameBut it s.heap h' → Q ((items.toList.drop i).take n) { s with heap := h' }) → wpAny (model prog w) A (draw (.ref it) n) Q E s
  | 0, i, s, Q, hit, _, _, hQ => by
    show wpAny _ _ (pure []) Q E s
    exact wpAny_pure (by simpa using hQ s.heap hit (Heap.SameBut.refl ..))
  | n + 1, i, s, Q, hit, ht, hle, hQ => by
    have hlt : i < items.size := by omega
    show wpAny _ _ (pyNext (.ref it) >>= _) Q E s
    refine wpAny_bind (wpAny_pyNext_list_item hit ht (x := items[i]) (by simp [hlt]) fun h₁ hit₁ hs₁ => ?_)
    refine wpAny_bind (wpAny_holding (draw_list hne n (i + 1) _ _ hit₁ (ht.extBut hs₁.extBut hne) (by omega) fun h₂ hit₂ hs₂ => wpAny_pure ?_))
    have hd : items.toList.drop i = items[i] :: items.toList.drop (i + 1) := by simp [List.drop_eq_getElem_cons, hlt]
    have := hQ h₂ (by rw [show i + (n + 1) = i + 1 + n by omega]; exact hit₂) (hs₁.trans hs₂)
    rw [hd, List.take_succ_cons] at this
    exact this
theorem unpackItems_list {t : Addr} {items : Array Value} {Q : List Value → Shared → Prop} (hh : A.handled = none) (ht : s.heap.IsList t items)
    (hQ : ∀ h', Heap.ExtBut s.heap.objs.size s.heap h' → Q items.toList { s with heap := h' }) : wpAny (model prog w) A (unpackItems (.ref t) items.size none) Q E s := by
  have hlt : t ≠ s.heap.objs.size := by obtain ⟨o, ho, _⟩ := ht; exact Nat.ne_of_lt (Heap.lt_size ho)
  unfold unpackItems
  refine wpAny_bind ?_
  · unfold notIterableAtAll
    refine wpAny_bind (wpAny_specialOf ht.typeIs slot_list_iter.lookup ?_)
    refine wpAny_pure ?_
    simp only [Bool.false_eq_true, if_false]
    refine wpAny_bind (wpAny_holding (wpAny_pyIter_list ht ?_))
    refine wpAny_bind (wpAny_holding (draw_list hlt items.size 0 _ _ ⟨_, Heap.get?_push_size _ rfl, rfl, rfl⟩ (ht.push _) (by omega) fun h₁ hit₁ hs₁ => ?_))
    have hall : List.take items.size (List.drop 0 items.toList) = items.toList := by
      rw [List.drop_zero]; exact List.take_of_length_le (by simp)
    rw [hall]
    rw [if_neg (by simp)]
    have ht₁ : h₁.IsList t items := (ht.push _).extBut hs₁.extBut hlt
    refine wpAny_bind (wpAny_holding (wpAny_pyNext_list_end hh hit₁ ht₁ (by simp) fun h₂ he₂ => ?_))
    simp only [Option.isSome_none, Bool.false_eq_true, if_false]
    refine wpAny_pure (hQ h₂ fun b o hb e => he₂ b o hb (hs₁.extBut b o hb (Heap.get?_push_of_some _ e)))
theorem assign_Tuple_list {env : Env} {elts : List Expr} {x1} {pos : Pos} {t : Addr} {items : Array Value} {Q : Unit → Shared → Prop} (hh : A.handled = none) (ht : s.heap.IsList t items)
    (hn : (assignEach elts env).length = items.size) (hstar : (assignEach elts env).findIdx? (·.1) = none)
    (h : ∀ h', Heap.ExtBut s.heap.objs.size s.heap h' → wpAny (model prog w) A (assignInOrder ((assignEach elts env).map (·.2)) items.toList) Q E { s with heap := h' }) :
    wpAny (model prog w) A (assign (.Tuple elts x1 pos) env (.ref t)) Q E s := by
  rw [PyProof.Rows.assign_Tuple]
  refine wpAny_bind (wpAny_standAt ?_)
  unfold unpack
  rw [hn, hstar]
  exact wpAny_bind (wpAny_holding (unpackItems_list hh ht h))
end
section
variable {X : Cx} {pos : Pos}
def gLst (K : PySem.W.Frag) (n : Nat) (t : TGs) : TG := fun v σ H Q => ∃ a xs, v = .ref a ∧ SqL K H a xs ∧ xs.length = n ∧ t xs σ H Q
theorem pg_lst {es : List Expr} {k : Nat} {t : TGs} {n : Nat} (hc : X.calm = true) (h : PGs X es t)
    (hn : (assignEach es X.env).length = n := by rfl) (hst : (assignEach es X.env).findIdx? (·.1) = none := by rfl) : PG X (.Tuple es k pos) (gLst X.K n t) := by
  intro pins s σ H v u Q I r hw
  obtain ⟨a, xs, e1, hq, hl, hw⟩ := hw
  subst e1
  cases r
  obtain ⟨its, rv, ht, hz⟩ := I.list hq
  refine assign_Tuple_list (I.ok.hd hc) ht.isList (by simp [hn, ← hl, rv.length]) hst fun h' hx => ?_
  have I1 : Inv X pins σ H { s with heap := h' } := I.kept (t' := s.toks) fun b o e => hx b o (Nat.ne_of_lt (Heap.lt_size e)) e
  exact h pins _ σ H xs _ Q I1 (by simpa using rv) hw

/-! ### two lists of flat things compared -/
def eqVs : List V → List V → Bool
  | [], [] => true
  | x :: xs, y :: ys => eqV x y && eqVs xs ys
  | _, _ => false
theorem eqVs_len : ∀ {xs ys : List V}, xs.length ≠ ys.length → eqVs xs ys = false
  | [], [], h => absurd rfl h
  | [], _ :: _, _ => rfl
  | _ :: _, [], _ => rfl
  | x :: xs, y :: ys, h => by
    have := @eqVs_len xs ys (by simpa using h)
    simp [eqVs, this]
theorem eqVs_all : ∀ {xs ys : List V}, xs.length = ys.length → eqVs xs ys = (List.range xs.length).all fun j => eqV (xs.getD j .non) (ys.getD j .non)
  | [], [], _ => rfl
  | [], _ :: _, h => by simp at h
  | _ :: _, [], h => by simp at h
  | x :: xs, y :: ys, h => by
    have ih := @eqVs_all xs ys (by simpa using h)
    rw [List.length_cons, List.range_succ_eq_map, List.all_cons, List.all_map]
    show (eqV x y && eqVs xs ys) = (eqV x y && _)
    rw [ih]
    rfl
def rEqL (K : PySem.W.Frag) : R2 := fun x y H Q => ∃ a b xs ys, x = .ref a ∧ y = .ref b ∧ SqL K H a xs ∧ SqL K H b ys ∧ xs.all flatV = true ∧ ys.all flatV = true ∧ Q (.bl (eqVs xs ys)) H
end
end L2

set_option Elab.async false
set_option linter.all false
set_option maxRecDepth 100000
namespace HT
open PySem PySem.Spec PyProof.Rows
section
variable {prog : Program} {w : World} {A : Around} {E : Value → Shared → Prop} {s : Shared}
end
end HT
namespace L2
open PySem PySem.Spec PyProof.Rows
section
variable {X : Cx}
def rSlTW (K : PySem.W.Frag) : V → Option Int → Option Int → Hp → VK → Prop := fun x lo hi H Q => ∃ a xs, x = .ref a ∧ SqT K H a xs ∧
  (HT.sIx xs.length 0 lo = 0 ∧ HT.sIx xs.length xs.length hi = xs.length) ∧ Q (.ref a) H
/-- a[lo:hi] of a list or a tuple: somewhere stands what was cut out, all else is as it was -/
def rSl (K : PySem.W.Frag) : V → Option Int → Option Int → Hp → VK → Prop := fun x lo hi H Q => ∃ a xs, x = .ref a ∧
  ((SqL K H a xs ∧ ∀ p, H p = none → Q (.ref p) (upd H p (.lst (cutV xs lo hi)))) ∨
   (SqT K H a xs ∧ (cutV xs lo hi = xs → Q (.ref a) H) ∧ ∀ p, H p = none → Q (.ref p) (upd H p (.tup (cutV xs lo hi)))))
end

/-! ### a def of the text, with or without defaults -/
structure FunD (K : PySem.W.Frag) (x qual : Str) (st : Stmt) (dV : Value) (f : Addr) (fd : FuncData) : Prop where
  ex : ∃ (oc : Value) (od : Option Addr) (kV doc pm : Value) (an : Option Addr) (cdv ct : Value) (osl : Array (Option Value)),
    fd = PySem.W.fnOf x qual (defArgs st) (defBody st) (defScope st) dV kV doc pm an cdv ct ∧ K.lookup f = some ⟨oc, od, .func fd, osl⟩ ∧ PySem.W.codeIn K cdv qual = true
  kp : PySem.W.keepIn K (.ref f) = true
section
variable {P : Program} {w : World} {K : PySem.W.Frag} {mg : Str → Option Value} {base : Heap}
theorem FunD.ok {x qual : Str} {st : Stmt} {dV : Value} {f : Addr} {fd : FuncData} {N ps : List Str} {k : Nat} {sp : Sp} (F : FunD K x qual st dV f fd) (S : FnScope N ps (defScope st)) (len : ∀ vs H Q E, sp vs H Q E → vs.length = ps.length)
    (hbody : ∀ (cdv : Value) (A : Around) (outer : List Env) (s : Shared) (H : Hp) (vs : List V) (Q : VK) (E : XK), Room k (A.deeper (envOfC qual (defScope st) s.heap.objs.size f cdv)) → sp vs H Q E →
      ∃ t, PSs (cxOf CX0 P w K mg base N qual (defScope st) f cdv A outer s H E).nox (defBody st) t ∧ t { nx := fun _ H' => Q .non H', rt := Q } (start N vs) H) : FnOk P w K mg base CX0 (k + 1) f fd ps sp := by
  obtain ⟨oc, od, kV, doc, pm, an, cdv, ct, osl, rfl, lk, hcd⟩ := F.ex
  refine fn_of lk hcd S len fun A outer s H vs Q E hr hsp => ?_
  obtain ⟨t, h, q⟩ := hbody cdv A outer s H vs Q E hr hsp
  exact ⟨t, h.nox, q⟩
theorem FunD.binds {x qual : Str} {st : Stmt} {f : Addr} {fd : FuncData} {ps : List Str} (F : FunD K x qual st .none f fd)
    (h : ∀ (kV doc pm : Value) (an : Option Addr) (cdv ct : Value) (us : List Value), us.length = ps.length → bindArgs (PySem.W.fnOf x qual (defArgs st) (defBody st) (defScope st) .none kV doc pm an cdv ct) ⟨us, []⟩ = pure (ps.zip us)) : Binds K fd ps [] := by
  obtain ⟨oc, od, kV, doc, pm, an, cdv, ct, osl, rfl, lk, hcd⟩ := F.ex
  exact .all (h kV doc pm an cdv ct)
/-- .. where it has defaults, the last of them ds -/
theorem FunD.bindsD {x qual : Str} {st : Stmt} {f T : Addr} {fd : FuncData} {ps : List Str} {ds : List Value} {o : Obj} {items : Array Value} {n : Nat} (F : FunD K x qual st (.ref T) f fd) (ho : K.lookup T = some o) (hs : o.data = .seq items n) (m : Nat) (hm : m + ds.length = ps.length)
    (h : ∀ (kV doc pm : Value) (an : Option Addr) (cdv ct : Value) (us : List Value), us.length = m → ∃ k : Option (Array Value) → Sem (List (Str × Value)),
      bindArgs (PySem.W.fnOf x qual (defArgs st) (defBody st) (defScope st) (.ref T) kV doc pm an cdv ct) ⟨us, []⟩ = seqItems? (.ref T) >>= k ∧ k (some items) = pure (ps.zip (us ++ ds))) : Binds K fd ps ds := by
  obtain ⟨oc, od, kV, doc, pm, an, cdv, ct, osl, rfl, lk, hcd⟩ := F.ex
  intro s us X hl
  obtain ⟨k, h1, h2⟩ := h kV doc pm an cdv ct us (by rw [List.length_append] at hl; omega)
  exact BindsTo.of_defaults (fd := PySem.W.fnOf x qual (defArgs st) (defBody st) (defScope st) (.ref T) kV doc pm an cdv ct) rfl (X _ _ ho) hs h1 h2
theorem fund_mk {x qual : Str} {st : Stmt} {f : Addr} {oc : Value} {od an : Option Addr} {osl : Array (Option Value)} {dV kV doc pm cdv ct : Value} (l : K.lookup f = some ⟨oc, od, .func (PySem.W.fnOf x qual (defArgs st) (defBody st) (defScope st) dV kV doc pm an cdv ct), osl⟩)
    (c : PySem.W.codeIn K cdv qual = true) (k : PySem.W.keepIn K (.ref f) = true) : FunD K x qual st dV f (PySem.W.fnOf x qual (defArgs st) (defBody st) (defScope st) dV kV doc pm an cdv ct) := ⟨⟨oc, od, kV, doc, pm, an, cdv, ct, osl, rfl, l, c⟩, k⟩

/-- a def as its callers see it: dvs are the defaults that fill up -/
structure DefOk (P : Program) (w : World) (K : PySem.W.Frag) (mg : Str → Option Value) (base : Heap) (x : Str) (k : Nat) (ps : List Str) (dvs : List V) (sp : Sp) : Prop where
  ex : ∃ (f : Addr) (fd : FuncData) (ds : List Value), mg x = some (.ref f) ∧ PySem.W.keepIn K (.ref f) = true ∧ Vals dvs ds ∧ Binds K fd ps ds ∧ FnOk P w K mg base CX0 k f fd ps sp
end
section
variable {X : Cx} {x : Str} {j k : Nat} {ps : List Str} {dvs : List V} {sp : Sp} {p pos : Pos} {e : Expr} {es : List Expr} {t : TA}
theorem pe_cd (G : DefOk X.prog X.w X.K X.mg X.base x k ps dvs sp) (hr : Room j X.A) (ha : PA X (e :: es) t) (hx : ∀ e s, X.xe e s = False := by intro _ _; rfl) (hkj : k ≤ j := by decide) (hg : Gl X x := by rfl) (hdb : (x == ("__debug__" : Str)) = false := by decide)
    (he : starEach (e :: es) X.env = (false, eval e X.env) :: starEach es X.env := by rfl) (hpl : (backTo pos (starEach es X.env)).any (·.1) = false := by rfl) :
    PE X (.Call (.Name x p) (e :: es) [] pos) (tCall sp dvs E0 t) := by
  obtain ⟨f, fd, ds, hm, hk, hd, hb, F⟩ := G.ex
  exact pe_call F (hr.mono hkj) hg hm hk hb hd (fun _ _ _ _ _ _ _ h => h.elim) ha hdb he hpl
end

/-! ### kinds of built-in classes -/
theorem kit_int_int (K : PySem.W.Frag) : PySem.W.kitOne K (.type "int") (.type "int") = some true := by with_unfolding_all rfl
theorem kit_int_bool (K : PySem.W.Frag) : PySem.W.kitOne K (.type "int") (.type "bool") = some false := by with_unfolding_all rfl
/-! ### small facts -/
theorem same_new {H : Hp} {p : Addr} (h : H p = none) (o : HO) : Same H (upd H p o) := fun b u q => by rw [upd_ne (ne_of_none q h)]; exact q
theorem small {n : Nat} (h : n ≤ 1000) : n ≤ sizeLine := Nat.le_of_lt (small1000 h)
theorem Same.tup {K : PySem.W.Frag} {H H' : Hp} {a : Addr} {xs : List V} (e : Same H H') (h : SqT K H a xs) : SqT K H' a xs := by
  rcases h with (h | ⟨o, h⟩) | h
  · exact .inl (.inl (e _ _ h))
  · exact .inl (.inr ⟨o, e _ _ h⟩)
  · exact .inr h

/-! ### the built-in names -/
theorem bt_len : bootBuiltins "len" = some (.builtin "len") := by decide +kernel
theorem bt_min : bootBuiltins "min" = some (.builtin "min") := by decide +kernel
theorem bt_isinstance : bootBuiltins "isinstance" = some (.builtin "isinstance") := by decide +kernel
theorem bt_int : bootBuiltins "int" = some (.type "int") := by decide +kernel
theorem bt_bool : bootBuiltins "bool" = some (.type "bool") := by decide +kernel
theorem bt_tuple : bootBuiltins "tuple" = some (.type "tuple") := by decide +kernel
theorem bt_list : bootBuiltins "list" = some (.type "list") := by decide +kernel
end L2

set_option Elab.async false
set_option linter.all false
set_option maxRecDepth 100000
namespace L2
open PySem PySem.Spec PyProof.Rows

/-! ### great ints -/
def BIG : Int := 2 ^ 4000
theorem big_bits {k : Int} (h0 : 0 ≤ k) (h : k < BIG) : k.natAbs.log2 < 4000 := by
  rcases Nat.eq_zero_or_pos k.natAbs with z | hp
  · rw [z]; decide +kernel
  · refine (Nat.log2_lt (by omega)).mpr ?_
    have e : BIG = ((2 ^ 4000 : Nat) : Int) := by unfold BIG; norm_cast
    rw [e] at h
    omega
def CMulB (i j : Int) : Prop := (0 ≤ i ∧ i < BIG) ∧ (0 ≤ j ∧ j < BIG)
theorem CMulB.ok {i j : Int} (h : CMulB i j) : IntMulOk i j := by
  have one : ∀ {k : Int}, 0 ≤ k → k < BIG → Builtin.Int.intBits k ≤ 2 ^ 20 := fun {k} h0 h1 => by
    unfold Builtin.Int.intBits
    have := big_bits h0 h1
    split <;> omega
  exact .of_bits (one h.1.1 h.1.2) (one h.2.1 h.2.2)
def CDivB (i j : Int) : Prop := 0 < j ∧ j < BIG
section
variable {X : Cx}
end

/-! ### for x in reversed(a list) -/
def Itv (K : PySem.W.Frag) (a : Addr) (n : Nat) : It :=
  ⟨fun i H => i < n ∧ ∃ xs, SqL K H a xs ∧ xs.length = n, fun i H x H' => H' = H ∧ ∀ xs, SqL K H a xs → xs[n - 1 - i]? = some x, fun i H => i = n⟩
section
variable {X : Cx} {tg : Expr}
def iRev (K : PySem.W.Frag) (ta : TA) : TI := fun σ H R => ta σ H fun vs H1 => ∃ a xs, vs = [.ref a] ∧ SqL K H1 a xs ∧ R (Itv K a xs.length) H1
end
/-- while, where the test's reading is followed by hand -/
theorem while_W {c : TT} {tb : TS} {D : Ends} {σ : St} {H : Hp} (Pv : Nat → St → Hp → Prop) (h0 : ∃ m, Pv m σ H)
    (hs : ∀ m σ H, Pv m σ H → c σ H fun b H1 => if b = true then ∃ N : St → Hp → Prop, (∀ σ' H', N σ' H' → ∃ m', m' < m ∧ Pv m' σ' H') ∧ tb { D with nx := N, ct := N, bk := D.nx } σ H1 else D.nx σ H1) : tWhile c tb D σ H := ⟨Pv, h0, hs⟩
end L2

set_option Elab.async false
set_option linter.all false
set_option maxRecDepth 100000
namespace L2
open PySem PySem.Spec PyProof.Rows

/-! ### isinstance by several classes -/
section
variable {X : Cx} {pins : List (Addr × Obj)} {σ : St} {H : Hp} {s : Shared}
def rIsiT (K : PySem.W.Frag) : List V → Hp → VK → Prop := fun xs H Q => ∃ (x : V) (p : Addr) (ts : List String) (t : Value) (b : Bool), xs = [x, .ref p] ∧ H p = some (.tup (ts.map V.ty)) ∧ TyOf K H x t ∧ PySem.W.kitAny K t (ts.map Value.type) = some b ∧ Q (.bl b) H
end

/-! ### range(0, n, 2) -/
def Its (lo c : Int) (n : Nat) : It := ⟨fun i _ => i < n, fun i H x H' => H' = H ∧ x = .int (lo + i * c), fun i _ => n ≤ i⟩
section
variable {X : Cx} {tg : Expr}
def iRng2s (ta : TA) : TI := fun σ H R => ta σ H fun vs H1 => ∃ j : Int, vs = [.int 0, .int j, .int 2] ∧ (0 ≤ j ∧ j < 2 ^ 60) ∧ R (Its 0 2 ((j + 1) / 2).toNat) H1
end
/-! ### two lists, two tuples of flat things: ==, != -/
section
variable {X : Cx}
theorem flat_pair {A : Around} {s : Shared} {xs ys : List V} {us ws : List Value} (rv : Vals xs us) (rw' : Vals ys ws) (fa : xs.all flatV = true) (fb : ys.all flatV = true) (j : Nat) (h1 : j < us.toArray.size) (h2 : j < ws.toArray.size) :
    SeqAt.EqAt A s us.toArray[j] ws.toArray[j] (eqV (xs.getD j .non) (ys.getD j .non)) := by
  have l1 := rv.length
  have l2 := rw'.length
  have j1 : j < xs.length := by simp at h1; omega
  have j2 : j < ys.length := by simp at h2; omega
  obtain ⟨u1, e1, q1⟩ := rv.get (i := j) (x := xs[j]) (by simp [j1])
  obtain ⟨u2, e2, q2⟩ := rw'.get (i := j) (x := ys[j]) (by simp [j2])
  have f1 : flatV xs[j] = true := List.all_eq_true.mp fa _ (List.getElem_mem j1)
  have f2 : flatV ys[j] = true := List.all_eq_true.mp fb _ (List.getElem_mem j2)
  have g1 : us.toArray[j] = u1 := by
    have := (List.getElem?_eq_some_iff.mp e1).2
    simpa using this
  have g2 : ws.toArray[j] = u2 := by
    have := (List.getElem?_eq_some_iff.mp e2).2
    simpa using this
  rw [g1, g2]
  have d1 : xs.getD j V.non = xs[j] := by simp [j1]
  have d2 : ys.getD j V.non = ys[j] := by simp [j2]
  rw [d1, d2]
  exact eqAt_V q1 q2 f1 f2
def rNeL (K : PySem.W.Frag) : R2 := fun x y H Q => ∃ a b xs ys, x = .ref a ∧ y = .ref b ∧ SqL K H a xs ∧ SqL K H b ys ∧ xs.all flatV = true ∧ ys.all flatV = true ∧ Q (.bl (!eqVs xs ys)) H
theorem eqVs_min {xs ys : List V} : eqVs xs ys = ((List.range (min xs.length ys.length)).all (fun j => eqV (xs.getD j .non) (ys.getD j .non)) && xs.length == ys.length) := by
  by_cases hl : xs.length = ys.length
  · rw [eqVs_all hl, ← hl, Nat.min_self]
    simp
  · rw [eqVs_len hl]
    have : (xs.length == ys.length) = false := by simpa using hl
    rw [this, Bool.and_false]
def rEqT (K : PySem.W.Frag) (neg : Bool) : R2 := fun x y H Q => ∃ a b xs ys, x = .ref a ∧ y = .ref b ∧ SqT K H a xs ∧ SqT K H b ys ∧ xs.all flatV = true ∧ ys.all flatV = true ∧ Q (.bl (if neg then !eqVs xs ys else eqVs xs ys)) H
theorem op_neT (hu : X.A.units < cLine) : OpR X (compareOp .NotEq) (rEqT X.K true) := by
  intro pins s σ H x y v u Q I r1 r2 h
  obtain ⟨a, b, xs, ys, rfl, rfl, ha, hb, fa, fb, q⟩ := h
  cases r1
  cases r2
  obtain ⟨its, rv, ht, hz⟩ := I.tuple ha
  obtain ⟨its2, rv2, ht2, hz2⟩ := I.tuple hb
  have l1 := rv.length
  have l2 := rv2.length
  refine SeqAt.RcNeAt.tuples (e := fun j => eqV (xs.getD j .non) (ys.getD j .non)) ht ht2 hu (fun j h1 h2 => flat_pair rv rv2 fa fb j h1 h2) X.prog X.w X.xe _ ⟨.bl (!eqVs xs ys), H, I, ?_, q⟩
  show Value.bool _ = Value.bool _
  rw [eqVs_min]
  simp [l1, l2]
theorem op_eqT (hu : X.A.units < cLine) : OpR X (compareOp .Eq) (rEqT X.K false) := by
  intro pins s σ H x y v u Q I r1 r2 h
  obtain ⟨a, b, xs, ys, rfl, rfl, ha, hb, fa, fb, q⟩ := h
  cases r1
  cases r2
  obtain ⟨its, rv, ht, hz⟩ := I.tuple ha
  obtain ⟨its2, rv2, ht2, hz2⟩ := I.tuple hb
  have l1 := rv.length
  have l2 := rv2.length
  refine SeqAt.eq_tupleAt (e := fun j => eqV (xs.getD j .non) (ys.getD j .non)) ht ht2 hu (fun j h1 h2 => flat_pair rv rv2 fa fb j h1 h2) ⟨.bl (eqVs xs ys), H, I, ?_, q⟩
  show Value.bool _ = Value.bool _
  rw [eqVs_min]
  simp [l1, l2]

/-! ### xs.insert(i, y), 0 ≤ i -/
def rInsert : V → List V → Hp → VK → Prop := fun x vs H Q => ∃ l xs i y, x = .ref l ∧ vs = [.int i, y] ∧ H l = some (.lst xs) ∧ (0 ≤ i ∧ i < 2 ^ 60) ∧ xs.length < sizeLine ∧ Q .non (upd H l (.lst (xs.take i.toNat ++ y :: xs.drop i.toNat)))
end
end L2

set_option Elab.async false
set_option linter.all false
set_option maxRecDepth 100000
/-! max(a list, default=d); a[lo:hi:step] of a tuple -/
namespace PySem
section
variable {prog : Program} {w : World} {A : Around} {R : Result → Shared → Prop} {I : Addr} {fp wr : List Addr} {n : Nat} {P : Nat → Value → Prop} {St : Nat → Heap → Prop}
end
section
variable {prog : Program} {w : World} {A : Around} {E : Value → Shared → Prop} {s : Shared}
end
end PySem
namespace L2
open PySem PySem.Spec PyProof.Rows
section
variable {X : Cx}
/-- max(a list of ints, default=d): d where there is none, else one of them above none of the others -/
def rMaxD (K : PySem.W.Frag) : List V → List V → Hp → VK → Prop := fun xs zs H Q => ∃ (a : Addr) (ns : List Int) (d : V), xs = [.ref a] ∧ zs = [d] ∧ SqL K H a (ns.map V.int) ∧ (ns = [] → Q d H) ∧ ∀ M, M ∈ ns → (∀ z ∈ ns, z ≤ M) → Q (.int M) H
variable {p pos kpos : Pos} {e d : Expr} {ta : TA} {td : TE}
def tMaxD (K : PySem.W.Frag) (ta : TA) (td : TE) : TE := fun σ H Q => ta σ H fun xs H1 => td σ H1 fun z H2 => rMaxD K xs [z] H2 Q
end

/-! ### a[lo:hi:step] of a tuple -/
def strideV (xs : List V) (lo hi : Option Int) (st : Int) : List V :=
  (List.range (Builtin.Slice.slicePlaces (Builtin.Slice.sliceAdjust lo hi st xs.length).1 (Builtin.Slice.sliceAdjust lo hi st xs.length).2 st)).filterMap fun (m : Nat) => xs[((Builtin.Slice.sliceAdjust lo hi st xs.length).1 + (m : Int) * st).toNat]?
section
variable {prog : Program} {w : World} {A : Around} {E : Value → Shared → Prop} {s : Shared}
end
section
variable {X : Cx} {e : Expr} {te : TE} {lo hi : Option Expr} {st : Expr} {tl th ts : TO} {pos p2 : Pos}
def SlR3 (X : Cx) (r : V → Option Int → Option Int → Option Int → Hp → VK → Prop) : Prop :=
  ∀ (pins : List (Addr × Obj)) (s : Shared) (σ : St) (H : Hp) (x : V) (v vl vu vs : Value) (lo hi st : Option Int) (sl : Addr) (Q : VK), Inv X pins σ H s → RelV x v → s.heap.IsSliceOf sl vl vu vs → IsPart vl lo → IsPart vu hi → IsPart vs st → r x lo hi st H Q →
    ∃ T id, typeLookup (.type T) "__getitem__" = pure (some (.builtin id)) ∧ s.TypeIs v T ∧ wpAny (model X.prog X.w) X.A (getItem v (.ref sl)) (EP X pins σ Q) X.xe s
def tSl3 (r : V → Option Int → Option Int → Option Int → Hp → VK → Prop) (te : TE) (tl th ts : TO) : TE := fun σ H Q => te σ H fun x H1 => tl σ H1 fun l H2 => th σ H2 fun u H3 => ts σ H3 fun c H4 => r x l u c H4 Q
/-- the places are none that the whole hasn't, or it is the whole itself -/
def rSl3T (K : PySem.W.Frag) : V → Option Int → Option Int → Option Int → Hp → VK → Prop := fun x lo hi st H Q => ∃ a xs c, x = .ref a ∧ st = some c ∧ SqT K H a xs ∧ c ≠ 0 ∧ (strideV xs lo hi c).length ≤ sizeLine ∧
  (c = 1 → (Builtin.Slice.sliceAdjust lo hi c xs.length).1 = 0 → Builtin.Slice.slicePlaces (Builtin.Slice.sliceAdjust lo hi c xs.length).1 (Builtin.Slice.sliceAdjust lo hi c xs.length).2 c = xs.length → Q (.ref a) H) ∧ ∀ p, H p = none → Q (.ref p) (upd H p (.tup (strideV xs lo hi c)))
end

/-! ### what is walked is a list or a tuple -/
section
variable {X : Cx} {tg : Expr}
def iSeq (K : PySem.W.Frag) (tl : TE) : TI := fun σ H R => tl σ H fun x H1 => ∃ a, x = .ref a ∧ (((∃ xs, SqL K H1 a xs) ∧ R (Itl K a) H1) ∨ ((∃ xs, SqT K H1 a xs) ∧ R (Itt K a) H1))
end
/-! ### rules in a comprehension's block: K is named -/
section
variable {X : Cx}
def rLen (K : PySem.W.Frag) : List V → Hp → VK → Prop := fun xs H Q => ∃ p ys, xs = [.ref p] ∧ (SqL K H p ys ∨ SqT K H p ys) ∧ Q (.int ys.length) H
end
end L2

set_option Elab.async false
set_option linter.all false
set_option maxRecDepth 100000
namespace L2
open PySem PySem.Spec PyProof.Rows
/-! ### lists of pairs as tables -/
section
variable {κ : Type} [DecidableEq κ]
def valV (kvs : List (κ × V)) (k : κ) : Option V := (kvs.find? fun kv => decide (kv.1 = k)).map (·.2)
/-- in its place, or at the end -/
def putK (kvs : List (κ × V)) (k : κ) (v : V) : List (κ × V) :=
  if (kvs.any fun kv => decide (kv.1 = k)) = true then kvs.map (fun kv => if kv.1 = k then (kv.1, v) else kv) else kvs ++ [(k, v)]
def dropK (kvs : List (κ × V)) (k : κ) : List (κ × V) := kvs.filter fun kv => decide (kv.1 ≠ k)

theorem valV_pos {p : κ × V} {r : List (κ × V)} {k : κ} (e : p.1 = k) : valV (p :: r) k = some p.2 := by simp [valV, List.find?_cons, e]
theorem valV_neg {p : κ × V} {r : List (κ × V)} {k : κ} (e : ¬ p.1 = k) : valV (p :: r) k = valV r k := by simp [valV, List.find?_cons, e]
theorem valV_any (k : κ) : ∀ kvs : List (κ × V), (kvs.any fun kv => decide (kv.1 = k)) = (valV kvs k).isSome
  | [] => rfl
  | p :: r => by
    rw [List.any_cons]
    by_cases e : p.1 = k
    · simp only [valV_pos e, decide_eq_true e, Bool.true_or, Option.isSome_some]
    · rw [valV_neg e, decide_eq_false e, Bool.false_or]; exact valV_any k r
theorem length_putK (kvs : List (κ × V)) (k : κ) (v : V) : (putK kvs k v).length ≤ kvs.length + 1 := by
  unfold putK
  split
  · rw [List.length_map]; omega
  · rw [List.length_append, List.length_cons, List.length_nil]; omega
theorem RelO.isSome_eq {o : Option V} {u : Option Value} (r : RelO o u) : o.isSome = u.isSome := by
  cases o with
  | none => cases u with
    | none => rfl
    | some _ => exact (show False from r).elim
  | some _ => cases u with
    | none => exact (show False from r).elim
    | some _ => rfl
theorem RelO.getD {o : Option V} {u : Option Value} {d : V} {d' : Value} (r : RelO o u) (rd : RelV d d') : RelV (o.getD d) (u.getD d') := by
  cases o with
  | none => cases u with
    | none => exact rd
    | some _ => exact (show False from r).elim
  | some _ => cases u with
    | none => exact (show False from r).elim
    | some _ => exact r

/-- raw tables of the same keys -/
theorem KV.val {kvs : List (κ × V)} {vs : List (κ × Value)} (r : KV kvs vs) (k : κ) : RelO (valV kvs k) (valueAt vs k) := by
  unfold KV at r
  induction r with
  | nil => exact True.intro
  | @cons p q ps qs h t ih =>
    obtain ⟨h1, h2⟩ := h
    by_cases e : p.1 = k
    · have e' : q.1 = k := h1.symm.trans e
      have b : valueAt (q :: qs) k = some q.2 := by simp [valueAt, List.find?_cons, e']
      rw [valV_pos e, b]; exact h2
    · have e' : ¬ q.1 = k := fun z => e (h1.trans z)
      have b : valueAt (q :: qs) k = valueAt qs k := by simp [valueAt, List.find?_cons, e']
      rw [valV_neg e, b]; exact ih
theorem KV.any {kvs : List (κ × V)} {vs : List (κ × Value)} (r : KV kvs vs) (k : κ) : (kvs.any fun kv => decide (kv.1 = k)) = vs.any fun kv => decide (kv.1 = k) := by
  unfold KV at r
  induction r with
  | nil => rfl
  | cons h t ih => rw [List.any_cons, List.any_cons, ih, h.1]
theorem KV.repl {kvs : List (κ × V)} {vs : List (κ × Value)} (r : KV kvs vs) (k : κ) {y : V} {u : Value} (ry : RelV y u) :
    KV (kvs.map fun kv => if kv.1 = k then (kv.1, y) else kv) (vs.map fun kv => if kv.1 = k then (kv.1, u) else kv) := by
  unfold KV at r ⊢
  induction r with
  | nil => exact .nil
  | @cons p q ps qs h t ih =>
    rw [List.map_cons, List.map_cons]
    refine .cons ?_ ih
    obtain ⟨h1, h2⟩ := h
    by_cases e : p.1 = k
    · rw [if_pos e, if_pos (h1.symm.trans e)]; exact ⟨h1, ry⟩
    · rw [if_neg e, if_neg (fun z => e (h1.trans z))]; exact ⟨h1, h2⟩
theorem KV.put {kvs : List (κ × V)} {vs : List (κ × Value)} (r : KV kvs vs) (k : κ) {y : V} {u : Value} (ry : RelV y u) : KV (putK kvs k y) (stored vs k u) := by
  unfold putK stored
  rw [r.any k]
  by_cases e : (vs.any fun kv => decide (kv.1 = k)) = true
  · rw [if_pos e, if_pos e]; exact r.repl k ry
  · rw [if_neg e, if_neg e]; exact Paired.snoc r ⟨rfl, ry⟩
theorem KV.drop {kvs : List (κ × V)} {vs : List (κ × Value)} (r : KV kvs vs) (k : κ) : KV (dropK kvs k) (without vs k) := by
  unfold KV at r ⊢
  unfold dropK without
  induction r with
  | nil => exact .nil
  | @cons p q ps qs h t ih =>
    obtain ⟨h1, h2⟩ := h
    rw [List.filter_cons, List.filter_cons]
    by_cases e : p.1 = k
    · have a : ¬ decide (p.1 ≠ k) = true := by simp [e]
      have b : ¬ decide (q.1 ≠ k) = true := by simp [h1.symm.trans e]
      rw [if_neg a, if_neg b]; exact ih
    · have e' : ¬ q.1 = k := fun z => e (h1.trans z)
      have a : decide (p.1 ≠ k) = true := by simp [e]
      have b : decide (q.1 ≠ k) = true := by simp [e']
      rw [if_pos a, if_pos b]; exact .cons ⟨h1, h2⟩ ih
theorem KV.keys {kvs : List (κ × V)} {vs : List (κ × Value)} (r : KV kvs vs) : kvs.map (·.1) = vs.map (·.1) := by
  unfold KV at r
  induction r with
  | nil => rfl
  | cons h t ih => rw [List.map_cons, List.map_cons, ih, h.1]
theorem KV.length {kvs : List (κ × V)} {vs : List (κ × Value)} (r : KV kvs vs) : kvs.length = vs.length := Paired.length r
end


/-! ### a tracked dict, its keys ints and texts or tuples of these -/
theorem kV_is {P : Program} {w : World} {k : Key} {u : Value} (r : RelV (kV k) u) : (mixKind P w).is k u = true := by
  cases k with
  | inl i => obtain ⟨t, e⟩ := (show ∃ t, u = Value.int i t from r); subst e; exact mixKind_int P w i t
  | inr x => obtain ⟨t, e⟩ := (show ∃ t, u = Value.str x t from r); subst e; exact mixKind_str P w x t
theorem items_are {P : Program} {w : World} : ∀ {ks : List Key} {us : List Value}, Vals (ks.map kV) us → ItemsAre (mixKind P w) ks us
  | [], _, r => by rw [List.map_nil] at r; cases r; exact .nil
  | k :: ks, _, r => by
    rw [List.map_cons] at r
    cases r with
    | cons h t => exact .cons (kV_is h) (items_are t)

/-- raw entries of a dict with tuple keys -/
abbrev KT (H : Hp) : List (List Key × V) → List (List Key × Addr × Value) → Prop := Paired fun p q => p.1 = q.1 ∧ H q.2.1 = some (.tup (p.1.map kV)) ∧ RelV p.2 q.2.2
theorem KT.val {H : Hp} {kvs : List (List Key × V)} {xs : List (List Key × Addr × Value)} (r : KT H kvs xs) (k : List Key) : RelO (valV kvs k) ((atKey xs k).map (·.2)) := by
  induction r with
  | nil => exact True.intro
  | @cons p q ps qs h t ih =>
    obtain ⟨h1, _, h2⟩ := h
    by_cases e : p.1 = k
    · have e' : q.1 = k := h1.symm.trans e
      have b : atKey (q :: qs) k = some q.2 := by simp [atKey, List.find?_cons, e']
      rw [valV_pos e, b]; exact h2
    · have e' : ¬ q.1 = k := fun z => e (h1.trans z)
      have b : atKey (q :: qs) k = atKey qs k := by simp [atKey, List.find?_cons, e']
      rw [valV_neg e, b]; exact ih
theorem KT.repl {H : Hp} {kvs : List (List Key × V)} {xs : List (List Key × Addr × Value)} (r : KT H kvs xs) (k : List Key) {y : V} {u : Value} (ry : RelV y u) :
    KT H (kvs.map fun kv => if kv.1 = k then (kv.1, y) else kv) (xs.map (putAt k u)) := by
  induction r with
  | nil => exact .nil
  | @cons p q ps qs h t ih =>
    rw [List.map_cons, List.map_cons]
    refine .cons ?_ ih
    obtain ⟨h1, h2, h3⟩ := h
    unfold putAt
    by_cases e : p.1 = k
    · rw [if_pos e, if_pos (h1.symm.trans e)]; exact ⟨h1, h2, ry⟩
    · rw [if_neg e, if_neg (fun z => e (h1.trans z))]; exact ⟨h1, h2, h3⟩
theorem KT.put {H : Hp} {kvs : List (List Key × V)} {xs : List (List Key × Addr × Value)} (r : KT H kvs xs) (k : List Key) {b : Addr} {y : V} {u : Value} (hb : H b = some (.tup (k.map kV))) (ry : RelV y u) :
    KT H (putK kvs k y) (storedH xs k b u) := by
  have e : (kvs.any fun kv => decide (kv.1 = k)) = (atKey xs k).isSome := by
    rw [valV_any, (r.val k).isSome_eq, Option.isSome_map]
  unfold putK storedH
  rw [e]
  by_cases q : (atKey xs k).isSome = true
  · rw [if_pos q, if_pos q]; exact r.repl k ry
  · rw [if_neg q, if_neg q]; exact Paired.snoc r ⟨rfl, hb, ry⟩
theorem KT.keeps {H H' : Hp} {kvs : List (List Key × V)} {xs : List (List Key × Addr × Value)} (r : KT H kvs xs) (ht : ∀ b ys, H b = some (.tup ys) → H' b = some (.tup ys)) : KT H' kvs xs :=
  Paired.mapP r fun _ _ z => ⟨z.1, ht _ _ z.2.1, z.2.2⟩

section
variable {P : Program} {w : World} {H : Hp} {h : Heap} {a : Addr}
theorem rd_of {u : HO} (ok : HOk P w H h) (e : Rd H a u) : ObjOk P w H h a u := e.ok ok
theorem dk_rd {kvs : List (Key × V)} (ok : HOk P w H h) (e : Rd H a (.dK kvs)) : kvs.length ≤ sizeLine ∧ (a == sysModules) = false ∧ ∃ vs, KV kvs vs ∧ h.DictOf (mixKind P w) a vs :=
  show ObjOk P w H h a (.dK kvs) from rd_of ok e
theorem dk_of {kvs : List (Key × V)} (ok : HOk P w H h) (e : H a = some (.dK kvs)) : kvs.length ≤ sizeLine ∧ (a == sysModules) = false ∧ ∃ vs, KV kvs vs ∧ h.DictOf (mixKind P w) a vs := dk_rd ok (.inl e)
/-- a tracked tuple of ints and texts is a key -/
theorem key_of {ks : List Key} (ok : HOk P w H h) (e : H a = some (.tup (ks.map kV))) : (tupleKind (mixKind P w)).is h ks a := by
  obtain ⟨_, its, r, o, h1, h2, n, h3⟩ := (show ObjOk P w H h a (.tup (ks.map kV)) from ok a _ e)
  exact ⟨o, its.toArray, n, h1, h2, h3, by simpa using items_are r⟩
theorem dt_rd {kvs : List (List Key × V)} (ok : HOk P w H h) (e : Rd H a (.dT kvs)) : kvs.length ≤ sizeLine ∧ (a == sysModules) = false ∧
    ∃ xs, KT H kvs xs ∧ h.DictOfH (tupleKind (mixKind P w)) a xs := by
  obtain ⟨z, y, xs, r, o, es, ep, h1, h2, h3, h4, h5⟩ := (show ObjOk P w H h a (.dT kvs) from rd_of ok e)
  refine ⟨z, y, xs, r, o, es, ep, h1, h2, h3, h4, fun x hx => ?_, h5⟩
  have all : ∀ {l : List (List Key × V)} {m : List (List Key × Addr × Value)}, KT H l m → ∀ x ∈ m, (tupleKind (mixKind P w)).is h x.1 x.2.1 := by
    intro l m q
    induction q with
    | nil => intro x hx; exact nomatch hx
    | @cons p q ps qs hq t ih =>
      intro x hx
      rcases List.mem_cons.mp hx with e | hx
      · subst e
        exact key_of ok (by rw [← hq.1]; exact hq.2.1)
      · exact ih x hx
  exact all r x hx
theorem dt_of {kvs : List (List Key × V)} (ok : HOk P w H h) (e : H a = some (.dT kvs)) : kvs.length ≤ sizeLine ∧ (a == sysModules) = false ∧
    ∃ xs, KT H kvs xs ∧ h.DictOfH (tupleKind (mixKind P w)) a xs := dt_rd ok (.inl e)
end

/-- what the dict at a holds at the key y -/
def DGet (H : Hp) (a : Addr) (y : V) (r : Option V) : Prop :=
  (∃ kvs k, Rd H a (.dK kvs) ∧ y = kV k ∧ r = valV kvs k) ∨ ∃ kvs k b, Rd H a (.dT kvs) ∧ y = .ref b ∧ H b = some (.tup (k.map kV)) ∧ r = valV kvs k
/-- the heap behind a[y] = v -/
def DPut (H : Hp) (a : Addr) (y v : V) (H' : Hp) : Prop :=
  (∃ kvs k, H a = some (.dK kvs) ∧ y = kV k ∧ kvs.length < sizeLine ∧ H' = upd H a (.dK (putK kvs k v))) ∨
  ∃ kvs k b, H a = some (.dT kvs) ∧ y = .ref b ∧ H b = some (.tup (k.map kV)) ∧ kvs.length < sizeLine ∧ H' = upd H a (.dT (putK kvs k v))
theorem DGet.k {H : Hp} {a : Addr} {kvs : List (Key × V)} {k : Key} (e : H a = some (.dK kvs)) : DGet H a (kV k) (valV kvs k) := .inl ⟨kvs, k, .inl e, rfl, rfl⟩
theorem DGet.t {H : Hp} {a b : Addr} {kvs : List (List Key × V)} {k : List Key} (e : H a = some (.dT kvs)) (eb : H b = some (.tup (k.map kV))) : DGet H a (.ref b) (valV kvs k) := .inr ⟨kvs, k, b, .inl e, rfl, eb, rfl⟩
theorem DPut.k {H : Hp} {a : Addr} {kvs : List (Key × V)} {k : Key} {v : V} (e : H a = some (.dK kvs)) (hl : kvs.length < sizeLine) : DPut H a (kV k) v (upd H a (.dK (putK kvs k v))) := .inl ⟨kvs, k, e, rfl, hl, rfl⟩
theorem DPut.t {H : Hp} {a b : Addr} {kvs : List (List Key × V)} {k : List Key} {v : V} (e : H a = some (.dT kvs)) (eb : H b = some (.tup (k.map kV))) (hl : kvs.length < sizeLine) :
    DPut H a (.ref b) v (upd H a (.dT (putK kvs k v))) := .inr ⟨kvs, k, b, e, rfl, eb, hl, rfl⟩


section
variable {X : Cx} {pins : List (Addr × Obj)} {σ : St} {H : Hp} {s : Shared} {a : Addr} {y v : V} {u r : Value} {o : Option V} {A : Around} {E : Value → Shared → Prop}

theorem Inv.big (I : Inv X pins σ H s) : sysModules < s.heap.objs.size := by
  have h : mainGlobals < s.heap.objs.size := (I.mod.glob.keeps I.bk).lt
  exact Nat.lt_trans (by decide) h

/-- d[y], there -/
theorem d_getItem {Q : Value → Shared → Prop} (hu : A.units + 1 < cLine) (I : Inv X pins σ H s) (g : DGet H a y (some v)) (ry : RelV y u) (h : ∀ w' s', Inv X pins σ H s' → RelV v w' → Q w' s') :
    wpAny (model X.prog X.w) A (getItem (.ref a) u) Q E s := by
  rcases g with ⟨kvs, k, e, ey, l⟩ | ⟨kvs, k, b, e, ey, eb, l⟩
  · subst ey
    obtain ⟨z, hd, vs, rel, dd⟩ := dk_rd I.hok e
    obtain ⟨w', hw, rw'⟩ := RelO.some_of (v := v) (o := valueAt vs k) (by rw [l]; exact rel.val k)
    exact wpAny_getItem_of (kV_is ry) dd.mapOf hw (h w' _ (I.tok _) rw')
  · subst ey
    cases (show u = Value.ref b from ry)
    obtain ⟨z, hd, xs, rel, dd⟩ := dt_rd I.hok e
    obtain ⟨w', hw, rw'⟩ := RelO.some_of (v := v) (o := (atKey xs k).map (·.2)) (by rw [l]; exact rel.val k)
    obtain ⟨p, hp, hp2⟩ := Option.map_eq_some_iff.mp hw
    refine wpAny_getItem_heap (tupleKind_room_in1 hu) (key_of I.hok eb) dd hp ?_
    rw [hp2]
    exact h w' _ (I.tok _) rw'
theorem d_notIn {Q : Value → Shared → Prop} (hu : A.units + 1 < cLine) (I : Inv X pins σ H s) (g : DGet H a y o) (ry : RelV y u) (h : ∀ s', Inv X pins σ H s' → Q (.bool (!o.isSome)) s') :
    wpAny (model X.prog X.w) A (compareOp .NotIn u (.ref a)) Q E s := by
  rcases g with ⟨kvs, k, e, ey, l⟩ | ⟨kvs, k, b, e, ey, eb, l⟩
  · subst ey
    obtain ⟨z, hd, vs, rel, dd⟩ := dk_rd I.hok e
    refine wpAny_notIn_of (kV_is ry) hd dd.mapOf ?_
    rw [← (rel.val k).isSome_eq, ← l]
    exact h _ (I.tok _)
  · subst ey
    cases (show u = Value.ref b from ry)
    obtain ⟨z, hd, xs, rel, dd⟩ := dt_rd I.hok e
    refine wpAny_notIn_heap (tupleKind_room_in1 hu) (key_of I.hok eb) hd dd ?_
    have q := (rel.val k).isSome_eq
    rw [Option.isSome_map] at q
    rw [← q, ← l]
    exact h _ (I.tok _)
/-- a dict's object is replaced -/
theorem d_write {h' : Heap} {t' : Nat} {ob : HO} (I : Inv X pins σ H s) (mu : Mut (H a)) (hs : Heap.SameBut a s.heap h') (he : ∃ q, h'.get? a = some q) (new : ObjOk X.prog X.w (upd H a ob) h' a ob) :
    Inv X pins σ (upd H a ob) { s with heap := h', toks := t' } :=
  I.write (x := a) (e := a) mu (.inl rfl) (fun b q hb z => (hs.2 b hb).trans z) he new
theorem dk_new {P : Program} {w : World} {H' : Hp} {h' : Heap} {kvs : List (Key × V)} {vs : List (Key × Value)} (z : kvs.length ≤ sizeLine) (hd : (a == sysModules) = false) (rel : KV kvs vs) (dd : h'.DictOf (mixKind P w) a vs) :
    ObjOk P w H' h' a (.dK kvs) := ⟨z, hd, vs, rel, dd⟩
/-- d[y] = v -/
theorem d_setItem {H' : Hp} {Q : Unit → Shared → Prop} (hu : A.units + 1 < cLine) (I : Inv X pins σ H s) (g : DPut H a y v H') (ry : RelV y u) (rv : RelV v r) (h : ∀ s', Inv X pins σ H' s' → Q () s') :
    wpAny (model X.prog X.w) A (setItem (.ref a) u r) Q E s := by
  rcases g with ⟨kvs, k, e, ey, l, eH⟩ | ⟨kvs, k, b, e, ey, eb, l, eH⟩
  · subst ey eH
    obtain ⟨z, hd, vs, rel, dd⟩ := dk_of I.hok e
    have hz : vs.length ≤ sizeLine := by rw [← rel.length]; exact z
    have hl : (putK kvs k v).length ≤ sizeLine := by have := length_putK kvs k v; omega
    refine wpAny_setItem_pairs (hsz := hz) (kV_is ry) dd fun h' dd' hs => h _ ?_
    have he : ∃ q, h'.get? a = some q := let ⟨q, _, _, hq, _⟩ := dd'; ⟨q, hq⟩
    exact d_write I (by rw [e]; exact True.intro) hs he (dk_new hl hd (rel.put k rv) dd')
  · subst ey eH
    cases (show u = Value.ref b from ry)
    obtain ⟨z, hd, xs, rel, dd⟩ := dt_of I.hok e
    have hz : xs.length ≤ sizeLine := by rw [← Paired.length rel]; exact z
    have hl : (putK kvs k v).length ≤ sizeLine := by have := length_putK kvs k v; omega
    refine wpAny_setItem_heap (hsz := hz) (tupleKind_room_in1 hu) (key_of I.hok eb) dd fun h' dd' hs => h _ ?_
    obtain ⟨q, es, ep, hq, h2, h3, h4, _, h5⟩ := dd'
    refine d_write I (by rw [e]; exact True.intro) hs ⟨q, hq⟩ ⟨hl, hd, _, (rel.put k eb rv).keeps fun c ys ec => ?_, q, es, ep, hq, h2, h3, h4, h5⟩
    rw [upd_ne (ne_of ec e (fun z => nomatch z))]
    exact ec
end

section
variable {X : Cx} {pins : List (Addr × Obj)} {σ : St} {H : Hp} {s : Shared} {a : Addr} {kvs : List (Key × V)} {k : Key} {u : Value} {A : Around} {E : Value → Shared → Prop}
end


/-! ### readings and rules -/
/-- the element of a subscription, not a slice -/
def NoSl (i : Expr) : Prop := ∀ ov iv, subscripted i false ov iv = operate [ov, iv] (getItem ov iv)
theorem subD_of {prog : Program} {w : World} {A : Around} {E : Value → Shared → Prop} {s : Shared} {env : Env} {value slice : Expr} {pos : Pos} {T id : String} {Q : Value → Shared → Prop}
    (hl : typeLookup (.type T) "__getitem__" = pure (some (.builtin id))) (hs : NoSl slice)
    (h : wpAny (model prog w) A (eval value env) (fun o s₁ => wpAny (model prog w) A (eval slice env) (fun i s₂ => s₂.TypeIs o T ∧ wpAny (model prog w) A (getItem o i) Q E s₂) E s₁) E s) :
    wpAny (model prog w) A (eval (.Subscript value slice pos) env) Q E s := by
  refine Subscript_ (wpAny_mono h (fun o s₁ h₁ => wpAny_mono h₁ (fun i s₂ h₂ => ?_) fun _ _ x => x) fun _ _ x => x)
  obtain ⟨hT, h₂⟩ := h₂
  unfold subscriptTail
  refine wpAny_bind ?_
  rw [getitemInPython_of_ne hT.not_modules]
  refine wpAny_bind (wpAny_specialOf hT hl ?_)
  have fin : wpAny (model prog w) A (subscripted slice false o i) (fun r s₃ => wpAny (model prog w) A (letTemporaryGo value o r >>= fun _ => pure r) Q E s₃) E s₂ := by
    rw [hs o i]
    exact wpAny_operating (wpAny_mono h₂ (fun r s₃ h₃ => wpAny_bind (wpAny_letTemporaryGo (wpAny_pure h₃))) fun _ _ x => x)
  first
    | exact wpAny_pure (wpAny_bind fin)
    | exact wpAny_bind (wpAny_pure (wpAny_bind fin))
    | exact wpAny_bind fin

theorem dict_typeIs {X : Cx} {pins : List (Addr × Obj)} {σ : St} {H : Hp} {s : Shared} {a : Addr} {y : V} {o : Option V} (I : Inv X pins σ H s) (g : DGet H a y o) : s.TypeIs (.ref a) "dict" := by
  rcases g with ⟨kvs, k, e, _, _⟩ | ⟨kvs, k, b, e, _, _, _⟩
  · obtain ⟨_, _, vs, _, dd⟩ := dk_rd I.hok e
    exact dd.typeIs
  · obtain ⟨_, _, xs, _, dd⟩ := dt_rd I.hok e
    exact dd.typeIs
/-- d[y] -/
def tDGet (td ty : TE) : TE := fun σ H Q => td σ H fun x H1 => ty σ H1 fun y H2 => ∃ a v, x = .ref a ∧ DGet H2 a y (some v) ∧ Q v H2
/-- y in d, y not in d -/
def tDIn (ty td : TE) : TE := fun σ H Q => ty σ H fun y H1 => td σ H1 fun x H2 => ∃ a o, x = .ref a ∧ DGet H2 a y o ∧ Q (.bl o.isSome) H2
def tDNotIn (ty td : TE) : TE := fun σ H Q => ty σ H fun y H1 => td σ H1 fun x H2 => ∃ a o, x = .ref a ∧ DGet H2 a y o ∧ Q (.bl (!o.isSome)) H2
/-- d[y] = v -/
def sDPut (td ty tv : TE) : TS := fun D σ H => tv σ H fun v H1 => td σ H1 fun x H2 => ty σ H2 fun y H3 => ∃ a H4, x = .ref a ∧ DPut H3 a y v H4 ∧ D.nx σ H4
/-- d[y] op= v -/
def sDAug (td ty tv : TE) (rd : V → V → Hp → VK → Prop) : TS := fun D σ H => td σ H fun x H1 => ty σ H1 fun y H2 => ∃ a v, x = .ref a ∧ DGet H2 a y (some v) ∧
  tv σ H2 fun y2 H3 => rd v y2 H3 fun z H4 => ∃ H5, DPut H4 a y z H5 ∧ D.nx σ H5
/-- del d[y] -/
def sDDel (td ty : TE) : TS := fun D σ H => td σ H fun x H1 => ty σ H1 fun y H2 => ∃ a kvs k, x = .ref a ∧ H2 a = some (.dK kvs) ∧ y = kV k ∧ (valV kvs k).isSome = true ∧ D.nx σ (upd H2 a (.dK (dropK kvs k)))

section
variable {X : Cx} {o i e value : Expr} {pos pos' tpos : Pos} {td ty tv : TE}
theorem pe_dget (hu : X.A.units + 1 < cLine) (ho : PE X o td) (hi : PE X i ty) (hs : NoSl i) : PE X (.Subscript o i pos) (tDGet td ty) := by
  intro pins s σ H Q I h
  refine subD_of PySem.F.slot_dict_getitem.lookup hs (thn (ho pins s σ H _ I h) fun u s1 ⟨x, H1, I1, rx, q1⟩ => thn (hi pins s1 σ H1 _ I1 q1) fun iv s2 ⟨y, H2, I2, ry, a, v, ex, g, q2⟩ => ?_)
  subst ex
  obtain rfl : u = Value.ref a := rx
  exact ⟨dict_typeIs I2 g, d_getItem hu I2 g ry fun w' s3 I3 rw' => ⟨v, H2, I3, rw', q2⟩⟩
theorem pc_dnotin (hu : X.A.units + 1 < cLine) (hi : PE X i ty) (ho : PE X o td) : PC X .NotIn i o (tDNotIn ty td) := by
  intro pins s σ H Q I h
  refine thn (hi pins s σ H _ I h) fun iv s1 ⟨y, H1, I1, ry, q1⟩ => thn (ho pins s1 σ H1 _ I1 q1) fun u s2 ⟨x, H2, I2, rx, a, ov, ex, g, q2⟩ => ?_
  subst ex
  obtain rfl : u = Value.ref a := rx
  exact d_notIn hu I2 g ry fun s3 I3 => ⟨.bl (!ov.isSome), H2, I3, rfl, q2⟩
theorem ps_dput (hu : X.A.units + 1 < cLine) (ho : PE X o td) (hi : PE X i ty) (hv : PE X value tv) (hs : swapsWith value (some (.Subscript o i pos')) pos.line X.env = pure false) :
    PS X (.Assign [.Subscript o i pos'] value pos) (sDPut td ty tv) := by
  intro pins s σ H D I h
  refine wpAny_Assign_Subscript (thn (hv pins s σ H _ I h) fun r s1 ⟨v, H1, I1, rv, q1⟩ => thn (ho pins s1 σ H1 _ I1 q1) fun u s2 ⟨x, H2, I2, rx, q2⟩ => thn (hi pins s2 σ H2 _ I2 q2) fun iv s3 ⟨y, H3, I3, ry, a, H4, ex, g, q3⟩ => ?_) hs
  subst ex
  obtain rfl : u = Value.ref a := rx
  exact d_setItem hu I3 g ry rv fun s4 I4 => ⟨σ, H4, I4, q3⟩
end


/-! ### displays -/
theorem dk_empty {P : Program} {w : World} {H : Hp} (h : Heap) (hb : sysModules < h.objs.size) : ObjOk P w H (h.push { cls := .type "dict", data := .dict #[] }) h.objs.size (.dK []) :=
  ⟨Nat.zero_le _, beq_eq_false_iff_ne.mpr (Ne.symm (Nat.ne_of_lt hb)), [], .nil, Heap.DictOf.new h⟩
theorem dt_empty {P : Program} {w : World} {H : Hp} (h : Heap) (hb : sysModules < h.objs.size) : ObjOk P w H (h.push { cls := .type "dict", data := .dict #[] }) h.objs.size (.dT []) :=
  ⟨Nat.zero_le _, beq_eq_false_iff_ne.mpr (Ne.symm (Nat.ne_of_lt hb)), [], .nil, _, #[], 0, Heap.get?_push_size _ rfl, ⟨rfl, rfl, rfl⟩, rfl, rfl, List.nodup_nil⟩
/-- {}, to be a dict of the kind that is wanted -/
def tDNewK : TE := fun _ H Q => ∀ p, H p = none → Q (.ref p) (upd H p (.dK []))
def tDNewT : TE := fun _ H Q => ∀ p, H p = none → Q (.ref p) (upd H p (.dT []))
section
variable {X : Cx} {pos : Pos}
theorem pe_dnewT : PE X (.Dict [] [] pos) tDNewT := fun pins s σ H Q I h =>
  wpAny_Dict_empty ⟨.ref s.heap.objs.size, _, I.laid (a := s.heap.objs.size) (o := .dT []) (t' := s.toks) (fun _ _ q => Heap.get?_push_of_some _ q) (Nat.le_refl _) (dt_empty s.heap I.big), rfl, h _ (I.hok.fresh (Nat.le_refl _))⟩
end

/-- the pairs of a display, from the left -/
def tPairs : List (TE × TE) → St → Hp → (List (V × V) → Hp → Prop) → Prop
  | [], _, H, Q => Q [] H
  | (tk, tv) :: r, σ, H, Q => tk σ H fun x H1 => tv σ H1 fun y H2 => tPairs r σ H2 fun ps H3 => Q ((x, y) :: ps) H3
abbrev VV : List (V × V) → List (Value × Value) → Prop := Paired fun p q => RelV p.1 q.1 ∧ RelV p.2 q.2
def PPs (X : Cx) (pos : Pos) (keys : List (Option Expr)) (values : List Expr) (trs : List (TE × TE)) : Prop :=
  ∀ (pins : List (Addr × Obj)) (s : Shared) (σ : St) (H : Hp) (Q : List (V × V) → Hp → Prop), Inv X pins σ H s → tPairs trs σ H Q →
    wpAny (model X.prog X.w) X.A (evalPairs (pairTrees keys values X.env pos)) (fun vs s' => ∃ ps H', Inv X pins σ H' s' ∧ VV ps vs ∧ Q ps H') X.xe s
theorem pps_nil {X : Cx} {pos : Pos} : PPs X pos [] [] [] := fun pins s σ H Q I h => pairTrees_nil_walk ⟨[], H, I, .nil, h⟩
theorem pps_cons {X : Cx} {pos : Pos} {k v : Expr} {ks : List (Option Expr)} {vs : List Expr} {tk tv : TE} {trs : List (TE × TE)} (hk : PE X k tk) (hv : PE X v tv) (hr : PPs X pos ks vs trs) :
    PPs X pos (some k :: ks) (v :: vs) ((tk, tv) :: trs) := fun pins s σ H Q I h =>
  pairTrees_cons_walk (thn (hk pins s σ H _ I h) fun u s1 ⟨x, H1, I1, rx, q1⟩ => thn (hv pins s1 σ H1 _ I1 q1) fun w2 s2 ⟨y, H2, I2, ry, q2⟩ =>
    thn (hr pins s2 σ H2 _ I2 q2) fun ws s3 ⟨ps, H3, I3, rel, q3⟩ => ⟨(x, y) :: ps, H3, I3, .cons ⟨rx, ry⟩ rel, q3⟩)

def mergeK (kvs more : List (Key × V)) : List (Key × V) := more.foldl (fun acc kv => putK acc kv.1 kv.2) kvs
theorem KV.merge : ∀ {more : List (Key × V)} {rs : List (Key × Value)} {kvs : List (Key × V)} {vs : List (Key × Value)}, KV more rs → KV kvs vs → KV (mergeK kvs more) (merged vs rs) := by
  intro more rs kvs vs r
  unfold KV at r
  induction r generalizing kvs vs with
  | nil => intro q; exact q
  | @cons p q ps qs h t ih =>
    intro r0
    have e : KV (putK kvs p.1 p.2) (stored vs q.1 q.2) := by
      have := r0.put p.1 h.2
      rw [← h.1]; exact this
    exact ih e
theorem length_mergeK : ∀ (more kvs : List (Key × V)), (mergeK kvs more).length ≤ kvs.length + more.length
  | [], kvs => by show kvs.length ≤ kvs.length + 0; omega
  | p :: r, kvs => by
    have h1 := length_mergeK r (putK kvs p.1 p.2)
    have h2 := length_putK kvs p.1 p.2
    show (mergeK (putK kvs p.1 p.2) r).length ≤ _
    rw [List.length_cons]; omega
theorem carries_of {P : Program} {w : World} : ∀ {kvs : List (Key × V)} {ws : List (Value × Value)}, VV (kvs.map fun kv => (kV kv.1, kv.2)) ws → ∃ rs, Carries (mixKind P w) ws rs ∧ KV kvs rs
  | [], _, r => by rw [List.map_nil] at r; cases r; exact ⟨[], True.intro, .nil⟩
  | p :: kvs, _, r => by
    rw [List.map_cons] at r
    cases r with
    | @cons a b as bs h t =>
      obtain ⟨rs, c, q⟩ := carries_of (P := P) (w := w) t
      obtain ⟨b1, b2⟩ := b
      exact ⟨(p.1, b2) :: rs, ⟨kV_is h.1, rfl, c⟩, .cons ⟨rfl, h.2⟩ q⟩
/-- {k: v, ..} with keys ints and texts; the new dict stands empty while the pairs are made -/
def tDisp (trs : List (TE × TE)) : TE := fun σ H Q => ∀ p, H p = none → tPairs trs σ (upd H p (.dK [])) fun ps H2 => H2 p = some (.dK []) ∧ ∃ kvs : List (Key × V), ps = kvs.map (fun kv => (kV kv.1, kv.2)) ∧ kvs.length ≤ 15 ∧ Q (.ref p) (upd H2 p (.dK (mergeK [] kvs)))
theorem pe_disp {X : Cx} {pos : Pos} {keys : List (Option Expr)} {values : List Expr} {trs : List (TE × TE)} (h : PPs X pos keys values trs) (hall : keys.all (·.isSome) = true) (hl : keys.length = values.length) (h0 : keys ≠ [])
    (h15 : keys.length ≤ 15) : PE X (.Dict keys values pos) (tDisp trs) := by
  intro pins s σ H Q I q
  have hn := I.hok.fresh (Nat.le_refl s.heap.objs.size)
  have I1 := I.laid (a := s.heap.objs.size) (o := .dK []) (h' := s.heap.push { cls := .type "dict", data := .dict #[] }) (t' := s.toks) (fun _ _ q => Heap.get?_push_of_some _ q) (Nat.le_refl _) (dk_empty s.heap I.big)
  refine wpAny_Dict_walk (knd := mixKind X.prog X.w) hall hl h0 h15 (thn (h pins _ σ _ _ I1 (q _ hn)) fun ws s2 ⟨ps, H2, I2, rel, e, kvs, ep, lk, q2⟩ => ?_)
  subst ep
  obtain ⟨rs, c, rk⟩ := carries_of (P := X.prog) (w := X.w) rel
  obtain ⟨z, hd, vs0, r0, dd⟩ := dk_of I2.hok e
  cases r0
  refine ⟨rs, c, dd, fun h' dd' hs => ⟨.ref s.heap.objs.size, _, ?_, rfl, q2⟩⟩
  have hz : (mergeK [] kvs).length ≤ sizeLine := by
    have h1 := length_mergeK kvs []
    rw [List.length_nil] at h1
    rw [sizeLine_eq]; omega
  have he : ∃ q, h'.get? s.heap.objs.size = some q := let ⟨q, _, _, hq, _⟩ := dd'; ⟨q, hq⟩
  exact d_write I2 (by rw [e]; exact True.intro) hs he (dk_new hz hd (rk.merge .nil) dd')


/-! ### methods -/
/-- a method call o.m(e) of a built-in, with one argument: what must be seen of the text -/
structure M1 (X : Cx) (o : Expr) (m : Str) (apos : Pos) (e : Expr) (cpos : Pos) : Prop where
  base : attributeBase o m X.env (eval o X.env) = eval o X.env
  few : ((backTo cpos (starEach [e] X.env)).all (fun x => !x.1) && (backToKw cpos (keywordEach [] X.env)).all (fun x => x.1.isSome)
    && decide (([e] : List Expr).length + ([] : List Keyword).length + (if ([] : List Keyword).isEmpty then 0 else 1) < 30)) = true
  line : (apos.endLine == cpos.line) = true
  trees : backTo cpos (starEach [e] X.env) = [(false, eval e X.env)]
structure M2 (X : Cx) (o : Expr) (m : Str) (apos : Pos) (e f : Expr) (cpos : Pos) : Prop where
  base : attributeBase o m X.env (eval o X.env) = eval o X.env
  few : ((backTo cpos (starEach [e, f] X.env)).all (fun x => !x.1) && (backToKw cpos (keywordEach [] X.env)).all (fun x => x.1.isSome)
    && decide (([e, f] : List Expr).length + ([] : List Keyword).length + (if ([] : List Keyword).isEmpty then 0 else 1) < 30)) = true
  line : (apos.endLine == cpos.line) = true
  trees : backTo cpos (starEach [e, f] X.env) = [(false, eval e X.env), (false, eval f X.env)]

/-- a is a dict, whatever its keys -/
def IsD (H : Hp) (a : Addr) : Prop := (∃ kvs, Rd H a (.dK kvs)) ∨ ∃ kvs, Rd H a (.dT kvs)
theorem isD_at {X : Cx} {pins : List (Addr × Obj)} {σ : St} {H : Hp} {s : Shared} {a : Addr} (I : Inv X pins σ H s) (d : IsD H a) :
    s.TypeIs (.ref a) "dict" ∧ (∀ b, Value.ref a = .ref b → ∃ ob, s.heap.get? b = some ob ∧ ob.dict = none) ∧ (a == sysModules) = false := by
  rcases d with ⟨kvs, e⟩ | ⟨kvs, e⟩
  · obtain ⟨_, hd, vs, _, dd⟩ := dk_rd I.hok e
    refine ⟨dd.typeIs, fun b q => ?_, hd⟩
    cases q
    obtain ⟨ob, _, _, h1, h2, _⟩ := dd
    exact ⟨ob, h1, h2.2.1⟩
  · obtain ⟨_, hd, xs, _, dd⟩ := dt_rd I.hok e
    refine ⟨dd.typeIs, fun b q => ?_, hd⟩
    cases q
    obtain ⟨ob, _, _, h1, h2, _⟩ := dd
    exact ⟨ob, h1, h2.2.1⟩

section
variable {X : Cx} {pins : List (Addr × Obj)} {σ : St} {H : Hp} {s : Shared} {a : Addr} {y d : V} {u r : Value} {o : Option V} {A : Around} {E : Value → Shared → Prop}
/-- d.get(y) -/
theorem d_get1 {Q : Value → Shared → Prop} (hu : A.units + 1 < cLine) (I : Inv X pins σ H s) (g : DGet H a y o) (ry : RelV y u) (h : ∀ w' s', Inv X pins σ H s' → RelV (o.getD .non) w' → Q w' s') :
    wpAny (model X.prog X.w) A (call (.builtin "dict.get") [.ref a, u]) Q E s := by
  rcases g with ⟨kvs, k, e, ey, l⟩ | ⟨kvs, k, b, e, ey, eb, l⟩
  · subst ey
    obtain ⟨z, hd, vs, rel, dd⟩ := dk_rd I.hok e
    refine call_meetsIn PySem.F.slot_dict_get dd.typeIs PySem.F.entry_dict_get (PySem.F.args_dict_get_2 _ _) (meets_dict_get (mixKind X.prog X.w) a (kV_is ry) hd) ⟨_, dd.mapOf, h _ _ (I.tok _) ?_⟩
    rw [l]
    exact (rel.val k).getD rfl
  · subst ey
    cases (show u = Value.ref b from ry)
    obtain ⟨z, hd, xs, rel, dd⟩ := dt_rd I.hok e
    refine call_meetsIn PySem.F.slot_dict_get dd.typeIs PySem.F.entry_dict_get (PySem.F.args_dict_get_2 _ _) (meetsH_dict_get (tupleKind (mixKind X.prog X.w)) a b hd) ⟨tupleKind_room_in1 hu, k, xs, key_of I.hok eb, dd, h _ _ (I.tok _) ?_⟩
    rw [l]
    exact (rel.val k).getD rfl
end

def tDGet1 (td ty : TE) : TE := fun σ H Q => td σ H fun x H1 => ∃ a, x = .ref a ∧ IsD H1 a ∧ ty σ H1 fun y H2 => ∃ o, DGet H2 a y o ∧ Q (o.getD .non) H2
def tDGet2 (td ty tx : TE) : TE := fun σ H Q => td σ H fun x H1 => ∃ a, x = .ref a ∧ IsD H1 a ∧ ty σ H1 fun y H2 => tx σ H2 fun z H3 => ∃ o, DGet H3 a y o ∧ Q (o.getD z) H3
/-- d.pop(k): there; d.pop(k, x): there or not -/
def tDPop1 (td ty : TE) : TE := fun σ H Q => td σ H fun x H1 => ∃ a, x = .ref a ∧ IsD H1 a ∧ ty σ H1 fun y H2 => ∃ kvs k v, H2 a = some (.dK kvs) ∧ y = kV k ∧ valV kvs k = some v ∧ Q v (upd H2 a (.dK (dropK kvs k)))
def tDPop2 (td ty tx : TE) : TE := fun σ H Q => td σ H fun x H1 => ∃ a, x = .ref a ∧ IsD H1 a ∧ ty σ H1 fun y H2 => tx σ H2 fun z H3 => ∃ kvs k, H3 a = some (.dK kvs) ∧ y = kV k ∧
  (∀ v, valV kvs k = some v → Q v (upd H3 a (.dK (dropK kvs k)))) ∧ (valV kvs k = none → Q z H3)
section
variable {X : Cx} {o e f : Expr} {apos cpos : Pos} {td ty tx : TE}
theorem pe_dget1 (hu : X.A.units + 1 < cLine) (ho : PE X o td) (he : PE X e ty) (m : M1 X o "get" apos e cpos) : PE X (.Call (.Attribute o "get" apos) [e] [] cpos) (tDGet1 td ty) := by
  intro pins s σ H Q I h
  refine wpAny_Call_method m.base m.few m.line PySem.F.plainAttrs_dict PySem.F.slot_dict_get PySem.F.type_dict_get (thn (ho pins s σ H _ I h) fun u s1 ⟨x, H1, I1, rx, a, ex, d, q1⟩ => ?_)
  subst ex
  obtain rfl : u = Value.ref a := rx
  obtain ⟨t1, t2, _⟩ := isD_at I1 d
  refine ⟨t1, t2, ?_⟩
  rw [m.trees]
  refine Calls.callWith_builtin rfl (Calls.evalArgs_plain (Calls.spliced_cons (thn (he pins s1 σ H1 _ I1 q1) fun iv s2 ⟨y, H2, I2, ry, ov, g, q2⟩ => Calls.spliced_nil ?_)))
  exact d_get1 hu I2 g ry fun w' s3 I3 rw' => ⟨_, H2, I3, rw', q2⟩
end

/-! ### dict(d): a copy -/
section
variable {X : Cx} {pins : List (Addr × Obj)} {σ : St} {H : Hp} {s : Shared} {a : Addr} {kvs : List (Key × V)} {A : Around} {E : Value → Shared → Prop}
end


section
variable {X : Cx} {pins : List (Addr × Obj)} {σ : St} {H : Hp} {s : Shared} {a : Addr} {y : V} {u : Value} {A : Around} {E : Value → Shared → Prop}
end
end L2

namespace L2
open PySem PySem.Spec PyProof.Rows
/-! ### a dict's pairs: keys that differ -/
section
variable {κ : Type} [DecidableEq κ]
end
end L2


set_option Elab.async false
set_option linter.all false
set_option maxRecDepth 100000
/-! all(..), () + t, t * n, is not True, things of plain kinds -/
namespace PySem
open Sem (wp)
open Builtin
end PySem
namespace L2
open PySem PySem.Spec PyProof.Rows
section
variable {X : Cx}
def rRepT (K : PySem.W.Frag) : R2 := fun x y H Q => ∃ (a : Addr) (k : Int) (xs : List V), x = .ref a ∧ y = .int k ∧ SqT K H a xs ∧ xs ≠ [] ∧ 1 < k ∧ k < 2 ^ 30 ∧ xs.length * k.toNat ≤ sizeLine ∧ ∀ p, H p = none → Q (.ref p) (upd H p (.tup (List.replicate k.toNat xs).flatten))
/-- t + u, any of them empty -/
def rCatA (K : PySem.W.Frag) : R2 := fun x y H Q => ∃ a b xs ys, x = .ref a ∧ y = .ref b ∧ SqT K H a xs ∧ SqT K H b ys ∧ xs.length + ys.length ≤ sizeLine ∧
  (xs = [] → Q (.ref b) H) ∧ (xs ≠ [] → ys = [] → Q (.ref a) H) ∧ (xs ≠ [] → ys ≠ [] → ∀ p, H p = none → Q (.ref p) (upd H p (.tup (xs ++ ys))))
theorem op_catA : OpR X (binaryOp .Add) (rCatA X.K) := by
  intro pins s σ H x y v u Q I rx ry h
  obtain ⟨a, b, xs, ys, rfl, rfl, ha, hb, hz, q0, q1, q2⟩ := h
  by_cases hx : xs = []
  · cases rx
    cases ry
    obtain ⟨its, r1, p1, _⟩ := I.tuple ha
    obtain ⟨its2, r2, p2, _⟩ := I.tuple hb
    obtain ⟨⟨cls, dd, data, sl⟩, ho, hc, n, hd⟩ := id p1
    obtain ⟨⟨cls2, dd2, data2, sl2⟩, ho2, hc2, n2, hd2⟩ := id p2
    simp only at hc hd hc2 hd2
    subst hc hd hc2 hd2
    have e : its = [] := r1.nil_iff.mpr hx
    exact concat_meets ⟨_, ho, rfl⟩ ⟨_, ho2, rfl⟩ noFill_tuple_add seq_tuple_add PySem.F.slot_tuple_add PySem.F.entry_tuple_add (PySem.F.args_tuple_add_2 _ _)
      (tuple_addW0 a b its.toArray its2.toArray n n2 dd dd2 sl sl2 (by simp [e])) ⟨ho, ho2, ⟨.ref b, H, I, rfl, q0 hx⟩⟩
  · exact op_catT pins s σ H _ _ v u Q I rx ry ⟨a, b, xs, ys, rfl, rfl, ha, hb, hx, hz, q1 hx, q2 hx⟩
/-! ### all(a list of truths) -/
def rAll (K : PySem.W.Frag) : List V → Hp → VK → Prop := fun xs H Q => ∃ (a : Addr) (bs : List Bool), xs = [.ref a] ∧ SqL K H a (bs.map V.bl) ∧ Q (.bl (bs.all id)) H
end
/-! ### things of plain kinds -/
inductive Pl (H : Hp) : V → Prop where
  | non : Pl H .non
  | bl (b : Bool) : Pl H (.bl b)
  | int (i : Int) : Pl H (.int i)
  | str (x : Str) : Pl H (.str x)
  | lst {a : Addr} {xs : List V} (e : H a = some (.lst xs)) : Pl H (.ref a)
  | tup {a : Addr} {xs : List V} (e : H a = some (.tup xs)) : Pl H (.ref a)
  | dK {a : Addr} {kvs : List (Key × V)} (e : H a = some (.dK kvs)) : Pl H (.ref a)
theorem Pl.same {H H' : Hp} {y : V} (h : Pl H y) (s : Same H H') : Pl H' y := by
  cases h with
  | non => exact .non
  | bl b => exact .bl b
  | int i => exact .int i
  | str x => exact .str x
  | lst e => exact .lst (s _ _ e)
  | tup e => exact .tup (s _ _ e)
  | dK e => exact .dK (s _ _ e)
def isIntV : V → Bool
  | .int _ => true
  | _ => false
/-! ### the judgements as closed boxes: where a display is long, Lean must not look into what is wanted -/
structure PEW (X : Cx) (e : Expr) (t : TE) : Prop where
  out : PE X e t
structure PAW (X : Cx) (es : List Expr) (t : TA) : Prop where
  out : PA X es t
structure PTW (X : Cx) (e : Expr) (t : TT) : Prop where
  out : PT X e t
structure PSW (X : Cx) (s : Stmt) (t : TS) : Prop where
  out : PS X s t
structure PSsW (X : Cx) (s : List Stmt) (t : TS) : Prop where
  out : PSs X s t
section
variable {X : Cx} {a b e : Expr} {es : List Expr} {ta tb te : TE} {t : TA} {pos : Pos}
variable {st : Stmt} {rest : List Stmt} {ts us : TS}
theorem ws_nil : PSsW X [] tNext := ⟨pss_nil⟩
theorem ws_cons (h1 : PSW X st ts) (h2 : PSsW X rest us) : PSsW X (st :: rest) (tSeq ts us) := ⟨pss_cons h1.out h2.out⟩
theorem ws_one (h1 : PSW X st ts) : PSsW X [st] ts := ⟨pss_one h1.out⟩
theorem w_expr (he : PEW X e te) (hs : swapsWith e none pos.line X.env = pure false := by rfl) : PSW X (.Expr e pos) (tDrop te) := ⟨ps_expr he.out hs⟩
theorem w_set {i : Nat} {x : Str} {pos' : Pos} (hN : X.N.Nodup) (hi : X.N[i]? = some x) (hx : Loc X.env.scope x) (he : PEW X e te) (hs : swapsWith e (some (.Name x pos')) pos.line X.env = pure false := by rfl) (hf : X.fn x = true ∨ X.env.scope.names.lookup x = some .local := by first | exact .inl rfl | exact .inr rfl | assumption) :
    PSW X (.Assign [.Name x pos'] e pos) (tAsg te (gName i)) := ⟨ps_set hN hi hx he.out hs hf⟩
theorem w_if {c : Expr} {a b : List Stmt} {tc : TT} {u : TS} (hc : PTW X c tc) (ha : PSsW X a ts) (hb : PSsW X b u) : PSW X (.If c a b pos) (tIfS tc ts u) := ⟨ps_if hc.out ha.out hb.out⟩
theorem w_for {tg iter : Expr} {body : List Stmt} {wi : TI} {g : TG} {tb : TS} (hp : PassesOwn (model X.prog X.w) X.A X.env X.xe) (hc : X.calm = true) (hi : PI X tg iter wi) (hg : PG X tg g) (hb : PSsW X body tb)
    (hs : ∀ x, foldedSetIterable iter X.env x = pure x := by intro _; rfl) : PSW X (.For tg iter body [] pos) (tFor wi g tb) := ⟨ps_for hp hc hi hg hb.out hs⟩
theorem body_w {b : List Stmt} {R : TS → Prop} (h : PSsW X b ts) (r : R ts) : ∃ t, PSs X b t ∧ R t := ⟨ts, h.out, r⟩
end
end L2

set_option Elab.async false
set_option linter.all false
set_option maxRecDepth 100000
/-! exceptions of one's own classes: raised, passed on, caught -/
namespace L2
open PySem PySem.Spec PyProof.Rows
/-! ### what stands behind a def that raised -/
def CX1 (P : Program) (w : World) : CXT := fun outer H s E e s' => ∃ (ea t C : Addr) (B : Heap) (H' : Hp), e = .ref ea ∧ s'.os = s.os ∧ AllBare s'.gens ∧ Un (frs outer) [] H H' s.heap s'.heap ∧ HOk P w H' B ∧
  Heap.FlyingW B outer ea (.ref C) (.ref t) s'.heap ∧ (∀ b o, s.heap.get? b = some o → b ∉ frs outer → ∃ o', B.get? b = some o') ∧ H' ea = none ∧ E (.ref C) none H'
theorem ObjOk.ex {P : Program} {w : World} {H : Hp} {h : Heap} {a : Addr} : ∀ {o : HO}, ObjOk P w H h a o → ∃ ob, h.get? a = some ob
  | .lst _, ⟨_, _, _, _, e⟩ => ⟨_, e⟩
  | .tup _, ⟨_, _, _, o, e, _⟩ => ⟨o, e⟩
  | .dK _, ⟨_, _, _, _, o, _, _, e, _⟩ => ⟨o, e⟩
  | .dT _, ⟨_, _, _, _, o, _, _, e, _⟩ => ⟨o, e⟩
  | .set _ _, ⟨o, _, _, _, e, _⟩ => ⟨o, e⟩
  | .ins _ _ _, ⟨_, _, _, e, _⟩ => ⟨_, e⟩
  | .own _, ⟨o, e⟩ => ⟨o, e⟩
  | .xd _, ⟨_, ⟨o, _, _, e, _⟩, _⟩ => ⟨o, e⟩
  | .rng _ _, ⟨_, _, _, e⟩ => ⟨_, e⟩
  | .frz _ _, ⟨e, _⟩ => ⟨_, e⟩
  | .tbl _, e => ⟨_, e⟩
  | .met _ _, e => ⟨_, e⟩
  | .ext _, ⟨_, ⟨o, e⟩, _⟩ => ⟨o, e⟩
theorem HOk.none {P : Program} {w : World} {H : Hp} {h : Heap} {a : Addr} (x : HOk P w H h) (e : h.get? a = none) : H a = none := by
  cases q : H a with
  | none => rfl
  | some o =>
    obtain ⟨ob, e'⟩ := (x a o q).ex
    rw [e] at e'
    cases e'
/-- the same things, the heap without some that aren't tracked -/
theorem HOk.less {P : Program} {w : World} {H : Hp} {h B : Heap} (x : HOk P w H h) (k : ∀ b u, (∃ o, H b = some o) → h.get? b = some u → B.get? b = some u) : HOk P w H B := fun a o e =>
  (x a o e).stay (fun b u hb q => k b u (by
    rcases hb with z | z
    · rw [z]; exact ⟨o, e⟩
    · exact ⟨_, z⟩) q) (fun _ z => z) fun _ _ z => z
/-! ### a def's body may raise -/
section
variable {P : Program} {w : World} {K : PySem.W.Frag} {mg : Str → Option Value} {base : Heap} {N : List Str} {qual : Str} {scope : Scope} {f : Addr} {cd : Value} {A : Around} {outer : List Env} {s : Shared} {H : Hp} {E : XK}
/-- an exception just made leaves the body -/
def Thr (X : Cx) (E : XK) : Prop := ∀ (pins : List (Addr × Obj)) (σ : St) (H : Hp) (s : Shared) (h' : Heap) (ea C : Addr) (vs : List Value), Inv X pins σ H s → Heap.MadeExcOf s.heap h' ea (.ref C) vs → E (.ref C) none H → X.xe (.ref ea) { s with heap := h' }
end
end L2

set_option Elab.async false
set_option linter.all false
set_option maxRecDepth 100000
/-! raise of an own class, f-strings, calls that may raise -/
namespace L2
open PySem PySem.Spec PyProof.Rows
abbrev VEm : List Value := [.type "ValueError", .type "Exception", .type "BaseException", .type "object"]
section
variable {X : Cx} {x : Str} {j k : Nat} {ps : List Str} {dvs : List V} {sp : Sp} {p pos cpos : Pos} {e : Expr} {es : List Expr} {t : TA} {C : Addr} {E : XK}
def tRaise (C : Addr) (E : XK) (t : TA) : TS := fun _ σ H => t σ H fun vs H1 => vs.length ≤ 8 ∧ E (.ref C) none H1
end
/-- a def that may raise, as its callers see it -/
structure DefX (P : Program) (w : World) (K : PySem.W.Frag) (mg : Str → Option Value) (base : Heap) (x : Str) (k : Nat) (ps : List Str) (dvs : List V) (sp : Sp) : Prop where
  ex : ∃ (f : Addr) (fd : FuncData) (ds : List Value), mg x = some (.ref f) ∧ PySem.W.keepIn K (.ref f) = true ∧ Vals dvs ds ∧ Binds K fd ps ds ∧ FnOk P w K mg base (CX1 P w) k f fd ps sp
section
variable {X : Cx} {x : Str} {j k : Nat} {ps : List Str} {dvs : List V} {sp : Sp} {p pos : Pos} {e : Expr} {es : List Expr} {t : TA} {E : XK}
/-- what comes behind a statement that never ends well isn't read -/
def tStop (t : TS) : TS := fun _ σ H => t { nx := fun _ _ => False, rt := fun _ _ => False } σ H
end
section
variable {P : Program} {w : World} {K : PySem.W.Frag} {mg : Str → Option Value} {base : Heap}
end
/-! ### f-strings -/
section
variable {X : Cx} {e v1 v2 : Expr} {es rest : List Expr} {pos : Pos} {te : TE} {n : Nat}
/-- a piece: its text, short -/
abbrev TF := St → Hp → (Str → Hp → Prop) → Prop
def PF (X : Cx) (e : Expr) (t : TF) : Prop := ∀ (pins : List (Addr × Obj)) (s : Shared) (σ : St) (H : Hp) (Q : Str → Hp → Prop), Inv X pins σ H s → t σ H Q →
  wpAny (model X.prog X.w) X.A (eval e X.env) (fun u s' => ∃ x tk H', u = .str x tk ∧ Inv X pins σ H' s' ∧ x.length ≤ 1000 ∧ Q x H') X.xe s
/-- {name}: a short text, or a number that is written short -/
def tFmt (te : TE) : TF := fun σ H Q => te σ H fun v H1 => (∃ x, v = .str x ∧ x.length ≤ 1000 ∧ Q x H1) ∨ ∃ i : Int, v = .int i ∧ i.natAbs.log2 < 1920 ∧ (Str.ofString (toString i)).length ≤ 1000 ∧ Q (Str.ofString (toString i)) H1
def PFs (X : Cx) (n : Nat) (es : List Expr) (t : TF) : Prop := ∀ (pins : List (Addr × Obj)) (s : Shared) (σ : St) (H : Hp) (Q : Str → Hp → Prop) (out : Str), out.length ≤ n → Inv X pins σ H s → t σ H Q →
  wpAny (model X.prog X.w) X.A (joinParts out (evalEach es X.env)) (fun u s' => ∃ x tk H', u = .str x tk ∧ Inv X pins σ H' s' ∧ Q x H') X.xe s
def tFnil : TF := fun _ H Q => ∀ x, Q x H
def tFcons (t1 t2 : TF) : TF := fun σ H Q => t1 σ H fun _ H1 => t2 σ H1 Q
def tJoin (t : TF) : TE := fun σ H Q => t σ H fun x H1 => Q (.str x) H1
end
end L2

set_option Elab.async false
set_option linter.all false
set_option maxRecDepth 100000
/-! isinstance of an own exception -/
namespace L2
open PySem PySem.Spec PySem.W PySem.Builtin PySem.Builtin.Getset_descriptor
/-- what of the text is asked of the class -/
structure XCls (K : PySem.W.Frag) (C : Addr) : Prop where
  ga : findIn K (.ref C) "__getattribute__" = some (some (.builtin "BaseException.__getattribute__"))
  gt : findIn K (.ref C) "__getattr__" = some none
  cl : findIn K (.ref C) "__class__" = some (some (.builtin "object.__class__"))
  gg : specialIn K (.builtin "object.__class__") "__get__" = some (some (.builtin "getset_descriptor.__get__"))
  tk : takesIn K (.builtin "object.__class__") = some true
  ob : mroIn K C (.type "object") = some true
  be : mroIn K C (.type "BaseException") = some true
  ci : (clsIn K C).isSome = true
section
variable {prog : Program} {w : World} {A : Around} {E : Value → Shared → Prop} {s : Shared} {K : PySem.W.Frag} {ea C : Addr} {ob : Obj}
/-- an exception of the class at C -/
def ExAt (ea C : Addr) (h : Heap) : Prop := ∃ ob vs, h.get? ea = some ob ∧ ob.cls = .ref C ∧ ob.data = .fields vs
theorem ExAt.ty {M : Model} {h : Heap} (p : ExAt ea C h) : Looks M h (typeOf (.ref ea)) (.ref C) := by
  obtain ⟨ob, vs, e, c, _⟩ := p
  exact c ▸ (Looks.ld e).andThen .now
end
end L2

set_option Elab.async false
set_option linter.all false
set_option maxRecDepth 100000
/-! try .. except C as e -/
namespace L2
open PySem PySem.Spec PyProof.Rows
/-- within an except suite -/
abbrev Cx.held (X : Cx) (ea : Addr) : Cx := { X with A := X.A.mark (some (.ref ea)), calm := false, xe := fun _ _ => False }
section
variable {X : Cx} {pins : List (Addr × Obj)} {σ : St} {H : Hp} {s : Shared} {E : XK} {ea : Addr}
theorem mark_frames {A : Around} {v : Option Value} : (A.mark v).frames = A.frames := by first | rfl | simp [Around.mark]
theorem Cx.Ok.held (ok : X.Ok) : (X.held ea).Ok :=
  ⟨ok.mod, ok.kind, ok.glob, ok.blt, ok.above, ok.inj, ok.has, ok.cab, (fun z => by cases z), mark_frames.trans ok.frames, ok.stk, ok.exf, ok.bs, ok.bsz, ok.noex, ok.exfs, ok.funs, ok.frf⟩
theorem Inv.held (I : Inv X pins σ H s) : Inv (X.held ea) pins σ H s := ⟨I.ok.held, I.os, I.bare, I.base, I.loc, I.cell, I.free, I.freeC, I.pin, I.hok, I.len⟩
/-! ### what may raise: the names' values are those of the entry -/
def CXI (X : Cx) (pins : List (Addr × Obj)) (σ : St) (E : XK) (e : Value) (s' : Shared) : Prop := ∃ s H, Inv X pins σ H s ∧ CX1 X.prog X.w X.stack H s E e s'
abbrev TXE := St → Hp → VK → XK → Prop
abbrev TX := Ends → XK → St → Hp → Prop
def PXE (X : Cx) (e : Expr) (t : TXE) : Prop := ∀ (pins : List (Addr × Obj)) (s : Shared) (σ : St) (H : Hp) (Q : VK) (E : XK), Inv X pins σ H s → t σ H Q E → wpAny (model X.prog X.w) X.A (eval e X.env) (EP X pins σ Q) (CXI X pins σ E) s
def PX1 (X : Cx) (st : Stmt) (t : TX) : Prop := ∀ (pins : List (Addr × Obj)) (s : Shared) (σ : St) (H : Hp) (D : Ends) (E : XK), Inv X pins σ H s → t D E σ H → wpAny (model X.prog X.w) X.A (exec st X.env) (SP X pins D) (CXI X pins σ E) s
def PX (X : Cx) (st : List Stmt) (t : TX) : Prop := ∀ (pins : List (Addr × Obj)) (s : Shared) (σ : St) (H : Hp) (D : Ends) (E : XK), Inv X pins σ H s → t D E σ H → wpAny (model X.prog X.w) X.A (execs st X.env) (SP X pins D) (CXI X pins σ E) s
end
section
variable {X : Cx} {x : Str} {j k : Nat} {ps : List Str} {dvs : List V} {sp : Sp} {p pos : Pos} {e : Expr} {es : List Expr} {t : TA} {E : XK}
def tXCall (sp : Sp) (dvs : List V) (t : TA) : TXE := fun σ H Q E => t σ H fun vs H1 => sp (vs ++ dvs) H1 Q E
def txExpr (t : TXE) : TX := fun D E σ H => t σ H (fun _ H1 => D.nx σ H1) E
def txRet (t : TXE) : TX := fun D E σ H => t σ H D.rt E
def txSet (i : Nat) (t : TXE) : TX := fun D E σ H => t σ H (fun v H1 => D.nx (σ.set i (some v)) H1) E
def txIf (c : TT) (t u : TX) : TX := fun D E σ H => c σ H fun b H1 => if b = true then t D E σ H1 else u D E σ H1
end
/-! ### the landing -/
section
variable {P : Program} {w : World} {fs : List Addr} {H H1 : Hp} {h h1 : Heap} {ea C : Addr} {o : HO}
theorem Un.more (u : Un fs [] H H1 h h1) (n : h.get? ea = none) (z : H ea = none) : Un fs [] H (upd H1 ea o) h h1 where
  keep := u.keep
  slot := u.slot
  free := fun b ob q e hx => by
    rw [upd_ne (fun c => by rw [c, n] at q; cases q)]
    exact u.free b ob q e hx
  there := u.there
  tups := fun b xs q => by rw [upd_ne (ne_of_none q z)]; exact u.tups b xs q
  frzs := fun b ob v q => by rw [upd_ne (ne_of_none q z)]; exact u.frzs b ob v q
  tbls := fun b ps q => by rw [upd_ne (ne_of_none q z)]; exact u.tbls b ps q
theorem HOk.ext (x : HOk P w H h) (z : H ea = Option.none) (p : ExAt ea C h) : HOk P w (upd H ea (.ext (ExAt ea C))) h := by
  intro a u e
  by_cases q : a = ea
  · subst q
    rw [upd_same] at e
    cases e
    obtain ⟨ob, vs, e1, e2, e3⟩ := p
    refine ⟨⟨ob, vs, e1, e2, e3⟩, ⟨ob, e1⟩, ?_⟩
    rintro h1 h2 ⟨ob', vs', f1, f2, f3⟩ k
    exact ⟨ob', vs', k _ f1, f2, f3⟩
  · rw [upd_ne q] at e
    exact (x a u e).stay (fun b v _ f => f) (fun b f => by rw [upd_ne (ne_of_none f z)]; exact f) fun b xs f => by rw [upd_ne (ne_of_none f z)]; exact f
end
section
variable {X : Cx} {pins : List (Addr × Obj)} {σ : St} {H : Hp} {s : Shared} {E : XK}
end
section
variable {X : Cx} {pins : List (Addr × Obj)} {σ : St} {H : Hp} {s s' : Shared} {E : XK} {C F : Addr} {i : Nat} {x n : Str} {np pos hpos : Pos} {body : List Stmt} {b₀ : Stmt} {suite : List Stmt} {tb : TX} {ts : TS}
/-- try: .. except F as n: .., where all that is raised is of the class at C -/
def tTry (C : Addr) (i : Nat) (tb : TX) (ts : TS) : TS := fun D σ H => tb D (fun c _ H1 => c = .ref C ∧ ∀ ea, H1 ea = none →
  ts { nx := fun σ' H' => D.nx (σ'.set i none) H', rt := D.rt, bk := fun σ' H' => D.bk (σ'.set i none) H', ct := fun σ' H' => D.ct (σ'.set i none) H' } (σ.set i (some (.ref ea))) (upd H1 ea (.ext (ExAt ea C)))) σ H
end
end L2

set_option Elab.async false
set_option linter.all false
set_option maxRecDepth 100000
namespace L2
open PySem PySem.Spec PyProof.Rows
structure RoomH (k : Nat) (A : Around) : Prop where
  dp : A.depth + 3 * k + 5 < recursionLimit
  un : A.units + 16 * k + 200 < cLine
theorem RoomH.mono {j k : Nat} {A : Around} (r : RoomH k A) (h : j ≤ k) : RoomH j A := ⟨by have := r.dp; omega, by have := r.un; omega⟩
theorem RoomH.deeper {k : Nat} {A : Around} (r : RoomH (k + 1) A) (env : Env) : RoomH k (A.deeper env) :=
  ⟨by have := r.dp; show A.depth + 1 + 3 * k + 5 < _; omega, by have := r.un; show A.units + 3 + 16 * k + 200 < _; omega⟩
theorem RoomH.depth {k : Nat} {A : Around} (r : RoomH k A) : A.depth < recursionLimit := by have := r.dp; omega
theorem RoomH.units {k : Nat} {A : Around} (r : RoomH k A) : A.units + 64 < cLine := by have := r.un; omega
theorem RoomH.units0 {k : Nat} {A : Around} (r : RoomH k A) : A.units < cLine := by have := r.un; omega
theorem Room.held {k : Nat} {A : Around} {v : Option Value} (r : Room k A) : RoomH k (A.mark v) :=
  ⟨by have := r.dp; first | exact this | (simp only [Around.mark]; exact this), by have := r.un; first | exact this | (simp only [Around.mark]; exact this)⟩
structure FnOkH (P : Program) (w : World) (K : PySem.W.Frag) (mg : Str → Option Value) (base : Heap) (CX : CXT) (k : Nat) (f : Addr) (fd : FuncData) (ps : List Str) (sp : Sp) : Prop where
  len : ∀ vs H Q E, sp vs H Q E → vs.length = ps.length
  run : ∀ (A : Around) (outer : List Env) (s : Shared) (H : Hp) (args : Args) (us : List Value) (vs : List V) (Q : VK) (E : XK), RoomH k A → Env0 P w K mg base A outer s H → BindsTo s fd args (ps.zip us) → Vals vs us → sp vs H Q E →
    codeAny (model P w) A (.call (.ref f) args) (CR CX outer P w H s Q E) s
abbrev cxOfH (CX : CXT) (P : Program) (w : World) (K : PySem.W.Frag) (mg : Str → Option Value) (base : Heap) (N : List Str) (qual : Str) (scope : Scope) (f : Addr) (cd : Value) (A : Around) (outer : List Env) (s : Shared) (H : Hp) (E : XK) : Cx :=
  { cxOf CX P w K mg base N qual scope f cd A outer s H E with calm := false }
/-- .. as its callers see it -/
structure DefH (P : Program) (w : World) (K : PySem.W.Frag) (mg : Str → Option Value) (base : Heap) (x : Str) (k : Nat) (ps : List Str) (dvs : List V) (sp : Sp) : Prop where
  ex : ∃ (f : Addr) (fd : FuncData) (ds : List Value), mg x = some (.ref f) ∧ PySem.W.keepIn K (.ref f) = true ∧ Vals dvs ds ∧ Binds K fd ps ds ∧ FnOkH P w K mg base CX0 k f fd ps sp
section
variable {P : Program} {w : World} {K : PySem.W.Frag} {mg : Str → Option Value} {base : Heap}
end
section
variable {X : Cx} {x : Str} {j k : Nat} {ps : List Str} {dvs : List V} {sp : Sp} {p pos : Pos} {e : Expr} {es : List Expr} {t : TA}
end
/-! ### isinstance of an exception that is held -/
section
variable {X : Cx}
def CX_isi (K : PySem.W.Frag) : List V → Hp → VK → Prop := fun xs H Q => ∃ (a C : Addr) (c : V) (cv : Value) (b : Bool), xs = [.ref a, c] ∧ H a = some (.ext (ExAt a C)) ∧ XCls K C ∧ RelV c cv ∧ PySem.W.kitOne K (.ref C) cv = some b ∧ Q (.bl b) H
end
end L2

set_option Elab.async false
set_option linter.all false
set_option maxRecDepth 100000
namespace L2
open PySem PySem.Spec PyProof.Rows
section
variable {X : Cx}
def clsV : V → Option Value
  | .ref a => some (.ref a)
  | .ty n => some (.type n)
  | _ => none
def rIsX (K : PySem.W.Frag) : List V → Hp → VK → Prop := fun xs H Q => ∃ (a C : Addr) (c : V) (cv : Value) (b : Bool), xs = [.ref a, c] ∧ H a = some (.ext (ExAt a C)) ∧ XCls K C ∧ clsV c = some cv ∧ PySem.W.kitOne K (.ref C) cv = some b ∧ Q (.bl b) H
end
end L2

set_option Elab.async false
set_option linter.all false
set_option maxRecDepth 100000
/-! list(reversed(l)) -/
namespace L2
open PySem PySem.Spec PyProof.Rows
section
variable {prog : Program} {w : World} {A : Around} {E : Value → Shared → Prop} {s : Shared} {it l S : Addr} {items : Array Value}
abbrev RevP (items : Array Value) : Nat → Value → Prop := fun i v => items[items.size - 1 - i]? = some v
end
section
variable {X : Cx} {a : Expr} {ta : TA} {p p2 pos pos2 : Pos}
def tListRev (K : PySem.W.Frag) (ta : TA) : TE := fun σ H Q => ta σ H fun vs H1 => ∃ l xs, vs = [.ref l] ∧ SqL K H1 l xs ∧ ∀ n, H1 n = none → Q (.ref n) (upd H1 n (.lst xs.reverse))
end
end L2

set_option Elab.async false
set_option linter.all false
set_option maxRecDepth 100000
/-! list(d) of a dict of ints and texts -/
namespace L2
open PySem PySem.Spec PyProof.Rows
theorem paired_back {α β : Type} {F : α → β → Prop} : ∀ {l₁ : List α} {l₂ : List β} {j : Nat} {q : β}, Paired F l₁ l₂ → l₂[j]? = some q → ∃ p, l₁[j]? = some p ∧ F p q
  | _, _, _, _, .nil, e => by simp at e
  | _, _, 0, _, .cons r _, e => by simp at e; subst e; exact ⟨_, rfl, r⟩
  | _, _, j + 1, _, .cons _ t, e => by
    obtain ⟨p, h1, h2⟩ := paired_back (j := j) t (by simpa using e)
    exact ⟨p, by simpa using h1, h2⟩
section
variable {X : Cx}
theorem keys_vals : ∀ {ks : List Key} {us : List Value}, us.length = ks.length → (∀ (j : Nat) (v : Value), us[j]? = some v → ∃ k, ks[j]? = some k ∧ keyIs k v = true) → Vals (ks.map kV) us
  | [], [], _, _ => .nil
  | [], _ :: _, h, _ => by simp at h
  | _ :: _, [], h, _ => by simp at h
  | k :: ks, u :: us, h, q => by
    obtain ⟨k', e, i⟩ := q 0 u rfl
    cases (show k = k' from by simpa using e)
    refine .cons ?_ (keys_vals (by simpa using h) fun j v e => by simpa using q (j + 1) v (by simpa using e))
    rcases keyIs_shape i with ⟨n, t, rfl, rfl⟩ | ⟨x, t, rfl, rfl⟩
    · exact ⟨t, rfl⟩
    · exact ⟨t, rfl⟩
def rListD : List V → Hp → VK → Prop := fun xs H Q => ∃ p kvs, xs = [.ref p] ∧ H p = some (.dK kvs) ∧ ∀ l, H l = none → Q (.ref l) (upd H l (.lst (kvs.map fun q => kV q.1)))
theorem call_listD (hc : X.calm = true) : CallR X (.type "list") rListD := by
  intro pins s σ H xs us Q I r h
  obtain ⟨p, kvs, rfl, hp, q⟩ := h
  obtain ⟨u, rfl, rx⟩ := vals1 r
  cases rx
  obtain ⟨hz, lo, vs, kv, dof⟩ := (show ObjOk X.prog X.w H s.heap p (.dK kvs) from I.hok p _ hp)
  obtain ⟨ep, hat⟩ := dof.dictAt
  have hlen : kvs.length = vs.length := Paired.length kv
  refine PySem.W.kdl_call (PySem.W.kdl_dict (knd := mixKind X.prog X.w) (kvs := vs) (ep := ep) lo) (I.ok.hd hc) hat (by rw [← hlen]; exact hz) fun h' tk acc c' kp e hacc => ?_
  have rv : Vals ((kvs.map (·.1)).map kV) acc.toList := keys_vals (by rw [Array.length_toList, hacc.1, List.length_map, hlen]) fun j v ej => by
    obtain ⟨k, x, e1, e2⟩ := hacc.2 j v (by rw [← Array.getElem?_toList]; exact ej)
    refine ⟨k, ?_, e2⟩
    obtain ⟨pv, f1, f2⟩ := paired_back kv e1
    rw [List.getElem?_map, f1]
    exact congrArg some f2.1
  rw [List.map_map] at rv
  have ob : ObjOk X.prog X.w (upd H s.heap.objs.size (.lst (kvs.map fun q => kV q.1))) h' s.heap.objs.size (.lst (kvs.map fun q => kV q.1)) := by
    refine ⟨by rw [List.length_map]; exact hz, acc.toList, c', rv, ?_⟩
    rw [Array.toArray_toList]
    exact e
  exact ⟨.ref _, _, I.laid (t' := tk) kp (Nat.le_refl _) ob, rfl, q _ (I.hok.fresh (Nat.le_refl _))⟩
end
end L2

set_option Elab.async false
set_option linter.all false
set_option maxRecDepth 100000
namespace L2
open PySem PySem.Spec PyProof.Rows

/-! ### the comprehension's loop, with a test -/
/-- what a comprehension's reading asks behind the source: W the invariant by turn and measure -/
def CompWI (J : It) (ix : List (Option Nat)) (g : TG) (tc : TT) (te : TE) (σ : St) (H : Hp) (Qd : Addr → Hp → Prop) : Prop :=
  ∀ D, H D = none → ∃ W : Nat → Nat → St → Hp → Prop, (∃ m, W 0 m (blockSt ix σ) (upd H D (.lst []))) ∧ ∀ i m σ' H', W i m σ' H' →
    (J.stop i H' ∧ Qd D H') ∨ (J.go i H' ∧ ∀ x H2, J.yld i H' x H2 → g x σ' H2 fun σ3 H3 => tc σ3 H3 fun b H4 => if b = true then te σ3 H4 fun y H5 => ∃ ys, H5 D = some (.lst ys) ∧ ys.length < sizeLine ∧ ∃ m', m' < m ∧ W (i + 1) m' σ3 (upd H5 D (.lst (ys ++ [y]))) else ∃ m', m' < m ∧ W (i + 1) m' σ3 H4)

section
variable {X : Cx} {pins : List (Addr × Obj)} {σ : St} {H : Hp} {s : Shared} {N : List Str} {ix : List (Option Nat)} {scope : Scope} {fp : List Addr} {tg elt iter cond : Expr} {tc : TT} {pos spos : Pos} {J : It} {it : Addr} {tn : Nat → Heap → Prop} {g : TG} {te : TE} {wi : TI}

/-- [elt for x in iter] -/
def tCompI (ix : List (Option Nat)) (wi : TI) (g : TG) (tc : TT) (te : TE) : TE := fun σ H Q => wi σ H fun J H1 => CompWI J ix g tc te σ H1 fun D H' => Q (.ref D) H'
end
end L2

set_option Elab.async false
set_option linter.all false
set_option maxRecDepth 100000
/-! sets of ints: their tables, so that they can be walked -/
namespace L2
open PySem PySem.Spec PyProof.Rows
abbrev Rise (xs : Array Nat) : Prop := xs.toList.Pairwise (· < ·)
theorem Rise.lt {xs : Array Nat} (r : Rise xs) {i j : Nat} (hi : i < j) (hj : j < xs.size) : xs[i] < xs[j] := by
  have := List.pairwise_iff_getElem.mp r i j (by simpa using Nat.lt_trans hi hj) (by simpa using hj) hi
  simpa using this
theorem below_go {xs : Array Nat} {j : Nat} (r : Rise xs) : ∀ (fuel lo hi : Nat), hi - lo ≤ fuel → lo ≤ hi → hi ≤ xs.size → (∀ i (h : i < xs.size), i < lo → xs[i] < j) → (∀ i (h : i < xs.size), hi ≤ i → j ≤ xs[i]) →
    (SetTable.below.go xs j fuel lo hi ≤ xs.size ∧ (∀ i (h : i < xs.size), i < SetTable.below.go xs j fuel lo hi → xs[i] < j) ∧ ∀ i (h : i < xs.size), SetTable.below.go xs j fuel lo hi ≤ i → j ≤ xs[i])
  | 0, lo, hi, hf, hl, hs, h1, h2 => by
    have e : lo = hi := by omega
    subst e
    exact ⟨hs, h1, h2⟩
  | fuel + 1, lo, hi, hf, hl, hs, h1, h2 => by
    unfold SetTable.below.go
    by_cases c : lo < hi
    · rw [if_pos c]
      dsimp only
      have hm : (lo + hi) / 2 < xs.size := by omega
      have eg : xs.getD ((lo + hi) / 2) j = xs[(lo + hi) / 2] := by simp [Array.getD, hm]
      by_cases d : xs.getD ((lo + hi) / 2) j < j
      · rw [if_pos d]
        refine below_go r fuel _ _ (by omega) (by omega) hs (fun i h hi' => ?_) h2
        rcases Nat.lt_or_ge i ((lo + hi) / 2) with z | z
        · exact Nat.lt_trans (r.lt z hm) (by rw [eg] at d; exact d)
        · have e : i = (lo + hi) / 2 := by omega
          subst e
          rw [eg] at d
          exact d
      · rw [if_neg d]
        refine below_go r fuel _ _ (by omega) (by omega) (by omega) h1 (fun i h hi' => ?_)
        rw [eg] at d
        rcases Nat.lt_or_ge ((lo + hi) / 2) i with z | z
        · exact Nat.le_trans (Nat.le_of_not_lt d) (Nat.le_of_lt (r.lt z h))
        · have e : i = (lo + hi) / 2 := by omega
          subst e
          exact Nat.le_of_not_lt d
    · rw [if_neg c]
      have e : lo = hi := by omega
      subst e
      exact ⟨hs, h1, h2⟩
theorem below_is {xs : Array Nat} (r : Rise xs) (j : Nat) : SetTable.below xs j ≤ xs.size ∧ (∀ i (h : i < xs.size), i < SetTable.below xs j → xs[i] < j) ∧ ∀ i (h : i < xs.size), SetTable.below xs j ≤ i → j ≤ xs[i] :=
  below_go r xs.size 0 xs.size (by omega) (Nat.zero_le _) (Nat.le_refl _) (fun i h z => by omega) (fun i h z => by omega)
theorem toList_insertAt {α : Type} (xs : Array α) (p : Nat) (x : α) : (SetTable.insertAt xs p x).toList = xs.toList.take p ++ x :: xs.toList.drop p := by
  unfold SetTable.insertAt
  simp
  rw [List.take_of_length_le (by simp)]
theorem Rise.put {xs : Array Nat} (r : Rise xs) {j : Nat} (hj : xs[SetTable.below xs j]? ≠ some j) : Rise (SetTable.insertAt xs (SetTable.below xs j) j) := by
  obtain ⟨h0, h1, h2⟩ := below_is r j
  unfold Rise
  rw [toList_insertAt, List.pairwise_append]
  have tk : ∀ a ∈ xs.toList.take (SetTable.below xs j), a < j := fun a ha => by
    obtain ⟨i, hi, rfl⟩ := List.mem_take_iff_getElem.mp ha
    have : i < SetTable.below xs j ∧ i < xs.size := by simp at hi; omega
    simpa using h1 i this.2 this.1
  have dr : ∀ b ∈ xs.toList.drop (SetTable.below xs j), j < b := fun b hb => by
    obtain ⟨i, hi, rfl⟩ := List.mem_drop_iff_getElem.mp hb
    have hs : i + SetTable.below xs j < xs.size := by simpa using hi
    have hle := h2 (i + SetTable.below xs j) hs (by omega)
    have hb0 : SetTable.below xs j < xs.size := by omega
    have hne : xs[SetTable.below xs j] ≠ j := fun z => hj (by rw [Array.getElem?_eq_getElem hb0, z])
    have h3 := h2 (SetTable.below xs j) hb0 (Nat.le_refl _)
    have : j < xs[i + SetTable.below xs j] := by
      rcases Nat.eq_zero_or_pos i with z | z
      · subst z
        simp only [Nat.zero_add]
        omega
      · have := r.lt (i := SetTable.below xs j) (j := i + SetTable.below xs j) (by omega) hs
        omega
    simpa [Nat.add_comm] using this
  refine ⟨List.Pairwise.sublist (List.take_sublist _ _) r, List.pairwise_cons.mpr ⟨dr, List.Pairwise.sublist (List.drop_sublist _ _) r⟩, fun a ha b hb => ?_⟩
  rcases List.mem_cons.mp hb with e | hb
  · rw [e]; exact tk a ha
  · exact Nat.lt_trans (tk a ha) (dr b hb)
/-- a table as a set has that was only added to -/
structure TabOk (t : SetTable) (led : Bool) : Prop where
  rise : Rise t.place
  nod : t.dummies = #[]
  led : t.led = led
/-! ### the set -/
abbrev byT (w : World) : Bool := w.params.followText "set-order"
def valI : Value → Int
  | .int n _ => n
  | _ => 0
/-- a set of ints that can be walked: its members, each once, in some order -/
def SetW (P : Program) (w : World) (h : Heap) (a : Addr) (ns : List Int) : Prop :=
  ∃ o es ep t, h.get? a = some o ∧ o.ExactSet ∧ o.data = .set es ep t ∧ ElemsOf (intKind P w) es.toList ∧ (∀ e ∈ es.toList, ∃ n u, e.2 = .int n u) ∧ (es.toList.map fun e => valI e.2).Perm ns ∧ es.size < scanBound ∧ t.fits es.size = true ∧ TabOk t (!byT w)
theorem SetW.keep {P : Program} {w : World} {h h' : Heap} {a : Addr} {ns : List Int} (x : SetW P w h a ns) (k : ∀ o, h.get? a = some o → h'.get? a = some o) : SetW P w h' a ns := by
  obtain ⟨o, es, ep, t, ho, r⟩ := x
  exact ⟨o, es, ep, t, k o ho, r⟩
section
variable {P : Program} {w : World} {A : Around} {E : Value → Shared → Prop} {s : Shared}
end
end L2

set_option Elab.async false
set_option linter.all false
set_option maxRecDepth 100000
namespace L2
open PySem PySem.Spec PyProof.Rows
section
variable {P : Program} {w : World} {A : Around} {E : Value → Shared → Prop} {R : Result → Shared → Prop} {I : Addr} {fp wr : List Addr} {G : Array GenState → Array GenState → Prop} {n : Nat} {Pz : Nat → Value → Prop} {St : Nat → Shared → Prop}
end
section
variable {P : Program} {w : World} {A : Around} {E : Value → Shared → Prop} {s : Shared}
def freshSet (w : World) : Obj := { cls := .type "set", dict := none, data := .set #[] 0 (.fresh 0 0 (!byT w)) }
end
end L2

set_option Elab.async false
set_option linter.all false
set_option maxRecDepth 100000
namespace L2
open PySem PySem.Spec PyProof.Rows
namespace SF
end SF
/-! ### orders -/
/-! ### the iterator -/
def IsSetIter (h : Heap) (I S : Addr) (first : Value) (i n ep : Nat) : Prop := ∃ o, h.get? I = some o ∧ o.cls = .type "set_iterator" ∧ o.data = .fields #[first, .int i 0, .ref S, .int n 0, .int ep 0]
theorem IsSetIter.typeIs {s : Shared} {I S : Addr} {first : Value} {i n ep : Nat} (x : IsSetIter s.heap I S first i n ep) : s.TypeIs (.ref I) "set_iterator" := let ⟨o, ho, hc, _⟩ := x; ⟨o, ho, hc⟩
/-- how the walk finds its next one: by the text's own order, by the table, by a drawn order -/
def WalkBy (w : World) (es : Array (Int × Value)) (ep : Nat) (t : SetTable) (S T : Addr) (L : List Value) (h : Heap) (i : Nat) (first : Value) : Prop :=
  (byT w = true ∧ (∃ z : Nat, first = .int z 0) ∧ L = (pickOrder (w.params.setOrder S ep) es).toList.map (·.2)) ∨
  (byT w = false ∧ (t.plain = true ∨ es.size ≤ 1) ∧ (∃ z : Nat, first = .int z 0 ∧ SetTable.below t.place z = i) ∧ L = es.toList.map (·.2)) ∨
  (byT w = false ∧ first = .ref T ∧ ∃ pl : List Nat, pl.Perm (List.range es.size) ∧ (∃ o e, h.get? T = some o ∧ o.data = .seq (pl.map fun p : Nat => Value.int (p : Int) 0).toArray e) ∧ L = pl.map fun p => (es.getD p (0, .none)).2)
structure SetSt (w : World) (es : Array (Int × Value)) (ep : Nat) (t : SetTable) (S T I : Addr) (L : List Value) (i : Nat) (h : Heap) : Prop where
  set : ∃ o, h.get? S = some o ∧ o.data = .set es ep t
  it : ∃ first, IsSetIter h I S first i es.size ep ∧ WalkBy w es ep t S T L h i first
section
variable {P : Program} {w : World} {A : Around} {E : Value → Shared → Prop} {s : Shared} {es : Array (Int × Value)} {ep : Nat} {t : SetTable} {S T I : Addr} {L : List Value} {i : Nat}
end
end L2

set_option Elab.async false
set_option linter.all false
set_option maxRecDepth 100000
namespace L2
open PySem PySem.Spec PyProof.Rows
namespace SF
end SF
section
variable {P : Program} {w : World} {A : Around} {E : Value → Shared → Prop} {s : Shared} {es : Array (Int × Value)} {ep : Nat} {t : SetTable} {S T I : Addr} {L : List Value}
end
end L2

set_option Elab.async false
set_option linter.all false
set_option maxRecDepth 100000
namespace L2
open PySem PySem.Spec PyProof.Rows
section
variable {P : Program} {w : World} {A : Around} {E : Value → Shared → Prop} {s : Shared} {S : Addr} {ns : List Int}
end
end L2

set_option Elab.async false
set_option linter.all false
set_option maxRecDepth 100000
/-! set(a list of ints), sorted(such a set) -/
namespace L2
open PySem PySem.Spec PyProof.Rows
abbrev SetAt (P : Program) (w : World) (S : Addr) (ns : List Int) : HO := .ext fun h => SetW P w h S ns
/-- each member once, the first time it is met -/
def onceI (ns : List Int) : List Int := ns.foldl step_dedup []
section
variable {X : Cx}
end
end L2

set_option Elab.async false
set_option linter.all false
set_option maxRecDepth 100000
set_option maxHeartbeats 4000000
/-! enumerate of a tuple, with a tuple of names as the target -/
namespace L2
open PySem PySem.Spec PyProof.Rows
open AutoSeq1 (wpAny_loadPart')
section
variable {prog : Program} {w : World} {A : Around} {E : Value → Shared → Prop} {s : Shared}
theorem nextOf_tuple_item {it t : Addr} {i : Nat} {items : Array Value} {x : Value} {Q : Value → Shared → Prop} (hit : s.heap.IsTupleIter it t i) (ht : s.heap.IsTuple t items) (hx : items[i]? = some x)
    (hQ : ∀ h', h'.IsTupleIter it t (i + 1) → Heap.SameBut it s.heap h' → Q x { s with heap := h' }) : wpAny (model prog w) A (Builtin.SmallTypes.nextOf (.ref it)) Q E s := by
  obtain ⟨o, ho, hc, hd⟩ := id hit
  obtain ⟨ol, hol, _, nl, hdl⟩ := ht
  unfold Builtin.SmallTypes.nextOf
  refine wpAny_bind (wpAny_callSpecial?_slot (name := Str.ofString "__next__") hit.typeIs F.slot_tuple_iterator_next
    (wpAny_call_entry F.slot_tuple_iterator_next hit.typeIs F.entry_tuple_iterator_next ?_ (F.args_tuple_iterator_next_1 _)))
  show wpAny _ _ (field (.ref it) 0 >>= _) _ _ s
  refine wpAny_bind (wpAny_field ho hd (x := .ref t) rfl ?_)
  show wpAny _ _ (if (Value.ref t == Value.none) = true then _ else _) _ _ s
  rw [if_neg (show ¬ ((Value.ref t == Value.none) = true) from Bool.false_ne_true)]
  show wpAny _ _ (field (.ref it) 1 >>= _) _ _ s
  refine wpAny_bind (wpAny_field ho hd (x := .int i 0) rfl ?_)
  show wpAny _ _ (seqItems? (.ref t) >>= _) _ _ s
  refine wpAny_bind (wpAny_seqItems hol hdl ?_)
  simp only [Int.toNat_natCast, hx]
  refine wpAny_bind (wpAny_setField ho hd (by simp) (wpAny_pure ⟨x, rfl, wpAny_pure (hQ _ ?_ (Heap.SameBut.update ..))⟩))
  exact ⟨_, Heap.get?_update_self _ ho (Obj.isFreed_of_fields (Obj.data_mapFields hd _)), (Obj.cls_mapFields ..).trans hc, by
    rw [Obj.data_mapFields hd]; simp [rawInt]⟩
theorem nextOf_tuple_end {it t : Addr} {i : Nat} {items : Array Value} {Q : Value → Shared → Prop} (hh : A.handled = none) (hit : s.heap.IsTupleIter it t i) (ht : s.heap.IsTuple t items) (hx : items[i]? = none)
    (hE : ∀ h' e, Heap.ExtBut it s.heap h' → (∃ o, h'.get? e = some o ∧ o.cls = .type "StopIteration") → E (.ref e) { s with heap := h' }) : wpAny (model prog w) A (Builtin.SmallTypes.nextOf (.ref it)) Q E s := by
  obtain ⟨o, ho, hc, hd⟩ := id hit
  obtain ⟨ol, hol, _, nl, hdl⟩ := ht
  unfold Builtin.SmallTypes.nextOf
  refine wpAny_bind (wpAny_callSpecial?_slot (name := Str.ofString "__next__") hit.typeIs F.slot_tuple_iterator_next
    (wpAny_call_entry F.slot_tuple_iterator_next hit.typeIs F.entry_tuple_iterator_next ?_ (F.args_tuple_iterator_next_1 _)))
  show wpAny _ _ (field (.ref it) 0 >>= _) _ _ s
  refine wpAny_bind (wpAny_field ho hd (x := .ref t) rfl ?_)
  show wpAny _ _ (if (Value.ref t == Value.none) = true then _ else _) _ _ s
  rw [if_neg (show ¬ ((Value.ref t == Value.none) = true) from Bool.false_ne_true)]
  show wpAny _ _ (field (.ref it) 1 >>= _) _ _ s
  refine wpAny_bind (wpAny_field ho hd (x := .int i 0) rfl ?_)
  show wpAny _ _ (seqItems? (.ref t) >>= _) _ _ s
  refine wpAny_bind (wpAny_seqItems hol hdl ?_)
  simp only [Int.toNat_natCast, hx]
  refine wpAny_bind (wpAny_rule (wpAny_bind (wpAny_setField ho hd (by simp) ?_)))
  show wpAny _ _ (newExc (.type "StopIteration") [] >>= _) _ _ _
  refine wpAny_bind ?_
  simp only [newExc, newTuple]
  refine wpAny_bind (wpAny_newObj_type ?_ (by size_fits))
  refine wpAny_bind (m := firstArgMember _ _) (wpAny_of_eq (a := Value.none) (by first | rfl | (simp only [firstArgMember]; rfl)) ?_)
  refine wpAny_newObj_type ?_ (by size_fits)
  simp only [raiseNew]
  refine wpAny_bind (wpAny_handled ?_)
  first | rw [show A.in1.handled = none from hh] | rw [hh]
  refine wpAny_bind (wpAny_pure (wpAny_throw ?_))
  exact hE _ _ (((Heap.SameBut.update ..).extBut.push _).push _) ⟨_, Heap.get?_push_size _ rfl, rfl⟩
end
theorem drawsTuple {prog : Program} {w : World} {A : Around} (hh : A.handled = none) (it t : Addr) (hne : t ≠ it) (items : Array Value) :
    Draws prog w A it [it, t] items.size (fun i v => items[i]? = some v) (fun i h => h.IsTupleIter it t i ∧ h.IsTuple t items) where
  live := fun _ _ st => let ⟨o, ho, _⟩ := st.1; ⟨o, ho⟩
  frame := fun _ _ _ st hk => ⟨st.1.at fun o e => hk it (by simp) o e, st.2.at fun o e => hk t (by simp) o e⟩
  item := fun i s Q E hi st hQ => by
    refine nextOf_tuple_item st.1 st.2 (x := items[i]) (by simp [hi]) fun h' hit' hs' => ?_
    exact hQ _ h' s.toks (by simp [hi]) ⟨hit', st.2.at fun o e => (hs'.2 t hne).trans e⟩ hs'
  done := fun s Q E st hE => nextOf_tuple_end hh st.1 st.2 (by simp) hE
theorem meets_enumerate_newT (l : Addr) (items : Array Value) (n : Nat) (dct : Option Addr) (sl : Array (Option Value)) :
    Meets (Builtin.«enumerate.__new__» ⟨[.type "enumerate", .ref l], []⟩) (fun _ R s => s.heap.get? l = some { cls := .type "tuple", dict := dct, data := .seq items n, slots := sl } ∧
      R (.ok (.ret (.ref (s.heap.push { cls := .type "tuple_iterator", data := .fields #[.ref l, .int 0 0] }).objs.size)))
        { s with heap := (s.heap.push { cls := .type "tuple_iterator", data := .fields #[.ref l, .int 0 0] }).push { cls := .type "enumerate", data := .fields #[.none, .bool false, .ref s.heap.objs.size, rawInt 0, .none, .none] } }) :=
  .of_wp fun prog w A R s h => by
    obtain ⟨hp, g, d, tk, os⟩ := s; obtain ⟨hl, h⟩ := h
    have hsub := sub_enumerate
    have hL : Heap.IsTuple (Shared.heap ⟨hp, g, d, tk, os⟩) l items := ⟨_, hl, rfl, n, rfl⟩
    wp_walk using wpAny_loadPart' hl
    refine wpAny_stack_any fun st => wpAny_pure ?_
    split
    · rename_i c _ _ _ _ _
      cases (c == Value.type "enumerate")
      · wp_walk using wpAny_loadPart' hl, wpAny_pyIter_tuple hL
        exact ⟨_, rfl, h⟩
      · wp_walk using wpAny_loadPart' hl, wpAny_pyIter_tuple hL
        exact ⟨_, rfl, h⟩
    · wp_walk using wpAny_loadPart' hl, wpAny_pyIter_tuple hL
      exact ⟨_, rfl, h⟩
theorem call_enumerate_tuple {prog : Program} {w : World} {A : Around} {E : Value → Shared → Prop} {s : Shared} {l : Addr} {items : Array Value} {Q : Value → Shared → Prop} (hL : s.heap.IsTuple l items)
    (h : ∀ h', IsEnum h' (s.heap.objs.size + 1) s.heap.objs.size 0 .none → h'.IsTupleIter s.heap.objs.size l 0 → h'.objs.size = s.heap.objs.size + 2 →
      (∀ b o, s.heap.get? b = some o → h'.get? b = some o) → Q (.ref (s.heap.objs.size + 1)) { s with heap := h' }) :
    wpAny (model prog w) A (call (.type "enumerate") [.ref l]) Q E s := by
  obtain ⟨⟨c, dct, dt, sl⟩, hl, hc, n, hd⟩ := hL
  replace hc : c = .type "tuple" := hc
  replace hd : dt = .seq items n := hd
  subst hc hd
  refine callType_new F.called_enumerate (by decide) (F.typeCall_enumerate_1 _) (F.newCall_enumerate_1 _) (fun obj => F.args_object_init_2 obj _) F.entry_enumerate_new
    (meets_enumerate_newT l items n dct sl) ⟨hl, ?_⟩
  have hz : (s.heap.push { cls := .type "tuple_iterator", data := .fields #[.ref l, .int 0 0] }).objs.size = s.heap.objs.size + 1 := Heap.size_push ..
  show _ ∧ _
  rw [hz]
  have he : IsEnum ((s.heap.push { cls := .type "tuple_iterator", data := .fields #[.ref l, .int 0 0] }).push
      { cls := .type "enumerate", data := .fields #[.none, .bool false, .ref s.heap.objs.size, rawInt 0, .none, .none] }) (s.heap.objs.size + 1) s.heap.objs.size 0 .none := by
    have := Heap.get?_push_size (s.heap.push { cls := .type "tuple_iterator", data := .fields #[.ref l, .int 0 0] })
      (o := { cls := .type "enumerate", data := .fields #[.none, .bool false, .ref s.heap.objs.size, rawInt 0, .none, .none] }) rfl
    rw [hz] at this; exact this
  refine ⟨⟨_, he, rfl⟩, h _ he ⟨_, Heap.get?_push_of_some _ (Heap.get?_push_size _ rfl), rfl, rfl⟩ (by rw [Heap.size_push, hz]) fun b o x => Heap.get?_push_of_some _ (Heap.get?_push_of_some _ x)⟩
end L2

set_option Elab.async false
set_option linter.all false
set_option maxRecDepth 100000
set_option maxHeartbeats 4000000
namespace L2
open PySem PySem.Spec PyProof.Rows
section
variable {X : Cx} {pins : List (Addr × Obj)} {σ : St} {H : Hp} {s : Shared} {h' : Heap}
/-- two untracked records of ours have turned -/
theorem Inv.turned2 {t' : Nat} {e it : Addr} (I : Inv X pins σ H s) (k : ∀ b o, b ≠ e → b ≠ it → s.heap.get? b = some o → h'.get? b = some o) (fe : FpOk X pins H e) (fi : FpOk X pins H it) : Inv X pins σ H { s with heap := h', toks := t' } := by
  have nn : ∀ b u, H b = some u → b ≠ e ∧ b ≠ it := fun b u q => ⟨fun z => (by rw [z, fe.1] at q; cases q), fun z => (by rw [z, fi.1] at q; cases q)⟩
  have kk : ∀ b o, b ∉ [e, it] → s.heap.get? b = some o → h'.get? b = some o := fun b o hc q => k b o (fun z => hc (by simp [z])) (fun z => hc (by simp [z])) q
  refine I.step (g' := s.gens) (d' := s.drawn) (ch := [e, it]) (fun b hb => ?_) (fun b o _ _ hc q _ => kk b o hc q) (fun b o _ _ hc q _ => ⟨o.slots, kk b o hc q⟩) (fun _ _ _ _ n => n)
    (fun b o hc q => ⟨o, kk b o hc q⟩) (fun _ _ q => q) (fun _ _ _ q => q) (fun b ps q => ⟨#[], by rw [q]; simp⟩) (fun m hm => ?_) (fun b u q => ?_) I.bare
  · have q : b = e ∨ b = it := by simpa using hb
    rcases q with rfl | rfl
    · exact ⟨fe.2.2.2.1, fe.2.1, fe.2.2.2.2.1, fe.2.2.2.2.2⟩
    · exact ⟨fi.2.2.2.1, fi.2.1, fi.2.2.2.2.1, fi.2.2.2.2.2⟩
  · obtain ⟨o, es, ep, ho, r⟩ := hm
    exact ⟨o, es, ep, k _ o (Ne.symm fe.2.1) (Ne.symm fi.2.1) ho, r⟩
  · refine (I.hok b u q).stay (fun c v hc z => k c v ?_ ?_ z) (fun _ z => z) fun _ _ z => z
    · rcases hc with z | z
      · rw [z]; exact (nn b u q).1
      · exact (nn c _ z).1
    · rcases hc with z | z
      · rw [z]; exact (nn b u q).2
      · exact (nn c _ z).2
end
/-- enumerate of the tuple at a: a new pair at each turn -/
def Ite (K : PySem.W.Frag) (a : Addr) : It :=
  ⟨fun i H => ∃ xs x, SqT K H a xs ∧ xs[i]? = some x, fun i H v H' => ∃ T x, v = .ref T ∧ H T = none ∧ H' = upd H T (.tup [.int i, x]) ∧ ∀ xs, SqT K H a xs → xs[i]? = some x, fun i H => ∃ xs, SqT K H a xs ∧ xs.length ≤ i⟩
theorem turn_enumT {P : Program} {w : World} {K : PySem.W.Frag} {elts : List Expr} {x1 : _} {pos : Pos} (a e it : Addr) : Turn P w K (.Tuple elts x1 pos) (Ite K a) [e, it] e (fun i h => (∃ old, IsEnum h e it i old) ∧ h.IsTupleIter it a i) where
  mem := by simp
  obj := fun i h st b hb => by
    have q : b = e ∨ b = it := by simpa using hb
    rcases q with rfl | rfl
    · obtain ⟨⟨old, st⟩, _⟩ := st
      exact ⟨_, st, fun v z => by
        have z' : Data.fields _ = Data.cell v := z
        cases z'⟩
    · obtain ⟨_, o, e, c, d⟩ := st
      exact ⟨o, e, fun v z => by rw [d] at z; cases z⟩
  keep := fun i h h' st k => ⟨let ⟨old, z⟩ := st.1; ⟨old, k e (by simp) _ z⟩, st.2.at fun o z => k it (by simp) o z⟩
  item := by
    intro X hP hw hK hc i pins s σ H E I hf st hg
    subst hP hw hK
    obtain ⟨xs, x, hq, hx⟩ := hg
    obtain ⟨its, rv, p, hz⟩ := I.tuple hq
    obtain ⟨u, hu, ru⟩ := rv.get hx
    obtain ⟨⟨old, he⟩, hit⟩ := st
    have p' : s.heap.IsTuple a its.toArray := p
    have fe := hf e (by simp)
    have fi := hf it (by simp)
    have ne : e ≠ it := fun z => by
      subst z
      obtain ⟨o, e1, c, d⟩ := hit
      rw [he] at e1
      cases e1
      have c' : Value.type "enumerate" = Value.type "tuple_iterator" := c
      injection c' with c'
      exact absurd c' (by decide)
    have nae : a ≠ e := fun z => by
      subst z
      obtain ⟨o, e1, c, d⟩ := p'
      rw [he] at e1
      cases e1
      have c' : Value.type "enumerate" = Value.type "tuple" := c
      injection c' with c'
      exact absurd c' (by decide)
    have nai : a ≠ it := fun z => by
      subst z
      obtain ⟨o, e1, c, d⟩ := p'
      obtain ⟨o2, e2, c2, d2⟩ := hit
      rw [e1] at e2
      cases e2
      rw [c] at c2
      injection c2 with c'
      exact absurd c' (by decide)
    have hi : i < its.toArray.size := by
      have : i < its.length := (List.getElem?_eq_some_iff.mp hu).1
      simpa using this
    have D := drawsTuple (prog := X.prog) (w := X.w) (A := X.A.in1) (show X.A.in1.handled = none from I.ok.hd hc) it a nai its.toArray
    refine wpAny_pyNext_enum_itemD D he ⟨hit, p'⟩ hi ne (by simp [ne, Ne.symm nae]) fun y h1 tk hy ho st1 hT hsz hk => ?_
    have ey : y = u := by
      have : its.toArray[i]? = some u := by simpa using hu
      rw [this] at hy
      exact (Option.some.inj hy).symm
    subst ey
    refine ⟨_, rfl, wpAny_letOwnedTupleGo_enum ho fun h2 he2 hs2 => ?_⟩
    have fr : H s.heap.objs.size = none := I.hok.fresh (Nat.le_refl _)
    have I1 : Inv X pins σ (upd H s.heap.objs.size (.tup [.int i, x])) { s with heap := s.heap.push { cls := .type "tuple", data := .seq #[.int i tk, y] }, toks := tk + 1 } :=
      I.laid (o := .tup [.int i, x]) (fun b ob q => Heap.get?_push_of_some _ q) (Nat.le_refl _) ⟨by show 2 ≤ sizeLine; decide, [.int i tk, y], .cons ⟨tk, rfl⟩ (.cons ru .nil), ⟨_, Heap.get?_push_size _ rfl, rfl, _, rfl⟩⟩
    have lt : ∀ b ∈ [e, it], b < s.heap.objs.size := fun b hb => by
      have q : b = e ∨ b = it := by simpa using hb
      rcases q with rfl | rfl
      · exact Heap.lt_size he
      · obtain ⟨o, e1, _⟩ := hit
        exact Heap.lt_size e1
    have f2 : ∀ b ∈ [e, it], FpOk X pins (upd H s.heap.objs.size (.tup [.int i, x])) b := fun b hb => by
      refine ⟨?_, (hf b hb).2⟩
      rw [upd_ne (Nat.ne_of_lt (lt b hb))]
      exact (hf b hb).1
    have I2 : Inv X pins σ (upd H s.heap.objs.size (.tup [.int i, x])) { s with heap := h2, toks := tk + 1 } := by
      refine I1.turned2 (t' := tk + 1) (h' := h2) (fun b o b1 b2 q => ?_) (f2 e (by simp)) (f2 it (by simp))
      refine (hs2.2 b b1).trans ?_
      rcases Heap.get?_push_cases (show (s.heap.push { cls := .type "tuple", data := .seq #[.int i tk, y] }).get? b = some o from q) with ⟨rfl, rfl⟩ | z
      · exact hT
      · exact hk b o b1 b2 z
    refine ⟨.ref s.heap.objs.size, _, I2, rfl, ⟨s.heap.objs.size, x, rfl, fr, rfl, fun ys hy => by rw [I.tuple_inj hy hq]; exact hx⟩, ⟨⟨y, ?_⟩, ?_⟩, fun b hb => (f2 b hb).1⟩
    · have : ((i + 1 : Nat) : Int) = (i : Int) + 1 := by push_cast; rfl
      rw [this]
      exact he2
    · exact st1.1.at fun o z => (hs2.2 it (Ne.symm ne)).trans z
  done := by
    intro X hP hw hK hc i pins s σ H E I hf st hg
    subst hP hw hK
    obtain ⟨xs, hq, hx⟩ := hg
    obtain ⟨its, rv, p, hz⟩ := I.tuple hq
    obtain ⟨⟨old, he⟩, hit⟩ := st
    obtain ⟨f0, f1, f2, f3, f4, f5⟩ := hf it (by simp)
    have p' : s.heap.IsTuple a its.toArray := p
    have hl := rv.length
    have hT : s.TypeIs (.ref e) "enumerate" := ⟨_, he, rfl⟩
    unfold pyNext
    refine wpAny_bind (wpAny_attempt (wpAny_callSpecial?_slot (name := Str.ofString "__next__") hT F.slot_enumerate_next
      (wpAny_call_entry F.slot_enumerate_next hT F.entry_enumerate_next ?_ (F.args_enumerate_next_1 _))))
    show wpAny _ _ (field (.ref e) 2 >>= _) _ _ _
    refine wpAny_bind (wpAny_field he rfl (x := .ref it) rfl ?_)
    refine wpAny_bind (nextOf_tuple_end (show X.A.in1.handled = none from I.ok.hd hc) hit p' (by simp; omega) fun h' x he' hx' => ?_)
    obtain ⟨o, ho, hcl⟩ := hx'
    refine wpAny_bind (wpAny_isInstance (T := "StopIteration") (b := true) ⟨o, ho, hcl⟩ isSubtype_stop ?_)
    exact wpAny_pure ⟨rfl, I.turned (t' := s.toks) (fun b o hb z => he' b o hb z) f0 f1 f3 f4 f5⟩
  self := fun _ _ _ _ _ st h => let ⟨_, z⟩ := st.1; wpAny_pyIter_enum z h
section
variable {X : Cx}
def iEnumT (K : PySem.W.Frag) (tl : TA) : TI := fun σ H R => tl σ H fun vs H1 => ∃ a, vs = [.ref a] ∧ (∃ xs, SqT K H1 a xs) ∧ R (Ite K a) H1
theorem bt_enumerate : bootBuiltins "enumerate" = some (.type "enumerate") := by decide +kernel
theorem pi_enumT {elts : List Expr} {x1 : _} {tpos : Pos} {l : Expr} {tl : TA} {p pos : Pos} (hg : Gl X "enumerate") (hm : X.mg "enumerate" = none) (hl : PA X [l] tl) (hs : starEach [l] X.env = [(false, eval l X.env)] := by rfl) :
    PI X (.Tuple elts x1 tpos) (.Call (.Name "enumerate" p) [l] [] pos) (iEnumT X.K tl) := by
  intro pins s σ H R I h
  refine Call_ (ld_blt I hg hm bt_enumerate (PyProof.Rows.callWith_type1 (thn (hl pos pins s σ H _ I h) fun us s1 ⟨vs, H1, I1, r1, q1⟩ => ?_) hs rfl))
  obtain ⟨a, e, ⟨xs, hq⟩, q⟩ := q1
  subst e
  cases r1 with
  | cons r rr =>
    cases rr
    cases r
    obtain ⟨its, rv, p, hz⟩ := I1.tuple hq
    refine call_enumerate_tuple (show s1.heap.IsTuple a its.toArray from p) fun h' he hit hsz hk => ?_
    refine wpAny_pyIter_enum he ?_
    refine ⟨s1.heap.objs.size + 1, [s1.heap.objs.size + 1, s1.heap.objs.size], _, _, H1, rfl, I1.kept (t' := s1.toks) hk, turn_enumT a _ s1.heap.objs.size, ⟨⟨_, he⟩, hit⟩, fun b hb => ?_, q⟩
    have e : b = s1.heap.objs.size + 1 ∨ b = s1.heap.objs.size := by simpa using hb
    rcases e with rfl | rfl
    · exact I1.fpOk (Nat.le_succ _) (I1.hok.fresh (Nat.le_succ _))
    · exact I1.fpOk (Nat.le_refl _) (I1.hok.fresh (Nat.le_refl _))
end
/-- for .. in enumerate(t) -/
theorem for_enumT {K : PySem.W.Frag} {a : Addr} {xs : List V} {g : TG} {tb : TS} {D : Ends} {σ : St} {H : Hp} (Pv : Nat → St → Hp → Prop) (h0 : Pv 0 σ H) (hl : ∀ i σ H, i ≤ xs.length → Pv i σ H → SqT K H a xs)
    (hs : ∀ i x σ H T, xs[i]? = some x → Pv i σ H → H T = none → g (.ref T) σ (upd H T (.tup [.int i, x])) fun σ2 H2 => tb { D with nx := Pv (i + 1), ct := Pv (i + 1), bk := D.nx } σ2 H2) (hd : ∀ σ H, Pv xs.length σ H → D.nx σ H) :
    ∃ W : Nat → Nat → St → Hp → Prop, (∃ m, W 0 m σ H) ∧ ∀ i m σ H, W i m σ H →
      ((Ite K a).stop i H ∧ D.nx σ H) ∨ ((Ite K a).go i H ∧ ∃ N : St → Hp → Prop, (∀ σ' H', N σ' H' → ∃ m', m' < m ∧ W (i + 1) m' σ' H') ∧ ∀ x H', (Ite K a).yld i H x H' → g x σ H' fun σ2 H2 => tb { D with nx := N, ct := N, bk := D.nx } σ2 H2) := by
  refine ⟨fun i m σ H => m = xs.length - i ∧ i ≤ xs.length ∧ Pv i σ H, ⟨xs.length, by simp, Nat.zero_le _, h0⟩, ?_⟩
  rintro i m σ H ⟨rfl, hi, p⟩
  have q := hl i σ H hi p
  by_cases hlt : i < xs.length
  · refine .inr ⟨⟨xs, xs[i], q, by simp [hlt]⟩, Pv (i + 1), fun σ' H' p' => ⟨xs.length - (i + 1), by omega, rfl, hlt, p'⟩, fun x H' y => ?_⟩
    obtain ⟨T, x0, rfl, hT, rfl, y⟩ := y
    exact hs i x0 σ _ T (y xs q) p hT
  · have e : i = xs.length := by omega
    subst e
    exact .inl ⟨⟨xs, q, Nat.le_refl _⟩, hd σ H p⟩
end L2

set_option Elab.async false
set_option linter.all false
set_option maxRecDepth 100000
set_option maxHeartbeats 4000000
/-! list(range(n)); a class of our own as its callers see it -/
namespace L2
open PySem PySem.Spec PyProof.Rows
theorem items_ints {acc : Array Value} {n : Nat} (h : ItemsOf (fun i v => ∃ t, v = .int (0 + (i : Int) * 1) t) acc n) : Vals ((List.range n).map fun i : Nat => V.int i) acc.toList := by
  have go : ∀ (n : Nat) (us : List Value), us.length = n → (∀ (j : Nat) (v : Value), us[j]? = some v → ∃ t, v = Value.int (0 + (j : Int) * 1) t) → Vals ((List.range n).map fun i : Nat => V.int i) us := by
    intro n
    induction n with
    | zero =>
      intro us hl _
      cases us with
      | nil => exact .nil
      | cons a r => cases hl
    | succ n ih =>
      intro us hl hv
      have ne : us ≠ [] := fun z => by rw [z] at hl; cases hl
      have e := List.dropLast_concat_getLast ne
      rw [← e, List.range_succ, List.map_append]
      have hd : us.dropLast.length = n := by rw [List.length_dropLast, hl]; rfl
      refine (ih us.dropLast hd fun j v hj => ?_).append (.cons ?_ .nil)
      · refine hv j v ?_
        have lt := (List.getElem?_eq_some_iff.mp hj).1
        rw [← e, List.getElem?_append_left lt]
        exact hj
      · obtain ⟨t, ht⟩ := hv n (us.getLast ne) (by rw [List.getLast_eq_getElem, List.getElem?_eq_getElem (by omega)]; simp [hl])
        rw [ht]
        exact ⟨t, by rw [Int.zero_add, Int.mul_one]⟩
  exact go n acc.toList (by rw [Array.length_toList, h.1]) fun j v hj => h.2 j v (by rw [← Array.getElem?_toList]; exact hj)
section
variable {X : Cx} {a : Expr} {ta : TA} {p p2 pos pos2 : Pos}
def tListRng (ta : TA) : TE := fun σ H Q => ta σ H fun vs H1 => ∃ n : Nat, vs = [.int n] ∧ n ≤ sizeLine ∧ ∀ l, H1 l = none → Q (.ref l) (upd H1 l (.lst ((List.range n).map fun i : Nat => V.int i)))
theorem pe_listRng (hc : X.calm = true) (hgl : Gl X "list") (hml : X.mg "list" = none) (hg : Gl X "range") (hm : X.mg "range" = none) (ha : PA X [a] ta)
    (hs : starEach [a] X.env = [(false, eval a X.env)] := by rfl) (hs2 : starEach [.Call (.Name "range" p2) [a] [] pos2] X.env = [(false, eval (.Call (.Name "range" p2) [a] [] pos2) X.env)] := by rfl) :
    PE X (.Call (.Name "list" p) [.Call (.Name "range" p2) [a] [] pos2] [] pos) (tListRng ta) := by
  intro pins s σ H Q I h
  refine wpAny_Call_Name_kw (ld_blt I hgl hml bt_list ?_)
  refine PyProof.Rows.callWith_type1 ?_ hs2 rfl
  rw [hs2]
  refine Calls.spliced_cons ?_
  refine Call_ (ld_blt I hg hm boot_range (PyProof.Rows.callWith_type1 (thn (ha pos2 pins s σ H _ I h) fun us s1 ⟨vs, H1, I1, r1, q1⟩ => ?_) hs rfl))
  obtain ⟨n, e, hn, q⟩ := q1
  subst e
  cases r1 with
  | cons r rr =>
    cases rr
    obtain ⟨t, rfl⟩ := r
    have big : sizeLine ≤ 2 ^ 24 := by decide
    have big2 : ((sizeLine : Nat) : Int) < 2 ^ 62 := by decide
    have hn62 : (n : Int) < 2 ^ 62 := by omega
    refine call_range_1 ?_
    refine Calls.spliced_nil ?_
    have sz : (s1.heap.push { cls := .type "range", data := .fields #[.int 0 s1.toks, .int n t, .int 1 (s1.toks + 1)] }).objs.size = s1.heap.objs.size + 1 := Heap.size_push _ _
    refine PySem.call_list_range (s := { s1 with heap := s1.heap.push { cls := .type "range", data := .fields #[.int 0 s1.toks, .int n t, .int 1 (s1.toks + 1)] }, toks := s1.toks + 1 + 1 }) (n := n) (I1.ok.hd hc) (IsRange.new ..) (small_one (by omega) (by omega) (by omega) hn62)
      (by rw [rangeSize_one]; split <;> omega) (by omega) fun h' tk acc' c' kp e hacc => ?_
    have kp1 : ∀ b o, s1.heap.get? b = some o → h'.get? b = some o := fun b o f => kp b o (Heap.get?_push_of_some _ f)
    have ob : ObjOk X.prog X.w (upd H1 (s1.heap.push { cls := .type "range", data := .fields #[.int 0 s1.toks, .int n t, .int 1 (s1.toks + 1)] }).objs.size (.lst ((List.range n).map fun i : Nat => V.int i))) h' (s1.heap.push { cls := .type "range", data := .fields #[.int 0 s1.toks, .int n t, .int 1 (s1.toks + 1)] }).objs.size (.lst ((List.range n).map fun i : Nat => V.int i)) := by
      refine ⟨by rw [List.length_map, List.length_range]; exact hn, acc'.toList, c', items_ints hacc, ?_⟩
      exact e
    exact ⟨.ref _, _, I1.laid (t' := tk) kp1 (by rw [sz]; exact Nat.le_succ _) ob, rfl, q _ (I1.hok.fresh (by rw [sz]; exact Nat.le_succ _))⟩
end
/-- a class of our own, made with arguments -/
structure DefMk (P : Program) (w : World) (K : PySem.W.Frag) (mg : Str → Option Value) (base : Heap) (x : Str) (C : Addr) (k : Nat) (ps : List Str) (sp : Sp) : Prop where
  m : mg x = some (.ref C)
  cl : Cls K C
  ex : ∃ (f : Addr) (fd : FuncData), Mk K C f ∧ Binds K fd ps [] ∧ FnOk P w K mg base CX0 k f fd ps sp
theorem pe_mko {X : Cx} {x : Str} {C : Addr} {j k : Nat} {ps : List Str} {sp : Sp} {p pos : Pos} {e : Expr} {es : List Expr} {t : TA} (G : DefMk X.prog X.w X.K X.mg X.base x C k ps sp) (hr : Room j X.A) (ha : PA X (e :: es) t) (hkj : k + 1 ≤ j := by decide) (hg : Gl X x := by rfl) (hdb : (x == ("__debug__" : Str)) = false := by decide)
    (he : starEach (e :: es) X.env = (false, eval e X.env) :: starEach es X.env := by rfl) (hpl : (backTo pos (starEach es X.env)).any (·.1) = false := by rfl) : PE X (.Call (.Name x p) (e :: es) [] pos) (tMake C sp [] E0 t) := by
  obtain ⟨f, fd, M, hb, F⟩ := G.ex
  exact pe_make M F (hr.mono hkj) hg G.m hb .nil pass0 ha hdb he hpl
/-- a method of a class of our own -/
structure DefMe (P : Program) (w : World) (K : PySem.W.Frag) (mg : Str → Option Value) (base : Heap) (C : Addr) (m : Str) (k : Nat) (ps : List Str) (sp : Sp) : Prop where
  cl : Cls K C
  ex : ∃ (f : Addr) (fd : FuncData), Meth K C m f ∧ Binds K fd ps [] ∧ FnOk P w K mg base CX0 k f fd ps sp
theorem pe_me {X : Cx} {m : Str} {C : Addr} {j k : Nat} {ps : List Str} {sp : Sp} {apos pos : Pos} {o e : Expr} {es : List Expr} {ta : TE} {t : TA} {pl : Sem Bool} (G : DefMe X.prog X.w X.K X.mg X.base C m k ps sp) (hr : Room j X.A) (ho : PE X o ta) (ha : PA X (e :: es) t) (hkj : k ≤ j := by decide)
    (hst : starEach (e :: es) X.env = (false, eval e X.env) :: starEach es X.env := by rfl) (hpl : (backTo pos (starEach es X.env)).any (·.1) = false := by rfl)
    (ht : eval (.Call (.Attribute o m apos) (e :: es) [] pos) X.env = (do
      let ov ← eval o X.env
      standAt apos.atName
      let (f, first) ← holding [ov] (getMethod ov m pl)
      callWith pos f first (backTo pos (starEach (e :: es) X.env)) (backToKw pos (keywordEach [] X.env))) := by rfl) :
    PE X (.Call (.Attribute o m apos) (e :: es) [] pos) (tMeth C m sp [] E0 ta t) := by
  obtain ⟨f, fd, hm, hb, F⟩ := G.ex
  exact pe_meth ho G.cl hm F (hr.mono hkj) hb .nil pass0 ha hst hpl ht
end L2

set_option Elab.async false
set_option linter.all false
set_option maxRecDepth 100000
set_option maxHeartbeats 4000000
/-! zip of two things that can be drawn from -/
namespace L2
open PySem PySem.Spec PyProof.Rows
section
variable {prog : Program} {w : World} {A : Around} {E : Value → Shared → Prop} {s : Shared}
structure ZipFar (z TI TO i1 i2 : Addr) (fp1 fp2 : List Addr) : Prop where
  TIz : TI ≠ z
  TOz : TO ≠ z
  TITO : TI ≠ TO
  i1z : i1 ≠ z
  i2z : i2 ≠ z
  TIi1 : TI ≠ i1
  TIi2 : TI ≠ i2
  TOi1 : TO ≠ i1
  TOi2 : TO ≠ i2
  i12 : i1 ≠ i2
  z1 : z ∉ fp1
  TO1 : TO ∉ fp1
  i21 : i2 ∉ fp1
  z2 : z ∉ fp2
  TO2 : TO ∉ fp2
  i12' : i1 ∉ fp2
variable {z TI TO i1 i2 : Addr} {fp1 fp2 : List Addr} {n1 n2 k : Nat} {P1 P2 : Nat → Value → Prop} {St1 St2 : Nat → Heap → Prop} {a b : Value}
theorem zipD_item {Q : Value → Shared → Prop} (D1 : Draws prog w A.in1 i1 fp1 n1 P1 St1) (D2 : Draws prog w A.in1 i2 fp2 n2 P2 St2) (F : ZipFar z TI TO i1 i2 fp1 fp2)
    (hz : IsZip s.heap z TI TO .none) (hTI : IsPair s.heap TI (.ref i1) (.ref i2)) (hTO : IsPair s.heap TO a b) (s1 : St1 k s.heap) (s2 : St2 k s.heap) (l1 : k < n1) (l2 : k < n2)
    (hQ : ∀ x y h' tk, P1 k x → P2 k y → IsZip h' z TI TO (rawInt s.heap.objs.size) → IsPair h' TO x y → St1 (k + 1) h' → St2 (k + 1) h' → IsPair h' s.heap.objs.size x y →
      (∀ c o, c ≠ z → c ≠ TO → c ≠ i1 → c ≠ i2 → s.heap.get? c = some o → h'.get? c = some o) → Q (.ref s.heap.objs.size) { s with heap := h', toks := tk }) :
    wpAny (model prog w) A.in1 (Builtin.«zip.__next__» ⟨[.ref z], []⟩) (fun fin s' => ∃ v, fin = .done (.ret v) ∧ Q v s') E s := by
  obtain ⟨hp, g, d, tk0, os⟩ := s
  show wpAny _ _ (field (.ref z) 2 >>= _) _ _ _
  refine wpAny_bind (wpAny_field hz rfl (x := .bool false) rfl ?_)
  show wpAny _ _ (field (.ref z) 3 >>= _) _ _ _
  refine wpAny_bind (wpAny_field hz rfl (x := .ref TI) rfl ?_)
  refine wpAny_bind (wpAny_seqItems hTI rfl ?_)
  show wpAny _ _ (Builtin.SmallTypes.ownedTupleIsFree (.ref z) >>= _) _ _ _
  refine wpAny_bind ?_
  unfold Builtin.SmallTypes.ownedTupleIsFree
  refine wpAny_bind (wpAny_field hz rfl (x := .none) rfl (wpAny_pure ?_))
  simp only [if_true]
  refine wpAny_bind (wpAny_rule ?_)
  refine wpAny_bind (wpAny_field hz rfl (x := .ref TO) rfl ?_)
  refine wpAny_bind (wpAny_setField_rec hz (by simp) fun h₁ hz₁ hs₁ => ?_)
  replace hz₁ : IsZip h₁ z TI TO .ellipsis := hz₁
  replace hs₁ : Heap.SameBut z hp h₁ := hs₁
  refine wpAny_bind ?_
  simp only [List.zipIdx_cons, List.zipIdx_nil, List.forIn_cons, List.forIn_nil]
  refine wpAny_bind (wpAny_bind (wpAny_onRaise ?_))
  show wpAny _ _ (Builtin.SmallTypes.nextOf (.ref i1) >>= _) _ _ _
  have q1 : St1 k h₁ := D1.frame _ _ _ s1 fun c hc o e => hs₁.extBut c o (fun x => F.z1 (x ▸ hc)) e
  refine wpAny_bind (D1.item k _ _ _ l1 q1 fun x h₂ tk1 hx q2 hs₂ => wpAny_pure ?_)
  replace hs₂ : Heap.SameBut i1 h₁ h₂ := hs₂
  have hTO₂ : IsPair h₂ TO a b := hs₂.extBut _ _ F.TOi1 (hs₁.extBut _ _ F.TOz hTO)
  refine wpAny_bind (wpAny_seqItems (s := ⟨h₂, g, d, tk1, os⟩) hTO₂ rfl ?_)
  refine wpAny_bind (wpAny_updateSeq_pair (s := ⟨h₂, g, d, tk1, os⟩) hTO₂ fun h₃ hTO₃ hs₃ => ?_)
  replace hTO₃ : IsPair h₃ TO x b := hTO₃
  replace hs₃ : Heap.SameBut TO h₂ h₃ := hs₃
  refine wpAny_bind (wpAny_letGo (wpAny_pure ?_))
  refine wpAny_bind (wpAny_bind (wpAny_onRaise ?_))
  show wpAny _ _ (Builtin.SmallTypes.nextOf (.ref i2) >>= _) _ _ _
  have r3 : St2 k h₃ := D2.frame _ _ _ s2 fun c hc o e => hs₃.extBut c o (fun x => F.TO2 (x ▸ hc)) (hs₂.extBut c o (fun x => F.i12' (x ▸ hc)) (hs₁.extBut c o (fun x => F.z2 (x ▸ hc)) e))
  refine wpAny_bind (D2.item k _ _ _ l2 r3 fun y h₄ tk2 hy r4 hs₄ => wpAny_pure ?_)
  replace hs₄ : Heap.SameBut i2 h₃ h₄ := hs₄
  have hTO₄ : IsPair h₄ TO x b := hs₄.extBut _ _ F.TOi2 hTO₃
  refine wpAny_bind (wpAny_seqItems (s := ⟨h₄, g, d, tk2, os⟩) hTO₄ rfl ?_)
  refine wpAny_bind (wpAny_updateSeq_pair (s := ⟨h₄, g, d, tk2, os⟩) hTO₄ fun h₅ hTO₅ hs₅ => ?_)
  replace hTO₅ : IsPair h₅ TO x y := hTO₅
  replace hs₅ : Heap.SameBut TO h₄ h₅ := hs₅
  refine wpAny_bind (wpAny_letGo (wpAny_pure (wpAny_pure ?_)))
  refine wpAny_bind (wpAny_seqItems (s := ⟨h₅, g, d, tk2, os⟩) hTO₅ rfl ?_)
  refine wpAny_bind (wpAny_newTuple ?_)
  have hsz : h₅.objs.size = hp.objs.size := by rw [hs₅.1, hs₄.1, hs₃.1, hs₂.1, hs₁.1]
  have hz₅ : IsZip h₅ z TI TO .ellipsis := hs₅.extBut _ _ F.TOz.symm (hs₄.extBut _ _ F.i2z.symm (hs₃.extBut _ _ F.TOz.symm (hs₂.extBut _ _ F.i1z.symm hz₁)))
  have hk₅ : ∀ c o, c ≠ z → c ≠ TO → c ≠ i1 → c ≠ i2 → hp.get? c = some o → h₅.get? c = some o := fun c o c1 c2 c3 c4 e =>
    hs₅.extBut _ _ c2 (hs₄.extBut _ _ c4 (hs₃.extBut _ _ c2 (hs₂.extBut _ _ c3 (hs₁.extBut _ _ c1 e))))
  have q5 : St1 (k + 1) h₅ := D1.frame _ _ _ q2 fun c hc o e => hs₅.extBut c o (fun x => F.TO1 (x ▸ hc)) (hs₄.extBut c o (fun x => F.i21 (x ▸ hc)) (hs₃.extBut c o (fun x => F.TO1 (x ▸ hc)) e))
  have r5 : St2 (k + 1) h₅ := D2.frame _ _ _ r4 fun c hc o e => hs₅.extBut c o (fun x => F.TO2 (x ▸ hc)) e
  have hzlt : z < h₅.objs.size := Heap.lt_size hz₅
  show wpAny _ _ (Builtin.SmallTypes.ownedTupleHandOut (.ref z) (.ref h₅.objs.size) >>= _) _ _ _
  refine wpAny_bind ?_
  unfold Builtin.SmallTypes.ownedTupleHandOut
  have hz₆ : IsZip (h₅.push { cls := .type "tuple", data := .seq #[x, y] }) z TI TO .ellipsis := Heap.get?_push_of_some _ hz₅
  refine wpAny_bind (wpAny_setField_rec (s := ⟨h₅.push { cls := .type "tuple", data := .seq #[x, y] }, g, d, tk2, os⟩) hz₆ (by simp) fun h₇ hz₇ hs₇ => ?_)
  replace hz₇ : IsZip h₇ z TI TO (rawInt h₅.objs.size) := hz₇
  replace hs₇ : Heap.SameBut z (h₅.push { cls := .type "tuple", data := .seq #[x, y] }) h₇ := hs₇
  refine wpAny_setField_rec (s := ⟨h₇, g, d, tk2, os⟩) hz₇ (by simp) fun h₈ hz₈ hs₈ => ?_
  replace hz₈ : IsZip h₈ z TI TO (rawInt h₅.objs.size) := hz₈
  replace hs₈ : Heap.SameBut z h₇ h₈ := hs₈
  have up : ∀ c o, c ≠ z → h₅.get? c = some o → h₈.get? c = some o := fun c o c1 e => hs₈.extBut _ _ c1 (hs₇.extBut _ _ c1 (Heap.get?_push_of_some _ e))
  have hT₈ : IsPair h₈ h₅.objs.size x y := hs₈.extBut _ _ (Nat.ne_of_gt hzlt) (hs₇.extBut _ _ (Nat.ne_of_gt hzlt) (Heap.get?_push_size _ rfl))
  rw [hsz] at hz₈ hT₈
  refine wpAny_pure ⟨_, rfl, ?_⟩
  show Q (.ref h₅.objs.size) _
  rw [hsz]
  exact hQ x y h₈ tk2 hx hy hz₈ (up _ _ F.TOz hTO₅) (D1.frame _ _ _ q5 fun c hc o e => up c o (fun x => F.z1 (x ▸ hc)) e) (D2.frame _ _ _ r5 fun c hc o e => up c o (fun x => F.z2 (x ▸ hc)) e) hT₈ fun c o c1 c2 c3 c4 e => up c o c1 (hk₅ c o c1 c2 c3 c4 e)
/-- both are drawn to the end at once -/
theorem zipD_end {Q : PySem.Fin → Shared → Prop} (D1 : Draws prog w A.in1 i1 fp1 n1 P1 St1) (F : ZipFar z TI TO i1 i2 fp1 fp2)
    (hz : IsZip s.heap z TI TO .none) (hTI : IsPair s.heap TI (.ref i1) (.ref i2)) (s1 : St1 n1 s.heap)
    (hE : ∀ h' e, (∀ c o, c ≠ z → c ≠ TO → c ≠ i1 → c ≠ i2 → s.heap.get? c = some o → h'.get? c = some o) → (∃ o, h'.get? e = some o ∧ o.cls = .type "StopIteration") → E (.ref e) { s with heap := h' }) :
    wpAny (model prog w) A.in1 (Builtin.«zip.__next__» ⟨[.ref z], []⟩) Q E s := by
  obtain ⟨hp, g, d, tk0, os⟩ := s
  show wpAny _ _ (field (.ref z) 2 >>= _) _ _ _
  refine wpAny_bind (wpAny_field hz rfl (x := .bool false) rfl ?_)
  show wpAny _ _ (field (.ref z) 3 >>= _) _ _ _
  refine wpAny_bind (wpAny_field hz rfl (x := .ref TI) rfl ?_)
  refine wpAny_bind (wpAny_seqItems hTI rfl ?_)
  show wpAny _ _ (Builtin.SmallTypes.ownedTupleIsFree (.ref z) >>= _) _ _ _
  refine wpAny_bind ?_
  unfold Builtin.SmallTypes.ownedTupleIsFree
  refine wpAny_bind (wpAny_field hz rfl (x := .none) rfl (wpAny_pure ?_))
  simp only [if_true]
  refine wpAny_bind (wpAny_rule ?_)
  refine wpAny_bind (wpAny_field hz rfl (x := .ref TO) rfl ?_)
  refine wpAny_bind (wpAny_setField_rec hz (by simp) fun h₁ hz₁ hs₁ => ?_)
  replace hz₁ : IsZip h₁ z TI TO .ellipsis := hz₁
  replace hs₁ : Heap.SameBut z hp h₁ := hs₁
  refine wpAny_bind ?_
  simp only [List.zipIdx_cons, List.zipIdx_nil, List.forIn_cons, List.forIn_nil]
  refine wpAny_bind (wpAny_bind (wpAny_onRaise ?_))
  show wpAny _ _ (Builtin.SmallTypes.nextOf (.ref i1) >>= _) _ _ _
  have q1 : St1 n1 h₁ := D1.frame _ _ _ s1 fun c hc o e => hs₁.extBut c o (fun x => F.z1 (x ▸ hc)) e
  refine wpAny_bind (D1.done _ _ _ q1 fun h₂ e hs₂ he => ?_)
  obtain ⟨oe, hoe, hce⟩ := he
  have hz₂ : IsZip h₂ z TI TO .ellipsis := hs₂ _ _ F.i1z.symm hz₁
  have hez : e ≠ z := fun x => by subst x; rw [hz₂] at hoe; cases hoe; simp at hce
  exact wpAny_setField_rec (s := ⟨h₂, g, d, tk0, os⟩) hz₂ (by simp) fun h₃ _ hs₃ => hE h₃ e (fun c o c1 _ c3 _ x => Heap.SameBut.extBut hs₃ _ _ c1 (hs₂ _ _ c3 (hs₁.extBut _ _ c1 x))) ⟨oe, Heap.SameBut.extBut hs₃ _ _ hez hoe, hce⟩
end
theorem meets_zip_newT (l1 l2 : Addr) (xs ys : Array Value) :
    Meets (Builtin.«zip.__new__» ⟨[.type "zip", .ref l1, .ref l2], []⟩) (fun _ R s => s.heap.IsTuple l1 xs ∧ s.heap.IsTuple l2 ys ∧
      R (.ok (.ret (.ref (s.heap.objs.size + 4)))) { s with heap := ((((s.heap.push { cls := .type "tuple_iterator", data := .fields #[.ref l1, .int 0 0] }).push { cls := .type "tuple_iterator", data := .fields #[.ref l2, .int 0 0] }).push { cls := .type "tuple", data := .seq #[.ref s.heap.objs.size, .ref (s.heap.objs.size + 1)] }).push { cls := .type "tuple", data := .seq #[.none, .none] }).push { cls := .type "zip", data := .fields #[.none, .bool false, .bool false, .ref (s.heap.objs.size + 2), .ref (s.heap.objs.size + 3)] } }) :=
  .of_wp fun prog w A R s h => by
    obtain ⟨hp, g, d, tk, os⟩ := s; obtain ⟨hl1, hl2, h⟩ := h
    have hsub := sub_zip
    have hL1 : Heap.IsTuple (Shared.heap ⟨hp, g, d, tk, os⟩) l1 xs := hl1
    have hL2 : Heap.IsTuple (Shared.heap ⟨hp.push { cls := .type "tuple_iterator", data := .fields #[.ref l1, .int 0 0] }, g, d, tk, os⟩) l2 ys := hl2.at fun o e => Heap.get?_push_of_some _ e
    wp_walk using wpAny_pyIter_tuple hL1, wpAny_pyIter_tuple hL2
    refine ⟨_, rfl, ?_⟩
    simp only [Heap.size_push] at h ⊢
    exact h
end L2

set_option Elab.async false
set_option linter.all false
set_option maxRecDepth 100000
set_option maxHeartbeats 4000000
namespace L2
open PySem PySem.Spec PyProof.Rows
section
variable {X : Cx} {pins : List (Addr × Obj)} {σ : St} {H : Hp} {s : Shared} {h' : Heap}
/-- untracked records of ours have turned -/
theorem Inv.turnedL {t' : Nat} {ch : List Addr} (I : Inv X pins σ H s) (k : ∀ b o, b ∉ ch → s.heap.get? b = some o → h'.get? b = some o) (fc : ∀ b ∈ ch, FpOk X pins H b) (hb' : ∀ b ∈ ch, ∀ o, s.heap.get? b = some o → True) : Inv X pins σ H { s with heap := h', toks := t' } := by
  have nn : ∀ b u, H b = some u → b ∉ ch := fun b u q z => by
    have := (fc b z).1
    rw [q] at this
    cases this
  refine I.step (g' := s.gens) (d' := s.drawn) (ch := ch) (fun b hb => ?_) (fun b o _ _ hc q _ => k b o hc q) (fun b o _ _ hc q _ => ⟨o.slots, k b o hc q⟩) (fun _ _ _ _ n => n)
    (fun b o hc q => ⟨o, k b o hc q⟩) (fun _ _ q => q) (fun _ _ _ q => q) (fun b ps q => ⟨#[], by rw [q]; simp⟩) (fun m hm => ?_) (fun b u q => ?_) I.bare
  · exact ⟨(fc b hb).2.2.2.1, (fc b hb).2.1, (fc b hb).2.2.2.2.1, (fc b hb).2.2.2.2.2⟩
  · obtain ⟨o, es, ep, ho, r⟩ := hm
    exact ⟨o, es, ep, k _ o (fun z => (fc _ z).2.1 rfl) ho, r⟩
  · refine (I.hok b u q).stay (fun c v hc z => k c v ?_ z) (fun _ z => z) fun _ _ z => z
    rcases hc with z | z
    · rw [z]; exact nn b u q
    · exact nn c _ z
end
theorem call_zipT {prog : Program} {w : World} {A : Around} {E : Value → Shared → Prop} {s : Shared} {l1 l2 : Addr} {xs ys : Array Value} {Q : Value → Shared → Prop} (hl1 : s.heap.IsTuple l1 xs) (hl2 : s.heap.IsTuple l2 ys)
    (h : ∀ h', IsZip h' (s.heap.objs.size + 4) (s.heap.objs.size + 2) (s.heap.objs.size + 3) .none → IsPair h' (s.heap.objs.size + 2) (.ref s.heap.objs.size) (.ref (s.heap.objs.size + 1)) →
      IsPair h' (s.heap.objs.size + 3) .none .none → h'.IsTupleIter s.heap.objs.size l1 0 → h'.IsTupleIter (s.heap.objs.size + 1) l2 0 →
      (∀ c o, s.heap.get? c = some o → h'.get? c = some o) → Q (.ref (s.heap.objs.size + 4)) { s with heap := h' }) :
    wpAny (model prog w) A (call (.type "zip") [.ref l1, .ref l2]) Q E s := by
  refine callType_new F.called_zip (by decide) (F.typeCall_zip_2 _ _) (F.newCall_zip_2 _ _) (fun obj => F.args_object_init_3 obj _ _) F.entry_zip_new
    (meets_zip_newT l1 l2 xs ys) ⟨hl1, hl2, ?_⟩
  obtain ⟨h1, e1⟩ : ∃ h1, s.heap.push { cls := .type "tuple_iterator", data := .fields #[.ref l1, .int 0 0] } = h1 := ⟨_, rfl⟩
  obtain ⟨h2, e2⟩ : ∃ h2, h1.push { cls := .type "tuple_iterator", data := .fields #[.ref l2, .int 0 0] } = h2 := ⟨_, rfl⟩
  obtain ⟨h3, e3⟩ : ∃ h3, h2.push { cls := .type "tuple", data := .seq #[.ref s.heap.objs.size, .ref (s.heap.objs.size + 1)] } = h3 := ⟨_, rfl⟩
  obtain ⟨h4, e4⟩ : ∃ h4, h3.push { cls := .type "tuple", data := .seq #[.none, .none] } = h4 := ⟨_, rfl⟩
  obtain ⟨h5, e5⟩ : ∃ h5, h4.push { cls := .type "zip", data := .fields #[.none, .bool false, .bool false, .ref (s.heap.objs.size + 2), .ref (s.heap.objs.size + 3)] } = h5 := ⟨_, rfl⟩
  have z1 : h1.objs.size = s.heap.objs.size + 1 := by rw [← e1]; exact Heap.size_push ..
  have z2 : h2.objs.size = s.heap.objs.size + 2 := by rw [← e2, Heap.size_push, z1]
  have z3 : h3.objs.size = s.heap.objs.size + 3 := by rw [← e3, Heap.size_push, z2]
  have z4 : h4.objs.size = s.heap.objs.size + 4 := by rw [← e4, Heap.size_push, z3]
  have u5 : ∀ {c o}, h4.get? c = some o → h5.get? c = some o := fun e => by rw [← e5]; exact Heap.get?_push_of_some _ e
  have u4 : ∀ {c o}, h3.get? c = some o → h5.get? c = some o := fun e => u5 (by rw [← e4]; exact Heap.get?_push_of_some _ e)
  have u3 : ∀ {c o}, h2.get? c = some o → h5.get? c = some o := fun e => u4 (by rw [← e3]; exact Heap.get?_push_of_some _ e)
  have u2 : ∀ {c o}, h1.get? c = some o → h5.get? c = some o := fun e => u3 (by rw [← e2]; exact Heap.get?_push_of_some _ e)
  have g5 : IsZip h5 (s.heap.objs.size + 4) (s.heap.objs.size + 2) (s.heap.objs.size + 3) .none := by
    rw [← z4, ← e5]; exact Heap.get?_push_size _ rfl
  have g4 : IsPair h5 (s.heap.objs.size + 3) .none .none := u5 (by rw [← z3, ← e4]; exact Heap.get?_push_size _ rfl)
  have g3 : IsPair h5 (s.heap.objs.size + 2) (.ref s.heap.objs.size) (.ref (s.heap.objs.size + 1)) := u4 (by rw [← z2, ← e3]; exact Heap.get?_push_size _ rfl)
  have g2 : h5.IsTupleIter (s.heap.objs.size + 1) l2 0 := ⟨_, u3 (by rw [← z1, ← e2]; exact Heap.get?_push_size _ rfl), rfl, rfl⟩
  have g1 : h5.IsTupleIter s.heap.objs.size l1 0 := ⟨_, u2 (by rw [← e1]; exact Heap.get?_push_size _ rfl), rfl, rfl⟩
  show _ ∧ _
  rw [e1, e2, e3, e4, e5]
  exact ⟨⟨_, g5, rfl⟩, h _ g5 g3 g4 g1 g2 fun c o x => u2 (by rw [← e1]; exact Heap.get?_push_of_some _ x)⟩
/-- zip of the tuples at a and b, of one length -/
def Itz (K : PySem.W.Frag) (a b : Addr) : It :=
  ⟨fun i H => ∃ xs ys x y, SqT K H a xs ∧ SqT K H b ys ∧ xs[i]? = some x ∧ ys[i]? = some y,
   fun i H v H' => ∃ T x y, v = .ref T ∧ H T = none ∧ H' = upd H T (.tup [x, y]) ∧ (∀ xs, SqT K H a xs → xs[i]? = some x) ∧ ∀ ys, SqT K H b ys → ys[i]? = some y,
   fun i H => ∃ xs, SqT K H a xs ∧ xs.length = i⟩
theorem far_of {z TI TO i1 i2 a b : Addr} (h1 : TI ≠ z) (h2 : TO ≠ z) (h3 : TI ≠ TO) (h4 : i1 ≠ z) (h5 : i2 ≠ z) (h6 : TI ≠ i1) (h7 : TI ≠ i2) (h8 : TO ≠ i1) (h9 : TO ≠ i2) (h10 : i1 ≠ i2) (ha : ∀ c ∈ [z, TO, i1, i2], a ≠ c) (hb : ∀ c ∈ [z, TO, i1, i2], b ≠ c) :
    ZipFar z TI TO i1 i2 [i1, a] [i2, b] := by
  have a1 := ha z (by simp)
  have a2 := ha TO (by simp)
  have a3 := ha i2 (by simp)
  have b1 := hb z (by simp)
  have b2 := hb TO (by simp)
  have b3 := hb i1 (by simp)
  exact ⟨h1, h2, h3, h4, h5, h6, h7, h8, h9, h10, by simp [Ne.symm h4, Ne.symm a1], by simp [h8, Ne.symm a2], by simp [Ne.symm h10, Ne.symm a3], by simp [Ne.symm h5, Ne.symm b1], by simp [h9, Ne.symm b2], by simp [h10, Ne.symm b3]⟩
theorem turn_zipT {P : Program} {w : World} {K : PySem.W.Frag} {elts : List Expr} {x1 : _} {pos : Pos} (a b z TI TO i1 i2 : Addr) (h1 : TI ≠ z) (h2 : TO ≠ z) (h3 : TI ≠ TO) (h4 : i1 ≠ z) (h5 : i2 ≠ z) (h6 : TI ≠ i1) (h7 : TI ≠ i2) (h8 : TO ≠ i1) (h9 : TO ≠ i2) (h10 : i1 ≠ i2)
    (ha : ∀ c ∈ [z, TI, TO, i1, i2], a ≠ c) (hb : ∀ c ∈ [z, TI, TO, i1, i2], b ≠ c) :
    Turn P w K (.Tuple elts x1 pos) (Itz K a b) [z, TI, TO, i1, i2] z (fun i h => IsZip h z TI TO .none ∧ IsPair h TI (.ref i1) (.ref i2) ∧ (∃ u v, IsPair h TO u v) ∧ h.IsTupleIter i1 a i ∧ h.IsTupleIter i2 b i) where
  mem := by simp
  obj := fun i h st c hc => by
    obtain ⟨hz, hTI, ⟨u, v, hTO⟩, hi1, hi2⟩ := st
    simp only [List.mem_cons, List.not_mem_nil, or_false] at hc
    rcases hc with rfl | rfl | rfl | rfl | rfl
    · exact ⟨_, hz, fun v z => by have z' : Data.fields _ = Data.cell v := z; cases z'⟩
    · exact ⟨_, hTI, fun v z => by have z' : Data.seq _ _ = Data.cell v := z; cases z'⟩
    · exact ⟨_, hTO, fun v z => by have z' : Data.seq _ _ = Data.cell v := z; cases z'⟩
    · obtain ⟨o, e, c, d⟩ := hi1
      exact ⟨o, e, fun v z => by rw [d] at z; cases z⟩
    · obtain ⟨o, e, c, d⟩ := hi2
      exact ⟨o, e, fun v z => by rw [d] at z; cases z⟩
  keep := fun i h h' st k => by
    obtain ⟨hz, hTI, ⟨u, v, hTO⟩, hi1, hi2⟩ := st
    exact ⟨k z (by simp) _ hz, k TI (by simp) _ hTI, ⟨u, v, k TO (by simp) _ hTO⟩, hi1.at fun o e => k i1 (by simp) o e, hi2.at fun o e => k i2 (by simp) o e⟩
  item := by
    intro X hP hw hK hc i pins s σ H E I hf st hg
    subst hP hw hK
    obtain ⟨xs, ys, x, y, hq1, hq2, hx, hy⟩ := hg
    obtain ⟨its, rv, p1, _⟩ := I.tuple hq1
    obtain ⟨jts, rw', p2, _⟩ := I.tuple hq2
    obtain ⟨u, hu, ru⟩ := rv.get hx
    obtain ⟨v, hv, rv2⟩ := rw'.get hy
    obtain ⟨hz, hTI, ⟨o1, o2, hTO⟩, hi1, hi2⟩ := st
    have FF := far_of (a := a) (b := b) h1 h2 h3 h4 h5 h6 h7 h8 h9 h10 (fun c hc => ha c (by simp only [List.mem_cons, List.not_mem_nil, or_false] at hc ⊢; rcases hc with h | h | h | h <;> simp [h])) (fun c hc => hb c (by simp only [List.mem_cons, List.not_mem_nil, or_false] at hc ⊢; rcases hc with h | h | h | h <;> simp [h]))
    have l1 : i < its.toArray.size := by have : i < its.length := (List.getElem?_eq_some_iff.mp hu).1; simpa using this
    have l2 : i < jts.toArray.size := by have : i < jts.length := (List.getElem?_eq_some_iff.mp hv).1; simpa using this
    have hh : X.A.in1.handled = none := I.ok.hd hc
    have D1 := drawsTuple (prog := X.prog) (w := X.w) (A := X.A.in1) hh i1 a (ha i1 (by simp)) its.toArray
    have D2 := drawsTuple (prog := X.prog) (w := X.w) (A := X.A.in1) hh i2 b (hb i2 (by simp)) jts.toArray
    have hT : s.TypeIs (.ref z) "zip" := ⟨_, hz, rfl⟩
    unfold pyNext
    refine wpAny_bind (wpAny_attempt (wpAny_callSpecial?_slot (name := Str.ofString "__next__") hT F.slot_zip_next (wpAny_call_entry F.slot_zip_next hT F.entry_zip_next ?_ (F.args_zip_next_1 _))))
    refine zipD_item D1 D2 FF hz hTI hTO ⟨hi1, p1⟩ ⟨hi2, p2⟩ l1 l2 fun x' y' h' tk hx' hy' a1 a2 a3 a4 a5 a7 => wpAny_pure ?_
    have ex : x' = u := by
      have : its.toArray[i]? = some u := by simpa using hu
      rw [this] at hx'
      exact (Option.some.inj hx').symm
    have ey : y' = v := by
      have : jts.toArray[i]? = some v := by simpa using hv
      rw [this] at hy'
      exact (Option.some.inj hy').symm
    subst ex ey
    refine ⟨_, rfl, wpAny_letOwnedTupleGo_zip (s := { s with heap := h', toks := tk }) a1 fun h2' hz' hs' => ?_⟩
    have fr : H s.heap.objs.size = none := I.hok.fresh (Nat.le_refl _)
    have I1 : Inv X pins σ (upd H s.heap.objs.size (.tup [x, y])) { s with heap := s.heap.push { cls := .type "tuple", data := .seq #[x', y'] }, toks := tk } :=
      I.laid (o := .tup [x, y]) (fun b ob q => Heap.get?_push_of_some _ q) (Nat.le_refl _) ⟨by show 2 ≤ sizeLine; decide, [x', y'], .cons ru (.cons rv2 .nil), ⟨_, Heap.get?_push_size _ rfl, rfl, _, rfl⟩⟩
    have lt : ∀ c ∈ [z, TI, TO, i1, i2], c < s.heap.objs.size := fun c hc => by
      simp only [List.mem_cons, List.not_mem_nil, or_false] at hc
      rcases hc with rfl | rfl | rfl | rfl | rfl
      · exact Heap.lt_size hz
      · exact Heap.lt_size hTI
      · exact Heap.lt_size hTO
      · obtain ⟨o, e1, _⟩ := hi1; exact Heap.lt_size e1
      · obtain ⟨o, e1, _⟩ := hi2; exact Heap.lt_size e1
    have f2 : ∀ c ∈ [z, TI, TO, i1, i2], FpOk X pins (upd H s.heap.objs.size (.tup [x, y])) c := fun c hc => by
      refine ⟨?_, (hf c hc).2⟩
      rw [upd_ne (Nat.ne_of_lt (lt c hc))]
      exact (hf c hc).1
    have I2 : Inv X pins σ (upd H s.heap.objs.size (.tup [x, y])) { s with heap := h2', toks := tk } := by
      refine Inv.turnedL (s := { s with heap := s.heap.push { cls := .type "tuple", data := .seq #[x', y'] }, toks := tk }) (t' := tk) (h' := h2') (ch := [z, TI, TO, i1, i2]) I1 (fun c o hc q => ?_) f2 (fun _ _ _ _ => trivial)
      simp only [List.mem_cons, List.not_mem_nil, or_false, not_or] at hc
      refine (hs'.2 c hc.1).trans ?_
      rcases Heap.get?_push_cases (show (s.heap.push { cls := .type "tuple", data := .seq #[x', y'] }).get? c = some o from q) with ⟨rfl, rfl⟩ | q
      · exact a5
      · exact a7 c o hc.1 hc.2.2.1 hc.2.2.2.1 hc.2.2.2.2 q
    refine ⟨.ref s.heap.objs.size, _, I2, rfl, ⟨s.heap.objs.size, x, y, rfl, fr, rfl, fun ys hy => by rw [I.tuple_inj hy hq1]; exact hx, fun ys hy' => by rw [I.tuple_inj hy' hq2]; exact hy⟩, ⟨hz', ?_, ⟨x', y', ?_⟩, ?_, ?_⟩, fun b hb => (f2 b hb).1⟩
    · exact (hs'.2 TI h1).trans (a7 _ _ h1 h3 h6 h7 hTI)
    · exact (hs'.2 TO h2).trans a2
    · exact a3.1.at fun o e => (hs'.2 i1 h4).trans e
    · exact a4.1.at fun o e => (hs'.2 i2 h5).trans e
  done := by
    intro X hP hw hK hc i pins s σ H E I hf st hg
    subst hP hw hK
    obtain ⟨xs, hq, hx⟩ := hg
    obtain ⟨its, rv, p1, _⟩ := I.tuple hq
    obtain ⟨hz, hTI, ⟨o1, o2, hTO⟩, hi1, hi2⟩ := st
    have FF := far_of (a := a) (b := b) h1 h2 h3 h4 h5 h6 h7 h8 h9 h10 (fun c hc => ha c (by simp only [List.mem_cons, List.not_mem_nil, or_false] at hc ⊢; rcases hc with h | h | h | h <;> simp [h])) (fun c hc => hb c (by simp only [List.mem_cons, List.not_mem_nil, or_false] at hc ⊢; rcases hc with h | h | h | h <;> simp [h]))
    have hh : X.A.in1.handled = none := I.ok.hd hc
    have D1 := drawsTuple (prog := X.prog) (w := X.w) (A := X.A.in1) hh i1 a (ha i1 (by simp)) its.toArray
    have hl := rv.length
    have ei : i = its.toArray.size := by simp; omega
    rw [ei] at hi1
    have hT : s.TypeIs (.ref z) "zip" := ⟨_, hz, rfl⟩
    unfold pyNext
    refine wpAny_bind (wpAny_attempt (wpAny_callSpecial?_slot (name := Str.ofString "__next__") hT F.slot_zip_next (wpAny_call_entry F.slot_zip_next hT F.entry_zip_next ?_ (F.args_zip_next_1 _))))
    refine zipD_end D1 FF hz hTI ⟨hi1, p1⟩ fun h' e hk he => ?_
    obtain ⟨o, ho, hcl⟩ := he
    refine wpAny_bind (wpAny_isInstance (T := "StopIteration") (b := true) ⟨o, ho, hcl⟩ isSubtype_stop ?_)
    refine wpAny_pure ⟨rfl, I.turnedL (t' := s.toks) (ch := [z, TI, TO, i1, i2]) (fun c o hc q => ?_) hf (fun _ _ _ _ => trivial)⟩
    simp only [List.mem_cons, List.not_mem_nil, or_false, not_or] at hc
    exact hk c o hc.1 hc.2.2.1 hc.2.2.2.1 hc.2.2.2.2 q
  self := fun _ _ _ _ _ st h => wpAny_pyIter_zip st.1 h
section
variable {X : Cx}
def iZipT (K : PySem.W.Frag) (tl : TA) : TI := fun σ H R => tl σ H fun vs H1 => ∃ a b, vs = [.ref a, .ref b] ∧ (∃ xs, SqT K H1 a xs) ∧ (∃ ys, SqT K H1 b ys) ∧ R (Itz K a b) H1
theorem bt_zip : bootBuiltins "zip" = some (.type "zip") := by decide +kernel
theorem pi_zipT {elts : List Expr} {x1 : _} {tpos : Pos} {l r : Expr} {tl : TA} {p pos : Pos} (hg : Gl X "zip") (hm : X.mg "zip" = none) (hl : PA X [l, r] tl) (hs : starEach [l, r] X.env = [(false, eval l X.env), (false, eval r X.env)] := by rfl) (hs2 : starEach [r] X.env = [(false, eval r X.env)] := by rfl) :
    PI X (.Tuple elts x1 tpos) (.Call (.Name "zip" p) [l, r] [] pos) (iZipT X.K tl) := by
  intro pins s σ H R I h
  refine Call_ (ld_blt I hg hm bt_zip (PyProof.Rows.callWith_type1 (thn (hl pos pins s σ H _ I h) fun us s1 ⟨vs, H1, I1, r1, q1⟩ => ?_) (by rw [hs, hs2]) (by rw [hs2]; rfl)))
  obtain ⟨a, b, e, ⟨xs, hq1⟩, ⟨ys, hq2⟩, q⟩ := q1
  subst e
  cases r1 with
  | cons ra rr =>
    cases rr with
    | cons rb rr =>
      cases rr
      cases ra
      cases rb
      obtain ⟨its, rv, p1, _⟩ := I1.tuple hq1
      obtain ⟨jts, rv2, p2, _⟩ := I1.tuple hq2
      have la : a < s1.heap.objs.size := by obtain ⟨o, e, _⟩ := p1; exact Heap.lt_size e
      have lb : b < s1.heap.objs.size := by obtain ⟨o, e, _⟩ := p2; exact Heap.lt_size e
      refine call_zipT (show s1.heap.IsTuple a its.toArray from p1) (show s1.heap.IsTuple b jts.toArray from p2) fun h' g5 g3 g4 g1 g2 hk => ?_
      refine wpAny_pyIter_zip g5 ?_
      have le : ∀ c ∈ [s1.heap.objs.size + 4, s1.heap.objs.size + 2, s1.heap.objs.size + 3, s1.heap.objs.size, s1.heap.objs.size + 1], s1.heap.objs.size ≤ c := fun c hc => by
        simp only [List.mem_cons, List.not_mem_nil, or_false] at hc
        rcases hc with rfl | rfl | rfl | rfl | rfl <;> first | exact Nat.le_refl _ | exact Nat.le_add_right _ _
      have ad : ∀ {i j : Nat}, i ≠ j → s1.heap.objs.size + i ≠ s1.heap.objs.size + j := fun h z => h (Nat.add_left_cancel z)
      have a0 : ∀ {j : Nat}, 0 ≠ j → s1.heap.objs.size ≠ s1.heap.objs.size + j := fun h z => h (Nat.add_left_cancel (show s1.heap.objs.size + 0 = _ from z))
      refine ⟨s1.heap.objs.size + 4, [s1.heap.objs.size + 4, s1.heap.objs.size + 2, s1.heap.objs.size + 3, s1.heap.objs.size, s1.heap.objs.size + 1], _, _, H1, rfl, I1.kept (t' := s1.toks) hk,
        turn_zipT a b (s1.heap.objs.size + 4) (s1.heap.objs.size + 2) (s1.heap.objs.size + 3) s1.heap.objs.size (s1.heap.objs.size + 1) (ad (by decide)) (ad (by decide)) (ad (by decide)) (a0 (by decide)) (ad (by decide)) (Ne.symm (a0 (by decide))) (ad (by decide)) (Ne.symm (a0 (by decide))) (ad (by decide)) (a0 (by decide))
          (fun c hc => Nat.ne_of_lt (Nat.lt_of_lt_of_le la (le c hc))) (fun c hc => Nat.ne_of_lt (Nat.lt_of_lt_of_le lb (le c hc))), ⟨g5, g3, ⟨_, _, g4⟩, g1, g2⟩, fun c hc => I1.fpOk (le c hc) (I1.hok.fresh (le c hc)), q⟩
end
/-- for .. in zip(t, u), of one length -/
theorem for_zipT {K : PySem.W.Frag} {a b : Addr} {xs ys : List V} {g : TG} {tb : TS} {D : Ends} {σ : St} {H : Hp} (hlen : xs.length = ys.length) (Pv : Nat → St → Hp → Prop) (h0 : Pv 0 σ H) (hl : ∀ i σ H, i ≤ xs.length → Pv i σ H → SqT K H a xs ∧ SqT K H b ys)
    (hs : ∀ i x y σ H T, xs[i]? = some x → ys[i]? = some y → Pv i σ H → H T = none → g (.ref T) σ (upd H T (.tup [x, y])) fun σ2 H2 => tb { D with nx := Pv (i + 1), ct := Pv (i + 1), bk := D.nx } σ2 H2) (hd : ∀ σ H, Pv xs.length σ H → D.nx σ H) :
    ∃ W : Nat → Nat → St → Hp → Prop, (∃ m, W 0 m σ H) ∧ ∀ i m σ H, W i m σ H →
      ((Itz K a b).stop i H ∧ D.nx σ H) ∨ ((Itz K a b).go i H ∧ ∃ N : St → Hp → Prop, (∀ σ' H', N σ' H' → ∃ m', m' < m ∧ W (i + 1) m' σ' H') ∧ ∀ x H', (Itz K a b).yld i H x H' → g x σ H' fun σ2 H2 => tb { D with nx := N, ct := N, bk := D.nx } σ2 H2) := by
  refine ⟨fun i m σ H => m = xs.length - i ∧ i ≤ xs.length ∧ Pv i σ H, ⟨xs.length, by simp, Nat.zero_le _, h0⟩, ?_⟩
  rintro i m σ H ⟨rfl, hi, p⟩
  have q := hl i σ H hi p
  by_cases hlt : i < xs.length
  · refine .inr ⟨⟨xs, ys, xs[i], ys[i]'(by omega), q.1, q.2, by simp [hlt], by rw [List.getElem?_eq_getElem (by omega)]⟩, Pv (i + 1), fun σ' H' p' => ⟨xs.length - (i + 1), by omega, rfl, hlt, p'⟩, fun x H' y => ?_⟩
    obtain ⟨T, x0, y0, rfl, hT, rfl, y1, y2⟩ := y
    exact hs i x0 y0 σ _ T (y1 xs q.1) (y2 ys q.2) p hT
  · have e : i = xs.length := by omega
    subst e
    exact .inl ⟨⟨xs, q.1, rfl⟩, hd σ H p⟩
end L2

set_option Elab.async false
set_option linter.all false
set_option maxRecDepth 100000
set_option maxHeartbeats 4000000
/-! == of things that are alike: None and None; tuples of ints; tuples of such -/
namespace L2
open PySem PySem.Spec PyProof.Rows
/-- alike, by what they hold -/
inductive EqN (K : PySem.W.Frag) (H : Hp) : V → V → Prop where
  | non : EqN K H .non .non
  | tup {a b : Addr} {ns : List Int} (ha : SqT K H a (ns.map V.int)) (hb : SqT K H b (ns.map V.int)) : EqN K H (.ref a) (.ref b)
section
variable {X : Cx} {pins : List (Addr × Obj)} {σ : St} {H : Hp} {s : Shared}
theorem vals_int {ns : List Int} {us : List Value} (r : Vals (ns.map V.int) us) : ∀ (j : Nat) (u : Value), us[j]? = some u → ∃ n t, ns[j]? = some n ∧ u = Value.int n t := by
  intro j u hu
  have hj : j < us.length := (List.getElem?_eq_some_iff.mp hu).1
  have hl := r.length
  rw [List.length_map] at hl
  obtain ⟨v, hv, rv⟩ := r.get (i := j) (x := V.int (ns[j]'(by omega))) (by rw [List.getElem?_map, List.getElem?_eq_getElem (by omega)]; rfl)
  rw [hu] at hv
  cases hv
  obtain ⟨t, rfl⟩ := (show ∃ t, u = Value.int _ t from rv)
  exact ⟨_, t, List.getElem?_eq_getElem (by omega), rfl⟩
theorem ints_rc {A : Around} {a b : Addr} {ns : List Int} (I : Inv X pins σ H s) (hu : A.units < cLine) (ha : SqT X.K H a (ns.map V.int)) (hb : SqT X.K H b (ns.map V.int)) : SeqAt.RcAt A s (.ref a) (.ref b) true := by
  obtain ⟨its, r1, p1, _⟩ := I.tuple ha
  obtain ⟨jts, r2, p2, _⟩ := I.tuple hb
  have l1 := r1.length
  have l2 := r2.length
  have q := SeqAt.RcAt.tuples (A := A) (e := fun _ => true) p1 p2 hu fun j h1 h2 => by
    obtain ⟨n, t, hn, e⟩ := vals_int r1 j its.toArray[j] (by simp at h1 ⊢)
    obtain ⟨n', t', hn', e'⟩ := vals_int r2 j jts.toArray[j] (by simp at h2 ⊢)
    rw [hn] at hn'
    cases hn'
    rw [e, e']
    have z := SeqAt.EqAt.int_int (A := A.in1) (s := s) n t n t'
    rw [beq_self_eq_true] at z
    exact z
  have e : ((List.range (min its.toArray.size jts.toArray.size)).all (fun _ => true) && its.toArray.size == jts.toArray.size) = true := by
    simp
    omega
  rw [e] at q
  exact q
theorem EqN.at {A : Around} {x y : V} {u v : Value} (I : Inv X pins σ H s) (hu : A.units < cLine) (h : EqN X.K H x y) (ru : RelV x u) (rv : RelV y v) : SeqAt.EqAt A s u v true := by
  cases h with
  | non =>
    cases ru
    cases rv
    exact SeqAt.EqAt.same _
  | @tup a b ns ha hb =>
    cases ru
    cases rv
    by_cases e : a = b
    · subst e; exact SeqAt.EqAt.same _
    · exact SeqAt.EqAt.of_refs e (ints_rc I hu ha hb)
/-- two alike: None and None, or two tuples of the same ints -/
theorem op_eqA (hu : X.A.units < cLine) : OpR X (compareOp .Eq) (fun x y H Q => EqN X.K H x y ∧ Q (.bl true) H) := by
  intro pins s σ H x y v u Q I r1 r2 h
  obtain ⟨e, q⟩ := h
  cases e with
  | non => exact op_eq pins s σ H _ _ v u Q I r1 r2 ⟨rfl, by rw [decide_eq_true rfl]; exact q⟩
  | @tup a b ns ha hb =>
    cases r1
    cases r2
    exact ints_rc I hu ha hb X.prog X.w X.xe _ ⟨.bl true, H, I, rfl, q⟩
/-- two tuples of alike things -/
theorem op_eqN (hu : X.A.units + 1 < cLine) : OpR X (compareOp .Eq) (fun x y H Q => ∃ a b xs ys, x = .ref a ∧ y = .ref b ∧ SqT X.K H a xs ∧ SqT X.K H b ys ∧ Paired (EqN X.K H) xs ys ∧ Q (.bl true) H) := by
  intro pins s σ H x y v u Q I r1 r2 h
  obtain ⟨a, b, xs, ys, rfl, rfl, ha, hb, e, q⟩ := h
  cases r1
  cases r2
  obtain ⟨its, rv, p1, _⟩ := I.tuple ha
  obtain ⟨jts, rw', p2, _⟩ := I.tuple hb
  have l1 := rv.length
  have l2 := rw'.length
  have l3 := e.length
  refine SeqAt.eq_tupleAt (e := fun _ => true) p1 p2 (Nat.lt_of_succ_lt hu) (fun j h1 h2 => ?_) ⟨.bl true, H, I, ?_, q⟩
  · have j1 : j < xs.length := by simp at h1; omega
    have j2 : j < ys.length := by omega
    obtain ⟨u1, e1, q1⟩ := rv.get (i := j) (x := xs[j]) (by simp [j1])
    obtain ⟨u2, e2, q2⟩ := rw'.get (i := j) (x := ys[j]) (by simp [j2])
    have g1 : its.toArray[j] = u1 := by
      have := (List.getElem?_eq_some_iff.mp e1).2
      simpa using this
    have g2 : jts.toArray[j] = u2 := by
      have := (List.getElem?_eq_some_iff.mp e2).2
      simpa using this
    rw [g1, g2]
    have en : EqN X.K H xs[j] ys[j] := by
      have go : ∀ {xs ys : List V} {j : Nat} (h1 : j < xs.length) (h2 : j < ys.length), Paired (EqN X.K H) xs ys → EqN X.K H xs[j] ys[j] := by
        intro xs ys j h1 h2 p
        induction p generalizing j with
        | nil => exact absurd h1 (Nat.not_lt_zero _)
        | cons a t ih =>
          cases j with
          | zero => exact a
          | succ j => exact ih (by simpa using h1) (by simpa using h2)
      exact go j1 j2 e
    exact en.at I (show X.A.in1.units < cLine from by first | exact hu | (have : X.A.in1.units = X.A.units + 1 := rfl; omega)) q1 q2
  · show Value.bool _ = Value.bool _
    have : ((List.range (min its.toArray.size jts.toArray.size)).all (fun _ => true) && its.toArray.size == jts.toArray.size) = true := by
      simp
      omega
    rw [this]
end
end L2

set_option Elab.async false
set_option linter.all false
set_option maxRecDepth 100000
set_option maxHeartbeats 8000000
namespace My
open PySem L2
def top (i : Nat) : Stmt := PySem.Challenge.pw_figuretell_k15_leads_and_partings.main.body.getD i (.Pass ⟨0, 0, 0, 0⟩)
abbrev s_reached_rooms : Stmt := top 1
abbrev s_leads : Stmt := top 3
abbrev s_first_rows : Stmt := top 4
abbrev s_parting : Stmt := top 5
abbrev s_led_on : Stmt := top 6
abbrev s__law_draw : Stmt := top 9
abbrev s__law_there : Stmt := top 10
abbrev s__law_signs : Stmt := top 11
abbrev s__law_machine : Stmt := top 12
abbrev s__law_walk : Stmt := top 13
abbrev s__law_is_row : Stmt := top 14
abbrev s__law_behind : Stmt := top 15
abbrev s__law_leads : Stmt := top 16
abbrev s__law_parted : Stmt := top 17
abbrev s_law : Stmt := top 18
abbrev s_Alike___init__ : Stmt := inClass (top 7) 0
abbrev s_Alike_take_as_alike : Stmt := inClass (top 7) 1
/-! ### small helps -/
theorem iteD {c A B : Prop} [Decidable c] (h1 : c → A) (h2 : ¬ c → B) : if decide c = true then A else B := ite2 (fun h => h1 (of_decide_eq_true h)) fun h => h2 fun z => h (decide_eq_true z)
theorem iteDn {c A B : Prop} [Decidable c] (h1 : ¬ c → A) (h2 : c → B) : if (!decide c) = true then A else B := ite2 (fun h => h1 fun z => by rw [decide_eq_true z] at h; cases h) fun h => h2 (Decidable.byContradiction fun z => h (by rw [decide_eq_false z]; rfl))
theorem iteI {a b : Int} {A B : Prop} (h1 : a = b → A) (h2 : a ≠ b → B) : if decide (V.int a = V.int b) = true then A else B := iteD (fun h => h1 (V.int.inj h)) fun h => h2 fun z => h (congrArg V.int z)
theorem mul_in {a b m n : Int} (a0 : 0 ≤ a) (a1 : a ≤ m) (b0 : 0 ≤ b) (b1 : b ≤ n) : 0 ≤ a * b ∧ a * b ≤ m * n := ⟨Int.mul_nonneg a0 b0, Int.mul_le_mul a1 b1 b0 (Int.le_trans a0 a1)⟩
theorem mod_in {a b : Int} (h : 0 < b) : 0 ≤ a % b ∧ a % b < b := ⟨Int.emod_nonneg a (by omega), Int.emod_lt_of_pos a h⟩
theorem cut_seq {t u : TS} {D : Ends} {σ : St} {H : Hp} (R : St → Hp → Prop) (h2 : ∀ σ' H', R σ' H' → u D σ' H') (h1 : (∀ σ' H', R σ' H' → u D σ' H') → tSeq t u D σ H) : tSeq t u D σ H := h1 h2
theorem same_upd {H H' : Hp} {p : Addr} {o : HO} (h : Same H H') (hp : H p = none) : Same H (upd H' p o) := fun b u e => by rw [upd_ne (ne_of_none e hp)]; exact h b u e
def IntsIn (lo hi : Int) (ys : List V) : Prop := ∀ y ∈ ys, ∃ v : Int, y = .int v ∧ lo ≤ v ∧ v < hi
theorem IntsIn.nil {lo hi : Int} : IntsIn lo hi [] := fun y h => by cases h
theorem IntsIn.snoc {lo hi v : Int} {ys : List V} (h : IntsIn lo hi ys) (h0 : lo ≤ v) (h1 : v < hi) : IntsIn lo hi (ys ++ [.int v]) := fun y hy => by
  rcases List.mem_append.mp hy with z | z
  · exact h y z
  · rw [List.mem_singleton.mp z]; exact ⟨v, rfl, h0, h1⟩
/-- the ints of such a row -/
theorem IntsIn.ints {lo hi : Int} : ∀ {ys : List V}, IntsIn lo hi ys → ∃ ns : List Int, ys = ns.map V.int ∧ ∀ z ∈ ns, lo ≤ z ∧ z < hi
  | [], _ => ⟨[], rfl, fun z h => by cases h⟩
  | y :: r, h => by
    obtain ⟨v, e, h0, h1⟩ := h y List.mem_cons_self
    obtain ⟨ns, e2, h2⟩ := IntsIn.ints (ys := r) fun z hz => h z (List.mem_cons_of_mem _ hz)
    refine ⟨v :: ns, by rw [e, e2]; rfl, fun z hz => ?_⟩
    rcases List.mem_cons.mp hz with q | q
    · rw [q]; exact ⟨h0, h1⟩
    · exact h2 z q
theorem nat_of {x : Int} (h : 0 ≤ x) : ∃ n : Nat, x = (n : Int) := ⟨x.toNat, by omega⟩
theorem getD_at {α : Type} {xs : List α} {i : Nat} {d : α} (h : i < xs.length) : xs.getD i d = xs[i] := by simp [h]
/-- a place of a row of ints -/
theorem atI_ints {ns : List Int} {k : Int} (h0 : 0 ≤ k) (h : k < (ns.length : Int)) : atI (ns.map V.int) k = some (.int (ns.getD k.toNat 0)) := by
  have hk : k.toNat < ns.length := by omega
  have ek : k = ((k.toNat : Nat) : Int) := by omega
  have q : atI (ns.map V.int) ((k.toNat : Nat) : Int) = some (.int ns[k.toNat]) := atI_nat (by rw [List.getElem?_map, List.getElem?_eq_getElem hk] <;> rfl)
  rw [← ek] at q
  rw [q, getD_at hk]
theorem atI_refs {ras : List Addr} {k : Int} {ra : Addr} (h0 : 0 ≤ k) (h : ras[k.toNat]? = some ra) : atI (ras.map V.ref) k = some (.ref ra) := by
  have ek : k = ((k.toNat : Nat) : Int) := by omega
  have q : atI (ras.map V.ref) ((k.toNat : Nat) : Int) = some (.ref ra) := atI_nat (by rw [List.getElem?_map, h] <;> rfl)
  rw [← ek] at q
  exact q
/-- ints -/
theorem ints_at {ns : List Int} {i : Nat} {y : V} (h : (ns.map V.int)[i]? = some y) : ∃ z, y = V.int z ∧ ns[i]? = some z := by
  rw [List.getElem?_map] at h
  cases e : ns[i]? with
  | none => rw [e] at h; cases h
  | some z => rw [e] at h; exact ⟨z, (Option.some.inj h).symm, rfl⟩
theorem kit_tuple_tuple (K : PySem.W.Frag) : PySem.W.kitOne K (.type "tuple") (.type "tuple") = some true := by with_unfolding_all rfl
/-! ### machines as data -/
def stepI (rows : List (List Int)) (h f : Int) : Int := (rows.getD h.toNat []).getD f.toNat 0
def walkI (rows : List (List Int)) (row : List Int) (h : Int) : Int := row.foldl (stepI rows) h
/-- many rooms, wide figures -/
structure RowsOk (many wide : Nat) (rows : List (List Int)) : Prop where
  len : rows.length = many
  row : ∀ r ∈ rows, r.length = wide
  val : ∀ r ∈ rows, ∀ v ∈ r, 0 ≤ v ∧ v < (many : Int)
theorem stepI_ok {many wide : Nat} {rows : List (List Int)} {h f : Int} (R : RowsOk many wide rows) (h0 : 0 ≤ h) (h1 : h < many) (f0 : 0 ≤ f) (f1 : f < wide) : 0 ≤ stepI rows h f ∧ stepI rows h f < many := by
  have l1 : h.toNat < rows.length := by rw [R.len]; omega
  have l2 : f.toNat < rows[h.toNat].length := by rw [R.row _ (List.getElem_mem l1)]; omega
  unfold stepI
  rw [getD_at l1, getD_at l2]
  exact R.val _ (List.getElem_mem l1) _ (List.getElem_mem l2)
theorem walkI_ok {many wide : Nat} {rows : List (List Int)} (R : RowsOk many wide rows) : ∀ {ns : List Int} {h : Int}, (∀ f ∈ ns, 0 ≤ f ∧ f < (wide : Int)) → 0 ≤ h → h < many → 0 ≤ walkI rows ns h ∧ walkI rows ns h < many
  | [], h, _, h0, h1 => ⟨h0, h1⟩
  | f :: r, h, hf, h0, h1 => by
    obtain ⟨a, b⟩ := stepI_ok R h0 h1 (hf f List.mem_cons_self).1 (hf f List.mem_cons_self).2
    exact walkI_ok (ns := r) R (fun g hg => hf g (List.mem_cons_of_mem _ hg)) a b
theorem walkI_append (rows : List (List Int)) (xs ys : List Int) (h : Int) : walkI rows (xs ++ ys) h = walkI rows ys (walkI rows xs h) := by
  unfold walkI
  rw [List.foldl_append]
theorem walkI_take {rows : List (List Int)} {ns : List Int} {h z : Int} {i : Nat} (e : ns[i]? = some z) : walkI rows (ns.take (i + 1)) h = stepI rows (walkI rows (ns.take i) h) z := by
  rw [List.take_add_one, e, walkI_append]
  rfl
/-- the rows stand as tuples -/
def RowsAt (H : Hp) : List Addr → List (List Int) → Prop := Paired fun a r => H a = some (.tup (r.map V.int))
theorem RowsAt.length {H : Hp} {ras : List Addr} {rows : List (List Int)} (h : RowsAt H ras rows) : ras.length = rows.length := Paired.length h
theorem RowsAt.get : ∀ {H : Hp} {ras : List Addr} {rows : List (List Int)} {i : Nat}, RowsAt H ras rows → (h : i < rows.length) → ∃ ra, ras[i]? = some ra ∧ H ra = some (.tup (rows[i].map V.int))
  | _, _, _, _, .nil, h => by simp at h
  | _, _, _, 0, .cons (a := a) r _, _ => ⟨a, rfl, r⟩
  | _, _, _, i + 1, .cons _ t, h => by
    obtain ⟨ra, h1, h2⟩ := RowsAt.get (i := i) t (by simpa using h)
    exact ⟨ra, by simpa using h1, by simpa using h2⟩
theorem RowsAt.same {H H' : Hp} {ras : List Addr} {rows : List (List Int)} (h : RowsAt H ras rows) (s : ∀ b xs, H b = some (.tup xs) → H' b = some (.tup xs)) : RowsAt H' ras rows := Paired.mapP h fun _ _ q => s _ _ q
theorem RowsAt.snoc : ∀ {H : Hp} {ras : List Addr} {rows : List (List Int)} {a : Addr} {r : List Int}, RowsAt H ras rows → H a = some (.tup (r.map V.int)) → RowsAt H (ras ++ [a]) (rows ++ [r])
  | _, _, _, _, _, .nil, h => .cons h .nil
  | _, _, _, _, _, .cons q t, h => .cons q (RowsAt.snoc t h)
structure MachAt (H : Hp) (m r g : Addr) (wide : Nat) (rows : List (List Int)) (signs : List Int) : Prop where
  tup : H m = some (.tup [.int wide, .ref r, .ref g])
  rows : ∃ ras, H r = some (.tup (ras.map V.ref)) ∧ RowsAt H ras rows
  sgn : H g = some (.tup (signs.map V.int))
theorem MachAt.same {H H' : Hp} {m r g : Addr} {wide : Nat} {rows : List (List Int)} {signs : List Int} (M : MachAt H m r g wide rows signs) (s : ∀ b xs, H b = some (.tup xs) → H' b = some (.tup xs)) : MachAt H' m r g wide rows signs := by
  obtain ⟨h1, ⟨ras, h2, h3⟩, h4⟩ := M
  exact ⟨s _ _ h1, ⟨ras, s _ _ h2, h3.same s⟩, s _ _ h4⟩
/-- rows[h][f] -/
theorem row_step {H : Hp} {ras : List Addr} {rows : List (List Int)} {many wide : Nat} {h f : Int} (A : RowsAt H ras rows) (R : RowsOk many wide rows) (h0 : 0 ≤ h) (h1 : h < many) (f0 : 0 ≤ f) (f1 : f < wide) :
    ∃ (ra : Addr) (r : List Int), atI (ras.map V.ref) h = some (.ref ra) ∧ H ra = some (.tup (r.map V.int)) ∧ atI (r.map V.int) f = some (.int (stepI rows h f)) := by
  have l1 : h.toNat < rows.length := by rw [R.len]; omega
  have l2 : rows[h.toNat].length = wide := R.row _ (List.getElem_mem l1)
  obtain ⟨ra, e1, e2⟩ := A.get l1
  refine ⟨ra, rows[h.toNat], atI_refs h0 e1, e2, ?_⟩
  rw [atI_ints f0 (by rw [l2]; exact f1)]
  unfold stepI
  rw [getD_at l1]
/-! ### the law's own draws: what they are is not asked, only between what they lie -/
def spDraw (K : PySem.W.Frag) : Sp := fun vs H Q _ => ∃ (a : Addr) (k : Int) (ns : List Int), vs = [.ref a, .int k] ∧ SqL K H a (ns.map V.int) ∧ ns.length ≤ 63 ∧ 0 ≤ k ∧ k < 2147483648 ∧
  ∀ v : Int, 0 ≤ v → v < 2147483629 → Q (.int v) H
def spThere (K : PySem.W.Frag) : Sp := fun vs H Q _ => ∃ (a p : Addr) (at_ way q f many wide half : Int) (ns : List Int), vs = [.ref a, .int at_, .ref p, .int way] ∧ SqL K H a (ns.map V.int) ∧ ns.length ≤ 63 ∧
  H p = some (.lst [.int q, .int f, .int many, .int wide, .int half]) ∧ (0 ≤ at_ ∧ at_ < 1000000) ∧ (0 ≤ q ∧ q < many) ∧ (0 ≤ f ∧ f < wide) ∧ many ≤ 1000 ∧ wide ≤ 1000 ∧ (1 ≤ half ∧ half ≤ many) ∧
  ∀ v : Int, 0 ≤ v → v < many → Q (.int v) H
def spSigns (K : PySem.W.Frag) : Sp := fun vs H Q _ => ∃ (a : Addr) (at_ many half way : Int) (ns : List Int), vs = [.ref a, .int at_, .int many, .int half, .int way] ∧ SqL K H a (ns.map V.int) ∧ ns.length ≤ 63 ∧
  (0 ≤ at_ ∧ at_ < 1000000) ∧ (1 ≤ many ∧ many ≤ 1000) ∧ (1 ≤ half ∧ half ≤ many) ∧
  ∀ (p : Addr) (H' : Hp) (signs : List Int), Same H H' → H' p = some (.tup (signs.map V.int)) → (signs.length : Int) = many → (∀ z ∈ signs, 0 ≤ z ∧ z < 1000000) → Q (.ref p) H'
def spMachine (K : PySem.W.Frag) : Sp := fun vs H Q _ => ∃ (a : Addr) (at_ most widest : Int) (ns : List Int), vs = [.ref a, .int at_, .int most, .int widest] ∧ SqL K H a (ns.map V.int) ∧ ns.length ≤ 63 ∧
  (0 ≤ at_ ∧ at_ < 100000) ∧ (1 ≤ most ∧ most ≤ 1000) ∧ (1 ≤ widest ∧ widest ≤ 1000) ∧
  ∀ (m r g : Addr) (H' : Hp) (many wide : Nat) (rows : List (List Int)) (signs : List Int), Same H H' → MachAt H' m r g wide rows signs → RowsOk many wide rows → signs.length = many → (∀ z ∈ signs, 0 ≤ z ∧ z < 1000000) → 1 ≤ many → (many : Int) ≤ most → 1 ≤ wide → (wide : Int) ≤ widest → Q (.ref m) H'

section
variable {P : Program} {w : World} {K : PySem.W.Frag} {mg : Str → Option Value} {base : Heap} {f : Addr} {fd : FuncData} {dV : Value}
theorem sc__law_draw : FnScope ["_law_script", "_law_k", "_law_cell"] ["_law_script", "_law_k"] (defScope s__law_draw) := ⟨rfl, rfl, rfl, by decide +kernel, rfl, by decide +kernel, by decide +kernel⟩
theorem sc__law_there : FnScope ["_law_script", "_law_at", "_law_place", "_law_way", "_law_q", "_law_f", "_law_many", "_law_wide", "_law_half", "_law_number", "_law_there_here"] ["_law_script", "_law_at", "_law_place", "_law_way"] (defScope s__law_there) := ⟨rfl, rfl, rfl, by decide +kernel, rfl, by decide +kernel, by decide +kernel⟩
theorem sc__law_signs : FnScope ["_law_script", "_law_at", "_law_many", "_law_half", "_law_way", "_law_menu", "_law_found", "_law_q", "_law_pick"] ["_law_script", "_law_at", "_law_many", "_law_half", "_law_way"] (defScope s__law_signs) := ⟨rfl, rfl, rfl, by decide +kernel, rfl, by decide +kernel, by decide +kernel⟩
theorem bk__law_signs_0 : BlkScope ["_law_script", "_law_at", "_law_many", "_law_half", "_law_way", "_law_menu", "_law_found", "_law_q", "_law_pick"] (defScope s__law_signs) ["_law_k", "_law_at", "_law_script"] [none, some 1, some 0] { kind := ScopeKind.function, names := [(".0", NameKind.local), ("_law_k", NameKind.local), ("_law_draw", NameKind.globalImplicit), ("_law_at", NameKind.free), ("_law_script", NameKind.free)], isGenerator := false, isCoroutine := false, more := [] } := ⟨rfl, by decide +kernel, by decide +kernel, by decide +kernel, by decide +kernel, rfl, by decide +kernel⟩
theorem sc__law_machine : FnScope ["_law_script", "_law_at", "_law_most", "_law_widest", "_law_many", "_law_wide", "_law_way", "_law_half", "_law_rows", "_law_q", "_law_row"] ["_law_script", "_law_at", "_law_most", "_law_widest"] (defScope s__law_machine) := ⟨rfl, rfl, rfl, by decide +kernel, rfl, by decide +kernel, by decide +kernel⟩
theorem bk__law_machine_0 : BlkScope ["_law_script", "_law_at", "_law_most", "_law_widest", "_law_many", "_law_wide", "_law_way", "_law_half", "_law_rows", "_law_q", "_law_row"] (defScope s__law_machine) ["_law_f", "_law_at", "_law_half", "_law_many", "_law_q", "_law_script", "_law_way", "_law_wide"] [none, some 1, some 7, some 4, some 9, some 0, some 6, some 5] { kind := ScopeKind.function, names := [(".0", NameKind.local), ("_law_f", NameKind.local), ("_law_there", NameKind.globalImplicit), ("_law_at", NameKind.free), ("_law_half", NameKind.free), ("_law_many", NameKind.free), ("_law_q", NameKind.free), ("_law_script", NameKind.free), ("_law_way", NameKind.free), ("_law_wide", NameKind.free)], isGenerator := false, isCoroutine := false, more := [] } := ⟨rfl, by decide +kernel, by decide +kernel, by decide +kernel, by decide +kernel, rfl, by decide +kernel⟩
theorem ok_draw (F : FunD K "_law_draw" "_law_draw" s__law_draw dV f fd) (z_len : mg "len" = none) : FnOk P w K mg base CX0 1 f fd ["_law_script", "_law_k"] (spDraw K) := by
  refine F.ok sc__law_draw (fun vs H Q E h => ?_) (fun cdv A outer s H vs Q E hr h => ?_)
  · obtain ⟨a, k, ns, rfl, _⟩ := h
    rfl
  obtain ⟨a, k, ns, rfl, hS, h63, h0, h1, q⟩ := h
  have hl : (ns.map V.int).length = ns.length := List.length_map _
  refine ⟨_, (pss_cons (ps_set (i := 2) sc__law_draw.nd rfl (Or.inl rfl) (pe_op op_add (pe_op op_mul pe_int (pv 1)) pe_int))
      (pss_cons (ps_if (pt_cmpR op_gt (pe_callB call_len_seq (by rfl) z_len bt_len (pa_cons (pv 0) pa_nil)) pe_int (nomark _)) (pss_one (ps_set (i := 2) sc__law_draw.nd rfl (Or.inl rfl) (pe_op op_add (pe_op op_add (pe_op op_mod (pe_ix ix_list (pv 0) (pe_op op_mod (pv 1) (pe_callB call_len_seq (by rfl) z_len bt_len (pa_cons (pv 0) pa_nil))) (fun _ _ => rfl)) pe_int) (pe_op op_mul (pe_op op_fdiv (pv 1) (pe_callB call_len_seq (by rfl) z_len bt_len (pa_cons (pv 0) pa_nil))) pe_int)) pe_int))) pss_nil)
      (pss_cons (ps_set (i := 2) sc__law_draw.nd rfl (Or.inl rfl) (pe_op op_mod (pe_op op_add (pe_op op_add (pe_op op_mul (pv 2) pe_int) (pe_op op_mul (pe_op op_mul (pv 1) (pv 1)) pe_int)) pe_int) pe_int))
      (pss_one (ps_ret (pe_op op_mod (pe_op op_mul (pv 2) (pv 2)) pe_int)))))), ?_⟩
  -- the end, whatever the cell is
  have fin : ∀ c : Int, (-(2 ^ 64) < k ∧ k < 2 ^ 64) → Q (.int (((c * 48271 + k * k * 16807 + 3) % 2147483647) * ((c * 48271 + k * k * 16807 + 3) % 2147483647) % 2147483629)) H := fun c _ => q _ (Int.emod_nonneg _ (by decide)) (Int.emod_lt_of_pos _ (by decide))
  have hk : -(2 ^ 64) < k ∧ k < 2 ^ 64 := ⟨by omega, by omega⟩
  have hc : ∀ c : Int, -(2 ^ 64) < (c * 48271 + k * k * 16807 + 3) % 2147483647 ∧ (c * 48271 + k * k * 16807 + 3) % 2147483647 < 2 ^ 64 := fun c => by
    have a1 := Int.emod_nonneg (c * 48271 + k * k * 16807 + 3) (show (2147483647 : Int) ≠ 0 by decide)
    have a2 := Int.emod_lt_of_pos (c * 48271 + k * k * 16807 + 3) (show (0 : Int) < 2147483647 by decide)
    exact ⟨by omega, by omega⟩
  refine ⟨_, rfl, _, _, rfl, rfl, .inl ⟨by decide, by decide⟩, _, _, rfl, rfl, ?_⟩
  refine ⟨_, rfl, a, _, rfl, .inl hS, _, _, rfl, rfl, _, rfl, ?_⟩
  refine ite2 (fun c => ?_) (fun c => ?_)
  · have c' : (0 : Int) < (((ns.map V.int).length : Nat) : Int) := of_decide_eq_true c
    rw [hl] at c'
    have c2 : (0 : Int) < (((ns.map V.int).length : Nat) : Int) := by rw [hl]; exact c'
    have c3 : (((ns.map V.int).length : Nat) : Int) < 1073741824 := by rw [hl]; omega
    have m0 := Int.emod_nonneg k (show (((ns.map V.int).length : Nat) : Int) ≠ 0 by omega)
    have m1 := Int.emod_lt_of_pos k c2
    refine ⟨_, rfl, _, rfl, _, rfl, a, _, rfl, .inl hS, _, _, rfl, rfl, c2, a, _, _, _, rfl, rfl, hS, atI_ints m0 (by rw [hl] at m1; rw [hl]; exact m1), _, _, rfl, rfl, (by show (0 : Int) < 2147483629; decide),
      _, rfl, _, rfl, a, _, rfl, .inl hS, _, _, rfl, rfl, ⟨c2, c3⟩, _, _, rfl, rfl, .inr ⟨by decide, by decide⟩, _, _, rfl, rfl, _, _, rfl, rfl, ?_⟩
    refine ⟨_, rfl, _, _, rfl, rfl, .inr ⟨by decide, by decide⟩, _, rfl, _, rfl, _, _, rfl, rfl, .inl hk, _, _, rfl, rfl, .inr ⟨by decide, by decide⟩, _, _, rfl, rfl, _, _, rfl, rfl, _, _, rfl, rfl, (by show (0 : Int) < 2147483647; decide), ?_⟩
    exact ⟨_, rfl, _, rfl, _, _, rfl, rfl, .inl (hc _), _, _, rfl, rfl, (by show (0 : Int) < 2147483629; decide), fin _ hk⟩
  · refine ⟨_, rfl, _, _, rfl, rfl, .inr ⟨by decide, by decide⟩, _, rfl, _, rfl, _, _, rfl, rfl, .inl hk, _, _, rfl, rfl, .inr ⟨by decide, by decide⟩, _, _, rfl, rfl, _, _, rfl, rfl, _, _, rfl, rfl, (by show (0 : Int) < 2147483647; decide), ?_⟩
    exact ⟨_, rfl, _, rfl, _, _, rfl, rfl, .inl (hc _), _, _, rfl, rfl, (by show (0 : Int) < 2147483629; decide), fin _ hk⟩

theorem ok_there (F : FunD K "_law_there" "_law_there" s__law_there dV f fd) (G__law_draw : DefOk P w K mg base "_law_draw" 1 ["_law_script", "_law_k"] [] (spDraw K)) (z_min : mg "min" = none) :
    FnOk P w K mg base CX0 2 f fd ["_law_script", "_law_at", "_law_place", "_law_way"] (spThere K) := by
  refine F.ok sc__law_there (fun vs H Q E h => ?_) (fun cdv A outer s H vs Q E hr h => ?_)
  · obtain ⟨a, p, at_, way, q, f, many, wide, half, ns, rfl, _⟩ := h
    rfl
  obtain ⟨a, p, at_, way, q, f', many, wide, half, ns, rfl, hS, h63, hp, ⟨at0, at1⟩, ⟨q0, q1⟩, ⟨f0, f1⟩, hm, hw, ⟨ha0, ha1⟩, k⟩ := h
  have sm : ∀ {x : Int}, 0 ≤ x → x ≤ 1000000 → -(2 ^ 64) < x ∧ x < 2 ^ 64 := fun h h' => ⟨by omega, by omega⟩
  have hqw := mul_in q0 (show q ≤ 1000 by omega) (show 0 ≤ wide by omega) hw
  have w1 : 0 < wide := by omega
  have hh1 : 0 < half := by omega
  have m1 : 0 < many := by omega
  refine ⟨_, (pss_cons (ps_asg (pv 2) (pg_lst rfl (pgs_cons (pg_name (i := 4) sc__law_there.nd rfl (Or.inl rfl)) (pgs_cons (pg_name (i := 5) sc__law_there.nd rfl (Or.inl rfl)) (pgs_cons (pg_name (i := 6) sc__law_there.nd rfl (Or.inl rfl)) (pgs_cons (pg_name (i := 7) sc__law_there.nd rfl (Or.inl rfl)) (pgs_cons (pg_name (i := 8) sc__law_there.nd rfl (Or.inl rfl)) pgs_nil)))))))
      (pss_cons (ps_set (i := 9) sc__law_there.nd rfl (Or.inl rfl) (pe_cd G__law_draw hr (pa_cons (pv 0) (pa_cons (pe_op op_add (pe_op op_add (pv 1) (pe_op op_mul (pv 4) (pv 7))) (pv 5)) pa_nil))))
      (pss_cons (ps_if (PW.pt (pw_and (pt_cmpR op_eq (pv 3) pe_int (nomark _)) (pw_and1 (pt_cmpR op_eq (pv 5) (pe_op op_mod (pe_op op_mul (pv 4) pe_int) (pv 7)) (nomark _))))) (pss_one (ps_ret (pe_callB (call_min2 rfl) (by rfl) z_min bt_min (pa_cons (pe_op op_add (pv 4) pe_int) (pa_cons (pe_op op_sub (pv 6) pe_int) pa_nil))))) pss_nil)
      (pss_cons (ps_if (pt_cmpR op_eq (pv 3) pe_int (nomark _)) (pss_one (ps_ret (pe_op op_mod (pv 9) (pe_op op_add (pv 4) pe_int)))) pss_nil)
      (pss_cons (ps_if (pt_cmpR op_eq (pv 3) pe_int (nomark _)) (pss_one (ps_ret (pe_op op_mod (pe_op op_add (pe_op op_mul (pv 4) (pv 7)) (pv 5)) (pv 6)))) pss_nil)
      (pss_cons (ps_if (pt_cmpR op_eq (pv 3) pe_int (nomark _)) (pss_cons (ps_set (i := 10) sc__law_there.nd rfl (Or.inl rfl) (pe_op op_mod (pe_cd G__law_draw hr (pa_cons (pv 0) (pa_cons (pe_op op_add (pe_op op_add (pv 1) (pe_op op_mul (pe_op op_mod (pv 4) (pv 8)) (pv 7))) (pv 5)) pa_nil))) (pv 8)))
      (pss_cons (ps_if (PW.pt (pw_and (pt_cmpR op_eq (pe_op op_mod (pe_op op_fdiv (pv 9) pe_int) pe_int) pe_int (nomark _)) (pw_and1 (pt_cmpR op_lt (pe_op op_add (pv 10) (pv 8)) (pv 6) (nomark _))))) (pss_one (ps_ret (pe_op op_add (pv 10) (pv 8)))) pss_nil)
      (pss_one (ps_ret (pv 10))))) pss_nil)
      (pss_cons (ps_if (PW.pt (pw_and (pt_cmpR op_eq (pv 3) pe_int (nomark _)) (pw_and1 (pt_cmpR op_lt (pv 4) (pv 8) (nomark _))))) (pss_one (ps_ret (pe_op op_mod (pv 9) (pv 8)))) pss_nil)
      (pss_one (ps_ret (pe_op op_mod (pv 9) (pv 6))))))))))), ?_⟩
  refine ⟨_, rfl, p, _, rfl, SqL.of hp, rfl, _, _, rfl, _, _, rfl, _, _, rfl, _, _, rfl, _, _, rfl, rfl, ?_⟩
  refine ⟨_, rfl, _, rfl, _, rfl, _, rfl, _, _, rfl, rfl, .inl (sm q0 (by omega)), _, _, rfl, rfl, _, rfl, _, _, rfl, rfl, a, _, ns, rfl, hS, h63, by omega, by omega, fun nu n0 n1 => ?_⟩
  have r1 := mod_in (a := nu) (b := q + 1) (by omega)
  have r2 := mod_in (a := q * wide + f') (b := many) m1
  have r4 := mod_in (a := nu) (b := half) hh1
  have r5 := mod_in (a := nu) (b := many) m1
  have r6 := mod_in (a := q) (b := half) hh1
  have hqh := mul_in r6.1 (show q % half ≤ 1000 by omega) (show 0 ≤ wide by omega) hw
  -- the way of the chain, where the figure isn't the one that leads on; and all other ways
  refine ⟨_, rfl, rfl, _, rfl, iteI (fun c1 => ?_) (fun c1 => ?_)⟩
  · refine ⟨_, rfl, _, rfl, _, _, rfl, rfl, .inr ⟨by decide, by decide⟩, _, rfl, _, _, rfl, rfl, w1, rfl, _, rfl, iteI (fun c2 => ?_) (fun c2 => ?_)⟩
    · refine ⟨_, rfl, _, _, rfl, rfl, _, rfl, _, _, rfl, rfl, _, _, rfl, ?_⟩
      refine k _ ?_ ?_
      · split <;> omega
      · split <;> omega
    · refine ⟨_, rfl, rfl, _, rfl, iteI (fun c3 => ?_) (fun c3 => absurd c1 c3)⟩
      exact ⟨_, rfl, _, rfl, _, _, rfl, rfl, _, _, rfl, rfl, (by omega), k _ r1.1 (by omega)⟩
  · refine iteF ?_
    refine ⟨_, rfl, rfl, _, rfl, iteI (fun c3 => absurd c3 c1) (fun c3 => ?_)⟩
    refine ⟨_, rfl, rfl, _, rfl, iteI (fun c4 => ?_) (fun c4 => ?_)⟩
    · exact ⟨_, rfl, _, rfl, _, _, rfl, rfl, .inl (sm q0 (by omega)), _, rfl, _, _, rfl, rfl, _, rfl, _, _, rfl, rfl, m1, k _ r2.1 r2.2⟩
    refine ⟨_, rfl, rfl, _, rfl, iteI (fun c5 => ?_) (fun c5 => ?_)⟩
    · refine ⟨_, rfl, _, rfl, _, rfl, _, rfl, _, _, rfl, rfl, hh1, _, rfl, _, _, rfl, rfl, .inl (sm r6.1 (by omega)), _, _, rfl, rfl, _, rfl, _, _, rfl, rfl, a, _, ns, rfl, hS, h63, by omega, by omega, fun th t0 t1 => ?_⟩
      have r7 := mod_in (a := th) (b := half) hh1
      refine ⟨_, rfl, _, _, rfl, rfl, hh1, ?_⟩
      refine ⟨_, rfl, _, _, rfl, rfl, ⟨by decide, by decide⟩, _, _, rfl, rfl, (by show (0 : Int) < 2; decide), rfl, _, rfl, iteI (fun c6 => ?_) (fun c6 => ?_)⟩
      · refine ⟨_, rfl, _, rfl, _, _, rfl, rfl, _, rfl, _, _, rfl, rfl, _, rfl, iteD (fun c7 => ?_) (fun c7 => ?_)⟩
        · exact ⟨_, rfl, _, rfl, _, _, rfl, rfl, k _ (by omega) c7⟩
        · exact ⟨_, rfl, k _ r7.1 (by omega)⟩
      · refine iteF ?_
        exact ⟨_, rfl, k _ r7.1 (by omega)⟩
    refine ⟨_, rfl, rfl, _, rfl, iteI (fun c6 => ?_) (fun c6 => ?_)⟩
    · refine ⟨_, rfl, _, rfl, _, _, rfl, rfl, _, rfl, iteD (fun c7 => ?_) (fun c7 => ?_)⟩
      · exact ⟨_, rfl, _, rfl, _, _, rfl, rfl, hh1, k _ r4.1 (by omega)⟩
      · exact ⟨_, rfl, _, rfl, _, _, rfl, rfl, m1, k _ r5.1 r5.2⟩
    · refine iteF ?_
      exact ⟨_, rfl, _, rfl, _, _, rfl, rfl, m1, k _ r5.1 r5.2⟩

theorem ok_signs (F : FunD K "_law_signs" "_law_signs" s__law_signs dV f fd) (G__law_draw : DefOk P w K mg base "_law_draw" 1 ["_law_script", "_law_k"] [] (spDraw K)) (z_range : mg "range" = none) (z_int : mg "int" = none) (z_tuple : mg "tuple" = none) :
    FnOk P w K mg base CX0 2 f fd ["_law_script", "_law_at", "_law_many", "_law_half", "_law_way"] (spSigns K) := by
  refine F.ok sc__law_signs (fun vs H Q E h => ?_) (fun cdv A outer s H vs Q E hr h => ?_)
  · obtain ⟨a, at_, many, half, way, ns, rfl, _⟩ := h
    rfl
  obtain ⟨a, at_, many, half, way, ns, rfl, hS, h63, ⟨at0, at1⟩, ⟨m0, m1⟩, ⟨ha0, ha1⟩, k⟩ := h
  refine ⟨_, (pss_cons (ps_setComp (i := 5) rfl sc__law_signs.nd rfl (Or.inl rfl) bk__law_signs_0 (pi_range1 rfl z_range (pa_cons pe_int pa_nil)) (fun _ _ _ _ => (pg_name (i := 0) bk__law_signs_0.nd rfl (Or.inl rfl))) (fun _ _ _ _ => (pe_op op_mod (pe_cd G__law_draw hr (pa_cons (pv 2) (pa_cons (pe_op op_add (pv 1) (pv 0)) pa_nil))) pe_int)))
      (pss_cons (ps_if (pt_cmpR op_eq (pe_op op_mod (pe_cd G__law_draw hr (pa_cons (pv 0) (pa_cons (pe_op op_add (pv 1) pe_int) pa_nil))) pe_int) pe_int (nomark _)) (pss_one (ps_set (i := 5) sc__law_signs.nd rfl (Or.inl rfl) (pe_lst (pa_cons pe_int (pa_cons pe_int (pa_cons pe_int pa_nil)))))) pss_nil)
      (pss_cons (ps_set (i := 6) sc__law_signs.nd rfl (Or.inl rfl) (pe_lst pa_nil))
      (pss_cons (ps_for PassesOwn.never rfl (pi_range1 rfl z_range (pa_cons (pv 2) pa_nil)) (pg_name (i := 7) sc__law_signs.nd rfl (Or.inl rfl)) (pss_cons (ps_set (i := 8) sc__law_signs.nd rfl (Or.inl rfl) (pe_op op_mod (pe_cd G__law_draw hr (pa_cons (pv 0) (pa_cons (pe_op op_add (pe_op op_add (pv 1) pe_int) (pv 7)) pa_nil))) pe_int))
      (pss_cons (ps_if (pt_cmpR op_eq (pv 4) pe_int (nomark _)) (pss_one (ps_set (i := 8) sc__law_signs.nd rfl (Or.inl rfl) (pe_callTy call_int1 (by rfl) z_int bt_int (pa_cons (pe_cmpR op_eq (pv 7) (pe_op op_sub (pv 2) pe_int) (nomark _)) pa_nil)))) pss_nil)
      (pss_cons (ps_if (pt_cmpR op_eq (pv 4) pe_int (nomark _)) (pss_one (ps_set (i := 8) sc__law_signs.nd rfl (Or.inl rfl) (pe_op op_mod (pe_cd G__law_draw hr (pa_cons (pv 0) (pa_cons (pe_op op_add (pe_op op_add (pv 1) pe_int) (pe_op op_mod (pv 7) (pv 3))) pa_nil))) pe_int))) pss_nil)
      (pss_one (ps_expr (pe_bm PySem.F.plainAttrs_list PySem.F.slot_list_append PySem.F.type_list_append mt_append (pv 6) (pa_cons (pe_ix ix_list (pv 5) (pv 8) (fun _ _ => rfl)) pa_nil))))))))
      (pss_one (ps_ret (pe_callTy call_tuple_of (by rfl) z_tuple bt_tuple (pa_cons (pv 6) pa_nil)))))))), ?_⟩
  -- menu = [.. for k in range(3)]
  refine ⟨3, rfl, by decide, by decide, ?_⟩
  refine comp_range (n := 3) (fun D i ys H' => Same H H' ∧ ys.length = i ∧ IntsIn 0 1000000 ys) (fun D hD => ⟨same_new hD _, rfl, IntsIn.nil⟩) ?_ ?_
  · rintro D i ys H' Q' hD hi hy ⟨hs, hl, hall⟩ k'
    refine ⟨_, rfl, _, rfl, _, rfl, _, _, rfl, rfl, a, _, ns, rfl, hs.seq hS, h63, by omega, by omega, fun v v0 v1 => ?_⟩
    have r := mod_in (a := v) (b := 1000000) (by decide)
    refine ⟨_, _, rfl, rfl, (by show (0 : Int) < 1000000; decide), k' _ H' hy (small1000 (by omega)) ⟨same_upd hs hD, by simp [hl], hall.snoc r.1 r.2⟩⟩
  rintro M ys H1 hM0 hM ⟨hs1, hl1, hall1⟩
  -- if ..: menu = [0, 1, 1]
  try dsimp only [gName]
  refine cut_seq (t := tIfS _ _ _) (fun σ' H' => ∃ M ys, σ' = [some (.ref a), some (.int at_), some (.int many), some (.int half), some (.int way), some (.ref M), none, none, none] ∧ H M = none ∧ Same H H' ∧ H' M = some (.lst ys) ∧ ys.length = 3 ∧ IntsIn 0 1000000 ys) ?_ (fun nxt => ?_)
  rotate_left
  · refine ⟨_, rfl, _, rfl, _, _, rfl, rfl, a, _, ns, rfl, hs1.seq hS, h63, by omega, by omega, fun v v0 v1 => ?_⟩
    refine ⟨_, _, rfl, rfl, (by show (0 : Int) < 2; decide), rfl, _, rfl, iteI (fun c => ?_) (fun c => ?_)⟩
    · refine ⟨(by show 3 ≤ sizeLine; decide), fun M2 hM2 => ?_⟩
      have fr : H M2 = none := hs1.free hM2
      refine nxt _ _ ⟨M2, _, rfl, fr, hs1.trans (same_new hM2 _), upd_same, rfl, ?_⟩
      exact ((IntsIn.nil.snoc (v := 0) (by decide) (by decide)).snoc (v := 1) (by decide) (by decide)).snoc (v := 1) (by decide) (by decide)
    · exact nxt _ _ ⟨M, ys, rfl, hM0, hs1, hM, hl1, hall1⟩
  rintro σ' H2 ⟨M, ys, rfl, hM0, hs2, hM2, hl2, hall2⟩
  obtain ⟨menu, rfl, hmenu⟩ := hall2.ints
  rw [List.length_map] at hl2
  -- found = []
  refine ⟨(by show 0 ≤ sizeLine; decide), fun Fo hFo => ?_⟩
  have fr : H Fo = none := hs2.free hFo
  have nMF : M ≠ Fo := ne_of_none hM2 hFo
  -- for q in range(many)
  refine ⟨_, rfl, many, rfl, by omega, by omega, for_range (fun i σ' H' => ∃ (fs : List V) (v1 v2 : Option V), σ' = [some (.ref a), some (.int at_), some (.int many), some (.int half), some (.int way), some (.ref M), some (.ref Fo), v1, v2] ∧ Same H H' ∧ H' M = some (.lst (menu.map V.int)) ∧ H' Fo = some (.lst fs) ∧ fs.length = i ∧ IntsIn 0 1000000 fs)
    ⟨[], none, none, rfl, same_upd hs2 fr, by rw [upd_ne nMF]; exact hM2, upd_same, rfl, IntsIn.nil⟩ ?_ ?_⟩
  · rintro i σ' H3 hi ⟨fs, v1, v2, rfl, hs3, hM3, hF3, hl3, hall3⟩
    have hq : (0 : Int) ≤ 0 + (i : Int) ∧ (0 : Int) + (i : Int) < many := by omega
    have r6 := mod_in (a := 0 + (i : Int)) (b := half) (by omega)
    try dsimp only [gName]
    refine cut_seq (t := tAsg _ _) (fun σ'' H' => ∃ pk : Int, σ'' = [some (.ref a), some (.int at_), some (.int many), some (.int half), some (.int way), some (.ref M), some (.ref Fo), some (.int (0 + i)), some (.int pk)] ∧ H' = H3 ∧ 0 ≤ pk ∧ pk < 3) ?_ (fun nxt => ?_)
    rotate_left
    · refine ⟨_, rfl, _, rfl, _, _, rfl, rfl, _, rfl, _, _, rfl, rfl, a, _, ns, rfl, hs3.seq hS, h63, by omega, by omega, fun v v0 v1 => ?_⟩
      have r := mod_in (a := v) (b := 3) (by decide)
      exact ⟨_, _, rfl, rfl, (by show (0 : Int) < 3; decide), nxt _ _ ⟨_, rfl, rfl, r.1, r.2⟩⟩
    rintro σ'' H4 ⟨pk, rfl, rfl, p0, p1⟩
    try dsimp only [gName]
    refine cut_seq (t := tIfS _ _ _) (fun σ'' H' => ∃ pk : Int, σ'' = [some (.ref a), some (.int at_), some (.int many), some (.int half), some (.int way), some (.ref M), some (.ref Fo), some (.int (0 + i)), some (.int pk)] ∧ H' = H4 ∧ 0 ≤ pk ∧ pk < 3) ?_ (fun nxt => ?_)
    rotate_left
    · refine ⟨_, rfl, rfl, _, rfl, iteI (fun c => ?_) (fun c => ?_)⟩
      · refine ⟨_, rfl, _, rfl, _, _, rfl, rfl, rfl, .inr ⟨_, rfl, nxt _ _ ⟨_, rfl, rfl, ?_, ?_⟩⟩⟩
        · split <;> decide
        · split <;> decide
      · exact nxt _ _ ⟨pk, rfl, rfl, p0, p1⟩
    rintro σ'' H5 ⟨pk, rfl, rfl, p0, p1⟩
    try dsimp only [gName]
    refine cut_seq (t := tIfS _ _ _) (fun σ'' H' => ∃ pk : Int, σ'' = [some (.ref a), some (.int at_), some (.int many), some (.int half), some (.int way), some (.ref M), some (.ref Fo), some (.int (0 + i)), some (.int pk)] ∧ H' = H5 ∧ 0 ≤ pk ∧ pk < 3) ?_ (fun nxt => ?_)
    rotate_left
    · refine ⟨_, rfl, rfl, _, rfl, iteI (fun c => ?_) (fun c => ?_)⟩
      · refine ⟨_, rfl, _, rfl, _, _, rfl, rfl, _, rfl, _, rfl, _, _, rfl, rfl, (by omega), _, _, rfl, rfl, a, _, ns, rfl, hs3.seq hS, h63, by omega, by omega, fun v v0 v1 => ?_⟩
        have r := mod_in (a := v) (b := 3) (by decide)
        exact ⟨_, _, rfl, rfl, (by show (0 : Int) < 3; decide), nxt _ _ ⟨_, rfl, rfl, r.1, r.2⟩⟩
      · exact nxt _ _ ⟨pk, rfl, rfl, p0, p1⟩
    rintro σ'' H6 ⟨pk, rfl, rfl, p0, p1⟩
    have hp : pk.toNat < menu.length := by omega
    refine ⟨_, rfl, .inl ⟨rfl, _, SqL.of hF3⟩, _, rfl, _, rfl, M, _, _, _, rfl, rfl, SqL.of hM3, atI_ints p0 (by omega), Fo, _, _, rfl, rfl, hF3, small1000 (by omega), ?_⟩
    have hz := hmenu _ (List.getElem_mem hp)
    refine ⟨_, _, _, rfl, same_upd hs3 fr, by rw [upd_ne nMF]; exact hM3, upd_same, by simp [hl3], ?_⟩
    rw [getD_at hp]
    exact hall3.snoc hz.1 hz.2
  · rintro σ' H3 ⟨fs, v1, v2, rfl, hs3, hM3, hF3, hl3, hall3⟩
    refine ⟨_, rfl, Fo, _, rfl, .inl ⟨SqL.of hF3, fun p hp => ?_⟩⟩
    obtain ⟨signs, rfl, hz⟩ := hall3.ints
    rw [List.length_map] at hl3
    exact k p _ signs (hs3.trans (same_new hp _)) upd_same (by omega) hz

theorem ok_machine (F : FunD K "_law_machine" "_law_machine" s__law_machine dV f fd) (G__law_draw : DefOk P w K mg base "_law_draw" 1 ["_law_script", "_law_k"] [] (spDraw K))
    (G__law_there : DefOk P w K mg base "_law_there" 2 ["_law_script", "_law_at", "_law_place", "_law_way"] [] (spThere K)) (G__law_signs : DefOk P w K mg base "_law_signs" 2 ["_law_script", "_law_at", "_law_many", "_law_half", "_law_way"] [] (spSigns K))
    (z_range : mg "range" = none) (z_tuple : mg "tuple" = none) :
    FnOk P w K mg base CX0 3 f fd ["_law_script", "_law_at", "_law_most", "_law_widest"] (spMachine K) := by
  refine F.ok sc__law_machine (fun vs H Q E h => ?_) (fun cdv A outer s H vs Q E hr h => ?_)
  · obtain ⟨a, at_, most, widest, ns, rfl, _⟩ := h
    rfl
  obtain ⟨a, at_, most, widest, ns, rfl, hS, h63, ⟨at0, at1⟩, ⟨m0, m1⟩, ⟨w0, w1⟩, k⟩ := h
  refine ⟨_, (pss_cons (ps_set (i := 4) sc__law_machine.nd rfl (Or.inr rfl) (pe_op op_add pe_int (pe_op op_mod (pe_cd G__law_draw hr (pa_cons (pv 0) (pa_cons (pv 1) pa_nil))) (pv 2))))
      (pss_cons (ps_set (i := 5) sc__law_machine.nd rfl (Or.inr rfl) (pe_op op_add pe_int (pe_op op_mod (pe_cd G__law_draw hr (pa_cons (pv 0) (pa_cons (pe_op op_add (pv 1) pe_int) pa_nil))) (pv 3))))
      (pss_cons (ps_set (i := 6) sc__law_machine.nd rfl (Or.inr rfl) (pe_op op_mod (pe_cd G__law_draw hr (pa_cons (pv 0) (pa_cons (pe_op op_add (pv 1) pe_int) pa_nil))) pe_int))
      (pss_cons (ps_set (i := 7) sc__law_machine.nd rfl (Or.inr rfl) (pe_op op_fdiv (pe_op op_add (pv 4) pe_int) pe_int))
      (pss_cons (ps_set (i := 8) sc__law_machine.nd rfl (Or.inl rfl) (pe_lst pa_nil))
      (pss_cons (ps_for PassesOwn.never rfl (pi_range1 rfl z_range (pa_cons (pv 4) pa_nil)) (pg_name (i := 9) sc__law_machine.nd rfl (Or.inr rfl)) (pss_cons (ps_setComp (i := 10) rfl sc__law_machine.nd rfl (Or.inl rfl) bk__law_machine_0 (pi_range1 rfl z_range (pa_cons (pv 5) pa_nil)) (fun _ _ _ _ => (pg_name (i := 0) bk__law_machine_0.nd rfl (Or.inl rfl))) (fun _ _ _ _ => (pe_cd G__law_there hr (pa_cons (pv 5) (pa_cons (pe_op op_add (pv 1) pe_int) (pa_cons (pe_lst (pa_cons (pv 4) (pa_cons (pv 0) (pa_cons (pv 3) (pa_cons (pv 7) (pa_cons (pv 2) pa_nil)))))) (pa_cons (pv 6) pa_nil)))))))
      (pss_one (ps_expr (pe_bm PySem.F.plainAttrs_list PySem.F.slot_list_append PySem.F.type_list_append mt_append (pv 8) (pa_cons (pe_callTy call_tuple_of (by rfl) z_tuple bt_tuple (pa_cons (pv 10) pa_nil)) pa_nil))))))
      (pss_one (ps_ret (pe_tup (pa_cons (pv 5) (pa_cons (pe_callTy call_tuple_of (by rfl) z_tuple bt_tuple (pa_cons (pv 8) pa_nil)) (pa_cons (pe_cd G__law_signs hr (pa_cons (pv 0) (pa_cons (pe_op op_add (pv 1) pe_int) (pa_cons (pv 4) (pa_cons (pv 7) (pa_cons (pv 6) pa_nil)))))) pa_nil)))))))))))), ?_⟩
  -- many
  try dsimp only [gName]
  refine cut_seq (t := tAsg _ _) (fun σ' H' => ∃ many : Nat, σ' = [some (.ref a), some (.int at_), some (.int most), some (.int widest), some (.int many), none, none, none, none, none, none] ∧ H' = H ∧ 1 ≤ many ∧ (many : Int) ≤ most) ?_ (fun nxt => ?_)
  rotate_left
  · refine ⟨_, rfl, _, rfl, a, _, ns, rfl, hS, h63, by omega, by omega, fun v v0 v1 => ?_⟩
    have r := mod_in (a := v) (b := most) (by omega)
    obtain ⟨n, e⟩ := nat_of (x := 1 + v % most) (by omega)
    refine ⟨_, rfl, _, _, rfl, rfl, (by omega), _, _, rfl, rfl, nxt _ _ ⟨n, ?_, rfl, by omega, by omega⟩⟩
    rw [← e]
    rfl
  rintro σ' H' ⟨many, rfl, rfl, n0, n1⟩
  -- wide
  try dsimp only [gName]
  refine cut_seq (t := tAsg _ _) (fun σ' H'' => ∃ wide : Nat, σ' = [some (.ref a), some (.int at_), some (.int most), some (.int widest), some (.int many), some (.int wide), none, none, none, none, none] ∧ H'' = H' ∧ 1 ≤ wide ∧ (wide : Int) ≤ widest) ?_ (fun nxt => ?_)
  rotate_left
  · refine ⟨_, rfl, _, rfl, _, _, rfl, rfl, a, _, ns, rfl, hS, h63, by omega, by omega, fun v v0 v1 => ?_⟩
    have r := mod_in (a := v) (b := widest) (by omega)
    obtain ⟨n, e⟩ := nat_of (x := 1 + v % widest) (by omega)
    refine ⟨_, rfl, _, _, rfl, rfl, (by omega), _, _, rfl, rfl, nxt _ _ ⟨n, ?_, rfl, by omega, by omega⟩⟩
    rw [← e]
    rfl
  rintro σ' H' ⟨wide, rfl, rfl, k0, k1⟩
  -- way
  try dsimp only [gName]
  refine cut_seq (t := tAsg _ _) (fun σ' H'' => ∃ way : Int, σ' = [some (.ref a), some (.int at_), some (.int most), some (.int widest), some (.int many), some (.int wide), some (.int way), none, none, none, none] ∧ H'' = H') ?_ (fun nxt => ?_)
  rotate_left
  · refine ⟨_, rfl, _, rfl, _, _, rfl, rfl, a, _, ns, rfl, hS, h63, by omega, by omega, fun v v0 v1 => ?_⟩
    exact ⟨_, _, rfl, rfl, (by show (0 : Int) < 6; decide), nxt _ _ ⟨_, rfl, rfl⟩⟩
  rintro σ' H' ⟨way, rfl, rfl⟩
  -- half
  try dsimp only [gName]
  refine cut_seq (t := tAsg _ _) (fun σ' H'' => ∃ half : Int, σ' = [some (.ref a), some (.int at_), some (.int most), some (.int widest), some (.int many), some (.int wide), some (.int way), some (.int half), none, none, none] ∧ H'' = H' ∧ 1 ≤ half ∧ half ≤ (many : Int)) ?_ (fun nxt => ?_)
  rotate_left
  · exact ⟨_, rfl, _, _, rfl, rfl, _, _, rfl, rfl, ⟨by decide, by decide⟩, nxt _ _ ⟨_, rfl, rfl, by omega, by omega⟩⟩
  rintro σ' H' ⟨half, rfl, rfl, g0, g1⟩
  -- rows = []
  refine ⟨(by show 0 ≤ sizeLine; decide), fun R hR => ?_⟩
  -- for q in range(many)
  refine ⟨_, rfl, (many : Int), rfl, by omega, by omega, for_range (fun i σ' H'' => ∃ (ras : List Addr) (rws : List (List Int)) (v1 v2 : Option V),
      σ' = [some (.ref a), some (.int at_), some (.int most), some (.int widest), some (.int many), some (.int wide), some (.int way), some (.int half), some (.ref R), v1, v2] ∧ Same H' H'' ∧ H'' R = some (.lst (ras.map V.ref)) ∧ RowsAt H'' ras rws ∧ (∀ r ∈ rws, r.length = wide) ∧ (∀ r ∈ rws, ∀ v ∈ r, 0 ≤ v ∧ v < (many : Int)) ∧ rws.length = i)
    ⟨[], [], none, none, rfl, same_new hR _, upd_same, .nil, (fun r h => by cases h), (fun r h => by cases h), rfl⟩ ?_ ?_⟩
  · rintro i σ' H3 hi ⟨ras, rws, v1, v2, rfl, hs3, hR3, hA3, hl3, hv3, hn3⟩
    have hi' : (i : Int) < many := by omega
    have lenR : ras.length = i := by rw [hA3.length]; exact hn3
    -- row = [..]
    refine ⟨_, rfl, (wide : Int), rfl, by omega, by omega, ?_⟩
    refine comp_range (fun D j ys H'' => Same H3 H'' ∧ ys.length = j ∧ IntsIn 0 many ys) (fun D hD => ⟨same_new hD _, rfl, IntsIn.nil⟩) ?_ ?_
    · rintro D j ys H4 Q' hD hj hy ⟨hs4, hl4, hall4⟩ k'
      have hj' : (j : Int) < wide := by omega
      refine ⟨_, rfl, _, rfl, _, _, rfl, rfl, _, rfl, _, rfl, _, rfl, _, rfl, _, rfl, (by show 5 ≤ sizeLine; decide), fun pl hpl => ?_⟩
      have nD : D ≠ pl := ne_of_none hy hpl
      refine ⟨_, rfl, a, pl, _, way, _, _, _, _, half, ns, rfl, (hs3.trans (hs4.trans (same_new hpl _))).seq hS, h63, upd_same, ⟨by omega, by omega⟩, ⟨by omega, by omega⟩, ⟨by omega, by omega⟩, by omega, by omega, ⟨g0, g1⟩, fun v v0 v1 => ?_⟩
      have n3 : H3 pl = none := hs4.free hpl
      exact k' _ _ (by rw [upd_ne nD]; exact hy) (small1000 (by omega)) ⟨same_upd (same_upd hs4 n3) hD, by simp [hl4], hall4.snoc v0 v1⟩
    rintro W ys H4 hW0 hW ⟨hs4, hl4, hall4⟩
    obtain ⟨row, rfl, hrow⟩ := hall4.ints
    rw [List.length_map] at hl4
    -- rows.append(tuple(row))
    have hR4 := hs4 _ _ hR3
    refine ⟨_, rfl, .inl ⟨rfl, _, SqL.of hR4⟩, _, rfl, W, _, rfl, .inl ⟨SqL.of hW, fun tp htp => ?_⟩⟩
    have nR : R ≠ tp := ne_of_none hR4 htp
    have fR : H' R = none := hR
    refine ⟨R, _, _, rfl, rfl, by rw [upd_ne nR]; exact hR4, small1000 (by rw [List.length_map]; omega), ?_⟩
    have sT : ∀ b xs, H3 b = some (.tup xs) → (upd (upd H4 tp (.tup (row.map V.int))) R (.lst (ras.map V.ref ++ [V.ref tp]))) b = some (.tup xs) := fun b xs e => by
      have e4 := hs4 _ _ e
      rw [upd_ne (ne_of e4 hR4 (by intro z; cases z)), upd_ne (ne_of_none e4 htp)]
      exact e4
    refine ⟨ras ++ [tp], rws ++ [row], _, _, rfl, same_upd (same_upd (hs3.trans hs4) ((hs3.trans hs4).free htp)) fR, ?_, RowsAt.snoc (hA3.same sT) ?_, ?_, ?_, by simp [hn3]⟩
    · rw [upd_same, List.map_append]; rfl
    · rw [upd_ne (Ne.symm nR), upd_same]
    · intro r hr'
      rcases List.mem_append.mp hr' with z | z
      · exact hl3 r z
      · rw [List.mem_singleton.mp z]; omega
    · intro r hr'
      rcases List.mem_append.mp hr' with z | z
      · exact hv3 r z
      · rw [List.mem_singleton.mp z]; exact hrow
  · rintro σ' H3 ⟨ras, rws, v1, v2, rfl, hs3, hR3, hA3, hl3, hv3, hn3⟩
    refine ⟨_, rfl, _, rfl, R, _, rfl, .inl ⟨SqL.of hR3, fun rt hrt => ?_⟩⟩
    have s4 : Same H' (upd H3 rt (.tup (ras.map V.ref))) := hs3.trans (same_new hrt _)
    refine ⟨_, rfl, _, rfl, _, _, rfl, rfl, _, rfl, _, rfl, _, rfl, a, _, _, half, way, ns, rfl, s4.seq hS, h63, ⟨by omega, by omega⟩, ⟨by omega, by omega⟩, ⟨g0, g1⟩, fun g H5 signs hs5 hg hlen hz => ?_⟩
    refine ⟨(by show 3 ≤ sizeLine; decide), fun m hm => ?_⟩
    have s6 := same_new hm (HO.tup [V.int wide, V.ref rt, V.ref g])
    have s5' : Same H3 H5 := (same_new hrt _).trans hs5
    refine k m rt g _ many wide rws signs (s4.trans (hs5.trans s6)) ⟨upd_same, ⟨ras, s6 _ _ (hs5 _ _ upd_same), (hA3.same fun b xs e => s6 _ _ (s5' _ _ e))⟩, s6 _ _ hg⟩ ⟨by omega, hl3, hv3⟩ (by omega) hz n0 n1 k0 k1
end
end My

set_option Elab.async false
set_option linter.all false
set_option maxRecDepth 100000
set_option maxHeartbeats 8000000
namespace My
open PySem L2
/-! ### the rooms that rows lead to: the program -/
def Reach (wide : Nat) (rows : List (List Int)) (q : Int) : Prop := ∃ row : List Int, (∀ f ∈ row, 0 ≤ f ∧ f < (wide : Int)) ∧ walkI rows row 0 = q
theorem Reach.zero {wide : Nat} {rows : List (List Int)} : Reach wide rows 0 := ⟨[], (fun f h => by cases h), rfl⟩
theorem Reach.step {wide : Nat} {rows : List (List Int)} {q f : Int} (h : Reach wide rows q) (f0 : 0 ≤ f) (f1 : f < (wide : Int)) : Reach wide rows (stepI rows q f) := by
  obtain ⟨row, hr, rfl⟩ := h
  refine ⟨row ++ [f], fun g hg => ?_, by rw [walkI_append]; rfl⟩
  rcases List.mem_append.mp hg with z | z
  · exact hr g z
  · rw [List.mem_singleton.mp z]; exact ⟨f0, f1⟩
theorem Reach.of {wide : Nat} {rows : List (List Int)} {S : Int → Prop} (h0 : S 0) (hs : ∀ q, S q → ∀ f, 0 ≤ f → f < (wide : Int) → S (stepI rows q f)) {q : Int} (h : Reach wide rows q) : S q := by
  obtain ⟨row, hr, rfl⟩ := h
  have go : ∀ (row : List Int) (p : Int), (∀ f ∈ row, 0 ≤ f ∧ f < (wide : Int)) → S p → S (walkI rows row p) := by
    intro row
    induction row with
    | nil => intro p _ hp; exact hp
    | cons f r ih => intro p hr hp; exact ih (stepI rows p f) (fun g hg => hr g (List.mem_cons_of_mem _ hg)) (hs p hp f (hr f List.mem_cons_self).1 (hr f List.mem_cons_self).2)
  exact go row 0 hr h0
theorem len_split {α : Type} (p : α → Bool) : ∀ l : List α, l.length = (l.filter p).length + (l.filter fun x => !p x).length
  | [] => rfl
  | x :: l => by
    have ih := len_split p l
    cases e : p x
    · rw [List.filter_cons_of_neg (by rw [e]; decide), List.filter_cons_of_pos (by rw [e]; rfl), List.length_cons, List.length_cons]
      omega
    · rw [List.filter_cons_of_pos e, List.filter_cons_of_neg (by rw [e]; decide), List.length_cons, List.length_cons]
      omega
/-- different whole numbers below many are at most many -/
theorem few_below : ∀ (many : Nat) {ks : List Int}, ks.Nodup → (∀ q ∈ ks, 0 ≤ q ∧ q < (many : Int)) → ks.length ≤ many
  | 0, ks, _, h => by
    cases ks with
    | nil => exact Nat.le_refl _
    | cons q r => have := h q List.mem_cons_self; omega
  | many + 1, ks, nd, h => by
    have e : (ks.filter fun q => decide (q ≠ (many : Int))).length ≤ many := few_below many (nd.filter _) fun q hq => by
      have h1 := h q (List.mem_filter.mp hq).1
      have h2 : q ≠ (many : Int) := of_decide_eq_true (List.mem_filter.mp hq).2
      omega
    have c : (ks.filter fun q => !decide (q ≠ (many : Int))).length ≤ 1 := by
      have nd2 := nd.filter fun q => !decide (q ≠ (many : Int))
      have al : ∀ q ∈ ks.filter (fun q => !decide (q ≠ (many : Int))), q = (many : Int) := fun q hq => by
        have := (List.mem_filter.mp hq).2
        simpa using this
      match hm : ks.filter (fun q => !decide (q ≠ (many : Int))), nd2, al with
      | [], _, _ => exact Nat.zero_le _
      | [x], _, _ => exact Nat.le_refl _
      | x :: y :: r, nd2, al =>
        have h1 := al x List.mem_cons_self
        have h2 := al y (List.mem_cons_of_mem _ List.mem_cons_self)
        rw [h1, h2] at nd2
        exact absurd List.mem_cons_self (List.nodup_cons.mp nd2).1
    have t := len_split (fun q => decide (q ≠ (many : Int))) ks
    omega
def kvT (ks : List Int) : List (Key × V) := ks.map fun q => (Sum.inl q, V.bl true)
theorem kvT_val (ks : List Int) (q : Int) : (valV (kvT ks) (Sum.inl q)).isSome = decide (q ∈ ks) := by
  induction ks with
  | nil => rfl
  | cons k r ih =>
    by_cases e : k = q
    · subst e
      rw [show kvT (k :: r) = (Sum.inl k, V.bl true) :: kvT r from rfl, valV_pos rfl]
      simp
    · rw [show kvT (k :: r) = (Sum.inl k, V.bl true) :: kvT r from rfl, valV_neg (fun z => e (Sum.inl.inj z)), ih]
      simp [Ne.symm e]
theorem kvT_put {ks : List Int} {q : Int} (h : q ∉ ks) : putK (kvT ks) (Sum.inl q) (V.bl true) = kvT (ks ++ [q]) := by
  unfold putK
  rw [if_neg (by
    intro z
    obtain ⟨p, hp, e⟩ := List.any_eq_true.mp z
    obtain ⟨k, hk, rfl⟩ := List.mem_map.mp hp
    have := Sum.inl.inj (of_decide_eq_true e)
    exact h (this ▸ hk))]
  unfold kvT
  rw [List.map_append]
  rfl
end My

set_option Elab.async false
set_option linter.all false
set_option maxRecDepth 100000
set_option maxHeartbeats 8000000
namespace My
open PySem L2
def pushN (s : List Int) (x : Int) : List Int := if x ∈ s then s else s ++ [x]
/-- what a room's figures add to the rooms found -/
def growI (rows : List (List Int)) (s : List Int) (q : Int) : List Int := (rows.getD q.toNat []).foldl pushN s
theorem push_sub {s : List Int} {x y : Int} (h : y ∈ s) : y ∈ pushN s x := by
  unfold pushN
  split
  · exact h
  · exact List.mem_append_left _ h
theorem push_mem (s : List Int) (x : Int) : x ∈ pushN s x := by
  unfold pushN
  split
  · assumption
  · exact List.mem_append_right _ List.mem_cons_self
theorem pushes_sub : ∀ (xs : List Int) {s : List Int} {y : Int}, y ∈ s → y ∈ xs.foldl pushN s
  | [], _, _, h => h
  | x :: xs, _, _, h => pushes_sub xs (push_sub h)
theorem pushes_mem : ∀ (xs : List Int) {s : List Int} {y : Int}, y ∈ xs → y ∈ xs.foldl pushN s
  | [], _, _, h => by cases h
  | x :: xs, s, y, h => by
    rcases List.mem_cons.mp h with rfl | h
    · exact pushes_sub xs (push_mem s y)
    · exact pushes_mem xs h
theorem grows_sub (rows : List (List Int)) : ∀ (qs : List Int) {s : List Int} {y : Int}, y ∈ s → y ∈ qs.foldl (growI rows) s
  | [], _, _, h => h
  | q :: qs, _, _, h => grows_sub rows qs (pushes_sub _ h)
theorem grows_mem (rows : List (List Int)) : ∀ (qs : List Int) {s : List Int} {q y : Int}, q ∈ qs → y ∈ rows.getD q.toNat [] → y ∈ qs.foldl (growI rows) s
  | [], _, _, _, h, _ => by cases h
  | p :: qs, s, q, y, h, hy => by
    rcases List.mem_cons.mp h with rfl | h
    · exact grows_sub rows qs (pushes_mem _ hy)
    · exact grows_mem rows qs h hy
/-- the rooms that rows lead to, in the order in which they are found: each once, and each as the figures of those ahead of it first lead there -/
structure Bfs (many wide : Nat) (rows : List (List Int)) (qs : List Int) : Prop where
  eq : qs = qs.foldl (growI rows) [0]
  nd : qs.Nodup
  inr : ∀ q ∈ qs, 0 ≤ q ∧ q < (many : Int)
  re : ∀ q, q ∈ qs ↔ Reach wide rows q
def spReached (K : PySem.W.Frag) : Sp := fun vs H Q _ => ∃ (m r g : Addr) (many wide : Nat) (rows : List (List Int)) (signs : List Int), vs = [.ref m, .int 0] ∧ MachAt H m r g wide rows signs ∧ RowsOk many wide rows ∧ (1 ≤ many ∧ many ≤ 1000) ∧
  ∀ (l : Addr) (H' : Hp) (qs : List Int), Same H H' → H' l = some (.lst (qs.map V.int)) → Bfs many wide rows qs → Q (.ref l) H'
/-- rooms found so far (ks), those whose figures were looked at (dn), in their order -/
structure Found (many wide : Nat) (rows : List (List Int)) (dn ks : List Int) : Prop where
  eq : ks = dn.foldl (growI rows) [0]
  nd : ks.Nodup
  inr : ∀ q ∈ ks, 0 ≤ q ∧ q < (many : Int)
  re : ∀ q ∈ ks, Reach wide rows q
structure Part (many wide : Nat) (rows : List (List Int)) (dn : List Int) (xs : List Int) (ks : List Int) : Prop where
  eq : ks = xs.foldl pushN (dn.foldl (growI rows) [0])
  nd : ks.Nodup
  inr : ∀ q ∈ ks, 0 ≤ q ∧ q < (many : Int)
  re : ∀ q ∈ ks, Reach wide rows q
theorem Part.put {many wide : Nat} {rows : List (List Int)} {dn xs ks : List Int} {q : Int} (F : Part many wide rows dn xs ks) (h : q ∉ ks) (q0 : 0 ≤ q) (q1 : q < (many : Int)) (r : Reach wide rows q) : Part many wide rows dn (xs ++ [q]) (ks ++ [q]) where
  eq := by
    rw [List.foldl_append, ← F.eq]
    show _ = pushN ks q
    unfold pushN
    rw [if_neg h]
  nd := List.nodup_append.mpr ⟨F.nd, by simp, fun a ha b hb e => h (by rw [← List.mem_singleton.mp hb, ← e]; exact ha)⟩
  inr := fun p hp => by
    rcases List.mem_append.mp hp with z | z
    · exact F.inr p z
    · rw [List.mem_singleton.mp z]; exact ⟨q0, q1⟩
  re := fun p hp => by
    rcases List.mem_append.mp hp with z | z
    · exact F.re p z
    · rw [List.mem_singleton.mp z]; exact r
theorem Part.old {many wide : Nat} {rows : List (List Int)} {dn xs ks : List Int} {q : Int} (F : Part many wide rows dn xs ks) (h : q ∈ ks) : Part many wide rows dn (xs ++ [q]) ks where
  eq := by
    rw [List.foldl_append, ← F.eq]
    show _ = pushN ks q
    unfold pushN
    rw [if_pos h]
  nd := F.nd
  inr := F.inr
  re := F.re
section
variable {P : Program} {w : World} {K : PySem.W.Frag} {mg : Str → Option Value} {base : Heap} {f : Addr} {fd : FuncData} {dV : Value}
theorem sc_reached_rooms : FnScope ["machine", "start", "rows", "reached", "level", "fresh", "here", "there"] ["machine", "start"] (defScope s_reached_rooms) := ⟨rfl, rfl, rfl, by decide +kernel, rfl, by decide +kernel, by decide +kernel⟩
theorem ok_reached (F : FunD K "reached_rooms" "reached_rooms" s_reached_rooms dV f fd) (z_list : mg "list" = none) : FnOk P w K mg base CX0 1 f fd ["machine", "start"] (spReached K) := by
  refine F.ok sc_reached_rooms (fun vs H Q E h => ?_) (fun cdv A outer s H vs Q E hr h => ?_)
  · obtain ⟨m, r, g, many, wide, rows, signs, rfl, _⟩ := h
    rfl
  obtain ⟨m, r, g, many, wide, rows, signs, rfl, M, R, ⟨n0, n1⟩, k⟩ := h
  obtain ⟨ras, hr', hA⟩ := M.rows
  have hu := hu_of hr
  refine ⟨_, (pss_cons (ps_set (i := 2) sc_reached_rooms.nd rfl (Or.inl rfl) (pe_ix ix_tup (pv 0) pe_int (fun _ _ => rfl)))
      (pss_cons (ps_set (i := 3) sc_reached_rooms.nd rfl (Or.inl rfl) (pe_disp (pps_cons (pv 1) pe_bl pps_nil) rfl rfl (by intro z; cases z) (by decide)))
      (pss_cons (ps_set (i := 4) sc_reached_rooms.nd rfl (Or.inl rfl) (pe_lst (pa_cons (pv 1) pa_nil)))
      (pss_cons (ps_while PassesOwn.never (pt_truth (pv 4) (fun _ => rfl)) (pss_cons (ps_set (i := 5) sc_reached_rooms.nd rfl (Or.inl rfl) (pe_lst pa_nil))
      (pss_cons (ps_for PassesOwn.never rfl (pi_list (pv 4)) (pg_name (i := 6) sc_reached_rooms.nd rfl (Or.inl rfl)) (pss_one (ps_for PassesOwn.never rfl (pi_tup (pe_ix ix_tup (pv 2) (pv 6) (fun _ _ => rfl))) (pg_name (i := 7) sc_reached_rooms.nd rfl (Or.inl rfl)) (pss_one (ps_if (pt_cmp (pc_dnotin hu (pv 7) (pv 3)) (by with_unfolding_all rfl)) (pss_cons (ps_dput hu (pv 3) (pv 7) pe_bl rfl)
      (pss_one (ps_expr (pe_bm PySem.F.plainAttrs_list PySem.F.slot_list_append PySem.F.type_list_append mt_append (pv 5) (pa_cons (pv 7) pa_nil))))) pss_nil)))))
      (pss_one (ps_set (i := 4) sc_reached_rooms.nd rfl (Or.inl rfl) (pv 5))))))
      (pss_one (ps_ret (pe_callTy (call_listD rfl) (by rfl) z_list bt_list (pa_cons (pv 3) pa_nil)))))))), ?_⟩
  refine ⟨_, rfl, m, _, _, _, rfl, rfl, SqT.of M.tup, rfl, ?_⟩
  refine fun D hD => ⟨_, rfl, upd_same, [(Sum.inl 0, V.bl true)], rfl, by show 1 ≤ 15; decide, ?_⟩
  rw [upd_upd]
  have sD := same_new hD (HO.dK (kvT [0]))
  refine ⟨_, rfl, (by show 1 ≤ sizeLine; decide), fun W hW => ?_⟩
  have hWD : W ≠ D := fun z => by rw [z, upd_same] at hW; cases hW
  have hW0 : H W = none := by rw [upd_ne hWD] at hW; exact hW
  try dsimp only [gName]
  refine cut_seq (t := tWhile _ _) (fun σ' H' => ∃ (ks : List Int) (W : Addr) (v0 v1 v2 : Option V), σ' = [some (.ref m), some (.int 0), some (.ref r), some (.ref D), some (.ref W), v0, v1, v2] ∧ Same H H' ∧ H' D = some (.dK (kvT ks)) ∧ Found many wide rows ks ks) ?_ (fun nxt => ?_)
  rotate_left
  · refine while_W (fun mm σ' H' => ∃ (dn lv : List Int) (W : Addr) (v0 v1 v2 : Option V), mm = 2 * (many - (dn ++ lv).length) + lv.length ∧ σ' = [some (.ref m), some (.int 0), some (.ref r), some (.ref D), some (.ref W), v0, v1, v2] ∧ Same H H' ∧ H' D = some (.dK (kvT (dn ++ lv))) ∧ W ≠ D ∧ H' W = some (.lst (lv.map V.int)) ∧ Found many wide rows dn (dn ++ lv))
      ⟨_, [], [0], W, none, none, none, rfl, rfl, sD.trans (same_new hW _), by rw [upd_ne (Ne.symm hWD), upd_same]; rfl, hWD, upd_same, ?_⟩ ?_
    · refine ⟨rfl, by simp, fun q hq => by rw [List.nil_append] at hq; rw [List.mem_singleton.mp hq]; omega, fun q hq => by rw [List.nil_append] at hq; rw [List.mem_singleton.mp hq]; exact Reach.zero⟩
    rintro mm σ' H1 ⟨dn, lv, W, v0, v1, v2, rfl, rfl, s1, hD1, hWD, hW1, FD⟩
    by_cases en : lv = []
    · subst en
      refine ⟨_, rfl, _, .inl ⟨_, SqL.of hW1, rfl⟩, iteF ?_⟩
      rw [List.append_nil] at hD1 FD
      exact nxt _ _ ⟨dn, W, v0, v1, v2, rfl, s1, hD1, FD⟩
    refine ⟨_, rfl, _, .inl ⟨_, SqL.of hW1, rfl⟩, ?_⟩
    have ne : (!(lv.map V.int).isEmpty) = true := by
      cases lv with
      | nil => exact absurd rfl en
      | cons x r => rfl
    rw [ne]
    have kl := few_below many FD.nd FD.inr
    have lv1 : 1 ≤ lv.length := by
      cases lv with
      | nil => exact absurd rfl en
      | cons x r => exact Nat.succ_le_succ (Nat.zero_le _)
    rw [List.length_append] at kl
    refine iteT ⟨fun σ' H' => ∃ m', m' < 2 * (many - (dn ++ lv).length) + lv.length ∧ ∃ (dn lv : List Int) (W : Addr) (v0 v1 v2 : Option V), m' = 2 * (many - (dn ++ lv).length) + lv.length ∧ σ' = [some (.ref m), some (.int 0), some (.ref r), some (.ref D), some (.ref W), v0, v1, v2] ∧ Same H H' ∧ H' D = some (.dK (kvT (dn ++ lv))) ∧ W ≠ D ∧ H' W = some (.lst (lv.map V.int)) ∧ Found many wide rows dn (dn ++ lv), fun σ' H' h => h, ?_⟩
    refine ⟨(by show 0 ≤ sizeLine; decide), fun N hN => ?_⟩
    have hND : N ≠ D := fun z => by rw [z, hD1] at hN; cases hN
    have hNW : N ≠ W := fun z => by rw [z, hW1] at hN; cases hN
    have hN0 : H N = none := s1.free hN
    try dsimp only [gName]
    refine ⟨_, rfl, W, rfl, ⟨_, SqL.of (by rw [upd_ne (Ne.symm hNW)]; exact hW1)⟩, for_list (K := K) (xs := lv.map V.int) (fun i σ' H' => ∃ (fr : List Int) (v1 v2 : Option V),
        σ' = [some (.ref m), some (.int 0), some (.ref r), some (.ref D), some (.ref W), some (.ref N), v1, v2] ∧ Same H H' ∧ H' D = some (.dK (kvT (dn ++ lv ++ fr))) ∧ H' W = some (.lst (lv.map V.int)) ∧ H' N = some (.lst (fr.map V.int)) ∧ Found many wide rows (dn ++ lv.take i) (dn ++ lv ++ fr))
      ⟨[], v1, v2, rfl, s1.trans (same_new hN _), by rw [upd_ne (Ne.symm hND), List.append_nil]; exact hD1, by rw [upd_ne (Ne.symm hNW)]; exact hW1, upd_same, by rw [List.take_zero, List.append_nil, List.append_nil]; exact FD⟩ (fun i σ' H' _ ⟨_, _, _, _, _, _, e, _⟩ => SqL.of e) ?_ ?_⟩
    · rintro i x σ' H2 hi ⟨fr, v1, v2, rfl, s2, hD2, hW2, hN2, F2⟩
      obtain ⟨here, rfl, hz⟩ := ints_at hi
      have hil : i < lv.length := (List.getElem?_eq_some_iff.mp hz).1
      have hk : here ∈ dn ++ lv ++ fr := List.mem_append_left _ (List.mem_append_right _ (List.mem_of_getElem? hz))
      have hh := F2.inr here hk
      have hre := F2.re here hk
      have l1 : here.toNat < rows.length := by rw [R.len]; omega
      obtain ⟨ra, e1, e2⟩ := hA.get l1
      have lr : rows[here.toNat].length = wide := R.row _ (List.getElem_mem l1)
      refine ⟨_, rfl, _, rfl, r, _, _, _, rfl, rfl, SqT.of (s2 _ _ hr'), atI_refs hh.1 e1, ra, rfl, ⟨_, SqT.of (s2 _ _ e2)⟩, for_tup (K := K) (xs := rows[here.toNat].map V.int) (fun j σ' H' => ∃ (fr : List Int) (v : Option V),
          σ' = [some (.ref m), some (.int 0), some (.ref r), some (.ref D), some (.ref W), some (.ref N), some (.int here), v] ∧ Same H H' ∧ H' D = some (.dK (kvT (dn ++ lv ++ fr))) ∧ H' W = some (.lst (lv.map V.int)) ∧ H' N = some (.lst (fr.map V.int)) ∧ Part many wide rows (dn ++ lv.take i) (rows[here.toNat].take j) (dn ++ lv ++ fr))
        ⟨fr, v2, rfl, s2, hD2, hW2, hN2, ⟨F2.eq, F2.nd, F2.inr, F2.re⟩⟩ (fun i σ' H' _ ⟨_, _, _, e, _⟩ => SqT.of (e _ _ e2)) ?_ ?_⟩
      · rintro j x σ' H3 hj ⟨fr, v, rfl, s3, hD3, hW3, hN3, F3⟩
        obtain ⟨z, rfl, hz⟩ := ints_at hj
        have hjl : j < rows[here.toNat].length := (List.getElem?_eq_some_iff.mp hz).1
        have zin := R.val _ (List.getElem_mem l1) z (List.mem_of_getElem? hz)
        have kl3 := few_below many F3.nd F3.inr
        rw [List.length_append, List.length_append] at kl3
        have stp : stepI rows here (j : Int) = z := by
          unfold stepI
          rw [getD_at l1, Int.toNat_natCast, getD_at hjl]
          exact (List.getElem?_eq_some_iff.mp hz).2
        have tk : rows[here.toNat].take (j + 1) = rows[here.toNat].take j ++ [z] := by rw [List.take_add_one, hz]; rfl
        refine ⟨_, rfl, _, rfl, D, _, rfl, DGet.k (k := Sum.inl z) hD3, _, rfl, ?_⟩
        rw [kvT_val]
        refine iteDn (fun c => ?_) (fun c => ?_)
        · refine ⟨_, rfl, _, rfl, D, _, rfl, DPut.k (k := Sum.inl z) hD3 (small1000 (by unfold kvT; rw [List.length_map, List.length_append, List.length_append]; omega)), ?_⟩
          rw [kvT_put c]
          have hN4 : (upd H3 D (HO.dK (kvT (dn ++ lv ++ fr ++ [z])))) N = some (.lst (fr.map V.int)) := by rw [upd_ne hND]; exact hN3
          refine ⟨_, rfl, .inl ⟨rfl, _, SqL.of hN4⟩, _, rfl, N, _, _, rfl, rfl, hN4, Nat.lt_of_le_of_lt (show _ ≤ 2000 by rw [List.length_map]; omega) (by decide), ?_⟩
          have F4 := F3.put c zin.1 zin.2 (by rw [← stp]; exact hre.step (by omega) (by omega))
          refine ⟨fr ++ [z], _, rfl, same_upd (same_upd s3 hD) hN0, ?_, ?_, ?_, ?_⟩
          · rw [upd_ne (Ne.symm hND), upd_same, List.append_assoc]
          · rw [upd_ne (Ne.symm hNW), upd_ne hWD]; exact hW3
          · rw [upd_same, List.map_append]; rfl
          · rw [tk, ← List.append_assoc]; exact F4
        · refine ⟨fr, _, rfl, s3, hD3, hW3, hN3, ?_⟩
          rw [tk]
          exact F3.old c
      · rintro σ' H3 ⟨fr, v, rfl, s3, hD3, hW3, hN3, F3⟩
        rw [List.length_map, List.take_length] at F3
        refine ⟨fr, _, _, rfl, s3, hD3, hW3, hN3, ⟨?_, F3.nd, F3.inr, F3.re⟩⟩
        have e9 : dn ++ lv.take (i + 1) = (dn ++ lv.take i) ++ [here] := by rw [List.take_add_one, hz, List.append_assoc]; rfl
        rw [F3.eq, e9, List.foldl_append (l := dn ++ lv.take i)]
        show _ = growI rows _ here
        unfold growI
        rw [getD_at l1]
    · rintro σ' H3 ⟨fr, v1, v2, rfl, s3, hD3, hW3, hN3, F3⟩
      rw [List.length_map, List.take_length] at F3
      have kl3 := few_below many F3.nd F3.inr
      rw [List.length_append, List.length_append] at kl3
      refine ⟨_, rfl, _, ?_, dn ++ lv, fr, N, _, _, _, rfl, rfl, s3, hD3, hND, hN3, F3⟩
      rw [List.length_append, List.length_append]
      omega
  rintro σ' H1 ⟨ks, W, v0, v1, v2, rfl, s1, hD1, FD⟩
  refine ⟨_, rfl, D, _, rfl, hD1, fun l hl => ?_⟩
  have e : (kvT ks).map (fun q => kV q.1) = ks.map V.int := by
    unfold kvT
    rw [List.map_map]
    rfl
  rw [e]
  have z0 : (0 : Int) ∈ ks := by rw [FD.eq]; exact grows_sub rows ks List.mem_cons_self
  refine k l _ ks (s1.trans (same_new hl _)) upd_same ⟨FD.eq, FD.nd, FD.inr, fun q => ⟨FD.re q, fun h => ?_⟩⟩
  refine Reach.of (S := fun q => q ∈ ks) z0 (fun p hp f f0 f1 => ?_) h
  have hp' := FD.inr p hp
  have l1 : p.toNat < rows.length := by rw [R.len]; omega
  have lr : rows[p.toNat].length = wide := R.row _ (List.getElem_mem l1)
  have hf : f.toNat < rows[p.toNat].length := by omega
  rw [FD.eq]
  refine grows_mem rows ks hp ?_
  unfold stepI
  rw [getD_at l1, getD_at hf]
  exact List.getElem_mem hf
end
end My

set_option Elab.async false
set_option linter.all false
set_option maxRecDepth 100000
set_option maxHeartbeats 8000000
namespace My
open PySem L2
/-! ### rows in their order: the shorter ahead, then by the first figures that differ -/
def lexB : List Int → List Int → Bool
  | a :: r, b :: s => if a = b then lexB r s else decide (b < a)
  | _, _ => false
/-- what the law calls behind -/
def behindB (r s : List Int) : Bool := if r.length = s.length then lexB r s else decide (s.length < r.length)
theorem lexB_irrefl : ∀ r : List Int, lexB r r = false
  | [] => rfl
  | a :: r => by
    show (if a = a then lexB r r else decide (a < a)) = false
    rw [if_pos rfl]
    exact lexB_irrefl r
theorem lexB_asymm : ∀ {r s : List Int}, lexB s r = true → lexB r s = false
  | [], s, h => rfl
  | a :: r, [], h => rfl
  | a :: r, b :: s, h => by
    have h' : (if b = a then lexB s r else decide (a < b)) = true := h
    show (if a = b then lexB r s else decide (b < a)) = false
    by_cases e : a = b
    · rw [if_pos e.symm] at h'
      rw [if_pos e]
      exact lexB_asymm h'
    · rw [if_neg (Ne.symm e)] at h'
      rw [if_neg e]
      have := of_decide_eq_true h'
      exact decide_eq_false (by omega)
theorem lexB_snoc : ∀ {r s : List Int} (f g : Int), r.length = s.length → lexB s r = true → lexB (s ++ [g]) (r ++ [f]) = true
  | [], [], _, _, _, h => by cases h
  | [], b :: s, _, _, h, _ => by simp at h
  | a :: r, [], _, _, h, _ => by simp at h
  | a :: r, b :: s, f, g, hl, h => by
    have h' : (if b = a then lexB s r else decide (a < b)) = true := h
    show (if b = a then lexB (s ++ [g]) (r ++ [f]) else decide (a < b)) = true
    by_cases e : b = a
    · rw [if_pos e] at h' ⊢
      exact lexB_snoc f g (by simpa using hl) h'
    · rw [if_neg e] at h' ⊢
      exact h'
theorem lexB_last : ∀ (r : List Int) {f g : Int}, f < g → lexB (r ++ [g]) (r ++ [f]) = true
  | [], f, g, h => by
    show (if g = f then lexB [] [] else decide (f < g)) = true
    rw [if_neg (by omega)]
    exact decide_eq_true h
  | a :: r, f, g, h => by
    show (if a = a then lexB (r ++ [g]) (r ++ [f]) else _) = true
    rw [if_pos rfl]
    exact lexB_last r h
theorem behind_irrefl (r : List Int) : behindB r r = false := by
  unfold behindB
  rw [if_pos rfl]
  exact lexB_irrefl r
theorem behind_asymm {r s : List Int} (h : behindB s r = true) : behindB r s = false := by
  unfold behindB at h ⊢
  by_cases e : r.length = s.length
  · rw [if_pos e.symm] at h
    rw [if_pos e]
    exact lexB_asymm h
  · rw [if_neg (Ne.symm e)] at h
    rw [if_neg e]
    have := of_decide_eq_true h
    exact decide_eq_false (by omega)
theorem behind_snoc {r s : List Int} (f g : Int) (h : behindB s r = true) : behindB (s ++ [g]) (r ++ [f]) = true := by
  unfold behindB at h ⊢
  rw [List.length_append, List.length_append]
  by_cases e : s.length = r.length
  · rw [if_pos e] at h
    rw [if_pos (by rw [e]; rfl)]
    exact lexB_snoc f g e.symm h
  · rw [if_neg e] at h
    have := of_decide_eq_true h
    rw [if_neg (by simp only [List.length_singleton]; omega)]
    exact decide_eq_true (by simp only [List.length_singleton]; omega)
theorem behind_last (r : List Int) {f g : Int} (h : f < g) : behindB (r ++ [g]) (r ++ [f]) = true := by
  unfold behindB
  rw [if_pos (by simp)]
  exact lexB_last r h
theorem behind_nil (r : List Int) (f : Int) : behindB (r ++ [f]) [] = true := by
  unfold behindB
  rw [if_neg (by simp)]
  exact decide_eq_true (by simp)
/-! ### the leads as they are found -/
/-- ks: the rooms found, ls: their leads; the figures of the first i of them were looked at, and f ones of the next -/
structure LeadI (wide : Nat) (rows : List (List Int)) (i f : Nat) (ks : List Int) (ls : List (List Int)) : Prop where
  len : ls.length = ks.length
  k0 : ks[0]? = some 0
  l0 : ls[0]? = some []
  wlk : ∀ (j : Nat) (q : Int) (l : List Int), ks[j]? = some q → ls[j]? = some l → walkI rows l 0 = q ∧ ∀ p ∈ l, 0 ≤ p ∧ p < (wide : Int)
  srt : ∀ (j k : Nat) (l m : List Int), j < k → ls[j]? = some l → ls[k]? = some m → behindB m l = true
  made : ∀ (j : Nat) (l : List Int), ls[j]? = some l → l = [] ∨ ∃ (a g : Nat) (m : List Int), (a < i ∨ (a = i ∧ g < f)) ∧ ls[a]? = some m ∧ l = m ++ [(g : Int)]
  done : ∀ (a g : Nat) (q : Int) (m : List Int), (a < i ∧ g < wide) ∨ (a = i ∧ g < f) → ks[a]? = some q → ls[a]? = some m → ∃ (j : Nat) (l : List Int), ks[j]? = some (stepI rows q g) ∧ ls[j]? = some l ∧ behindB l (m ++ [(g : Int)]) = false
theorem LeadI.zero (wide : Nat) (rows : List (List Int)) : LeadI wide rows 0 0 [0] [[]] where
  len := rfl
  k0 := rfl
  l0 := rfl
  wlk := fun j q l h1 h2 => by
    cases j with
    | zero => cases h1; cases h2; exact ⟨rfl, fun p hp => by cases hp⟩
    | succ j => cases h1
  srt := fun j k l m hjk h1 h2 => by
    cases k with
    | zero => omega
    | succ k => cases h2
  made := fun j l h => by
    cases j with
    | zero => cases h; exact .inl rfl
    | succ j => cases h
  done := fun a g q m h _ _ => by omega
theorem snoc_cases {α : Type} {xs : List α} {y z : α} {j : Nat} (h : (xs ++ [y])[j]? = some z) : xs[j]? = some z ∨ (j = xs.length ∧ z = y) := by
  rcases Nat.lt_trichotomy j xs.length with q | q | q
  · rw [List.getElem?_append_left q] at h
    exact .inl h
  · subst q
    rw [List.getElem?_append_right (Nat.le_refl _), Nat.sub_self] at h
    exact .inr ⟨rfl, (Option.some.inj h).symm⟩
  · rw [List.getElem?_append_right (Nat.le_of_lt q)] at h
    have : (j - xs.length) = (j - xs.length - 1) + 1 := by omega
    rw [this] at h
    cases h
theorem snoc_old {α : Type} {xs : List α} {y z : α} {j : Nat} (h : xs[j]? = some z) : (xs ++ [y])[j]? = some z := by
  rw [List.getElem?_append_left (List.getElem?_eq_some_iff.mp h).1]
  exact h
theorem snoc_new {α : Type} {xs : List α} {y : α} : (xs ++ [y])[xs.length]? = some y := by
  rw [List.getElem?_append_right (Nat.le_refl _), Nat.sub_self]
  rfl
/-- what was found so far is ahead of what comes next -/
theorem LeadI.ahead {wide : Nat} {rows : List (List Int)} {i f : Nat} {ks : List Int} {ls : List (List Int)} (F : LeadI wide rows i f ks ls) {m l : List Int} {j : Nat} (hm : ls[i]? = some m) (hl : ls[j]? = some l) : behindB (m ++ [(f : Int)]) l = true := by
  rcases F.made j l hl with rfl | ⟨a, g, m', h, ha, rfl⟩
  · exact behind_nil m f
  · rcases h with h | ⟨rfl, h⟩
    · exact behind_snoc _ _ (F.srt a i m' m h ha hm)
    · rw [hm] at ha
      cases ha
      exact behind_last m (by omega)
theorem LeadI.old {wide : Nat} {rows : List (List Int)} {i f : Nat} {ks : List Int} {ls : List (List Int)} {q : Int} {m : List Int} (F : LeadI wide rows i f ks ls) (hq : ks[i]? = some q) (hm : ls[i]? = some m) (hin : stepI rows q f ∈ ks) : LeadI wide rows i (f + 1) ks ls where
  len := F.len
  k0 := F.k0
  l0 := F.l0
  wlk := F.wlk
  srt := F.srt
  made := fun j l hl => by
    rcases F.made j l hl with z | ⟨a, g, m', h, r⟩
    · exact .inl z
    · exact .inr ⟨a, g, m', by omega, r⟩
  done := fun a g p m' h hp hm' => by
    by_cases e : a = i ∧ g = f
    · obtain ⟨rfl, rfl⟩ := e
      rw [hq] at hp; cases hp
      rw [hm] at hm'; cases hm'
      obtain ⟨j, hj, e⟩ := List.getElem_of_mem hin
      have hj' : j < ls.length := by rw [F.len]; exact hj
      refine ⟨j, ls[j], by rw [List.getElem?_eq_getElem hj, e], List.getElem?_eq_getElem hj', ?_⟩
      exact behind_asymm (F.ahead hm (List.getElem?_eq_getElem hj'))
    · exact F.done a g p m' (by omega) hp hm'
theorem LeadI.put {wide : Nat} {rows : List (List Int)} {i f : Nat} {ks : List Int} {ls : List (List Int)} {q : Int} {m : List Int} (F : LeadI wide rows i f ks ls) (hq : ks[i]? = some q) (hm : ls[i]? = some m) (fw : f < wide) :
    LeadI wide rows i (f + 1) (ks ++ [stepI rows q f]) (ls ++ [m ++ [(f : Int)]]) where
  len := by rw [List.length_append, List.length_append, F.len]; rfl
  k0 := snoc_old F.k0
  l0 := snoc_old F.l0
  wlk := fun j p l hp hl => by
    rcases snoc_cases hp with hp | ⟨rfl, rfl⟩
    · rcases snoc_cases hl with hl | ⟨rfl, rfl⟩
      · exact F.wlk j p l hp hl
      · have := (List.getElem?_eq_some_iff.mp hp).1
        rw [F.len] at this
        omega
    · rcases snoc_cases hl with hl | ⟨_, rfl⟩
      · have := (List.getElem?_eq_some_iff.mp hl).1
        rw [F.len] at this
        omega
      · have h := F.wlk i q m hq hm
        refine ⟨?_, fun p hp => ?_⟩
        · rw [walkI_append, h.1]
          rfl
        · rcases List.mem_append.mp hp with z | z
          · exact h.2 p z
          · rw [List.mem_singleton.mp z]
            omega
  srt := fun j k l m' hjk hl hm' => by
    rcases snoc_cases hm' with hm' | ⟨rfl, rfl⟩
    · rcases snoc_cases hl with hl | ⟨rfl, rfl⟩
      · exact F.srt j k l m' hjk hl hm'
      · have := (List.getElem?_eq_some_iff.mp hm').1
        omega
    · rcases snoc_cases hl with hl | ⟨rfl, rfl⟩
      · exact F.ahead hm hl
      · omega
  made := fun j l hl => by
    rcases snoc_cases hl with hl | ⟨rfl, rfl⟩
    · rcases F.made j l hl with z | ⟨a, g, m', h, r1, r2⟩
      · exact .inl z
      · exact .inr ⟨a, g, m', by omega, snoc_old r1, r2⟩
    · exact .inr ⟨i, f, m, by omega, snoc_old hm, rfl⟩
  done := fun a g p m' h hp hm' => by
    have la : a < ks.length := by
      have := (List.getElem?_eq_some_iff.mp hq).1
      omega
    have hp' : ks[a]? = some p := by
      rcases snoc_cases hp with z | ⟨rfl, _⟩
      · exact z
      · omega
    have hm2 : ls[a]? = some m' := by
      rcases snoc_cases hm' with z | ⟨rfl, _⟩
      · exact z
      · rw [F.len] at la; omega
    by_cases e : a = i ∧ g = f
    · obtain ⟨rfl, rfl⟩ := e
      rw [hq] at hp'; cases hp'
      rw [hm] at hm2; cases hm2
      exact ⟨ks.length, _, snoc_new, by rw [← F.len]; exact snoc_new, behind_irrefl _⟩
    · obtain ⟨j, l, e1, e2, e3⟩ := F.done a g p m' (by omega) hp' hm2
      exact ⟨j, l, snoc_old e1, snoc_old e2, e3⟩
theorem LeadI.turn {wide : Nat} {rows : List (List Int)} {i : Nat} {ks : List Int} {ls : List (List Int)} (F : LeadI wide rows i wide ks ls) : LeadI wide rows (i + 1) 0 ks ls where
  len := F.len
  k0 := F.k0
  l0 := F.l0
  wlk := F.wlk
  srt := F.srt
  made := fun j l hl => by
    rcases F.made j l hl with z | ⟨a, g, m', h, r⟩
    · exact .inl z
    · exact .inr ⟨a, g, m', by omega, r⟩
  done := fun a g p m' h hp hm' => F.done a g p m' (by omega) hp hm'
/-! ### the order of the rooms found -/
theorem push_pre (s : List Int) (x : Int) : s <+: pushN s x := by
  unfold pushN
  split
  · exact List.prefix_refl _
  · exact List.prefix_append _ _
theorem pushes_pre : ∀ (xs s : List Int), s <+: xs.foldl pushN s
  | [], s => List.prefix_refl _
  | x :: xs, s => (push_pre s x).trans (pushes_pre xs _)
theorem grows_pre (rows : List (List Int)) : ∀ (qs s : List Int), s <+: qs.foldl (growI rows) s
  | [], s => List.prefix_refl _
  | q :: qs, s => (pushes_pre _ s).trans (grows_pre rows qs _)
/-- a room stands there before its turn comes -/
theorem Bfs.there {many wide : Nat} {rows : List (List Int)} {qs : List Int} (B : Bfs many wide rows qs) (R : RowsOk many wide rows) {i : Nat} {q : Int} (h : qs[i]? = some q) : ((qs.take i).foldl (growI rows) [0])[i]? = some q := by
  obtain ⟨ks, ek⟩ : ∃ ks, (qs.take i).foldl (growI rows) [0] = ks := ⟨_, rfl⟩
  rw [ek]
  have pre : ks <+: qs := by
    have e : qs = (qs.drop i).foldl (growI rows) ks := by
      rw [← ek, ← List.foldl_append, List.take_append_drop]
      exact B.eq
    rw [e]
    exact grows_pre rows _ _
  have tk : ks = qs.take ks.length := List.prefix_iff_eq_take.mp pre
  by_cases c : i < ks.length
  · rw [tk, List.getElem?_take]
    rw [if_pos c]
    exact h
  exfalso
  have sub : ∀ p ∈ ks, p ∈ qs.take i := fun p hp => by
    rw [tk] at hp
    have : qs.take ks.length = (qs.take i).take ks.length := by rw [List.take_take, Nat.min_eq_left (by omega)]
    rw [this] at hp
    exact List.mem_of_mem_take hp
  have all : ∀ p, Reach wide rows p → p ∈ ks := fun p hp => by
    refine Reach.of (S := fun p => p ∈ ks) (by rw [← ek]; exact grows_sub rows _ List.mem_cons_self) (fun p hp f f0 f1 => ?_) hp
    have hp' := B.inr p (List.mem_of_mem_take (sub p hp))
    have l1 : p.toNat < rows.length := by rw [R.len]; omega
    have lr : rows[p.toNat].length = wide := R.row _ (List.getElem_mem l1)
    have hf : f.toNat < rows[p.toNat].length := by omega
    rw [← ek]
    refine grows_mem rows _ (sub p hp) ?_
    unfold stepI
    rw [getD_at l1, getD_at hf]
    exact List.getElem_mem hf
  have hq := sub q (all q ((B.re q).mp (List.mem_of_getElem? h)))
  obtain ⟨j, hj, e⟩ := List.getElem_of_mem hq
  rw [List.getElem_take] at e
  have hi : i < qs.length := (List.getElem?_eq_some_iff.mp h).1
  have hji : j < i := by rw [List.length_take] at hj; omega
  have e2 : qs[i] = q := (List.getElem?_eq_some_iff.mp h).2
  have := (List.getElem_inj B.nd).mp (e.trans e2.symm)
  omega
/-- a lead is no longer than its room's place in the order -/
theorem LeadI.short {wide : Nat} {rows : List (List Int)} {i f : Nat} {ks : List Int} {ls : List (List Int)} (F : LeadI wide rows i f ks ls) : ∀ {j : Nat} {l : List Int}, ls[j]? = some l → l.length ≤ j
  | j, l, h => by
    rcases F.made j l h with rfl | ⟨a, g, m, _, ha, rfl⟩
    · exact Nat.zero_le _
    · have lt : a < j := by
        rcases Nat.lt_or_ge a j with q | q
        · exact q
        · exfalso
          rcases Nat.lt_or_eq_of_le q with q | q
          · have h1 := F.srt j a _ _ q h ha
            have h2 := behind_asymm h1
            have h3 : behindB (m ++ [(g : Int)]) m = true := by
              unfold behindB
              rw [if_neg (by simp)]
              exact decide_eq_true (by simp)
            rw [h2] at h3
            cases h3
          · subst q
            rw [h] at ha
            have := congrArg List.length (Option.some.inj ha)
            simp at this
      have ih := LeadI.short F ha
      rw [List.length_append, List.length_singleton]
      omega
termination_by j => j
end My

set_option Elab.async false
set_option linter.all false
set_option maxRecDepth 100000
set_option maxHeartbeats 8000000
namespace My
open PySem L2
/-! ### leads, as a thing that the rows alone decide -/
def leadStep (rows : List (List Int)) (i f : Nat) (st : List Int × List (List Int)) : List Int × List (List Int) :=
  if stepI rows (st.1.getD i 0) f ∈ st.1 then st else (st.1 ++ [stepI rows (st.1.getD i 0) f], st.2 ++ [st.2.getD i [] ++ [(f : Int)]])
def leadF (rows : List (List Int)) (i : Nat) (st : List Int × List (List Int)) : Nat → List Int × List (List Int)
  | 0 => st
  | f + 1 => leadStep rows i f (leadF rows i st f)
def leadN (rows : List (List Int)) (wide : Nat) : Nat → List Int × List (List Int)
  | 0 => ([0], [[]])
  | i + 1 => leadF rows i (leadN rows wide i) wide
def kvL (es : List (Int × Addr)) : List (Key × V) := es.map fun e => (Sum.inl e.1, V.ref e.2)
theorem kvL_none : ∀ {es : List (Int × Addr)} {q : Int}, q ∉ es.map Prod.fst → valV (kvL es) (Sum.inl q) = none
  | [], _, _ => rfl
  | e :: es, q, h => by
    rw [show kvL (e :: es) = (Sum.inl e.1, V.ref e.2) :: kvL es from rfl, valV_neg (fun z => h (by rw [← Sum.inl.inj z]; exact List.mem_cons_self))]
    exact kvL_none fun z => h (List.mem_cons_of_mem _ z)
theorem kvL_at : ∀ {es : List (Int × Addr)} {q : Int} {a : Addr} {j : Nat}, (es.map Prod.fst).Nodup → es[j]? = some (q, a) → valV (kvL es) (Sum.inl q) = some (V.ref a)
  | [], _, _, _, _, h => by cases h
  | e :: es, q, a, 0, _, h => by
    cases h
    exact valV_pos rfl
  | e :: es, q, a, j + 1, nd, h => by
    have nd' := List.nodup_cons.mp (show (e.1 :: es.map Prod.fst).Nodup from nd)
    have h' : es[j]? = some (q, a) := h
    rw [show kvL (e :: es) = (Sum.inl e.1, V.ref e.2) :: kvL es from rfl, valV_neg (fun z => nd'.1 (by
      have : e.1 = q := Sum.inl.inj z
      rw [this]
      exact List.mem_map.mpr ⟨(q, a), List.mem_of_getElem? h', rfl⟩))]
    exact kvL_at nd'.2 h'
theorem kvL_put {es : List (Int × Addr)} {q : Int} {a : Addr} (h : q ∉ es.map Prod.fst) : putK (kvL es) (Sum.inl q) (V.ref a) = kvL (es ++ [(q, a)]) := by
  unfold putK
  rw [if_neg (by
    intro z
    obtain ⟨p, hp, e⟩ := List.any_eq_true.mp z
    obtain ⟨k, hk, rfl⟩ := List.mem_map.mp hp
    have := Sum.inl.inj (of_decide_eq_true e)
    exact h (this ▸ List.mem_map.mpr ⟨k, hk, rfl⟩))]
  unfold kvL
  rw [List.map_append]
  rfl
/-- leads lie there, each in a tuple -/
def LeadsIn (H : Hp) (es : List (Int × Addr)) (ls : List (List Int)) : Prop := es.length = ls.length ∧ ∀ (j : Nat) (e : Int × Addr) (l : List Int), es[j]? = some e → ls[j]? = some l → H e.2 = some (.tup (l.map V.int))
theorem LeadsIn.same {H H' : Hp} {es : List (Int × Addr)} {ls : List (List Int)} (h : LeadsIn H es ls) (s : ∀ (b : Addr) (xs : List V), H b = some (.tup xs) → H' b = some (.tup xs)) : LeadsIn H' es ls := ⟨h.1, fun j e l he hl => s _ _ (h.2 j e l he hl)⟩
def spLeads (K : PySem.W.Frag) : Sp := fun vs H Q _ => ∃ (m r g : Addr) (many wide : Nat) (rows : List (List Int)) (signs : List Int), vs = [.ref m] ∧ MachAt H m r g wide rows signs ∧ RowsOk many wide rows ∧ (1 ≤ many ∧ many ≤ 1000) ∧
  ∀ (t : Addr) (H' : Hp) (ks : List Int) (ls : List (List Int)) (us : List V), Same H H' → Bfs many wide rows ks → LeadI wide rows ks.length 0 ks ls → (ks, ls) = leadN rows wide ks.length → H' t = some (.tup us) → us.length = many →
    (∀ q : Nat, q < many → (q : Int) ∉ ks → us[q]? = some .non) → (∀ (j : Nat) (q : Int) (l : List Int), ks[j]? = some q → ls[j]? = some l → ∃ a, us[q.toNat]? = some (.ref a) ∧ H' a = some (.tup (l.map V.int))) → Q (.ref t) H'
def spFirst0 (K : PySem.W.Frag) : Sp := fun vs H Q _ => ∃ (m r g : Addr) (many wide : Nat) (rows : List (List Int)) (signs : List Int), vs = [.ref m, .int 0] ∧ MachAt H m r g wide rows signs ∧ RowsOk many wide rows ∧ (1 ≤ many ∧ many ≤ 1000) ∧
  ∀ (D : Addr) (H' : Hp) (es : List (Int × Addr)) (ls : List (List Int)), Same H H' → H' D = some (.dK (kvL es)) → LeadsIn H' es ls → Bfs many wide rows (es.map Prod.fst) → LeadI wide rows (es.map Prod.fst).length 0 (es.map Prod.fst) ls → (es.map Prod.fst, ls) = leadN rows wide (es.map Prod.fst).length → Q (.ref D) H'
section
variable {P : Program} {w : World} {K : PySem.W.Frag} {mg : Str → Option Value} {base : Heap} {f : Addr} {fd : FuncData} {dV : Value}
theorem sc_first_rows : FnScope ["machine", "start", "rows", "found", "here", "figure", "there"] ["machine", "start"] (defScope s_first_rows) := ⟨rfl, rfl, rfl, by decide +kernel, rfl, by decide +kernel, by decide +kernel⟩
theorem sc_leads : FnScope ["machine", "found"] ["machine"] (defScope s_leads) := ⟨rfl, rfl, rfl, by decide +kernel, rfl, by decide +kernel, by decide +kernel⟩
theorem bk_leads_0 : BlkScope ["machine", "found"] (defScope s_leads) ["here", "found"] [none, some 1] { kind := ScopeKind.function, names := [(".0", NameKind.local), ("here", NameKind.local), ("found", NameKind.free)], isGenerator := false, isCoroutine := false, more := [] } := ⟨rfl, by decide +kernel, by decide +kernel, by decide +kernel, by decide +kernel, rfl, by decide +kernel⟩
theorem ok_first0 (F : FunD K "first_rows" "first_rows" s_first_rows dV f fd) (G_reached_rooms : DefOk P w K mg base "reached_rooms" 1 ["machine", "start"] [] (spReached K)) (z_enumerate : mg "enumerate" = none) : FnOk P w K mg base CX0 2 f fd ["machine", "start"] (spFirst0 K) := by
  refine F.ok sc_first_rows (fun vs H Q E h => ?_) (fun cdv A outer s H vs Q E hr h => ?_)
  · obtain ⟨m, r, g, many, wide, rows, signs, rfl, _⟩ := h
    rfl
  obtain ⟨m, r, g, many, wide, rows, signs, rfl, M, R, ⟨n0, n1⟩, k⟩ := h
  obtain ⟨ras, hr', hA⟩ := M.rows
  have hu := hu_of hr
  refine body_w (ws_cons (PSW.mk (ps_set (i := 2) sc_first_rows.nd rfl (Or.inl rfl) (pe_ix ix_tup (pv 0) pe_int (fun _ _ => rfl))))
      (ws_cons (PSW.mk (ps_set (i := 3) sc_first_rows.nd rfl (Or.inl rfl) (pe_disp (pps_cons (pv 1) (pe_tup pa_nil) pps_nil) rfl rfl (by intro z; cases z) (by decide))))
      (ws_cons (PSW.mk (ps_for PassesOwn.never rfl (pi_list (pe_cd G_reached_rooms hr (pa_cons (pv 0) (pa_cons (pv 1) pa_nil)))) (pg_name (i := 4) sc_first_rows.nd rfl (Or.inl rfl)) (pss_one (ps_for PassesOwn.never rfl (pi_enumT rfl z_enumerate (pa_cons (pe_ix ix_tup (pv 2) (pv 4) (fun _ _ => rfl)) pa_nil)) (pg_tup rfl (pgs_cons (pg_name (i := 5) sc_first_rows.nd rfl (Or.inl rfl)) (pgs_cons (pg_name (i := 6) sc_first_rows.nd rfl (Or.inl rfl)) pgs_nil))) (pss_one (ps_if (pt_cmp (pc_dnotin hu (pv 6) (pv 3)) (by with_unfolding_all rfl)) (pss_one (ps_dput hu (pv 3) (pv 6) (pe_op op_catA (pe_dget hu (pv 3) (pv 4) (fun _ _ => rfl)) (pe_tup (pa_cons (pv 5) pa_nil))) rfl)) pss_nil))))))
      (ws_one (PSW.mk (ps_ret (pv 3))))))) ?_
  refine ⟨_, rfl, m, _, _, _, rfl, rfl, SqT.of M.tup, rfl, ?_⟩
  refine fun D hD => ⟨_, rfl, (by show 0 ≤ sizeLine; decide), fun t0 ht0 => ?_⟩
  have ntD : t0 ≠ D := fun z => by rw [z, upd_same] at ht0; cases ht0
  have ht00 : H t0 = none := by rw [upd_ne ntD] at ht0; exact ht0
  refine ⟨by rw [upd_ne (Ne.symm ntD), upd_same], [(Sum.inl 0, V.ref t0)], rfl, by show 1 ≤ 15; decide, ?_⟩
  obtain ⟨H1, eH1⟩ : ∃ H1, upd (upd (upd H D (HO.dK [])) t0 (HO.tup [])) D (HO.dK (mergeK [] [(Sum.inl 0, V.ref t0)])) = H1 := ⟨_, rfl⟩
  have s1 : Same H H1 := by
    rw [← eH1]
    exact same_upd (same_upd (same_upd (Same.refl _) hD) ht00) hD
  have hD1 : H1 D = some (.dK (kvL [(0, t0)])) := by rw [← eH1, upd_same]; rfl
  have ht1 : H1 t0 = some (.tup []) := by rw [← eH1, upd_ne ntD, upd_same]
  rw [eH1]
  have tp : ∀ {H' : Hp}, Same H H' → ∀ b xs, H b = some (.tup xs) → H' b = some (.tup xs) := fun s b xs h => s _ _ h
  try dsimp only [gName]
  refine cut_seq (t := tFor _ _ _) (fun σ' H' => ∃ (es : List (Int × Addr)) (ls : List (List Int)) (v3 v4 v5 : Option V), σ' = [some (.ref m), some (.int 0), some (.ref r), some (.ref D), v3, v4, v5] ∧ Same H H' ∧ H' D = some (.dK (kvL es)) ∧ LeadsIn H' es ls ∧ Bfs many wide rows (es.map Prod.fst) ∧ LeadI wide rows (es.map Prod.fst).length 0 (es.map Prod.fst) ls ∧ (es.map Prod.fst, ls) = leadN rows wide (es.map Prod.fst).length) ?_ (fun nxt => ?_)
  rotate_left
  · refine ⟨_, rfl, _, rfl, m, r, g, many, wide, rows, signs, rfl, M.same (tp s1), R, ⟨n0, n1⟩, fun l H2 qs s2 hl B => ?_⟩
    have hD2 := s2 _ _ hD1
    have nlD : l ≠ D := ne_of hl hD2 (by intro z; cases z)
    refine ⟨l, rfl, ⟨_, SqL.of hl⟩, for_list (K := K) (xs := qs.map V.int) (fun i σ' H' => ∃ (es : List (Int × Addr)) (ls : List (List Int)) (v3 v4 v5 : Option V), σ' = [some (.ref m), some (.int 0), some (.ref r), some (.ref D), v3, v4, v5] ∧ Same H H' ∧ H' l = some (.lst (qs.map V.int)) ∧ H' D = some (.dK (kvL es)) ∧ LeadsIn H' es ls ∧
        LeadI wide rows i 0 (es.map Prod.fst) ls ∧ (es.map Prod.fst, ls) = leadN rows wide i ∧ es.map Prod.fst = (qs.take i).foldl (growI rows) [0])
      ⟨[(0, t0)], [[]], none, none, none, rfl, s1.trans s2, hl, hD2, ⟨rfl, fun j e l' he hl' => ?_⟩, LeadI.zero wide rows, rfl, rfl⟩ (fun i σ' H' _ ⟨_, _, _, _, _, _, _, e, _⟩ => SqL.of e) ?_ ?_⟩
    · cases j with
      | zero => cases he; cases hl'; exact s2 _ _ ht1
      | succ j => cases he
    · rintro i x σ' H3 hi ⟨es, ls, v3, v4, v5, rfl, s3, hl3, hD3, L3, F3, eN, eG⟩
      obtain ⟨here, rfl, hz⟩ := ints_at hi
      have hh := B.inr here (List.mem_of_getElem? hz)
      have hre := (B.re here).mp (List.mem_of_getElem? hz)
      have l1 : here.toNat < rows.length := by rw [R.len]; omega
      obtain ⟨ra, e1, e2⟩ := hA.get l1
      have lr : rows[here.toNat].length = wide := R.row _ (List.getElem_mem l1)
      have at3 : (es.map Prod.fst)[i]? = some here := by rw [eG]; exact B.there R hz
      have pre : (qs.take i).foldl (growI rows) [0] <+: qs := by
        have e := grows_pre rows (qs.drop i) ((qs.take i).foldl (growI rows) [0])
        rw [← List.foldl_append, List.take_append_drop, ← B.eq] at e
        exact e
      have PT : Part many wide rows (qs.take i) [] (es.map Prod.fst) := by
        refine ⟨eG, ?_, fun q hq => ?_, fun q hq => ?_⟩
        · rw [eG]; exact B.nd.sublist pre.sublist
        · rw [eG] at hq; exact B.inr q (pre.subset hq)
        · rw [eG] at hq; exact (B.re q).mp (pre.subset hq)
      refine ⟨_, rfl, _, rfl, r, _, _, _, rfl, rfl, SqT.of (s3 _ _ hr'), atI_refs hh.1 e1, ra, rfl, ⟨_, SqT.of (s3 _ _ e2)⟩, for_enumT (K := K) (xs := rows[here.toNat].map V.int) (fun j σ' H' => ∃ (es : List (Int × Addr)) (ls : List (List Int)) (v4 v5 : Option V),
          σ' = [some (.ref m), some (.int 0), some (.ref r), some (.ref D), some (.int here), v4, v5] ∧ Same H H' ∧ H' l = some (.lst (qs.map V.int)) ∧ H' D = some (.dK (kvL es)) ∧ LeadsIn H' es ls ∧ LeadI wide rows i j (es.map Prod.fst) ls ∧ (es.map Prod.fst, ls) = leadF rows i (leadN rows wide i) j ∧ (es.map Prod.fst)[i]? = some here ∧
          Part many wide rows (qs.take i) (rows[here.toNat].take j) (es.map Prod.fst))
        ⟨es, ls, v4, v5, rfl, s3, hl3, hD3, L3, F3, eN, at3, PT⟩ (fun i σ' H' _ ⟨_, _, _, _, _, e, _⟩ => SqT.of (e _ _ e2)) ?_ ?_⟩
      · rintro j x σ' H4 T hj ⟨es, ls, v4, v5, rfl, s4, hl4, hD4, L4, F4, eF, at4, P4⟩ hT
        obtain ⟨z, rfl, hz'⟩ := ints_at hj
        have hjl : j < rows[here.toNat].length := (List.getElem?_eq_some_iff.mp hz').1
        have zin := R.val _ (List.getElem_mem l1) z (List.mem_of_getElem? hz')
        have kl := few_below many P4.nd P4.inr
        rw [List.length_map] at kl
        have stp : stepI rows here (j : Int) = z := by
          unfold stepI
          rw [getD_at l1, Int.toNat_natCast, getD_at hjl]
          exact (List.getElem?_eq_some_iff.mp hz').2
        have tk : rows[here.toNat].take (j + 1) = rows[here.toNat].take j ++ [z] := by rw [List.take_add_one, hz']; rfl
        have hT0 : H T = none := s4.free hT
        have nTD : D ≠ T := fun z => by rw [← z, hD4] at hT; cases hT
        have nTl : l ≠ T := fun z => by rw [← z, hl4] at hT; cases hT
        obtain ⟨H5, eH5⟩ : ∃ H5, upd H4 T (HO.tup [V.int j, V.int z]) = H5 := ⟨_, rfl⟩
        have s5 : Same H H5 := by rw [← eH5]; exact same_upd s4 hT0
        have s45 : Same H4 H5 := by rw [← eH5]; exact same_new hT _
        have hD5 := s45 _ _ hD4
        have hl5 := s45 _ _ hl4
        have L5 : LeadsIn H5 es ls := L4.same fun b xs h => s45 _ _ h
        have hT5 : H5 T = some (.tup [V.int j, V.int z]) := by rw [← eH5, upd_same]
        rw [eH5]
        obtain ⟨ai, hai⟩ : ∃ ai, es[i]? = some (here, ai) := by
          rw [List.getElem?_map] at at4
          obtain ⟨e, h1, h2⟩ := Option.map_eq_some_iff.mp at4
          exact ⟨e.2, by rw [h1, ← h2]⟩
        have il : i < es.length := (List.getElem?_eq_some_iff.mp hai).1
        have il' : i < ls.length := by rw [← L5.1]; exact il
        obtain ⟨ml, hml⟩ : ∃ ml, ls[i]? = some ml := ⟨_, List.getElem?_eq_getElem il'⟩
        have eS : leadF rows i (leadN rows wide i) (j + 1) = if z ∈ es.map Prod.fst then (es.map Prod.fst, ls) else (es.map Prod.fst ++ [z], ls ++ [ml ++ [(j : Int)]]) := by
          show leadStep rows i j (leadF rows i (leadN rows wide i) j) = _
          rw [← eF]
          unfold leadStep
          have g1 : (es.map Prod.fst).getD i 0 = here := by rw [List.getD_eq_getElem?_getD, at4]; rfl
          have g2 : ls.getD i [] = ml := by rw [List.getD_eq_getElem?_getD, hml]; rfl
          dsimp only
          rw [g1, g2, stp]
        refine ⟨T, _, rfl, SqT.of hT5, rfl, _, _, rfl, _, _, rfl, rfl, ?_⟩
        refine ⟨_, rfl, _, rfl, D, _, rfl, DGet.k (k := Sum.inl z) hD5, _, rfl, ?_⟩
        by_cases c : z ∈ es.map Prod.fst
        · obtain ⟨a, ha⟩ : ∃ a, valV (kvL es) (Sum.inl z) = some (V.ref a) := by
            obtain ⟨jj, hjj, ejj⟩ := List.getElem_of_mem c
            have : es[jj]? = some (z, (es[jj]'(by simpa using hjj)).2) := by
              rw [List.getElem?_eq_getElem (by simpa using hjj), ← ejj, List.getElem_map]
            exact ⟨_, kvL_at P4.nd this⟩
          rw [ha]
          refine iteF ?_
          refine ⟨es, ls, _, _, rfl, s5, hl5, hD5, L5, F4.old at4 hml (by rw [stp]; exact c), by rw [eS, if_pos c], at4, ?_⟩
          rw [tk]
          exact P4.old c
        · rw [kvL_none c]
          refine iteT ?_
          have dg : DGet H5 D (V.int here) (some (V.ref ai)) := by
            have q := DGet.k (k := Sum.inl here) hD5
            rw [kvL_at P4.nd hai] at q
            exact q
          refine ⟨_, rfl, _, rfl, D, V.ref ai, rfl, dg, _, rfl, (by show 1 ≤ sizeLine; decide), fun t ht => ?_⟩
          have ht0 : H t = none := s5.free ht
          have s6 := same_new ht (HO.tup [V.int j])
          have hai5 := L5.2 i _ _ hai hml
          have mlen : ml.length ≤ 1000 := by
            have := F4.short hml
            omega
          have goal : ∀ (b : Addr) (H6 : Hp), Same H5 H6 → Same H H6 → H6 b = some (.tup ((ml ++ [(j : Int)]).map V.int)) → ∃ (es' : List (Int × Addr)) (ls' : List (List Int)) (v4 v5 : Option V),
              [some (V.ref m), some (V.int 0), some (V.ref r), some (V.ref D), some (V.int here), some (V.int j), some (V.int z)] = [some (V.ref m), some (V.int 0), some (V.ref r), some (V.ref D), some (V.int here), v4, v5] ∧ Same H (upd H6 D (.dK (putK (kvL es) (Sum.inl z) (V.ref b)))) ∧ (upd H6 D (.dK (putK (kvL es) (Sum.inl z) (V.ref b)))) l = some (.lst (qs.map V.int)) ∧
              (upd H6 D (.dK (putK (kvL es) (Sum.inl z) (V.ref b)))) D = some (.dK (kvL es')) ∧ LeadsIn (upd H6 D (.dK (putK (kvL es) (Sum.inl z) (V.ref b)))) es' ls' ∧ LeadI wide rows i (j + 1) (es'.map Prod.fst) ls' ∧ (es'.map Prod.fst, ls') = leadF rows i (leadN rows wide i) (j + 1) ∧ (es'.map Prod.fst)[i]? = some here ∧ Part many wide rows (qs.take i) (rows[here.toNat].take (j + 1)) (es'.map Prod.fst) := by
            intro b H6 s56 sH6 hb
            have hD6 := s56 _ _ hD5
            have tD : ∀ (c : Addr) (xs : List V), H6 c = some (.tup xs) → (upd H6 D (.dK (putK (kvL es) (Sum.inl z) (V.ref b)))) c = some (.tup xs) := fun c xs h => by
              rw [upd_ne (ne_of h hD6 (by intro z; cases z))]; exact h
            have em : (es ++ [(z, b)]).map Prod.fst = es.map Prod.fst ++ [z] := by rw [List.map_append]; rfl
            refine ⟨es ++ [(z, b)], ls ++ [ml ++ [(j : Int)]], _, _, rfl, same_upd sH6 hD, by rw [upd_ne nlD]; exact s56 _ _ hl5, by rw [upd_same, kvL_put c], ?_, ?_, ?_, ?_, ?_⟩
            · refine ⟨by rw [List.length_append, List.length_append, L5.1]; rfl, fun jj e l' he hl' => ?_⟩
              rcases snoc_cases he with he | ⟨rfl, rfl⟩
              · rcases snoc_cases hl' with hl' | ⟨rfl, rfl⟩
                · exact tD _ _ (s56 _ _ (L5.2 jj e l' he hl'))
                · have := (List.getElem?_eq_some_iff.mp he).1
                  rw [L5.1] at this; omega
              · rcases snoc_cases hl' with hl' | ⟨_, rfl⟩
                · have := (List.getElem?_eq_some_iff.mp hl').1
                  rw [← L5.1] at this; omega
                · exact tD _ _ hb
            · rw [em, ← stp]; exact F4.put at4 hml (by omega)
            · rw [em, eS, if_neg c]
            · rw [em]; exact snoc_old at4
            · rw [em, tk]; exact P4.put c zin.1 zin.2 (by rw [← stp]; exact hre.step (by omega) (by omega))
          have hl6 : es.length < sizeLine := small1000 (by omega)
          refine ⟨ai, t, _, _, rfl, rfl, SqT.of (s6 _ _ hai5), SqT.of upd_same, Nat.le_of_lt (Nat.lt_of_le_of_lt (show _ ≤ 1001 by rw [List.length_map]; simp only [List.length_singleton]; omega) (by decide)), fun en => ?_, (fun _ z => by cases z), fun _ _ p hp => ?_⟩
          · have en' : ml = [] := by simpa using en
            refine ⟨_, rfl, _, rfl, D, _, rfl, DPut.k (k := Sum.inl z) (s6 _ _ hD5) (by unfold kvL; rw [List.length_map]; exact hl6), goal t _ s6 (s5.trans s6) (by rw [upd_same, en']; rfl)⟩
          · have s7 := s6.trans (same_new hp (HO.tup (ml.map V.int ++ [V.int j])))
            refine ⟨_, rfl, _, rfl, D, _, rfl, DPut.k (k := Sum.inl z) (s7 _ _ hD5) (by unfold kvL; rw [List.length_map]; exact hl6), goal p _ s7 (s5.trans s7) (by rw [upd_same, List.map_append]; rfl)⟩
      · rintro σ' H4 ⟨es, ls, v4, v5, rfl, s4, hl4, hD4, L4, F4, eF, at4, P4⟩
        rw [List.length_map, lr] at F4 eF
        rw [List.length_map, List.take_length] at P4
        refine ⟨es, ls, _, _, _, rfl, s4, hl4, hD4, L4, F4.turn, eF, ?_⟩
        rw [P4.eq, List.take_add_one, hz, List.foldl_append]
        show _ = growI rows _ here
        unfold growI
        rw [getD_at l1]
    · rintro σ' H3 ⟨es, ls, v3, v4, v5, rfl, s3, hl3, hD3, L3, F3, eN, eG⟩
      rw [List.length_map] at F3 eN eG
      rw [List.take_length, ← B.eq] at eG
      rw [← eG] at F3 eN B
      exact nxt _ _ ⟨es, ls, v3, v4, v5, rfl, s3, hD3, L3, B, F3, eN⟩
  rintro σ' H2 ⟨es, ls, v3, v4, v5, rfl, s2, hD2, L2', B, F2, eN⟩
  exact ⟨_, rfl, k D H2 es ls s2 hD2 L2' B F2 eN⟩
theorem ok_leads (F : FunD K "leads" "leads" s_leads dV f fd) (G_first_rows : DefOk P w K mg base "first_rows" 2 ["machine", "start"] [] (spFirst0 K)) (z_tuple : mg "tuple" = none) (z_range : mg "range" = none) (z_len : mg "len" = none) : FnOk P w K mg base CX0 3 f fd ["machine"] (spLeads K) := by
  refine F.ok sc_leads (fun vs H Q E h => ?_) (fun cdv A outer s H vs Q E hr h => ?_)
  · obtain ⟨m, r, g, many, wide, rows, signs, rfl, _⟩ := h
    rfl
  obtain ⟨m, r, g, many, wide, rows, signs, rfl, M, R, ⟨n0, n1⟩, k⟩ := h
  obtain ⟨ras, hr', hA⟩ := M.rows
  have hu := hu_of hr
  refine body_w (ws_cons (PSW.mk (ps_set (i := 1) sc_leads.nd rfl (Or.inr rfl) (pe_cd G_first_rows hr (pa_cons (pv 0) (pa_cons pe_int pa_nil)))))
      (ws_one (PSW.mk (ps_ret (pe_callTy call_tuple_of (by rfl) z_tuple bt_tuple (pa_cons (pe_comp rfl bk_leads_0 (pi_range1 rfl z_range (pa_cons (pe_callB call_len_seq (by rfl) z_len bt_len (pa_cons (pe_ix ix_tup (pv 0) pe_int (fun _ _ => rfl)) pa_nil)) pa_nil)) (fun _ _ _ _ => (pg_name (i := 0) bk_leads_0.nd rfl (Or.inl rfl))) (fun _ _ _ _ => (pe_dget1 hu (pv 1) (pv 0) ⟨rfl, rfl, rfl, rfl⟩))) pa_nil)))))) ?_
  refine ⟨_, rfl, m, r, g, many, wide, rows, signs, rfl, M, R, ⟨n0, n1⟩, fun D H2 es ls s2 hD2 L2' B F2 eN => ?_⟩
  have lras : ras.length = many := (RowsAt.length hA).trans R.len
  refine ⟨_, rfl, m, _, _, _, rfl, rfl, SqT.of (s2 _ _ M.tup), rfl, r, _, rfl, .inr (SqT.of (s2 _ _ hr')), _, rfl, by rw [List.length_map, lras]; omega, by rw [List.length_map, lras]; omega, ?_⟩
  refine comp_range (fun L i ys H' => Same H2 H' ∧ ys = (List.range i).map fun q : Nat => (valV (kvL es) (Sum.inl (q : Int))).getD .non) (fun L hL => ⟨same_new hL _, rfl⟩) ?_ ?_
  · rintro L i ys H' Q' hL hi hy ⟨hs, rfl⟩ k'
    rw [List.length_map, lras, Int.toNat_natCast] at hi
    refine ⟨_, rfl, D, rfl, .inl ⟨_, .inl (hs _ _ hD2)⟩, _, rfl, _, DGet.k (k := Sum.inl (0 + (i : Int))) (hs _ _ hD2), k' _ H' hy (small1000 (by rw [List.length_map, List.length_range]; omega)) ⟨same_upd hs hL, ?_⟩⟩
    rw [List.range_succ, List.map_append, Int.zero_add]
    rfl
  rintro L ys H3 hL0 hL ⟨s3, rfl⟩
  rw [List.length_map, lras, Int.toNat_natCast] at hL
  refine ⟨L, _, rfl, .inl ⟨SqL.of hL, fun t ht => ?_⟩⟩
  refine k t _ (es.map Prod.fst) ls _ (s2.trans (s3.trans (same_new ht _))) B F2 eN upd_same (by rw [List.length_map, List.length_range]) (fun q hq hn => ?_) (fun j q l hj hl => ?_)
  · rw [List.getElem?_map, List.getElem?_range hq]
    show some ((valV (kvL es) (Sum.inl (q : Int))).getD .non) = _
    rw [kvL_none hn]
    rfl
  · have hq := B.inr q (List.mem_of_getElem? hj)
    rw [List.getElem?_map] at hj
    obtain ⟨e, h1, h2⟩ := Option.map_eq_some_iff.mp hj
    have h1' : es[j]? = some (q, e.2) := by rw [h1, ← h2]
    refine ⟨e.2, ?_, (same_new ht _) _ _ (s3 _ _ (L2'.2 j e l h1 hl))⟩
    rw [List.getElem?_map, List.getElem?_range (show q.toNat < many by omega)]
    show some ((valV (kvL es) (Sum.inl ((q.toNat : Nat) : Int))).getD .non) = _
    rw [Int.toNat_of_nonneg hq.1, kvL_at B.nd h1']
    rfl
end
end My

set_option Elab.async false
set_option linter.all false
set_option maxRecDepth 100000
set_option maxHeartbeats 8000000
namespace My
open PySem L2
/-! ### rooms in groups -/
def grp (gs : List Int) (x : Int) : Int := gs.getD x.toNat 0
/-- gs: each room's group; mm: each group's rooms -/
structure PartOk (n : Nat) (gs : List Int) (mm : List (List Int)) : Prop where
  lg : gs.length = n
  lm : mm.length = n
  rg : ∀ x : Nat, x < n → 0 ≤ grp gs x ∧ grp gs x < (n : Int)
  me : ∀ (g : Nat) (m : List Int), mm[g]? = some m → m.Nodup ∧ (∀ x ∈ m, 0 ≤ x ∧ x < (n : Int)) ∧ ∀ x : Nat, x < n → ((x : Int) ∈ m ↔ grp gs x = (g : Int))
def bigger (mm : List (List Int)) (a b : Int) : Bool := decide ((mm.getD b.toNat []).length < (mm.getD a.toNat []).length)
def smallOf (gs : List Int) (mm : List (List Int)) (x y : Int) : Int := if bigger mm (grp gs x) (grp gs y) = true then grp gs y else grp gs x
def greatOf (gs : List Int) (mm : List (List Int)) (x y : Int) : Int := if bigger mm (grp gs x) (grp gs y) = true then grp gs x else grp gs y
def joinG (gs : List Int) (s g : Int) : List Int := gs.map fun k => if k = s then g else k
def joinM (mm : List (List Int)) (s g : Int) : List (List Int) := (mm.set g.toNat (mm.getD g.toNat [] ++ mm.getD s.toNat [])).set s.toNat []
theorem grp_join {n : Nat} {gs : List Int} {s g : Int} (h : gs.length = n) {x : Nat} (hx : x < n) : grp (joinG gs s g) x = if grp gs x = s then g else grp gs x := by
  unfold grp joinG
  rw [Int.toNat_natCast, List.getD_eq_getElem?_getD, List.getElem?_map, List.getElem?_eq_getElem (by omega), List.getD_eq_getElem?_getD, List.getElem?_eq_getElem (by omega)]
  rfl
theorem PartOk.join {n : Nat} {gs : List Int} {mm : List (List Int)} {s g : Nat} (h : PartOk n gs mm) (hs : s < n) (hg : g < n) (ne : s ≠ g) : PartOk n (joinG gs s g) (joinM mm s g) where
  lg := by unfold joinG; rw [List.length_map]; exact h.lg
  lm := by unfold joinM; rw [List.length_set, List.length_set]; exact h.lm
  rg := fun x hx => by
    rw [grp_join h.lg hx]
    split
    · omega
    · exact h.rg x hx
  me := fun k m hk => by
    unfold joinM at hk
    rw [Int.toNat_natCast, Int.toNat_natCast] at hk
    have lk : k < n := by
      have := (List.getElem?_eq_some_iff.mp hk).1
      rw [List.length_set, List.length_set, h.lm] at this
      exact this
    have ms : mm[s]? = some (mm.getD s []) := by rw [List.getD_eq_getElem?_getD, List.getElem?_eq_getElem (by rw [h.lm]; exact hs)]; rfl
    have mg : mm[g]? = some (mm.getD g []) := by rw [List.getD_eq_getElem?_getD, List.getElem?_eq_getElem (by rw [h.lm]; exact hg)]; rfl
    by_cases e1 : k = s
    · subst e1
      rw [List.getElem?_set_self (by rw [List.length_set, h.lm]; exact lk)] at hk
      cases hk
      refine ⟨List.nodup_nil, (fun x hx => by cases hx), fun x hx => ⟨(fun z => by cases z), fun z => ?_⟩⟩
      rw [grp_join h.lg hx] at z
      split at z <;> omega
    · rw [List.getElem?_set_ne (Ne.symm e1)] at hk
      by_cases e2 : k = g
      · subst e2
        rw [List.getElem?_set_self (by rw [h.lm]; exact lk)] at hk
        cases hk
        have hS := h.me s _ ms
        have hG := h.me k _ mg
        refine ⟨List.nodup_append.mpr ⟨hG.1, hS.1, fun a ha b hb e => ?_⟩, fun x hx => ?_, fun x hx => ?_⟩
        · subst e
          have ra := hG.2.1 a ha
          have ea : a = ((a.toNat : Nat) : Int) := by omega
          rw [ea] at ha hb
          have h1 := (hG.2.2 a.toNat (by omega)).mp ha
          have h2 := (hS.2.2 a.toNat (by omega)).mp hb
          omega
        · rcases List.mem_append.mp hx with z | z
          · exact hG.2.1 x z
          · exact hS.2.1 x z
        · rw [grp_join h.lg hx, List.mem_append, hG.2.2 x hx, hS.2.2 x hx]
          split <;> omega
      · rw [List.getElem?_set_ne (Ne.symm e2)] at hk
        have hK := h.me k m hk
        refine ⟨hK.1, hK.2.1, fun x hx => ?_⟩
        rw [grp_join h.lg hx, hK.2.2 x hx]
        split <;> omega
theorem PartOk.start (n : Nat) : PartOk n ((List.range n).map fun i : Nat => (i : Int)) ((List.range n).map fun i : Nat => [(i : Int)]) where
  lg := by rw [List.length_map, List.length_range]
  lm := by rw [List.length_map, List.length_range]
  rg := fun x hx => by
    unfold grp
    rw [Int.toNat_natCast, List.getD_eq_getElem?_getD, List.getElem?_map, List.getElem?_range hx]
    show 0 ≤ (x : Int) ∧ (x : Int) < (n : Int)
    omega
  me := fun g m hg => by
    rw [List.getElem?_map] at hg
    obtain ⟨k, h1, h2⟩ := Option.map_eq_some_iff.mp hg
    obtain ⟨h3, h4⟩ := List.getElem?_eq_some_iff.mp h1
    rw [List.length_range] at h3
    rw [List.getElem_range] at h4
    subst h4 h2
    refine ⟨by simp, fun x hx => ?_, fun x hx => ?_⟩
    · rw [List.mem_singleton.mp hx]; omega
    · unfold grp
      rw [Int.toNat_natCast, List.getD_eq_getElem?_getD, List.getElem?_map, List.getElem?_range hx, List.mem_singleton]
      rfl
/-! ### Alike: where its lists lie -/
def MemAt (H : Hp) : List Addr → List (List Int) → Prop := Paired fun a m => H a = some (.lst (m.map V.int))
structure AlikeAt (H : Hp) (C o dx ga ma : Addr) (mas : List Addr) (gs : List Int) (mm : List (List Int)) : Prop where
  obj : H o = some (.ins C dx [("group_of", .ref ga), ("members", .ref ma)])
  grp : H ga = some (.lst (gs.map V.int))
  mem : H ma = some (.lst (mas.map V.ref))
  each : MemAt H mas mm
  nd : mas.Nodup
  ng : ga ∉ mas
  nm : ma ∉ mas
  ngm : ga ≠ ma
theorem MemAt.length {H : Hp} {mas : List Addr} {mm : List (List Int)} (h : MemAt H mas mm) : mas.length = mm.length := Paired.length h
theorem MemAt.get : ∀ {H : Hp} {mas : List Addr} {mm : List (List Int)} {i : Nat}, MemAt H mas mm → (h : i < mm.length) → ∃ a, mas[i]? = some a ∧ H a = some (.lst (mm[i].map V.int))
  | H, a :: mas, m :: mm, 0, .cons e t, h => ⟨a, rfl, e⟩
  | H, a :: mas, m :: mm, i + 1, .cons e t, h => by
    obtain ⟨b, h1, h2⟩ := MemAt.get (i := i) t (by simpa using h)
    exact ⟨b, h1, h2⟩
  | H, [], [], _, .nil, h => absurd h (Nat.not_lt_zero _)
theorem MemAt.frame {H H' : Hp} {mas : List Addr} {mm : List (List Int)} (h : MemAt H mas mm) (s : ∀ a ∈ mas, H' a = H a) : MemAt H' mas mm := by
  induction h with
  | nil => exact .nil
  | cons e t ih => exact .cons ((s _ List.mem_cons_self).trans e) (ih fun a ha => s a (List.mem_cons_of_mem _ ha))
/-- one list is another one now -/
theorem MemAt.set : ∀ {H H' : Hp} {mas : List Addr} {mm : List (List Int)} {i : Nat} {b : Addr} {m : List Int}, MemAt H mas mm → (∀ j a, j ≠ i → mas[j]? = some a → H' a = H a) → H' b = some (.lst (m.map V.int)) → MemAt H' (mas.set i b) (mm.set i m)
  | H, H', [], [], i, b, m, .nil, _, _ => .nil
  | H, H', a :: mas, x :: mm, 0, b, m, .cons e t, s, hb => .cons hb (MemAt.frame t fun c hc => by
      obtain ⟨j, hj, ej⟩ := List.getElem_of_mem hc
      exact s (j + 1) c (by omega) (by rw [List.getElem?_cons_succ, List.getElem?_eq_getElem hj, ej]))
  | H, H', a :: mas, x :: mm, i + 1, b, m, .cons e t, s, hb => .cons ((s 0 a (by omega) rfl).trans e) (MemAt.set t (fun j c hj hc => s (j + 1) c (by omega) hc) hb)
end My

set_option Elab.async false
set_option linter.all false
set_option maxRecDepth 100000
set_option maxHeartbeats 8000000
namespace My
open PySem L2
def spAlikeInit (C : Addr) : Sp := fun vs H Q _ => ∃ (x dx : Addr) (n : Nat), vs = [.ref x, .int n] ∧ H x = some (.ins C dx []) ∧ n ≤ 1000 ∧ ∀ (H' : Hp) (ga ma : Addr) (mas : List Addr), (∀ b u, b ≠ x → H b = some u → H' b = some u) → H ga = none → H ma = none → (∀ a ∈ mas, H a = none) →
  AlikeAt H' C x dx ga ma mas ((List.range n).map fun i : Nat => (i : Int)) ((List.range n).map fun i : Nat => [(i : Int)]) → Q .non H'
theorem MemAt.snoc : ∀ {H : Hp} {mas : List Addr} {mm : List (List Int)} {a : Addr} {m : List Int}, MemAt H mas mm → H a = some (.lst (m.map V.int)) → MemAt H (mas ++ [a]) (mm ++ [m])
  | H, [], [], a, m, .nil, h => .cons h .nil
  | H, b :: mas, x :: mm, a, m, .cons e t, h => .cons e (MemAt.snoc t h)
section
variable {P : Program} {w : World} {K : PySem.W.Frag} {mg : Str → Option Value} {base : Heap} {f : Addr} {fd : FuncData} {dV : Value} {C : Addr}
theorem sc_Alike___init__ : FnScope ["self", "many"] ["self", "many"] (defScope s_Alike___init__) := ⟨rfl, rfl, rfl, by decide +kernel, rfl, by decide +kernel, by decide +kernel⟩
theorem bk_Alike___init___0 : BlkScope ["self", "many"] (defScope s_Alike___init__) ["here"] [none] { kind := ScopeKind.function, names := [(".0", NameKind.local), ("here", NameKind.local)], isGenerator := false, isCoroutine := false, more := [] } := ⟨rfl, by decide +kernel, by decide +kernel, by decide +kernel, by decide +kernel, rfl, by decide +kernel⟩
theorem sc_Alike_take_as_alike : FnScope ["self", "one", "other", "small", "great", "moved", "here"] ["self", "one", "other"] (defScope s_Alike_take_as_alike) := ⟨rfl, rfl, rfl, by decide +kernel, rfl, by decide +kernel, by decide +kernel⟩
theorem ok_alikeInit (F : FunD K "__init__" "Alike.__init__" s_Alike___init__ dV f fd) (cl : Cls K C) (n1 : NoAttr K C "group_of") (n2 : NoAttr K C "members") (z_list : mg "list" = none) (z_range : mg "range" = none) : FnOk P w K mg base CX0 1 f fd ["self", "many"] (spAlikeInit C) := by
  refine F.ok sc_Alike___init__ (fun vs H Q E h => ?_) (fun cdv A outer s H vs Q E hr h => ?_)
  · obtain ⟨x, dx, n, rfl, _⟩ := h
    rfl
  obtain ⟨x, dx, n, rfl, hx, hn, k⟩ := h
  refine ⟨_, (pss_cons (ps_fld (pv 0) (pe_listRng rfl rfl z_list rfl z_range (pa_cons (pv 1) pa_nil)) rfl)
      (pss_one (ps_fld (pv 0) (pe_comp rfl bk_Alike___init___0 (pi_range1 rfl z_range (pa_cons (pv 1) pa_nil)) (fun _ _ _ _ => (pg_name (i := 0) bk_Alike___init___0.nd rfl (Or.inl rfl))) (fun _ _ _ _ => (pe_lst (pa_cons (pv 0) pa_nil)))) rfl))), ?_⟩
  refine ⟨_, rfl, n, rfl, small hn, fun ga hga => ?_⟩
  have nxg : x ≠ ga := ne_of_none hx hga
  refine ⟨_, rfl, x, C, dx, [], rfl, by rw [upd_ne nxg]; exact hx, cl, n1, by decide, ?_⟩
  obtain ⟨H2, eH2⟩ : ∃ H2, upd (upd H ga (HO.lst ((List.range n).map fun i : Nat => V.int i))) x (HO.ins C dx (putF "group_of" (V.ref ga) [])) = H2 := ⟨_, rfl⟩
  rw [eH2]
  have k2 : ∀ b u, b ≠ x → H b = some u → H2 b = some u := fun b u hb h => by
    rw [← eH2, upd_ne hb, upd_ne (ne_of_none h hga)]; exact h
  have x2 : H2 x = some (.ins C dx [("group_of", .ref ga)]) := by rw [← eH2, upd_same]; rfl
  have g2 : H2 ga = some (.lst ((List.range n).map fun i : Nat => V.int i)) := by rw [← eH2, upd_ne (Ne.symm nxg), upd_same]
  have f2 : ∀ {b}, H2 b = none → H b = none := fun {b} h => by
    rcases Decidable.em (b = x) with z | z
    · subst z; rw [x2] at h; cases h
    · cases e : H b with
      | none => rfl
      | some u => rw [k2 b u z e] at h; cases h
  refine ⟨_, rfl, (n : Int), rfl, by omega, by omega, ?_⟩
  refine comp_range (fun D i ys H' => Same H2 H' ∧ ∃ as : List Addr, ys = as.map V.ref ∧ MemAt H' as ((List.range i).map fun i : Nat => [(i : Int)]) ∧ as.Nodup ∧ D ∉ as ∧ ∀ a ∈ as, H2 a = none) (fun D hD => ⟨same_new hD _, [], rfl, .nil, List.nodup_nil, by simp, by simp⟩) ?_ ?_
  · rintro D i ys H' Q' hD hi hy ⟨hs, as, rfl, hM, nd, nD, fr⟩ k'
    rw [Int.toNat_natCast] at hi
    refine ⟨_, rfl, (by show 1 ≤ sizeLine; decide), fun l hl => ?_⟩
    have nlD : D ≠ l := ne_of_none hy hl
    have nl : l ∉ as := fun z => by
      obtain ⟨j, hj, ej⟩ := List.getElem_of_mem z
      obtain ⟨b, h1, h2⟩ := MemAt.get (i := j) hM (by rw [← hM.length]; exact hj)
      rw [List.getElem?_eq_getElem hj, ej] at h1
      cases h1
      rw [hl] at h2
      cases h2
    have ll := hM.length
    rw [List.length_map, List.length_range] at ll
    refine k' _ _ (by rw [upd_ne nlD]; exact hy) (small1000 (by rw [List.length_map]; omega)) ⟨same_upd (same_upd hs (hs.free hl)) hD, as ++ [l], by rw [List.map_append]; rfl, ?_, ?_, ?_, ?_⟩
    · rw [List.range_succ, List.map_append]
      refine MemAt.snoc (hM.frame fun a ha => ?_) ?_
      · rw [upd_ne (fun z : a = D => nD (z ▸ ha)), upd_ne (fun z : a = l => nl (z ▸ ha))]
      · rw [upd_ne (Ne.symm nlD), upd_same, Int.zero_add]
        rfl
    · exact List.nodup_append.mpr ⟨nd, by simp, fun a ha b hb e => nl (by rw [← List.mem_singleton.mp hb, ← e]; exact ha)⟩
    · intro z
      rcases List.mem_append.mp z with z | z
      · exact nD z
      · exact nlD (List.mem_singleton.mp z)
    · intro a ha
      rcases List.mem_append.mp ha with z | z
      · exact fr a z
      · rw [List.mem_singleton.mp z]; exact hs.free hl
  rintro D ys H3 hD0 hD ⟨s3, as, rfl, hM, nd, nD, fr⟩
  rw [Int.toNat_natCast] at hM
  have x3 := s3 _ _ x2
  refine ⟨_, rfl, x, C, dx, _, rfl, x3, cl, n2, by show 1 < 1000; decide, ?_⟩
  have nDx : D ≠ x := fun z => by rw [z, x2] at hD0; cases hD0
  refine k _ ga D as (fun b u hb h => ?_) hga (f2 hD0) (fun a ha => f2 (fr a ha)) ⟨?_, ?_, ?_, ?_, nd, ?_, nD, ?_⟩
  · rw [upd_ne hb]; exact s3 _ _ (k2 b u hb h)
  · rw [upd_same]; rfl
  · rw [upd_ne (Ne.symm nxg), List.map_map]; exact s3 _ _ g2
  · rw [upd_ne nDx]; exact hD
  · refine hM.frame fun a ha => ?_
    rw [upd_ne (fun z : a = x => by have := fr a ha; rw [z, x2] at this; cases this)]
  · intro z
    have := fr ga z
    rw [g2] at this
    cases this
  · exact fun z => by rw [← z, g2] at hD0; cases hD0
end
end My

set_option Elab.async false
set_option linter.all false
set_option maxRecDepth 100000
set_option maxHeartbeats 8000000
namespace My
open PySem L2
/-! ### take_as_alike -/
def putAll (g : Int) (xs gs : List Int) : List Int := xs.foldl (fun gs x => gs.set x.toNat g) gs
theorem putAll_len (g : Int) : ∀ (xs gs : List Int), (putAll g xs gs).length = gs.length
  | [], _ => rfl
  | x :: xs, gs => (putAll_len g xs (gs.set x.toNat g)).trans (List.length_set ..)
theorem putAll_at (g : Int) : ∀ (xs gs : List Int) (j : Nat), (∀ x ∈ xs, 0 ≤ x) → j < gs.length → (putAll g xs gs)[j]? = if (j : Int) ∈ xs then some g else gs[j]?
  | [], gs, j, _, _ => by rw [if_neg (by simp)]; rfl
  | x :: xs, gs, j, h, hj => by
    have x0 := h x List.mem_cons_self
    show (putAll g xs (gs.set x.toNat g))[j]? = _
    rw [putAll_at g xs (gs.set x.toNat g) j (fun y hy => h y (List.mem_cons_of_mem _ hy)) (by rw [List.length_set]; exact hj)]
    by_cases e1 : (j : Int) ∈ xs
    · rw [if_pos e1, if_pos (List.mem_cons_of_mem _ e1)]
    · rw [if_neg e1]
      by_cases e2 : (j : Int) = x
      · rw [if_pos (by rw [e2]; exact List.mem_cons_self)]
        have : x.toNat = j := by omega
        rw [this, List.getElem?_set_self hj]
      · rw [if_neg (by intro z; rcases List.mem_cons.mp z with z | z; exact e2 z; exact e1 z)]
        rw [List.getElem?_set_ne (by omega)]
theorem putAll_join {n : Nat} {gs : List Int} {mm : List (List Int)} {s : Nat} {g : Int} {m : List Int} (h : PartOk n gs mm) (hm : mm[s]? = some m) : putAll g m gs = joinG gs s g := by
  have M := h.me s m hm
  apply List.ext_getElem?
  intro j
  by_cases hj : j < gs.length
  · rw [putAll_at g m gs j (fun x hx => (M.2.1 x hx).1) hj]
    unfold joinG
    have e : grp gs (j : Int) = gs[j] := by unfold grp; rw [Int.toNat_natCast, List.getD_eq_getElem?_getD, List.getElem?_eq_getElem hj]; rfl
    have q := M.2.2 j (by rw [← h.lg]; exact hj)
    rw [e] at q
    rw [List.getElem?_map, List.getElem?_eq_getElem hj]
    by_cases c : (j : Int) ∈ m
    · rw [if_pos c]
      show _ = some (if gs[j] = (s : Int) then g else gs[j])
      rw [if_pos (q.mp c)]
    · rw [if_neg c]
      show _ = some (if gs[j] = (s : Int) then g else gs[j])
      rw [if_neg (fun z => c (q.mpr z))]
  · rw [List.getElem?_eq_none (by rw [putAll_len]; omega), List.getElem?_eq_none (by unfold joinG; rw [List.length_map]; omega)]
theorem ixN_of {n j : Nat} (h : j < n) : ixN n (j : Int) = some j := by
  unfold ixN
  rw [if_pos (by omega), if_pos (by omega), Int.toNat_natCast]
theorem nodup_set : ∀ {l : List Addr} {i : Nat} {a : Addr}, l.Nodup → a ∉ l → (l.set i a).Nodup
  | [], _, _, _, _ => List.nodup_nil
  | b :: l, 0, a, nd, h => List.nodup_cons.mpr ⟨fun z => h (List.mem_cons_of_mem _ z), (List.nodup_cons.mp nd).2⟩
  | b :: l, i + 1, a, nd, h => by
    have nd' := List.nodup_cons.mp nd
    refine List.nodup_cons.mpr ⟨fun z => ?_, nodup_set nd'.2 fun z => h (List.mem_cons_of_mem _ z)⟩
    rcases List.mem_or_eq_of_mem_set z with z | z
    · exact nd'.1 z
    · exact h (by rw [← z]; exact List.mem_cons_self)
def spTake (C : Addr) : Sp := fun vs H Q _ => ∃ (x dx ga ma : Addr) (mas : List Addr) (gs : List Int) (mm : List (List Int)) (n : Nat) (a b : Int), vs = [.ref x, .int a, .int b] ∧ AlikeAt H C x dx ga ma mas gs mm ∧ PartOk n gs mm ∧ n ≤ 1000 ∧ (0 ≤ a ∧ a < (n : Int)) ∧ (0 ≤ b ∧ b < (n : Int)) ∧ grp gs a ≠ grp gs b ∧
  ∀ (H' : Hp) (mas' : List Addr), (∀ c u, c ≠ ga → c ≠ ma → c ∉ mas → H c = some u → H' c = some u) → (∀ c ∈ mas', c ∈ mas ∨ H c = none) → AlikeAt H' C x dx ga ma mas' (joinG gs (smallOf gs mm a b) (greatOf gs mm a b)) (joinM mm (smallOf gs mm a b) (greatOf gs mm a b)) → Q .non H'
section
variable {P : Program} {w : World} {K : PySem.W.Frag} {mg : Str → Option Value} {base : Heap} {f : Addr} {fd : FuncData} {dV : Value} {C : Addr}
theorem ok_take (F : FunD K "take_as_alike" "Alike.take_as_alike" s_Alike_take_as_alike dV f fd) (cl : Cls K C) (n1 : NoAttr K C "group_of") (n2 : NoAttr K C "members") (z_len : mg "len" = none) : FnOk P w K mg base CX0 1 f fd ["self", "one", "other"] (spTake C) := by
  refine F.ok sc_Alike_take_as_alike (fun vs H Q E h => ?_) (fun cdv A outer s H vs Q E hr h => ?_)
  · obtain ⟨x, dx, ga, ma, mas, gs, mm, n, a, b, rfl, _⟩ := h
    rfl
  obtain ⟨x, dx, ga, ma, mas, gs, mm, n, a, b, rfl, AA, PO, hn, ⟨a0, a1⟩, ⟨b0, b1⟩, nab, k⟩ := h
  have lg := PO.lg
  have lM := AA.each.length
  have ra := PO.rg a.toNat (by omega)
  have rb := PO.rg b.toNat (by omega)
  have ea : ((a.toNat : Nat) : Int) = a := by omega
  have eb : ((b.toNat : Nat) : Int) = b := by omega
  rw [ea] at ra
  rw [eb] at rb
  have gAt : ∀ {y : Int}, 0 ≤ y → y < (n : Int) → atI (gs.map V.int) y = some (.int (grp gs y)) := fun {y} y0 y1 => atI_ints y0 (by omega)
  have mAt : ∀ {g : Int}, 0 ≤ g → g < (n : Int) → ∃ c, mas[g.toNat]? = some c ∧ atI (mas.map V.ref) g = some (.ref c) ∧ H c = some (.lst ((mm.getD g.toNat []).map V.int)) ∧ mm[g.toNat]? = some (mm.getD g.toNat []) := fun {g} g0 g1 => by
    have hl : g.toNat < mm.length := by rw [PO.lm]; omega
    obtain ⟨c, h1, h2⟩ := MemAt.get (i := g.toNat) AA.each hl
    refine ⟨c, h1, atI_refs g0 h1, ?_, ?_⟩
    · rw [List.getD_eq_getElem?_getD, List.getElem?_eq_getElem hl]; exact h2
    · rw [List.getD_eq_getElem?_getD, List.getElem?_eq_getElem hl]; rfl
  refine ⟨_, (pss_cons (ps_set (i := 3) sc_Alike_take_as_alike.nd rfl (Or.inl rfl) (pe_ix ix_list (pe_fld (pv 0) rfl) (pv 1) (fun _ _ => rfl)))
      (pss_cons (ps_set (i := 4) sc_Alike_take_as_alike.nd rfl (Or.inl rfl) (pe_ix ix_list (pe_fld (pv 0) rfl) (pv 2) (fun _ _ => rfl)))
      (pss_cons (ps_if (pt_cmpR op_gt (pe_callB call_len_seq (by rfl) z_len bt_len (pa_cons (pe_ix ix_list (pe_fld (pv 0) rfl) (pv 3) (fun _ _ => rfl)) pa_nil)) (pe_callB call_len_seq (by rfl) z_len bt_len (pa_cons (pe_ix ix_list (pe_fld (pv 0) rfl) (pv 4) (fun _ _ => rfl)) pa_nil)) (nomark _)) (pss_cons (ps_set (i := 3) sc_Alike_take_as_alike.nd rfl (Or.inl rfl) (pe_ix ix_list (pe_fld (pv 0) rfl) (pv 2) (fun _ _ => rfl)))
      (pss_one (ps_set (i := 4) sc_Alike_take_as_alike.nd rfl (Or.inl rfl) (pe_ix ix_list (pe_fld (pv 0) rfl) (pv 1) (fun _ _ => rfl))))) pss_nil)
      (pss_cons (ps_set (i := 5) sc_Alike_take_as_alike.nd rfl (Or.inl rfl) (pe_ix ix_list (pe_fld (pv 0) rfl) (pv 3) (fun _ _ => rfl)))
      (pss_cons (ps_for PassesOwn.never rfl (pi_list (pv 5)) (pg_name (i := 6) sc_Alike_take_as_alike.nd rfl (Or.inl rfl)) (pss_one (ps_asg (pv 4) (pg_sub (pe_fld (pv 0) rfl) (pv 6) set_list))))
      (pss_cons (ps_expr (pe_bm PySem.F.plainAttrs_list PySem.F.slot_list_extend PySem.F.type_list_extend mt_extend (pe_ix ix_list (pe_fld (pv 0) rfl) (pv 4) (fun _ _ => rfl)) (pa_cons (pv 5) pa_nil)))
      (pss_one (ps_asg (pe_lst pa_nil) (pg_sub (pe_fld (pv 0) rfl) (pv 3) set_list))))))))), ?_⟩
  refine ⟨_, rfl, x, C, dx, _, _, rfl, AA.obj, cl, n1, rfl, _, rfl, ga, _, _, _, rfl, rfl, SqL.of AA.grp, gAt a0 a1, ?_⟩
  refine ⟨_, rfl, x, C, dx, _, _, rfl, AA.obj, cl, n1, rfl, _, rfl, ga, _, _, _, rfl, rfl, SqL.of AA.grp, gAt b0 b1, ?_⟩
  try dsimp only [gName]
  refine cut_seq (t := tIfS _ _ _) (fun σ' H' => σ' = [some (.ref x), some (.int a), some (.int b), some (.int (smallOf gs mm a b)), some (.int (greatOf gs mm a b)), none, none] ∧ H = H') ?_ (fun nxt => ?_)
  rotate_left
  · obtain ⟨ca, _, ma1, ma2, _⟩ := mAt ra.1 ra.2
    obtain ⟨cb, _, mb1, mb2, _⟩ := mAt rb.1 rb.2
    refine ⟨_, rfl, x, C, dx, _, _, rfl, AA.obj, cl, n2, rfl, _, rfl, ma, _, _, _, rfl, rfl, SqL.of AA.mem, ma1, ca, _, rfl, .inl (SqL.of ma2), ?_⟩
    refine ⟨_, rfl, x, C, dx, _, _, rfl, AA.obj, cl, n2, rfl, _, rfl, ma, _, _, _, rfl, rfl, SqL.of AA.mem, mb1, cb, _, rfl, .inl (SqL.of mb2), _, _, rfl, rfl, _, rfl, ?_⟩
    rw [List.length_map, List.length_map]
    have big : bigger mm (grp gs a) (grp gs b) = decide ((((mm.getD (grp gs b).toNat []).length : Nat) : Int) < (((mm.getD (grp gs a).toNat []).length : Nat) : Int)) := by
      unfold bigger
      rw [decide_eq_decide]
      omega
    refine iteD (fun c => ?_) (fun c => ?_)
    · refine ⟨_, rfl, x, C, dx, _, _, rfl, AA.obj, cl, n1, rfl, _, rfl, ga, _, _, _, rfl, rfl, SqL.of AA.grp, gAt b0 b1, ?_⟩
      refine ⟨_, rfl, x, C, dx, _, _, rfl, AA.obj, cl, n1, rfl, _, rfl, ga, _, _, _, rfl, rfl, SqL.of AA.grp, gAt a0 a1, ?_⟩
      refine nxt _ _ ⟨?_, rfl⟩
      unfold smallOf greatOf
      rw [big, decide_eq_true c, if_pos rfl, if_pos rfl]
      rfl
    · refine nxt _ _ ⟨?_, rfl⟩
      unfold smallOf greatOf
      rw [big, decide_eq_false c, if_neg (by decide), if_neg (by decide)]
      rfl
  rintro σ' H' ⟨rfl, rfl⟩
  obtain ⟨sv, es⟩ : ∃ sv, smallOf gs mm a b = sv := ⟨_, rfl⟩
  obtain ⟨gv, eg⟩ : ∃ gv, greatOf gs mm a b = gv := ⟨_, rfl⟩
  rw [es, eg] at k ⊢
  have rs : 0 ≤ sv ∧ sv < (n : Int) := by rw [← es]; unfold smallOf; split <;> omega
  have rg : 0 ≤ gv ∧ gv < (n : Int) := by rw [← eg]; unfold greatOf; split <;> omega
  have nsg : sv ≠ gv := by rw [← es, ← eg]; unfold smallOf greatOf; split <;> omega
  obtain ⟨cs, ms0, ms1, ms2, ms3⟩ := mAt rs.1 rs.2
  obtain ⟨cg, mg0, mg1, mg2, mg3⟩ := mAt rg.1 rg.2
  obtain ⟨m, em⟩ : ∃ m, mm.getD sv.toNat [] = m := ⟨_, rfl⟩
  obtain ⟨m2, em2⟩ : ∃ m2, mm.getD gv.toNat [] = m2 := ⟨_, rfl⟩
  rw [em] at ms2 ms3
  rw [em2] at mg2 mg3
  have MS := PO.me _ _ ms3
  have MG := PO.me _ _ mg3
  have csm : cs ∈ mas := List.mem_of_getElem? ms0
  have cgm : cg ∈ mas := List.mem_of_getElem? mg0
  have ncs : cs ≠ cg := fun z => by
    obtain ⟨i1, e1⟩ := List.getElem?_eq_some_iff.mp ms0
    obtain ⟨i2, e2⟩ := List.getElem?_eq_some_iff.mp mg0
    have := (List.getElem_inj AA.nd).mp (e1.trans (z.trans e2.symm))
    omega
  have nga : ∀ {c}, c ∈ mas → c ≠ ga := fun {c} h z => AA.ng (z ▸ h)
  have nma : ∀ {c}, c ∈ mas → c ≠ ma := fun {c} h z => AA.nm (z ▸ h)
  -- moved
  refine ⟨_, rfl, x, C, dx, _, _, rfl, AA.obj, cl, n2, rfl, _, rfl, ma, _, _, _, rfl, rfl, SqL.of AA.mem, ms1, ?_⟩
  have nxga : x ≠ ga := ne_of AA.obj AA.grp (by intro z; cases z)
  have nxma : x ≠ ma := ne_of AA.obj AA.mem (by intro z; cases z)
  have nxm : x ∉ mas := fun z => by
    obtain ⟨j, hj, ej⟩ := List.getElem_of_mem z
    obtain ⟨c, h1, h2⟩ := MemAt.get (i := j) AA.each (by rw [← lM]; exact hj)
    rw [List.getElem?_eq_getElem hj, ej] at h1
    cases h1
    rw [AA.obj] at h2
    cases h2
  refine ⟨_, rfl, cs, rfl, ⟨_, SqL.of ms2⟩, for_list (K := K) (xs := m.map V.int) (fun i σ' H' => ∃ v6, σ' = [some (.ref x), some (.int a), some (.int b), some (.int sv), some (.int gv), some (.ref cs), v6] ∧ (∀ c, c ≠ ga → H' c = H c) ∧ H' ga = some (.lst ((putAll gv (m.take i) gs).map V.int)))
    ⟨none, rfl, fun c _ => rfl, AA.grp⟩ (fun i σ' H' _ ⟨_, _, e, _⟩ => SqL.of (by rw [e cs (nga csm)]; exact ms2)) ?_ ?_⟩
  · rintro i y σ' H' hi ⟨v6, rfl, kk, hg'⟩
    obtain ⟨z, rfl, hz⟩ := ints_at hi
    have zr := MS.2.1 z (List.mem_of_getElem? hz)
    have ez : ((z.toNat : Nat) : Int) = z := by omega
    refine ⟨_, rfl, _, rfl, x, C, dx, _, _, rfl, by rw [kk x nxga]; exact AA.obj, cl, n1, rfl, _, rfl, ga, _, z, z.toNat, rfl, rfl, hg', ?_, ?_⟩
    · have := ixN_of (n := ((putAll gv (m.take i) gs).map V.int).length) (j := z.toNat) (by rw [List.length_map, putAll_len]; omega)
      rw [ez] at this
      exact this
    · refine ⟨_, rfl, fun c hc => by rw [upd_ne hc]; exact kk c hc, ?_⟩
      rw [upd_same, List.take_add_one, hz]
      unfold putAll
      rw [Option.toList_some, List.foldl_append, ← List.map_set]
      rfl
  rintro σ' H1 ⟨v6, rfl, k1, hg1⟩
  rw [List.length_map, List.take_length, putAll_join PO ms3] at hg1
  have es1 : ((sv.toNat : Nat) : Int) = sv := by omega
  rw [es1] at hg1
  have hcs1 : H1 cs = some (.lst (m.map V.int)) := by rw [k1 cs (nga csm)]; exact ms2
  have hcg1 : H1 cg = some (.lst (m2.map V.int)) := by rw [k1 cg (nga cgm)]; exact mg2
  have hma1 : H1 ma = some (.lst (mas.map V.ref)) := by rw [k1 ma (Ne.symm AA.ngm)]; exact AA.mem
  have hx1 := AA.obj
  rw [← k1 x nxga] at hx1
  have lm1 := few_below n MS.1 MS.2.1
  have lm2 := few_below n MG.1 MG.2.1
  refine ⟨_, rfl, x, C, dx, _, _, rfl, hx1, cl, n2, rfl, _, rfl, ma, _, _, _, rfl, rfl, SqL.of hma1, mg1, .inl ⟨rfl, _, SqL.of hcg1⟩, _, rfl, cg, cs, _, _, rfl, rfl, hcg1, hcs1, Nat.le_of_lt (Nat.lt_of_le_of_lt (show _ ≤ 2000 by rw [List.length_map, List.length_map]; omega) (by decide)), ?_⟩
  have hx2 : (upd H1 cg (HO.lst (m2.map V.int ++ m.map V.int))) x = some (.ins C dx [("group_of", .ref ga), ("members", .ref ma)]) := by rw [upd_ne (fun z : x = cg => nxm (z ▸ cgm))]; exact hx1
  have hma2 : (upd H1 cg (HO.lst (m2.map V.int ++ m.map V.int))) ma = some (.lst (mas.map V.ref)) := by rw [upd_ne (fun z : ma = cg => AA.nm (z ▸ cgm))]; exact hma1
  refine ⟨(by show 0 ≤ sizeLine; decide), fun l hl => ?_⟩
  have nlc : l ≠ cg := fun z => by rw [z, upd_same] at hl; cases hl
  have hl1 : H1 l = none := by rw [upd_ne nlc] at hl; exact hl
  have nlg : l ≠ ga := fun z => by rw [z, hg1] at hl1; cases hl1
  have hl0 : H l = none := by rw [← k1 l nlg]; exact hl1
  have nlma : l ≠ ma := fun z => by rw [z, AA.mem] at hl0; cases hl0
  have nlx : l ≠ x := fun z => by rw [z, AA.obj] at hl0; cases hl0
  have nlm : l ∉ mas := fun z => by
    obtain ⟨j, hj, ej⟩ := List.getElem_of_mem z
    obtain ⟨c, h1, h2⟩ := MemAt.get (i := j) AA.each (by rw [← lM]; exact hj)
    rw [List.getElem?_eq_getElem hj, ej] at h1
    cases h1
    rw [hl0] at h2
    cases h2
  refine ⟨_, rfl, x, C, dx, _, _, rfl, by rw [upd_ne (Ne.symm nlx)]; exact hx2, cl, n2, rfl, _, rfl, ma, _, sv, sv.toNat, rfl, rfl, by rw [upd_ne (Ne.symm nlma)]; exact hma2, ?_, ?_⟩
  · have := ixN_of (n := (mas.map V.ref).length) (j := sv.toNat) (by rw [List.length_map, lM, PO.lm]; omega)
    rw [es1] at this
    exact this
  have keep : ∀ c, c ≠ ga → c ≠ ma → c ≠ cg → c ≠ l → (upd (upd (upd H1 cg (HO.lst (m2.map V.int ++ m.map V.int))) l (HO.lst [])) ma (HO.lst ((mas.map V.ref).set sv.toNat (V.ref l)))) c = H c := fun c c1 c2 c3 c4 => by
    rw [upd_ne c2, upd_ne c4, upd_ne c3]; exact k1 c c1
  refine k _ (mas.set sv.toNat l) (fun c u c1 c2 c3 hc => ?_) (fun c hc => ?_) ⟨?_, ?_, ?_, ?_, ?_, ?_, ?_, AA.ngm⟩
  · rw [keep c c1 c2 (fun z => c3 (z ▸ cgm)) (fun z => by rw [z, hl0] at hc; cases hc)]; exact hc
  · rcases List.mem_or_eq_of_mem_set hc with z | z
    · exact .inl z
    · rw [z]; exact .inr hl0
  · rw [keep x nxga nxma (fun z => nxm (z ▸ cgm)) (Ne.symm nlx)]; exact AA.obj
  · rw [upd_ne AA.ngm, upd_ne (Ne.symm nlg), upd_ne (fun z : ga = cg => AA.ng (z ▸ cgm))]; exact hg1
  · rw [upd_same, List.map_set]
  · unfold joinM
    rw [em, em2]
    have step1 : MemAt (upd H1 cg (HO.lst (m2.map V.int ++ m.map V.int))) (mas.set gv.toNat cg) (mm.set gv.toNat (m2 ++ m)) := by
      refine MemAt.set AA.each (fun j c hj hc => ?_) (by rw [upd_same, List.map_append])
      have cm : c ∈ mas := List.mem_of_getElem? hc
      have : c ≠ cg := fun z => by
        obtain ⟨i1, e1⟩ := List.getElem?_eq_some_iff.mp hc
        obtain ⟨i2, e2⟩ := List.getElem?_eq_some_iff.mp mg0
        exact hj ((List.getElem_inj AA.nd).mp (e1.trans (z.trans e2.symm)))
      rw [upd_ne this]
      exact k1 c (nga cm)
    have eset : mas.set gv.toNat cg = mas := by
      obtain ⟨i2, e2⟩ := List.getElem?_eq_some_iff.mp mg0
      rw [← e2]
      exact List.set_getElem_self i2
    rw [eset] at step1
    refine MemAt.set step1 (fun j c hj hc => ?_) (by rw [upd_ne nlma, upd_same]; rfl)
    have cm : c ∈ mas := List.mem_of_getElem? hc
    rw [upd_ne (nma cm), upd_ne (fun z : c = l => nlm (z ▸ cm))]
  · exact nodup_set AA.nd nlm
  · exact fun z => by
      rcases List.mem_or_eq_of_mem_set z with z | z
      · exact AA.ng z
      · exact nlg z.symm
  · exact fun z => by
      rcases List.mem_or_eq_of_mem_set z with z | z
      · exact AA.nm z
      · exact nlma z.symm
end
end My

set_option Elab.async false
set_option linter.all false
set_option maxRecDepth 100000
set_option maxHeartbeats 8000000
namespace My
open PySem L2
/-! ### how many groups there are -/
def cnt (n : Nat) (gs : List Int) : Nat := ((List.range n).filter fun g : Nat => decide ((g : Int) ∈ gs)).length
theorem filt_le {p q : Nat → Bool} : ∀ l : List Nat, (∀ x ∈ l, p x = true → q x = true) → (l.filter p).length ≤ (l.filter q).length
  | [], _ => Nat.le_refl _
  | x :: l, h => by
    have ih := filt_le l fun y hy => h y (List.mem_cons_of_mem _ hy)
    cases e : p x
    · rw [List.filter_cons_of_neg (by rw [e]; decide)]
      cases e2 : q x
      · rw [List.filter_cons_of_neg (by rw [e2]; decide)]; exact ih
      · rw [List.filter_cons_of_pos e2, List.length_cons]; omega
    · rw [List.filter_cons_of_pos e, List.filter_cons_of_pos (h x List.mem_cons_self e), List.length_cons, List.length_cons]
      omega
theorem filt_lt {p q : Nat → Bool} : ∀ l : List Nat, (∀ x ∈ l, p x = true → q x = true) → (∃ x ∈ l, q x = true ∧ p x = false) → (l.filter p).length < (l.filter q).length
  | [], _, h => by obtain ⟨x, hx, _⟩ := h; cases hx
  | x :: l, h, w => by
    have le := filt_le l fun y hy => h y (List.mem_cons_of_mem _ hy)
    by_cases c : q x = true ∧ p x = false
    · rw [List.filter_cons_of_neg (by rw [c.2]; decide), List.filter_cons_of_pos c.1, List.length_cons]
      omega
    · have ih := filt_lt l (fun y hy => h y (List.mem_cons_of_mem _ hy)) (by
        obtain ⟨y, hy, hq⟩ := w
        rcases List.mem_cons.mp hy with rfl | hy
        · exact absurd hq c
        · exact ⟨y, hy, hq⟩)
      cases e : p x
      · rw [List.filter_cons_of_neg (by rw [e]; decide)]
        cases e2 : q x
        · rw [List.filter_cons_of_neg (by rw [e2]; decide)]; exact ih
        · rw [List.filter_cons_of_pos e2, List.length_cons]; omega
      · rw [List.filter_cons_of_pos e, List.filter_cons_of_pos (h x List.mem_cons_self e), List.length_cons, List.length_cons]
        omega
theorem cnt_le (n : Nat) (gs : List Int) : cnt n gs ≤ n := by
  unfold cnt
  exact Nat.le_trans (List.length_filter_le ..) (by rw [List.length_range]; exact Nat.le_refl _)
theorem cnt_join {n : Nat} {gs : List Int} {s g : Int} (hs : s ∈ gs) (hg : g ∈ gs) (s0 : 0 ≤ s) (s1 : s < (n : Int)) (ne : s ≠ g) : cnt n (joinG gs s g) < cnt n gs := by
  unfold cnt
  refine filt_lt _ (fun x hx h => ?_) ⟨s.toNat, List.mem_range.mpr (by omega), ?_, ?_⟩
  · have h' := of_decide_eq_true h
    unfold joinG at h'
    obtain ⟨k, hk, e⟩ := List.mem_map.mp h'
    refine decide_eq_true ?_
    split at e
    · rw [← e]; exact hg
    · rw [← e]; exact hk
  · refine decide_eq_true ?_
    rw [Int.toNat_of_nonneg s0]
    exact hs
  · refine decide_eq_false ?_
    rw [Int.toNat_of_nonneg s0]
    intro z
    unfold joinG at z
    obtain ⟨k, hk, e⟩ := List.mem_map.mp z
    split at e
    · exact ne e.symm
    · rename_i c; exact c e
/-! ### levels of pairs, as things that the rows alone decide -/
abbrev Tr := Int × Int × List Int
abbrev LSt := (List Int × List (List Int)) × List Tr
def ledStep (rows : List (List Int)) (u : Tr) (f : Nat) (st : LSt) : LSt :=
  if grp st.1.1 (stepI rows u.1 f) = grp st.1.1 (stepI rows u.2.1 f) then st else
    ((joinG st.1.1 (smallOf st.1.1 st.1.2 (stepI rows u.1 f) (stepI rows u.2.1 f)) (greatOf st.1.1 st.1.2 (stepI rows u.1 f) (stepI rows u.2.1 f)),
      joinM st.1.2 (smallOf st.1.1 st.1.2 (stepI rows u.1 f) (stepI rows u.2.1 f)) (greatOf st.1.1 st.1.2 (stepI rows u.1 f) (stepI rows u.2.1 f))), st.2 ++ [(stepI rows u.1 f, stepI rows u.2.1 f, u.2.2 ++ [(f : Int)])])
def ledU (rows : List (List Int)) (u : Tr) (st : LSt) : Nat → LSt
  | 0 => st
  | f + 1 => ledStep rows u f (ledU rows u st f)
def ledL (rows : List (List Int)) (wide : Nat) (lv : List Tr) (st : LSt) : LSt := lv.foldl (fun st u => ledU rows u st wide) st
def TripAt (H : Hp) (ta : Addr) (u : Tr) : Prop := ∃ ra, H ta = some (.tup [.int u.1, .int u.2.1, .ref ra]) ∧ H ra = some (.tup (u.2.2.map V.int))
def TripsAt (H : Hp) : List Addr → List Tr → Prop := Paired (TripAt H)
theorem TripsAt.same {H H' : Hp} {tas : List Addr} {lv : List Tr} (h : TripsAt H tas lv) (s : ∀ b xs, H b = some (.tup xs) → H' b = some (.tup xs)) : TripsAt H' tas lv := Paired.mapP h fun _ _ ⟨ra, e1, e2⟩ => ⟨ra, s _ _ e1, s _ _ e2⟩
theorem TripsAt.snoc : ∀ {H : Hp} {tas : List Addr} {lv : List Tr} {a : Addr} {u : Tr}, TripsAt H tas lv → TripAt H a u → TripsAt H (tas ++ [a]) (lv ++ [u])
  | H, [], [], a, u, .nil, h => .cons h .nil
  | H, b :: mas, x :: mm, a, m, .cons e t, h => .cons e (TripsAt.snoc t h)
theorem TripsAt.get : ∀ {H : Hp} {tas : List Addr} {lv : List Tr} {i : Nat} {ta : Addr}, TripsAt H tas lv → tas[i]? = some ta → ∃ u, lv[i]? = some u ∧ TripAt H ta u
  | H, a :: mas, m :: mm, 0, ta, .cons e t, h => by cases h; exact ⟨m, rfl, e⟩
  | H, a :: mas, m :: mm, i + 1, ta, .cons e t, h => TripsAt.get (i := i) t h
  | H, [], [], i, ta, .nil, h => by cases h
theorem AlikeAt.tup {H : Hp} {C o dx ga ma : Addr} {mas : List Addr} {gs : List Int} {mm : List (List Int)} (A : AlikeAt H C o dx ga ma mas gs mm) {c : Addr} {u : HO} (h : H c = some u) (nl : ∀ xs, u ≠ .lst xs) : c ≠ ga ∧ c ≠ ma ∧ c ∉ mas := by
  refine ⟨fun z => ?_, fun z => ?_, fun z => ?_⟩
  · rw [z, A.grp] at h; exact nl _ (Option.some.inj h).symm
  · rw [z, A.mem] at h; exact nl _ (Option.some.inj h).symm
  · obtain ⟨j, hj, ej⟩ := List.getElem_of_mem z
    obtain ⟨b, h1, h2⟩ := MemAt.get (i := j) A.each (by rw [← A.each.length]; exact hj)
    rw [List.getElem?_eq_getElem hj, ej] at h1
    cases h1
    rw [h] at h2
    exact nl _ (Option.some.inj h2)
/-- the rooms of a pair are rooms, and its row is not long -/
def TrOk (many lim : Nat) (u : Tr) : Prop := (0 ≤ u.1 ∧ u.1 < (many : Int)) ∧ (0 ≤ u.2.1 ∧ u.2.1 < (many : Int)) ∧ u.2.2.length ≤ lim
def spLedOn (C : Addr) : Sp := fun vs H Q _ => ∃ (r x dx ga ma la : Addr) (ras mas tas : List Addr) (gs : List Int) (mm : List (List Int)) (lv : List Tr) (many wide : Nat) (rows : List (List Int)), vs = [.ref r, .ref x, .ref la] ∧ H r = some (.tup (ras.map V.ref)) ∧ RowsAt H ras rows ∧ RowsOk many wide rows ∧ many ≤ 1000 ∧
  AlikeAt H C x dx ga ma mas gs mm ∧ PartOk many gs mm ∧ (la ≠ ga ∧ la ≠ ma ∧ la ∉ mas) ∧ H la = some (.lst (tas.map V.ref)) ∧ TripsAt H tas lv ∧ (∀ u ∈ lv, TrOk many 1000 u) ∧
  ∀ (H' : Hp) (fa : Addr) (mas' tas' : List Addr) (gs' : List Int) (mm' : List (List Int)) (fr : List Tr), (∀ c u, c ≠ ga → c ≠ ma → c ∉ mas → H c = some u → H' c = some u) → (∀ c ∈ mas', c ∈ mas ∨ H c = none) → AlikeAt H' C x dx ga ma mas' gs' mm' → PartOk many gs' mm' →
    H fa = none → (fa ≠ ga ∧ fa ≠ ma ∧ fa ∉ mas') → H' fa = some (.lst (tas'.map V.ref)) → TripsAt H' tas' fr → ((gs', mm'), fr) = ledL rows wide lv ((gs, mm), []) → fr.length + cnt many gs' ≤ cnt many gs → Q (.ref fa) H'
section
variable {P : Program} {w : World} {K : PySem.W.Frag} {mg : Str → Option Value} {base : Heap} {f : Addr} {fd : FuncData} {dV : Value} {C : Addr}
theorem sc_led_on : FnScope ["rows", "alike", "level", "fresh", "here", "there", "row", "figure", "one", "other"] ["rows", "alike", "level"] (defScope s_led_on) := ⟨rfl, rfl, rfl, by decide +kernel, rfl, by decide +kernel, by decide +kernel⟩
theorem ok_led_on (F : FunD K "led_on" "led_on" s_led_on dV f fd) (GE_take_as_alike : DefMe P w K mg base C "take_as_alike" 1 ["self", "one", "other"] (spTake C)) (n1 : NoAttr K C "group_of") (z_enumerate : mg "enumerate" = none) : FnOk P w K mg base CX0 2 f fd ["rows", "alike", "level"] (spLedOn C) := by
  refine F.ok sc_led_on (fun vs H Q E h => ?_) (fun cdv A outer s H vs Q E hr h => ?_)
  · obtain ⟨r, x, dx, ga, ma, la, ras, mas, tas, gs, mm, lv, many, wide, rows, rfl, _⟩ := h
    rfl
  obtain ⟨r, x, dx, ga, ma, la, ras, mas0, tas0, gs0, mm0, lv, many, wide, rows, rfl, hr0, hA, R, hn, AA0, PO0, ⟨l1, l2, l3⟩, hla, hT0, lok, k⟩ := h
  have cl := GE_take_as_alike.cl
  have hu := hu_of hr
  refine body_w (ws_cons (PSW.mk (ps_set (i := 3) sc_led_on.nd rfl (Or.inl rfl) (pe_lst pa_nil)))
      (ws_cons (w_for PassesOwn.never rfl (pi_list (pv 2)) (pg_tup rfl (pgs_cons (pg_name (i := 4) sc_led_on.nd rfl (Or.inl rfl)) (pgs_cons (pg_name (i := 5) sc_led_on.nd rfl (Or.inl rfl)) (pgs_cons (pg_name (i := 6) sc_led_on.nd rfl (Or.inl rfl)) pgs_nil)))) (ws_one (w_for PassesOwn.never rfl (pi_enumT rfl z_enumerate (pa_cons (pe_ix ix_tup (pv 0) (pv 4) (fun _ _ => rfl)) pa_nil)) (pg_tup rfl (pgs_cons (pg_name (i := 7) sc_led_on.nd rfl (Or.inl rfl)) (pgs_cons (pg_name (i := 8) sc_led_on.nd rfl (Or.inl rfl)) pgs_nil))) (ws_cons (PSW.mk (ps_set (i := 9) sc_led_on.nd rfl (Or.inl rfl) (pe_ix ix_tup (pe_ix ix_tup (pv 0) (pv 5) (fun _ _ => rfl)) (pv 7) (fun _ _ => rfl))))
      (ws_one (w_if (PTW.mk (pt_cmpR op_ne (pe_ix ix_list (pe_fld (pv 1) rfl) (pv 8) (fun _ _ => rfl)) (pe_ix ix_list (pe_fld (pv 1) rfl) (pv 9) (fun _ _ => rfl)) (nomark _))) (ws_cons (PSW.mk (ps_expr (pe_me GE_take_as_alike hr (pv 1) (pa_cons (pv 8) (pa_cons (pv 9) pa_nil)))))
      (ws_one (w_expr (PEW.mk (pe_bm PySem.F.plainAttrs_list PySem.F.slot_list_append PySem.F.type_list_append mt_append (pv 3) (pa_cons (pe_tup (pa_cons (pv 8) (pa_cons (pv 9) (pa_cons (pe_op op_catA (pv 6) (pe_tup (pa_cons (pv 7) pa_nil))) pa_nil)))) pa_nil)))))) ws_nil))))))
      (ws_one (PSW.mk (ps_ret (pv 3)))))) ?_
  refine ⟨(by show 0 ≤ sizeLine; decide), fun fa hfa => ?_⟩
  try dsimp only [gName]
  obtain ⟨H1, eH1⟩ : ∃ H1, upd H fa (HO.lst []) = H1 := ⟨_, rfl⟩
  rw [eH1]
  have s1 : Same H H1 := by rw [← eH1]; exact same_new hfa _
  have hfa1 : H1 fa = some (.lst ([].map V.ref)) := by rw [← eH1, upd_same]; rfl
  have fa0 : fa ≠ ga ∧ fa ≠ ma ∧ fa ∉ mas0 := by
    refine ⟨fun z => ?_, fun z => ?_, fun z => ?_⟩
    · rw [z, AA0.grp] at hfa; cases hfa
    · rw [z, AA0.mem] at hfa; cases hfa
    · obtain ⟨j, hj, ej⟩ := List.getElem_of_mem z
      obtain ⟨b, h1, h2⟩ := MemAt.get (i := j) AA0.each (by rw [← AA0.each.length]; exact hj)
      rw [List.getElem?_eq_getElem hj, ej] at h1
      cases h1
      rw [hfa] at h2
      cases h2
  have AA1 : AlikeAt H1 C x dx ga ma mas0 gs0 mm0 := by
    refine ⟨s1 _ _ AA0.obj, s1 _ _ AA0.grp, s1 _ _ AA0.mem, AA0.each.frame fun a ha => ?_, AA0.nd, AA0.ng, AA0.nm, AA0.ngm⟩
    rw [← eH1, upd_ne (fun z : a = fa => fa0.2.2 (z ▸ ha))]
  -- what holds between the turns
  have tup0 : ∀ {H' : Hp}, (∀ c u, c ≠ ga → c ≠ ma → c ∉ mas0 → H c = some u → H' c = some u) → ∀ b xs, H b = some (.tup xs) → H' b = some (.tup xs) := fun {H'} kk b xs h => by
    obtain ⟨q1, q2, q3⟩ := AA0.tup h (by intro xs z; cases z)
    exact kk _ _ q1 q2 q3 h
  refine cut_seq (t := tFor _ _ _) (fun σ' H' => ∃ (mas tas : List Addr) (gs : List Int) (mm : List (List Int)) (fr : List Tr) (v4 v5 v6 v7 v8 v9 : Option V), σ' = [some (.ref r), some (.ref x), some (.ref la), some (.ref fa), v4, v5, v6, v7, v8, v9] ∧ (∀ c u, c ≠ ga → c ≠ ma → c ∉ mas0 → H c = some u → H' c = some u) ∧ (∀ c ∈ mas, c ∈ mas0 ∨ H c = none) ∧
      AlikeAt H' C x dx ga ma mas gs mm ∧ PartOk many gs mm ∧ fa ∉ mas ∧ H' fa = some (.lst (tas.map V.ref)) ∧ TripsAt H' tas fr ∧ ((gs, mm), fr) = ledL rows wide lv ((gs0, mm0), []) ∧ fr.length + cnt many gs ≤ cnt many gs0) ?_ (fun nxt => ?_)
  rotate_left
  · refine ⟨_, rfl, la, rfl, ⟨_, SqL.of (s1 _ _ hla)⟩, for_list (K := K) (xs := tas0.map V.ref) (fun i σ' H' => ∃ (mas tas : List Addr) (gs : List Int) (mm : List (List Int)) (fr : List Tr) (v4 v5 v6 v7 v8 v9 : Option V), σ' = [some (.ref r), some (.ref x), some (.ref la), some (.ref fa), v4, v5, v6, v7, v8, v9] ∧ (∀ c u, c ≠ ga → c ≠ ma → c ∉ mas0 → H c = some u → H' c = some u) ∧ (∀ c ∈ mas, c ∈ mas0 ∨ H c = none) ∧
      AlikeAt H' C x dx ga ma mas gs mm ∧ PartOk many gs mm ∧ fa ∉ mas ∧ H' fa = some (.lst (tas.map V.ref)) ∧ TripsAt H' tas fr ∧ ((gs, mm), fr) = ledL rows wide (lv.take i) ((gs0, mm0), []) ∧ fr.length + cnt many gs ≤ cnt many gs0)
      ⟨mas0, [], gs0, mm0, [], none, none, none, none, none, none, rfl, fun c u _ _ _ h => s1 _ _ h, fun c hc => .inl hc, AA1, PO0, fa0.2.2, hfa1, .nil, rfl, by rw [List.length_nil, Nat.zero_add]; exact Nat.le_refl _⟩
      (fun i σ' H' _ ⟨_, _, _, _, _, _, _, _, _, _, _, _, kk, _⟩ => SqL.of (kk _ _ l1 l2 l3 hla)) ?_ ?_⟩
    · rintro i y σ' H2 hi ⟨mas, tas, gs, mm, fr, v4, v5, v6, v7, v8, v9, rfl, k2, g2, AA2, PO2, nf2, hf2, T2, e2, c2⟩
      rw [List.getElem?_map] at hi
      obtain ⟨ta, hta, rfl⟩ := Option.map_eq_some_iff.mp hi
      obtain ⟨u, hu', ra, hu1, hu2⟩ := hT0.get hta
      obtain ⟨⟨a0, a1⟩, ⟨b0, b1⟩, rl⟩ := lok u (List.mem_of_getElem? hu')
      have la1 : u.1.toNat < rows.length := by rw [R.len]; omega
      have lb1 : u.2.1.toNat < rows.length := by rw [R.len]; omega
      obtain ⟨pa, pa1, pa2⟩ := hA.get la1
      obtain ⟨pb, pb1, pb2⟩ := hA.get lb1
      have lra : rows[u.1.toNat].length = wide := R.row _ (List.getElem_mem la1)
      have lrb : rows[u.2.1.toNat].length = wide := R.row _ (List.getElem_mem lb1)
      refine ⟨ta, _, rfl, SqT.of (tup0 k2 _ _ hu1), rfl, _, _, rfl, _, _, rfl, _, _, rfl, rfl, ?_⟩
      refine ⟨_, rfl, _, rfl, r, _, _, _, rfl, rfl, SqT.of (tup0 k2 _ _ hr0), atI_refs a0 pa1, pa, rfl, ⟨_, SqT.of (tup0 k2 _ _ pa2)⟩, for_enumT (K := K) (xs := rows[u.1.toNat].map V.int) (fun j σ' H' => ∃ (mas tas : List Addr) (gs : List Int) (mm : List (List Int)) (fr : List Tr) (v7 v8 v9 : Option V), σ' = [some (.ref r), some (.ref x), some (.ref la), some (.ref fa), some (.int u.1), some (.int u.2.1), some (.ref ra), v7, v8, v9] ∧ (∀ c u, c ≠ ga → c ≠ ma → c ∉ mas0 → H c = some u → H' c = some u) ∧ (∀ c ∈ mas, c ∈ mas0 ∨ H c = none) ∧
          AlikeAt H' C x dx ga ma mas gs mm ∧ PartOk many gs mm ∧ fa ∉ mas ∧ H' fa = some (.lst (tas.map V.ref)) ∧ TripsAt H' tas fr ∧ ((gs, mm), fr) = ledU rows u (ledL rows wide (lv.take i) ((gs0, mm0), [])) j ∧ fr.length + cnt many gs ≤ cnt many gs0)
        ⟨mas, tas, gs, mm, fr, v7, v8, v9, rfl, k2, g2, AA2, PO2, nf2, hf2, T2, e2, c2⟩ (fun i σ' H' _ ⟨_, _, _, _, _, _, _, _, _, kk, _⟩ => SqT.of (tup0 kk _ _ pa2)) ?_ ?_⟩
      · rintro j y σ' H3 T hj ⟨mas, tas, gs, mm, fr, v7, v8, v9, rfl, k3, g3, AA3, PO3, nf3, hf3, T3, e3, c3⟩ hT
        obtain ⟨z, rfl, hz⟩ := ints_at hj
        have hjl : j < rows[u.1.toNat].length := (List.getElem?_eq_some_iff.mp hz).1
        have zin := R.val _ (List.getElem_mem la1) z (List.mem_of_getElem? hz)
        have stA : stepI rows u.1 (j : Int) = z := by
          unfold stepI
          rw [getD_at la1, Int.toNat_natCast, getD_at hjl]
          exact (List.getElem?_eq_some_iff.mp hz).2
        obtain ⟨z2, ez2⟩ : ∃ z2, stepI rows u.2.1 (j : Int) = z2 := ⟨_, rfl⟩
        have hjb : j < rows[u.2.1.toNat].length := by omega
        have atB : atI (rows[u.2.1.toNat].map V.int) (j : Int) = some (.int z2) := by
          have q := atI_ints (ns := rows[u.2.1.toNat]) (k := (j : Int)) (by omega) (by omega)
          have e : rows[u.2.1.toNat].getD (j : Int).toNat 0 = z2 := by
            rw [← ez2]
            unfold stepI
            rw [getD_at lb1]
          rw [e] at q
          exact q
        have z2in : 0 ≤ z2 ∧ z2 < (many : Int) := by
          have e : z2 = rows[u.2.1.toNat][j] := by
            rw [← ez2]
            unfold stepI
            rw [getD_at lb1, Int.toNat_natCast, getD_at hjb]
          rw [e]
          exact R.val _ (List.getElem_mem lb1) _ (List.getElem_mem hjb)
        obtain ⟨H4, eH4⟩ : ∃ H4, upd H3 T (HO.tup [V.int j, V.int z]) = H4 := ⟨_, rfl⟩
        have s4 : Same H3 H4 := by rw [← eH4]; exact same_new hT _
        have hT4 : H4 T = some (.tup [V.int j, V.int z]) := by rw [← eH4, upd_same]
        rw [eH4]
        have AA4 : AlikeAt H4 C x dx ga ma mas gs mm := by
          refine ⟨s4 _ _ AA3.obj, s4 _ _ AA3.grp, s4 _ _ AA3.mem, ?_, AA3.nd, AA3.ng, AA3.nm, AA3.ngm⟩
          exact Paired.mapP AA3.each fun _ _ q => s4 _ _ q
        have k4 : ∀ c u, c ≠ ga → c ≠ ma → c ∉ mas0 → H c = some u → H4 c = some u := fun c u q1 q2 q3 h => s4 _ _ (k3 c u q1 q2 q3 h)
        have lgs := PO3.lg
        have gAt : ∀ {y : Int}, 0 ≤ y → y < (many : Int) → atI (gs.map V.int) y = some (.int (grp gs y)) := fun {y} y0 y1 => atI_ints y0 (by omega)
        refine ⟨T, _, rfl, SqT.of hT4, rfl, _, _, rfl, _, _, rfl, rfl, ?_⟩
        refine ⟨_, rfl, _, rfl, r, _, _, _, rfl, rfl, SqT.of (tup0 k4 _ _ hr0), atI_refs b0 pb1, _, rfl, pb, _, _, _, rfl, rfl, SqT.of (tup0 k4 _ _ pb2), atB, ?_⟩
        refine ⟨_, rfl, x, C, dx, _, _, rfl, AA4.obj, cl, n1, rfl, _, rfl, ga, _, _, _, rfl, rfl, SqL.of AA4.grp, gAt zin.1 zin.2, ?_⟩
        refine ⟨_, rfl, x, C, dx, _, _, rfl, AA4.obj, cl, n1, rfl, _, rfl, ga, _, _, _, rfl, rfl, SqL.of AA4.grp, gAt z2in.1 z2in.2, rfl, _, rfl, ?_⟩
        have eS : ledU rows u (ledL rows wide (lv.take i) ((gs0, mm0), [])) (j + 1) = if grp gs z = grp gs z2 then ((gs, mm), fr) else ((joinG gs (smallOf gs mm z z2) (greatOf gs mm z z2), joinM mm (smallOf gs mm z z2) (greatOf gs mm z z2)), fr ++ [(z, z2, u.2.2 ++ [(j : Int)])]) := by
          show ledStep rows u j (ledU rows u (ledL rows wide (lv.take i) ((gs0, mm0), [])) j) = _
          rw [← e3]
          unfold ledStep
          dsimp only
          rw [stA, ez2]
        refine iteDn (fun c => ?_) (fun c => ?_)
        · have nab : grp gs z ≠ grp gs z2 := fun q => c (by rw [q])
          refine ⟨_, rfl, x, dx, _, rfl, AA4.obj, rfl, _, rfl, _, rfl, x, dx, ga, ma, mas, gs, mm, many, z, z2, rfl, AA4, PO3, hn, zin, z2in, nab, fun H5 mas5 k5 g5 AA5 => ?_⟩
          have hf4 := s4 _ _ hf3
          have tup5 : ∀ c xs, H4 c = some (.tup xs) → H5 c = some (.tup xs) := fun c xs h => by
            obtain ⟨q1, q2, q3⟩ := AA4.tup h (by intro xs z; cases z)
            exact k5 _ _ q1 q2 q3 h
          have hf5 : H5 fa = some (.lst (tas.map V.ref)) := k5 _ _ fa0.1 fa0.2.1 nf3 hf4
          have nf5 : fa ∉ mas5 := fun q => by
            rcases g5 fa q with q | q
            · exact nf3 q
            · rw [hf4] at q; cases q
          have hra5 : H5 ra = some (.tup (u.2.2.map V.int)) := tup5 _ _ (tup0 k4 _ _ hu2)
          have k5' : ∀ c u, c ≠ ga → c ≠ ma → c ∉ mas0 → H c = some u → H5 c = some u := fun c u q1 q2 q3 h => by
            refine k5 c u q1 q2 (fun q => ?_) (k4 c u q1 q2 q3 h)
            rcases g3 c q with q | q
            · exact q3 q
            · rw [h] at q; cases q
          have g5' : ∀ c ∈ mas5, c ∈ mas0 ∨ H c = none := fun c hc => by
            rcases g5 c hc with q | q
            · exact g3 c q
            · by_cases m0 : c ∈ mas0
              · exact .inl m0
              · refine .inr ?_
                cases e : H c with
                | none => rfl
                | some v =>
                  have q1 : c ≠ ga := fun z => by rw [z, AA4.grp] at q; cases q
                  have q2 : c ≠ ma := fun z => by rw [z, AA4.mem] at q; cases q
                  rw [k4 c v q1 q2 m0 e] at q
                  cases q
          have ga_in : ∀ {y : Int}, 0 ≤ y → y < (many : Int) → grp gs y ∈ gs := fun {y} y0 y1 => by
            unfold grp
            have hl : y.toNat < gs.length := by omega
            rw [List.getD_eq_getElem?_getD, List.getElem?_eq_getElem hl]
            exact List.getElem_mem hl
          have rz := PO3.rg z.toNat (by omega)
          have rz2 := PO3.rg z2.toNat (by omega)
          rw [Int.toNat_of_nonneg zin.1] at rz
          rw [Int.toNat_of_nonneg z2in.1] at rz2
          obtain ⟨sv, es⟩ : ∃ sv, smallOf gs mm z z2 = sv := ⟨_, rfl⟩
          obtain ⟨gv, eg⟩ : ∃ gv, greatOf gs mm z z2 = gv := ⟨_, rfl⟩
          rw [es, eg] at AA5 eS
          have rs : (0 ≤ sv ∧ sv < (many : Int)) ∧ sv ∈ gs := by
            rw [← es]
            unfold smallOf
            split
            · exact ⟨rz2, ga_in z2in.1 z2in.2⟩
            · exact ⟨rz, ga_in zin.1 zin.2⟩
          have rg : (0 ≤ gv ∧ gv < (many : Int)) ∧ gv ∈ gs := by
            rw [← eg]
            unfold greatOf
            split
            · exact ⟨rz, ga_in zin.1 zin.2⟩
            · exact ⟨rz2, ga_in z2in.1 z2in.2⟩
          have nsg : sv ≠ gv := by rw [← es, ← eg]; unfold smallOf greatOf; split <;> omega
          have PO5 : PartOk many (joinG gs sv gv) (joinM mm sv gv) := by
            have q := PO3.join (s := sv.toNat) (g := gv.toNat) (by omega) (by omega) (by omega)
            rw [Int.toNat_of_nonneg rs.1.1, Int.toNat_of_nonneg rg.1.1] at q
            exact q
          have c5 := cnt_join rs.2 rg.2 rs.1.1 rs.1.2 nsg
          have cl5 := cnt_le many gs0
          have goal : ∀ (b : Addr) (H6 : Hp), Same H5 H6 → H6 b = some (.tup ((u.2.2 ++ [(j : Int)]).map V.int)) → ∀ tt, H6 tt = none → ∃ (mas tas' : List Addr) (gs : List Int) (mm : List (List Int)) (fr : List Tr) (v7 v8 v9 : Option V),
              [some (V.ref r), some (V.ref x), some (V.ref la), some (V.ref fa), some (V.int u.1), some (V.int u.2.1), some (V.ref ra), some (V.int j), some (V.int z), some (V.int z2)] = [some (.ref r), some (.ref x), some (.ref la), some (.ref fa), some (.int u.1), some (.int u.2.1), some (.ref ra), v7, v8, v9] ∧
              (∀ c u, c ≠ ga → c ≠ ma → c ∉ mas0 → H c = some u → (upd (upd H6 tt (HO.tup [V.int z, V.int z2, V.ref b])) fa (HO.lst (tas.map V.ref ++ [V.ref tt]))) c = some u) ∧ (∀ c ∈ mas, c ∈ mas0 ∨ H c = none) ∧
              AlikeAt (upd (upd H6 tt (HO.tup [V.int z, V.int z2, V.ref b])) fa (HO.lst (tas.map V.ref ++ [V.ref tt]))) C x dx ga ma mas gs mm ∧ PartOk many gs mm ∧ fa ∉ mas ∧ (upd (upd H6 tt (HO.tup [V.int z, V.int z2, V.ref b])) fa (HO.lst (tas.map V.ref ++ [V.ref tt]))) fa = some (.lst (tas'.map V.ref)) ∧
              TripsAt (upd (upd H6 tt (HO.tup [V.int z, V.int z2, V.ref b])) fa (HO.lst (tas.map V.ref ++ [V.ref tt]))) tas' fr ∧ ((gs, mm), fr) = ledU rows u (ledL rows wide (lv.take i) ((gs0, mm0), [])) (j + 1) ∧ fr.length + cnt many gs ≤ cnt many gs0 := by
            intro b H6 s6 hb tt htt
            have hf6 := s6 _ _ hf5
            have nft : fa ≠ tt := ne_of_none hf6 htt
            have keepc : ∀ c v, H6 c = some v → c ≠ fa → (upd (upd H6 tt (HO.tup [V.int z, V.int z2, V.ref b])) fa (HO.lst (tas.map V.ref ++ [V.ref tt]))) c = some v := fun c v h q => by
              rw [upd_ne q, upd_ne (ne_of_none h htt)]; exact h
            have keept : ∀ c xs, H6 c = some (.tup xs) → (upd (upd H6 tt (HO.tup [V.int z, V.int z2, V.ref b])) fa (HO.lst (tas.map V.ref ++ [V.ref tt]))) c = some (.tup xs) := fun c xs h => keepc c _ h (ne_of h hf6 (by intro z; cases z))
            refine ⟨mas5, tas ++ [tt], joinG gs sv gv, joinM mm sv gv, fr ++ [(z, z2, u.2.2 ++ [(j : Int)])], _, _, _, rfl, fun c v q1 q2 q3 h => keepc c v (s6 _ _ (k5' c v q1 q2 q3 h)) (fun q => by rw [q, hfa] at h; cases h), g5', ?_, PO5, nf5, ?_, ?_, ?_, ?_⟩
            · refine ⟨keepc _ _ (s6 _ _ AA5.obj) (ne_of (s6 _ _ AA5.obj) hf6 (by intro z; cases z)), keepc _ _ (s6 _ _ AA5.grp) (Ne.symm fa0.1), keepc _ _ (s6 _ _ AA5.mem) (Ne.symm fa0.2.1), ?_, AA5.nd, AA5.ng, AA5.nm, AA5.ngm⟩
              refine MemAt.frame (H := H6) (Paired.mapP AA5.each fun _ _ q => s6 _ _ q) fun c hc => ?_
              obtain ⟨jj, hjj, ej⟩ := List.getElem_of_mem hc
              obtain ⟨c', h1, h2⟩ := MemAt.get (i := jj) AA5.each (by rw [← AA5.each.length]; exact hjj)
              rw [List.getElem?_eq_getElem hjj, ej] at h1
              cases h1
              rw [keepc c _ (s6 _ _ h2) (fun q => nf5 (q ▸ hc)), s6 _ _ h2]
            · rw [upd_same, List.map_append]; rfl
            · refine TripsAt.snoc (T3.same fun c xs h => keept c xs (s6 _ _ (tup5 c xs (s4 _ _ h)))) ⟨b, ?_, keept _ _ hb⟩
              rw [upd_ne (Ne.symm nft), upd_same]
            · rw [eS, if_neg nab]
            · rw [List.length_append, List.length_singleton]
              omega
          have flen : (tas.map V.ref).length < sizeLine := small1000 (by
            have e := Paired.length T3
            rw [List.length_map]
            omega)
          refine ⟨_, rfl, .inl ⟨rfl, _, SqL.of hf5⟩, _, rfl, _, rfl, _, rfl, _, rfl, (by show 1 ≤ sizeLine; decide), fun t1 ht1 => ?_⟩
          have s6 := same_new ht1 (HO.tup [V.int j])
          refine ⟨ra, t1, _, _, rfl, rfl, SqT.of (s6 _ _ hra5), SqT.of upd_same, Nat.le_of_lt (Nat.lt_of_le_of_lt (show _ ≤ 1001 by rw [List.length_map]; simp only [List.length_singleton]; omega) (by decide)), fun en => ?_, (fun _ q => by cases q), fun _ _ p hp => ?_⟩
          · have en' : u.2.2 = [] := by simpa using en
            refine ⟨(by show 3 ≤ sizeLine; decide), fun tt htt => ⟨fa, _, _, rfl, rfl, ?_, flen, goal t1 _ s6 (by rw [upd_same, en']; rfl) tt htt⟩⟩
            exact (same_new htt _) _ _ (s6 _ _ hf5)
          · have s7 := s6.trans (same_new hp (HO.tup (u.2.2.map V.int ++ [V.int j])))
            refine ⟨(by show 3 ≤ sizeLine; decide), fun tt htt => ⟨fa, _, _, rfl, rfl, ?_, flen, goal p _ s7 (by rw [upd_same, List.map_append]; rfl) tt htt⟩⟩
            exact (same_new htt _) _ _ (s7 _ _ hf5)
        · have q : grp gs z = grp gs z2 := V.int.inj c
          exact ⟨mas, tas, gs, mm, fr, _, _, _, rfl, k4, g3, AA4, PO3, nf3, s4 _ _ hf3, T3.same (fun b xs h => s4 _ _ h), by rw [eS, if_pos q], c3⟩
      · rintro σ' H3 ⟨mas, tas, gs, mm, fr, v7, v8, v9, rfl, k3, g3, AA3, PO3, nf3, hf3, T3, e3, c3⟩
        rw [List.length_map, lra] at e3
        refine ⟨mas, tas, gs, mm, fr, _, _, _, _, _, _, rfl, k3, g3, AA3, PO3, nf3, hf3, T3, ?_, c3⟩
        rw [e3]
        unfold ledL
        rw [List.take_add_one, hu', List.foldl_append]
        rfl
    · rintro σ' H3 ⟨mas, tas, gs, mm, fr, v4, v5, v6, v7, v8, v9, rfl, k3, g3, AA3, PO3, nf3, hf3, T3, e3, c3⟩
      have ll : (tas0.map V.ref).length = lv.length := by rw [List.length_map]; exact Paired.length hT0
      rw [ll, List.take_length] at e3
      exact nxt _ _ ⟨mas, tas, gs, mm, fr, _, _, _, _, _, _, rfl, k3, g3, AA3, PO3, nf3, hf3, T3, e3, c3⟩
  rintro σ' H3 ⟨mas, tas, gs, mm, fr, v4, v5, v6, v7, v8, v9, rfl, k3, g3, AA3, PO3, nf3, hf3, T3, e3, c3⟩
  exact ⟨_, rfl, k H3 fa mas tas gs mm fr k3 g3 AA3 PO3 hfa ⟨fa0.1, fa0.2.1, nf3⟩ hf3 T3 e3 c3⟩
end
end My

set_option Elab.async false
set_option linter.all false
set_option maxRecDepth 100000
set_option maxHeartbeats 8000000
namespace My
open PySem L2
/-! ### parting -/
def sgn (signs : List Int) (x : Int) : Int := signs.getD x.toNat 0
def partedB (signs : List Int) (u : Tr) : Bool := !decide (sgn signs u.1 = sgn signs u.2.1)
def levK (rows : List (List Int)) (wide many : Nat) (p q : Int) : Nat → LSt
  | 0 => (((List.range many).map fun i : Nat => (i : Int), (List.range many).map fun i : Nat => [(i : Int)]), [(p, q, [])])
  | k + 1 => ledL rows wide (levK rows wide many p q k).2 ((levK rows wide many p q k).1, [])
/-- what the levels decide -/
def PartRes (rows : List (List Int)) (wide many : Nat) (signs : List Int) (p q : Int) (res : Option (List Int)) : Prop :=
  ∃ k, (∀ i, i < k → (levK rows wide many p q i).2 ≠ [] ∧ ∀ u ∈ (levK rows wide many p q i).2, partedB signs u = false) ∧
    (((levK rows wide many p q k).2 = [] ∧ res = none) ∨ ∃ u, (levK rows wide many p q k).2.find? (partedB signs) = some u ∧ res = some u.2.2)
def spParting (K : PySem.W.Frag) : Sp := fun vs H Q _ => ∃ (m r g : Addr) (many wide : Nat) (rows : List (List Int)) (signs : List Int) (p q : Int), vs = [.ref m, .int p, .int q] ∧ MachAt H m r g wide rows signs ∧ RowsOk many wide rows ∧ signs.length = many ∧ many ≤ 1000 ∧ (0 ≤ p ∧ p < (many : Int)) ∧ (0 ≤ q ∧ q < (many : Int)) ∧
  (∀ H', Same H H' → PartRes rows wide many signs p q none → Q .non H') ∧ ∀ (H' : Hp) (ra : Addr) (row : List Int), Same H H' → H' ra = some (.tup (row.map V.int)) → PartRes rows wide many signs p q (some row) → Q (.ref ra) H'
/-- the pairs of a level: rooms, and rows of so many figures -/
theorem ledU_ok {rows : List (List Int)} {many wide : Nat} (R : RowsOk many wide rows) {u : Tr} (hu : TrOk many 1000000 u) {n : Nat} (hl : u.2.2.length = n) : ∀ (f : Nat) (st : LSt), f ≤ wide → (∀ t ∈ st.2, TrOk many 1000001 t ∧ t.2.2.length = n + 1) → ∀ t ∈ (ledU rows u st f).2, TrOk many 1000001 t ∧ t.2.2.length = n + 1
  | 0, st, _, h => h
  | f + 1, st, hf, h => by
    have ih := ledU_ok R hu hl f st (by omega) h
    show ∀ t ∈ (ledStep rows u f (ledU rows u st f)).2, _
    unfold ledStep
    split
    · exact ih
    · intro t ht
      rcases List.mem_append.mp ht with z | z
      · exact ih t z
      · rw [List.mem_singleton.mp z]
        have st : ∀ y : Int, 0 ≤ y → y < (many : Int) → 0 ≤ stepI rows y f ∧ stepI rows y f < (many : Int) := fun y y0 y1 => by
          have l1 : y.toNat < rows.length := by rw [R.len]; omega
          have lr : rows[y.toNat].length = wide := R.row _ (List.getElem_mem l1)
          have hf' : f < rows[y.toNat].length := by omega
          unfold stepI
          rw [getD_at l1, Int.toNat_natCast, getD_at hf']
          exact R.val _ (List.getElem_mem l1) _ (List.getElem_mem hf')
        refine ⟨⟨st _ hu.1.1 hu.1.2, st _ hu.2.1.1 hu.2.1.2, ?_⟩, ?_⟩
        · show (u.2.2 ++ [(f : Int)]).length ≤ _
          have := hu.2.2
          rw [List.length_append, List.length_singleton]
          omega
        · show (u.2.2 ++ [(f : Int)]).length = _
          rw [List.length_append, List.length_singleton, hl]
theorem ledL_ok {rows : List (List Int)} {many wide : Nat} (R : RowsOk many wide rows) {n : Nat} : ∀ (lv : List Tr) (st : LSt), (∀ u ∈ lv, TrOk many 1000000 u ∧ u.2.2.length = n) → (∀ t ∈ st.2, TrOk many 1000001 t ∧ t.2.2.length = n + 1) → ∀ t ∈ (ledL rows wide lv st).2, TrOk many 1000001 t ∧ t.2.2.length = n + 1
  | [], st, _, h => h
  | u :: lv, st, hl, h => by
    have hu := hl u List.mem_cons_self
    exact ledL_ok R lv (ledU rows u st wide) (fun v hv => hl v (List.mem_cons_of_mem _ hv)) (ledU_ok R hu.1 hu.2 wide st (Nat.le_refl _) h)
section
variable {P : Program} {w : World} {K : PySem.W.Frag} {mg : Str → Option Value} {base : Heap} {f : Addr} {fd : FuncData} {dV : Value} {C : Addr}
theorem sc_parting : FnScope ["machine", "one", "other", "signs", "alike", "level", "here", "there", "row"] ["machine", "one", "other"] (defScope s_parting) := ⟨rfl, rfl, rfl, by decide +kernel, rfl, by decide +kernel, by decide +kernel⟩
theorem ok_parting (F : FunD K "parting" "parting" s_parting dV f fd) (GM_Alike : DefMk P w K mg base "Alike" C 1 ["self", "many"] (spAlikeInit C)) (G_led_on : DefOk P w K mg base "led_on" 2 ["rows", "alike", "level"] [] (spLedOn C)) (z_len : mg "len" = none) : FnOk P w K mg base CX0 3 f fd ["machine", "one", "other"] (spParting K) := by
  refine F.ok sc_parting (fun vs H Q E h => ?_) (fun cdv A outer s H vs Q E hr h => ?_)
  · obtain ⟨m, r, g, many, wide, rows, signs, p, q, rfl, _⟩ := h
    rfl
  obtain ⟨m, r, g, many, wide, rows, signs, p, q, rfl, M, R, ls, hn, ⟨p0, p1⟩, ⟨q0, q1⟩, kN, kS⟩ := h
  obtain ⟨ras, hr', hA⟩ := M.rows
  refine body_w (ws_cons (PSW.mk (ps_set (i := 3) sc_parting.nd rfl (Or.inl rfl) (pe_ix ix_tup (pv 0) pe_int (fun _ _ => rfl))))
      (ws_cons (PSW.mk (ps_set (i := 4) sc_parting.nd rfl (Or.inl rfl) (pe_mko GM_Alike hr (pa_cons (pe_callB call_len_seq (by rfl) z_len bt_len (pa_cons (pv 3) pa_nil)) pa_nil))))
      (ws_cons (PSW.mk (ps_set (i := 5) sc_parting.nd rfl (Or.inl rfl) (pe_lst (pa_cons (pe_tup (pa_cons (pv 1) (pa_cons (pv 2) (pa_cons (pe_tup pa_nil) pa_nil)))) pa_nil))))
      (ws_cons (PSW.mk (ps_while PassesOwn.never (pt_truth (pv 5) (fun _ => rfl)) (pss_cons (ps_for PassesOwn.never rfl (pi_list (pv 5)) (pg_tup rfl (pgs_cons (pg_name (i := 6) sc_parting.nd rfl (Or.inl rfl)) (pgs_cons (pg_name (i := 7) sc_parting.nd rfl (Or.inl rfl)) (pgs_cons (pg_name (i := 8) sc_parting.nd rfl (Or.inl rfl)) pgs_nil)))) (pss_one (ps_if (pt_cmpR op_ne (pe_ix ix_tup (pv 3) (pv 6) (fun _ _ => rfl)) (pe_ix ix_tup (pv 3) (pv 7) (fun _ _ => rfl)) (nomark _)) (pss_one (ps_ret (pv 8))) pss_nil)))
      (pss_one (ps_set (i := 5) sc_parting.nd rfl (Or.inl rfl) (pe_cd G_led_on hr (pa_cons (pe_ix ix_tup (pv 0) pe_int (fun _ _ => rfl)) (pa_cons (pv 4) (pa_cons (pv 5) pa_nil)))))))))
      (ws_one (PSW.mk (ps_ret pe_non))))))) ?_
  refine ⟨_, rfl, m, _, _, _, rfl, rfl, SqT.of M.tup, rfl, ?_⟩
  refine ⟨_, rfl, g, _, rfl, .inr (SqT.of M.sgn), fun x dx hx hdx ne => ⟨x, dx, _, rfl, upd_same, by rw [List.length_map, ls]; exact hn, fun H1 ga ma mas kk h1 h2 h3 AA => ⟨rfl, ?_⟩⟩⟩
  rw [List.length_map, ls] at AA
  have up : ∀ b u, H b = some u → (upd (upd H dx (HO.own x)) x (HO.ins C dx [])) b = some u := fun b u h => by rw [upd_ne (ne_of_none h hx), upd_ne (ne_of_none h hdx)]; exact h
  have s1 : Same H H1 := fun b u h => kk b u (ne_of_none h hx) (up b u h)
  have fr : ∀ {b}, (upd (upd H dx (HO.own x)) x (HO.ins C dx [])) b = none → H b = none := fun {b} h => by
    cases e : H b with
    | none => rfl
    | some u => rw [up b u e] at h; cases h
  have ga0 := fr h1
  have ma0 := fr h2
  have mas0 : ∀ a ∈ mas, H a = none := fun a ha => fr (h3 a ha)
  refine ⟨_, rfl, _, rfl, (by show 0 ≤ sizeLine; decide), fun t0 ht0 => ⟨(by show 3 ≤ sizeLine; decide), fun t1 ht1 => ⟨(by show 1 ≤ sizeLine; decide), fun la hla => ?_⟩⟩⟩
  try dsimp only [gName]
  obtain ⟨H2, eH2⟩ : ∃ H2, upd (upd (upd H1 t0 (HO.tup [])) t1 (HO.tup [V.int p, V.int q, V.ref t0])) la (HO.lst [V.ref t1]) = H2 := ⟨_, rfl⟩
  rw [eH2]
  have s12 : Same H1 H2 := by rw [← eH2]; exact ((same_new ht0 _).trans (same_new ht1 _)).trans (same_new hla _)
  have hla2 : H2 la = some (.lst ([t1].map V.ref)) := by rw [← eH2, upd_same]; rfl
  have nla1 : t1 ≠ la := fun z => by rw [← z, upd_same] at hla; cases hla
  have nla0 : t0 ≠ la := fun z => by
    have n01 : t0 ≠ t1 := fun z => by rw [← z, upd_same] at ht1; cases ht1
    rw [← z, upd_ne n01, upd_same] at hla; cases hla
  have n01 : t0 ≠ t1 := fun z => by rw [← z, upd_same] at ht1; cases ht1
  have T2 : TripsAt H2 [t1] [(p, q, [])] := .cons ⟨t0, by rw [← eH2, upd_ne nla1, upd_same], by rw [← eH2, upd_ne nla0, upd_ne n01, upd_same]; rfl⟩ .nil
  have la1 : H1 la = none := by
    cases e : H1 la with
    | none => rfl
    | some u =>
      have := ((same_new ht0 (HO.tup [])).trans (same_new ht1 (HO.tup [V.int p, V.int q, V.ref t0]))) _ _ e
      rw [this] at hla
      cases hla
  have AA2 : AlikeAt H2 C x dx ga ma mas ((List.range many).map fun i : Nat => (i : Int)) ((List.range many).map fun i : Nat => [(i : Int)]) := ⟨s12 _ _ AA.obj, s12 _ _ AA.grp, s12 _ _ AA.mem, Paired.mapP AA.each fun _ _ h => s12 _ _ h, AA.nd, AA.ng, AA.nm, AA.ngm⟩
  have lreg : la ≠ ga ∧ la ≠ ma ∧ la ∉ mas := by
    refine ⟨fun z => ?_, fun z => ?_, fun z => ?_⟩
    · rw [z, AA.grp] at la1; cases la1
    · rw [z, AA.mem] at la1; cases la1
    · obtain ⟨j, hj, ej⟩ := List.getElem_of_mem z
      obtain ⟨b, h1, h2⟩ := MemAt.get (i := j) AA.each (by rw [← AA.each.length]; exact hj)
      rw [List.getElem?_eq_getElem hj, ej] at h1
      cases h1
      rw [la1] at h2
      cases h2
  have s2 := s1.trans s12
  refine cut_seq (t := tWhile _ _) (fun σ' H' => Same H H' ∧ PartRes rows wide many signs p q none) ?_ (fun nxt => ?_)
  rotate_left
  · refine while_W (fun ms σ' H' => ∃ (k : Nat) (la : Addr) (mas tas : List Addr) (gs : List Int) (mm : List (List Int)) (lv : List Tr) (v6 v7 v8 : Option V), ms = 2 * cnt many gs + lv.length ∧ σ' = [some (.ref m), some (.int p), some (.int q), some (.ref g), some (.ref x), some (.ref la), v6, v7, v8] ∧ Same H H' ∧ (∀ a ∈ mas, H a = none) ∧ AlikeAt H' C x dx ga ma mas gs mm ∧ PartOk many gs mm ∧ (la ≠ ga ∧ la ≠ ma ∧ la ∉ mas) ∧
        H' la = some (.lst (tas.map V.ref)) ∧ TripsAt H' tas lv ∧ (∀ u ∈ lv, TrOk many 1000000 u ∧ u.2.2.length = k) ∧ (lv = [] ∨ k + cnt many gs ≤ many) ∧ ((gs, mm), lv) = levK rows wide many p q k ∧ ∀ i, i < k → (levK rows wide many p q i).2 ≠ [] ∧ ∀ u ∈ (levK rows wide many p q i).2, partedB signs u = false)
      ⟨_, 0, la, mas, [t1], _, _, [(p, q, [])], none, none, none, rfl, rfl, s2, mas0, AA2, PartOk.start many, lreg, hla2, T2, fun u hu => ?_, .inr ?_, rfl, fun i hi => absurd hi (Nat.not_lt_zero _)⟩ ?_
    · rw [List.mem_singleton.mp hu]
      exact ⟨⟨⟨p0, p1⟩, ⟨q0, q1⟩, Nat.zero_le _⟩, rfl⟩
    · have := cnt_le many ((List.range many).map fun i : Nat => (i : Int))
      omega
    rintro ms σ' H3 ⟨k, la, mas, tas, gs, mm, lv, v6, v7, v8, rfl, rfl, s3, m3, AA3, PO3, lr3, hl3, T3, ok3, kc3, e3, old3⟩
    have ltl : tas.length = lv.length := Paired.length T3
    by_cases en : lv = []
    · subst en
      have ten : tas = [] := List.eq_nil_of_length_eq_zero ltl
      subst ten
      refine ⟨_, rfl, _, .inl ⟨_, SqL.of hl3, rfl⟩, iteF ?_⟩
      exact nxt [some (.ref m), some (.int p), some (.int q), some (.ref g), some (.ref x), some (.ref la), v6, v7, v8] H3 ⟨s3, k, old3, .inl ⟨by rw [← e3], rfl⟩⟩
    have kc : k + cnt many gs ≤ many := kc3.resolve_left en
    refine ⟨_, rfl, _, .inl ⟨_, SqL.of hl3, rfl⟩, ?_⟩
    have ne' : (!(tas.map V.ref).isEmpty) = true := by
      cases tas with
      | nil => exact absurd (List.eq_nil_of_length_eq_zero ltl.symm) en
      | cons x r => rfl
    rw [ne']
    refine iteT ⟨fun σ' H' => ∃ m', m' < 2 * cnt many gs + lv.length ∧ ∃ (k : Nat) (la : Addr) (mas tas : List Addr) (gs : List Int) (mm : List (List Int)) (lv : List Tr) (v6 v7 v8 : Option V), m' = 2 * cnt many gs + lv.length ∧ σ' = [some (.ref m), some (.int p), some (.int q), some (.ref g), some (.ref x), some (.ref la), v6, v7, v8] ∧ Same H H' ∧ (∀ a ∈ mas, H a = none) ∧ AlikeAt H' C x dx ga ma mas gs mm ∧ PartOk many gs mm ∧ (la ≠ ga ∧ la ≠ ma ∧ la ∉ mas) ∧
        H' la = some (.lst (tas.map V.ref)) ∧ TripsAt H' tas lv ∧ (∀ u ∈ lv, TrOk many 1000000 u ∧ u.2.2.length = k) ∧ (lv = [] ∨ k + cnt many gs ≤ many) ∧ ((gs, mm), lv) = levK rows wide many p q k ∧ ∀ i, i < k → (levK rows wide many p q i).2 ≠ [] ∧ ∀ u ∈ (levK rows wide many p q i).2, partedB signs u = false, fun σ' H' h => h, ?_⟩
    have sAt : ∀ {y : Int}, 0 ≤ y → y < (many : Int) → atI (signs.map V.int) y = some (.int (sgn signs y)) := fun {y} y0 y1 => atI_ints y0 (by omega)
    refine ⟨_, rfl, la, rfl, ⟨_, SqL.of hl3⟩, for_list (K := K) (xs := tas.map V.ref) (fun i σ' H' => ∃ v6 v7 v8 : Option V, σ' = [some (.ref m), some (.int p), some (.int q), some (.ref g), some (.ref x), some (.ref la), v6, v7, v8] ∧ H' = H3 ∧ ∀ u ∈ lv.take i, partedB signs u = false)
      ⟨v6, v7, v8, rfl, rfl, by rw [List.take_zero]; exact fun u hu => by cases hu⟩ (fun i σ' H' _ ⟨_, _, _, _, e, _⟩ => by rw [e]; exact SqL.of hl3) ?_ ?_⟩
    · rintro i y σ' H4 hi ⟨v6, v7, v8, rfl, rfl, bef⟩
      rw [List.getElem?_map] at hi
      obtain ⟨ta, hta, rfl⟩ := Option.map_eq_some_iff.mp hi
      obtain ⟨u, hu', ra, hu1, hu2⟩ := T3.get hta
      obtain ⟨⟨⟨a0, a1⟩, ⟨b0, b1⟩, _⟩, rl⟩ := ok3 u (List.mem_of_getElem? hu')
      refine ⟨ta, _, rfl, SqT.of hu1, rfl, _, _, rfl, _, _, rfl, _, _, rfl, rfl, ?_⟩
      refine ⟨_, rfl, _, rfl, g, _, _, _, rfl, rfl, SqT.of (s3 _ _ M.sgn), sAt a0 a1, ?_⟩
      refine ⟨_, rfl, _, rfl, g, _, _, _, rfl, rfl, SqT.of (s3 _ _ M.sgn), sAt b0 b1, rfl, _, rfl, iteDn (fun c => ?_) (fun c => ?_)⟩
      · refine ⟨_, rfl, kS _ ra u.2.2 s3 hu2 ⟨k, old3, .inr ⟨u, ?_, rfl⟩⟩⟩
        rw [← e3]
        show lv.find? (partedB signs) = some u
        have hp : partedB signs u = true := by
          unfold partedB
          rw [decide_eq_false (fun z => c (by rw [z]))]
          rfl
        have hil : i < lv.length := (List.getElem?_eq_some_iff.mp hu').1
        rw [List.find?_eq_some_iff_append]
        refine ⟨hp, lv.take i, lv.drop (i + 1), ?_, fun v hv => ?_⟩
        · have e : lv[i] = u := (List.getElem?_eq_some_iff.mp hu').2
          rw [← e, ← List.drop_eq_getElem_cons hil, List.take_append_drop]
        · rw [bef v hv]; rfl
      · refine ⟨_, _, _, rfl, rfl, fun v hv => ?_⟩
        rw [List.take_add_one, hu'] at hv
        rcases List.mem_append.mp hv with z | z
        · exact bef v z
        · have : v = u := by simpa using z
          rw [this]
          unfold partedB
          rw [decide_eq_true (V.int.inj c)]
          rfl
    · rintro σ' H4 ⟨v6, v7, v8, rfl, rfl, bef⟩
      rw [List.length_map, ltl, List.take_length] at bef
      refine ⟨_, rfl, m, _, _, _, rfl, rfl, SqT.of (s3 _ _ M.tup), rfl, _, rfl, _, rfl, r, x, dx, ga, ma, la, ras, mas, tas, gs, mm, lv, many, wide, rows, rfl, s3 _ _ hr', hA.same (fun b xs h => s3 _ _ h), R, hn, AA3, PO3, lr3, hl3, T3, fun u hu => ⟨(ok3 u hu).1.1, (ok3 u hu).1.2.1, by have := (ok3 u hu).2; omega⟩, ?_⟩
      intro H5 fa mas5 tas5 gs5 mm5 fr5 k5 g5 AA5 PO5 hfa fr5' hf5 T5 e5 c5
      have e5' : ((gs5, mm5), fr5) = levK rows wide many p q (k + 1) := by
        show _ = ledL rows wide (levK rows wide many p q k).2 ((levK rows wide many p q k).1, [])
        rw [← e3]
        exact e5
      have s5 : Same H H5 := fun b u h => by
        refine k5 b u (fun z => ?_) (fun z => ?_) (fun z => ?_) (s3 _ _ h)
        · rw [z, ga0] at h; cases h
        · rw [z, ma0] at h; cases h
        · rw [m3 b z] at h; cases h
      have ok5 : ∀ u ∈ fr5, TrOk many 1000000 u ∧ u.2.2.length = k + 1 := fun u hu => by
        have q := ledL_ok R (n := k) (wide := wide) lv ((gs, mm), []) ok3 (fun t ht => by cases ht) u (by rw [← e5]; exact hu)
        refine ⟨⟨q.1.1, q.1.2.1, ?_⟩, q.2⟩
        rw [q.2]
        omega
      have lvp : 1 ≤ lv.length := by
        cases lv with
        | nil => exact absurd rfl en
        | cons a b => exact Nat.succ_le_succ (Nat.zero_le _)
      refine ⟨_, ?_, k + 1, fa, mas5, tas5, gs5, mm5, fr5, _, _, _, rfl, rfl, s5, fun a ha => ?_, AA5, PO5, fr5', hf5, T5, ok5, ?_, e5', fun i hi => ?_⟩
      · omega
      · rcases g5 a ha with z | z
        · exact m3 a z
        · exact s3.free z
      · cases fr5 with
        | nil => exact .inl rfl
        | cons a b =>
          refine .inr ?_
          rw [List.length_cons] at c5
          omega
      · rcases Nat.lt_or_eq_of_le (Nat.le_of_lt_succ hi) with z | z
        · exact old3 i z
        · subst z
          rw [← e3]
          exact ⟨en, bef⟩
  rintro σ' H3 ⟨s3, res⟩
  exact kN H3 s3 res
end
end My

set_option Elab.async false
set_option linter.all false
set_option maxRecDepth 100000
set_option maxHeartbeats 8000000
namespace My
open PySem L2
/-! ### what the levels decide is right, and as short as can be -/
theorem PartRes.unique {rows : List (List Int)} {wide many : Nat} {signs : List Int} {p q : Int} {r1 r2 : Option (List Int)} (h1 : PartRes rows wide many signs p q r1) (h2 : PartRes rows wide many signs p q r2) : r1 = r2 := by
  obtain ⟨k1, o1, e1⟩ := h1
  obtain ⟨k2, o2, e2⟩ := h2
  have no : ∀ {k : Nat} {r : Option (List Int)}, ((levK rows wide many p q k).2 = [] ∧ r = none) ∨ (∃ u, (levK rows wide many p q k).2.find? (partedB signs) = some u ∧ r = some u.2.2) → ¬ ((levK rows wide many p q k).2 ≠ [] ∧ ∀ u ∈ (levK rows wide many p q k).2, partedB signs u = false) := by
    rintro k r (⟨e, _⟩ | ⟨u, hu, _⟩) ⟨n1, n2⟩
    · exact n1 e
    · have h1 := List.mem_of_find?_eq_some hu
      have h2 := List.find?_some hu
      rw [n2 u h1] at h2
      cases h2
  rcases Nat.lt_trichotomy k1 k2 with z | z | z
  · exact absurd (o2 k1 z) (no e1)
  · subst z
    rcases e1 with ⟨a1, b1⟩ | ⟨u1, a1, b1⟩
    · rcases e2 with ⟨a2, b2⟩ | ⟨u2, a2, b2⟩
      · rw [b1, b2]
      · rw [a1] at a2; cases a2
    · rcases e2 with ⟨a2, b2⟩ | ⟨u2, a2, b2⟩
      · rw [a2] at a1; cases a1
      · rw [a1] at a2; cases a2; rw [b1, b2]
  · exact absurd (o1 k2 z) (no e2)
def InF (wide : Nat) (v : List Int) : Prop := ∀ f ∈ v, 0 ≤ f ∧ f < (wide : Int)
/-- alike by all rows of at most n figures -/
def Agree (rows : List (List Int)) (wide : Nat) (signs : List Int) (n : Nat) (a b : Int) : Prop := ∀ v, InF wide v → v.length ≤ n → sgn signs (walkI rows v a) = sgn signs (walkI rows v b)
theorem Agree.refl {rows : List (List Int)} {wide : Nat} {signs : List Int} {n : Nat} (a : Int) : Agree rows wide signs n a a := fun _ _ _ => rfl
theorem Agree.symm {rows : List (List Int)} {wide : Nat} {signs : List Int} {n : Nat} {a b : Int} (h : Agree rows wide signs n a b) : Agree rows wide signs n b a := fun v h1 h2 => (h v h1 h2).symm
theorem Agree.trans {rows : List (List Int)} {wide : Nat} {signs : List Int} {n : Nat} {a b c : Int} (h : Agree rows wide signs n a b) (h' : Agree rows wide signs n b c) : Agree rows wide signs n a c := fun v h1 h2 => (h v h1 h2).trans (h' v h1 h2)
theorem Agree.less {rows : List (List Int)} {wide : Nat} {signs : List Int} {n m : Nat} {a b : Int} (h : Agree rows wide signs n a b) (l : m ≤ n) : Agree rows wide signs m a b := fun v h1 h2 => h v h1 (by omega)
theorem Agree.up {rows : List (List Int)} {wide : Nat} {signs : List Int} {n : Nat} {a b : Int} (h0 : sgn signs a = sgn signs b) (h : ∀ f : Nat, f < wide → Agree rows wide signs n (stepI rows a f) (stepI rows b f)) : Agree rows wide signs (n + 1) a b := by
  intro v h1 h2
  cases v with
  | nil => exact h0
  | cons f v =>
    have hf := h1 f List.mem_cons_self
    have q := h f.toNat (by omega) v (fun g hg => h1 g (List.mem_cons_of_mem _ hg)) (by rw [List.length_cons] at h2; omega)
    rw [Int.toNat_of_nonneg hf.1] at q
    exact q
/-- groups are within a relation -/
def Within (many : Nat) (gs : List Int) (S : Int → Int → Prop) : Prop := ∀ x y : Int, (0 ≤ x ∧ x < (many : Int)) → (0 ≤ y ∧ y < (many : Int)) → grp gs x = grp gs y → S x y
structure Eqv (S : Int → Int → Prop) : Prop where
  refl : ∀ a, S a a
  symm : ∀ {a b}, S a b → S b a
  trans : ∀ {a b c}, S a b → S b c → S a c
theorem grp_join' {n : Nat} {gs : List Int} {s g x : Int} (h : gs.length = n) (x0 : 0 ≤ x) (x1 : x < (n : Int)) : grp (joinG gs s g) x = if grp gs x = s then g else grp gs x := by
  have q := grp_join (s := s) (g := g) h (x := x.toNat) (by omega)
  rw [Int.toNat_of_nonneg x0] at q
  exact q
theorem small_great (gs : List Int) (mm : List (List Int)) (a b : Int) : (smallOf gs mm a b = grp gs a ∧ greatOf gs mm a b = grp gs b) ∨ (smallOf gs mm a b = grp gs b ∧ greatOf gs mm a b = grp gs a) := by
  unfold smallOf greatOf
  split
  · exact .inr ⟨rfl, rfl⟩
  · exact .inl ⟨rfl, rfl⟩
theorem Within.join {many : Nat} {gs : List Int} {mm : List (List Int)} {S : Int → Int → Prop} (e : Eqv S) (hl : gs.length = many) (h : Within many gs S) {a b : Int} (ra : 0 ≤ a ∧ a < (many : Int)) (rb : 0 ≤ b ∧ b < (many : Int)) (hab : S a b) : Within many (joinG gs (smallOf gs mm a b) (greatOf gs mm a b)) S := by
  intro x y rx ry q
  rw [grp_join' hl rx.1 rx.2, grp_join' hl ry.1 ry.2] at q
  rcases small_great gs mm a b with ⟨es, eg⟩ | ⟨es, eg⟩ <;> rw [es, eg] at q
  · split at q
    · rename_i c1
      split at q
      · rename_i c2
        exact h x y rx ry (c1.trans c2.symm)
      · exact e.trans (h x a rx ra c1) (e.trans hab (h b y rb ry q))
    · split at q
      · rename_i c2
        exact e.trans (h x b rx rb q) (e.trans (e.symm hab) (h a y ra ry c2.symm))
      · exact h x y rx ry q
  · split at q
    · rename_i c1
      split at q
      · rename_i c2
        exact h x y rx ry (c1.trans c2.symm)
      · exact e.trans (h x b rx rb c1) (e.trans (e.symm hab) (h a y ra ry q))
    · split at q
      · rename_i c2
        exact e.trans (h x a rx ra q) (e.trans hab (h b y rb ry c2.symm))
      · exact h x y rx ry q
theorem join_mono {many : Nat} {gs : List Int} {s g x y : Int} (hl : gs.length = many) (rx : 0 ≤ x ∧ x < (many : Int)) (ry : 0 ≤ y ∧ y < (many : Int)) (h : grp gs x = grp gs y) : grp (joinG gs s g) x = grp (joinG gs s g) y := by
  rw [grp_join' hl rx.1 rx.2, grp_join' hl ry.1 ry.2, h]
theorem join_alike {many : Nat} {gs : List Int} {mm : List (List Int)} {a b : Int} (hl : gs.length = many) (ra : 0 ≤ a ∧ a < (many : Int)) (rb : 0 ≤ b ∧ b < (many : Int)) : grp (joinG gs (smallOf gs mm a b) (greatOf gs mm a b)) a = grp (joinG gs (smallOf gs mm a b) (greatOf gs mm a b)) b := by
  rw [grp_join' hl ra.1 ra.2, grp_join' hl rb.1 rb.2]
  rcases small_great gs mm a b with ⟨es, eg⟩ | ⟨es, eg⟩ <;> rw [es, eg]
  · rw [if_pos rfl]
    split <;> rfl
  · rw [if_pos rfl]
    split <;> rfl
/-- what one walk through the level does -/
structure Led (many wide : Nat) (rows : List (List Int)) (gs : List Int) (st : LSt) (fr0 : List Tr) : Prop where
  len : st.1.1.length = many
  mono : ∀ x y : Int, (0 ≤ x ∧ x < (many : Int)) → (0 ≤ y ∧ y < (many : Int)) → grp gs x = grp gs y → grp st.1.1 x = grp st.1.1 y
  gen : ∀ S, Eqv S → Within many gs S → (∀ t ∈ st.2, S t.1 t.2.1) → Within many st.1.1 S
  sub : ∀ t ∈ fr0, t ∈ st.2
theorem step_in {many wide : Nat} {rows : List (List Int)} (R : RowsOk many wide rows) {y : Int} {f : Nat} (hy : 0 ≤ y ∧ y < (many : Int)) (hf : f < wide) : 0 ≤ stepI rows y f ∧ stepI rows y f < (many : Int) := by
  have l1 : y.toNat < rows.length := by rw [R.len]; omega
  have lr : rows[y.toNat].length = wide := R.row _ (List.getElem_mem l1)
  have hf' : f < rows[y.toNat].length := by omega
  unfold stepI
  rw [getD_at l1, Int.toNat_natCast, getD_at hf']
  exact R.val _ (List.getElem_mem l1) _ (List.getElem_mem hf')
theorem ledU_led {many wide : Nat} {rows : List (List Int)} (R : RowsOk many wide rows) {u : Tr} (ua : 0 ≤ u.1 ∧ u.1 < (many : Int)) (ub : 0 ≤ u.2.1 ∧ u.2.1 < (many : Int)) (st : LSt) (hl : st.1.1.length = many) :
    ∀ f, f ≤ wide → Led many wide rows st.1.1 (ledU rows u st f) st.2 ∧ ∀ g : Nat, g < f → grp (ledU rows u st f).1.1 (stepI rows u.1 g) = grp (ledU rows u st f).1.1 (stepI rows u.2.1 g)
  | 0, _ => ⟨⟨hl, fun _ _ _ _ h => h, fun _ _ h _ => h, fun _ h => h⟩, fun g hg => absurd hg (Nat.not_lt_zero _)⟩
  | f + 1, hf => by
    obtain ⟨L, al⟩ := ledU_led R ua ub st hl f (by omega)
    obtain ⟨s1, es⟩ : ∃ s1, ledU rows u st f = s1 := ⟨_, rfl⟩
    rw [es] at L al
    have e : ledU rows u st (f + 1) = ledStep rows u f s1 := by rw [← es]; rfl
    rw [e]
    have rA := step_in R ua (f := f) (by omega)
    have rB := step_in R ub (f := f) (by omega)
    unfold ledStep
    split
    · rename_i c
      refine ⟨L, fun g hg => ?_⟩
      rcases Nat.lt_or_eq_of_le (Nat.le_of_lt_succ hg) with z | z
      · exact al g z
      · subst z; exact c
    · refine ⟨⟨by show (joinG _ _ _).length = _; unfold joinG; rw [List.length_map]; exact L.len, fun x y rx ry h => join_mono L.len rx ry (L.mono x y rx ry h), fun S e h ht => ?_, fun t h => List.mem_append_left _ (L.sub t h)⟩, fun g hg => ?_⟩
      · exact (L.gen S e h fun t h => ht t (List.mem_append_left _ h)).join e L.len rA rB (ht _ (List.mem_append_right _ List.mem_cons_self))
      · rcases Nat.lt_or_eq_of_le (Nat.le_of_lt_succ hg) with z | z
        · exact join_mono L.len (step_in R ua (by omega)) (step_in R ub (by omega)) (al g z)
        · subst z; exact join_alike L.len rA rB
theorem ledL_led {many wide : Nat} {rows : List (List Int)} (R : RowsOk many wide rows) : ∀ (lv : List Tr) (st : LSt), st.1.1.length = many → (∀ u ∈ lv, (0 ≤ u.1 ∧ u.1 < (many : Int)) ∧ (0 ≤ u.2.1 ∧ u.2.1 < (many : Int))) →
    Led many wide rows st.1.1 (ledL rows wide lv st) st.2 ∧ ∀ u ∈ lv, ∀ g : Nat, g < wide → grp (ledL rows wide lv st).1.1 (stepI rows u.1 g) = grp (ledL rows wide lv st).1.1 (stepI rows u.2.1 g)
  | [], st, hl, _ => ⟨⟨hl, fun _ _ _ _ h => h, fun _ _ h _ => h, fun _ h => h⟩, fun u hu => by cases hu⟩
  | u :: lv, st, hl, h => by
    have hu := h u List.mem_cons_self
    obtain ⟨L1, a1⟩ := ledU_led R hu.1 hu.2 st hl wide (Nat.le_refl _)
    obtain ⟨L2, a2⟩ := ledL_led R lv (ledU rows u st wide) L1.len fun v hv => h v (List.mem_cons_of_mem _ hv)
    refine ⟨⟨L2.len, fun x y rx ry q => L2.mono x y rx ry (L1.mono x y rx ry q), fun S e q ht => L2.gen S e (L1.gen S e q fun t z => ht t (L2.sub t z)) ht, fun t z => L2.sub t (L1.sub t z)⟩, fun v hv g hg => ?_⟩
    rcases List.mem_cons.mp hv with rfl | hv
    · exact L2.mono _ _ (step_in R hu.1 hg) (step_in R hu.2 hg) (a1 g hg)
    · exact a2 v hv g hg
theorem ledU_from {rows : List (List Int)} {u : Tr} {wide : Nat} {st : LSt} : ∀ f, f ≤ wide → ∀ t ∈ (ledU rows u st f).2, t ∈ st.2 ∨ ∃ g : Nat, g < wide ∧ t = (stepI rows u.1 g, stepI rows u.2.1 g, u.2.2 ++ [(g : Int)])
  | 0, _, t, h => .inl h
  | f + 1, hf, t, h => by
    have ih := ledU_from (rows := rows) (u := u) (wide := wide) (st := st) f (by omega)
    have h' : t ∈ (ledStep rows u f (ledU rows u st f)).2 := h
    unfold ledStep at h'
    split at h'
    · exact ih t h'
    · rcases List.mem_append.mp h' with z | z
      · exact ih t z
      · exact .inr ⟨f, by omega, List.mem_singleton.mp z⟩
theorem ledL_from {rows : List (List Int)} {wide : Nat} : ∀ (lv : List Tr) (st : LSt), ∀ t ∈ (ledL rows wide lv st).2, t ∈ st.2 ∨ ∃ u ∈ lv, ∃ g : Nat, g < wide ∧ t = (stepI rows u.1 g, stepI rows u.2.1 g, u.2.2 ++ [(g : Int)])
  | [], st, t, h => .inl h
  | u :: lv, st, t, h => by
    rcases ledL_from lv (ledU rows u st wide) t h with z | ⟨v, hv, r⟩
    · rcases ledU_from wide (Nat.le_refl _) t z with z | z
      · exact .inl z
      · exact .inr ⟨u, List.mem_cons_self, z⟩
    · exact .inr ⟨v, List.mem_cons_of_mem _ hv, r⟩
/-- each pair of a level: where its row leads from the two rooms -/
theorem levK_walk {many wide : Nat} {rows : List (List Int)} {p q : Int} (R : RowsOk many wide rows) (hp : 0 ≤ p ∧ p < (many : Int)) (hq : 0 ≤ q ∧ q < (many : Int)) : ∀ k, ∀ t ∈ (levK rows wide many p q k).2, walkI rows t.2.2 p = t.1 ∧ walkI rows t.2.2 q = t.2.1 ∧ InF wide t.2.2 ∧ t.2.2.length = k ∧ (0 ≤ t.1 ∧ t.1 < (many : Int)) ∧ (0 ≤ t.2.1 ∧ t.2.1 < (many : Int))
  | 0, t, h => by
    rw [List.mem_singleton.mp h]
    exact ⟨rfl, rfl, (fun f hf => by cases hf), rfl, hp, hq⟩
  | k + 1, t, h => by
    rcases ledL_from _ _ t h with z | ⟨u, hu, g, hg, rfl⟩
    · cases z
    · obtain ⟨h1, h2, h3, h4, h5, h6⟩ := levK_walk R hp hq k u hu
      refine ⟨?_, ?_, fun f hf => ?_, ?_, step_in R h5 hg, step_in R h6 hg⟩
      · show walkI rows (u.2.2 ++ [(g : Int)]) p = _
        rw [walkI_append, h1]; rfl
      · show walkI rows (u.2.2 ++ [(g : Int)]) q = _
        rw [walkI_append, h2]; rfl
      · rcases List.mem_append.mp hf with z | z
        · exact h3 f z
        · rw [List.mem_singleton.mp z]; omega
      · show (u.2.2 ++ [(g : Int)]).length = _
        rw [List.length_append, List.length_singleton, h4]
theorem levK_len {many wide : Nat} {rows : List (List Int)} {p q : Int} (R : RowsOk many wide rows) (hp : 0 ≤ p ∧ p < (many : Int)) (hq : 0 ≤ q ∧ q < (many : Int)) : ∀ k, (levK rows wide many p q k).1.1.length = many
  | 0 => by show ((List.range many).map fun i : Nat => (i : Int)).length = many; rw [List.length_map, List.length_range]
  | k + 1 => (ledL_led R _ ((levK rows wide many p q k).1, []) (levK_len R hp hq k) fun u hu => let h := levK_walk R hp hq k u hu; ⟨h.2.2.2.2.1, h.2.2.2.2.2⟩).1.len
theorem agree_eqv (rows : List (List Int)) (wide : Nat) (signs : List Int) (n : Nat) : Eqv (Agree rows wide signs n) := ⟨fun a => Agree.refl a, Agree.symm, Agree.trans⟩
/-- if the level's pairs are alike by rows of n figures, so are the groups, and the first two rooms by k more -/
theorem levK_agree {many wide : Nat} {rows : List (List Int)} {signs : List Int} {p q : Int} (R : RowsOk many wide rows) (hp : 0 ≤ p ∧ p < (many : Int)) (hq : 0 ≤ q ∧ q < (many : Int)) : ∀ k, (∀ i, i < k → ∀ u ∈ (levK rows wide many p q i).2, partedB signs u = false) →
    ∀ n, (∀ t ∈ (levK rows wide many p q k).2, Agree rows wide signs n t.1 t.2.1) → Within many (levK rows wide many p q k).1.1 (Agree rows wide signs n) ∧ Agree rows wide signs (n + k) p q
  | 0, _, n, h => by
    refine ⟨fun x y rx ry e => ?_, h (p, q, []) List.mem_cons_self⟩
    have v : ∀ z : Int, (0 ≤ z ∧ z < (many : Int)) → grp (levK rows wide many p q 0).1.1 z = z := fun z rz => by
      show grp ((List.range many).map fun i : Nat => (i : Int)) z = z
      unfold grp
      rw [List.getD_eq_getElem?_getD, List.getElem?_map, List.getElem?_range (by omega)]
      show ((z.toNat : Nat) : Int) = z
      omega
    rw [v x rx, v y ry] at e
    rw [e]
    exact Agree.refl y
  | k + 1, old, n, h => by
    have ih := levK_agree (signs := signs) R hp hq k fun i hi => old i (by omega)
    have rng : ∀ u ∈ (levK rows wide many p q k).2, (0 ≤ u.1 ∧ u.1 < (many : Int)) ∧ (0 ≤ u.2.1 ∧ u.2.1 < (many : Int)) := fun u hu => let h := levK_walk R hp hq k u hu; ⟨h.2.2.2.2.1, h.2.2.2.2.2⟩
    obtain ⟨L, al⟩ := ledL_led R (levK rows wide many p q k).2 ((levK rows wide many p q k).1, []) (levK_len R hp hq k) rng
    have sg : ∀ u ∈ (levK rows wide many p q k).2, sgn signs u.1 = sgn signs u.2.1 := fun u hu => by
      have q := old k (Nat.lt_succ_self _) u hu
      unfold partedB at q
      cases e : decide (sgn signs u.1 = sgn signs u.2.1)
      · rw [e] at q; cases q
      · exact of_decide_eq_true e
    have up : ∀ m, m ≤ n → ∀ u ∈ (levK rows wide many p q k).2, Agree rows wide signs (m + 1) u.1 u.2.1 := by
      intro m hm
      induction m with
      | zero =>
        intro u hu
        have w0 := (ih 0 fun t ht => fun v _ hv => by
          have : v = [] := List.eq_nil_of_length_eq_zero (by omega)
          rw [this]
          exact sg t ht).1
        have W := L.gen (Agree rows wide signs 0) (agree_eqv _ _ _ _) w0 fun t ht => (h t ht).less (Nat.zero_le _)
        exact Agree.up (sg u hu) fun g hg => W _ _ (step_in R (rng u hu).1 hg) (step_in R (rng u hu).2 hg) (al u hu g hg)
      | succ m im =>
        intro u hu
        have w0 := (ih (m + 1) (im (by omega))).1
        have W := L.gen (Agree rows wide signs (m + 1)) (agree_eqv _ _ _ _) w0 fun t ht => (h t ht).less hm
        exact Agree.up (sg u hu) fun g hg => W _ _ (step_in R (rng u hu).1 hg) (step_in R (rng u hu).2 hg) (al u hu g hg)
    have u1 := up n (Nat.le_refl _)
    have r1 := ih (n + 1) u1
    refine ⟨L.gen (Agree rows wide signs n) (agree_eqv _ _ _ _) (fun x y rx ry e => (r1.1 x y rx ry e).less (Nat.le_succ _)) h, ?_⟩
    have e : n + (k + 1) = n + 1 + k := by omega
    rw [e]
    exact r1.2
theorem PartRes.sound {many wide : Nat} {rows : List (List Int)} {signs : List Int} {p q : Int} {row : List Int} (R : RowsOk many wide rows) (hp : 0 ≤ p ∧ p < (many : Int)) (hq : 0 ≤ q ∧ q < (many : Int)) (h : PartRes rows wide many signs p q (some row)) :
    InF wide row ∧ sgn signs (walkI rows row p) ≠ sgn signs (walkI rows row q) ∧ ∀ v, InF wide v → sgn signs (walkI rows v p) ≠ sgn signs (walkI rows v q) → row.length ≤ v.length := by
  obtain ⟨k, old, ⟨_, e⟩ | ⟨u, hu, e⟩⟩ := h
  · cases e
  cases e
  obtain ⟨h1, h2, h3, h4, _⟩ := levK_walk R hp hq k u (List.mem_of_find?_eq_some hu)
  refine ⟨h3, ?_, fun v hv hd => ?_⟩
  · have q := List.find?_some hu
    unfold partedB at q
    rw [h1, h2]
    intro z
    rw [decide_eq_true z] at q
    cases q
  · rw [h4]
    refine Decidable.byContradiction fun c => ?_
    obtain ⟨j, rfl⟩ : ∃ j, k = j + 1 := ⟨k - 1, by omega⟩
    have q := (levK_agree (signs := signs) R hp hq j (fun i hi => (old i (by omega)).2) 0 fun t ht v _ hv => by
      have : v = [] := List.eq_nil_of_length_eq_zero (by omega)
      rw [this]
      have z := (old j (Nat.lt_succ_self _)).2 t ht
      unfold partedB at z
      cases e : decide (sgn signs t.1 = sgn signs t.2.1)
      · rw [e] at z; cases z
      · exact of_decide_eq_true e).2
    exact hd (q v hv (by omega))
theorem PartRes.none_all {many wide : Nat} {rows : List (List Int)} {signs : List Int} {p q : Int} (R : RowsOk many wide rows) (hp : 0 ≤ p ∧ p < (many : Int)) (hq : 0 ≤ q ∧ q < (many : Int)) (h : PartRes rows wide many signs p q none) (v : List Int) (hv : InF wide v) : sgn signs (walkI rows v p) = sgn signs (walkI rows v q) := by
  obtain ⟨k, old, ⟨e, _⟩ | ⟨u, _, e⟩⟩ := h
  · have q := (levK_agree (signs := signs) R hp hq k (fun i hi => (old i hi).2) v.length fun t ht => by rw [e] at ht; cases ht).2
    exact q v hv (by omega)
  · cases e
end My

set_option Elab.async false
set_option linter.all false
set_option maxRecDepth 100000
set_option maxHeartbeats 8000000
namespace My
open PySem L2
/-! ### the law's own words -/
def spWalkT (K : PySem.W.Frag) : Sp := fun vs H Q _ => ∃ (r b : Addr) (st : Int) (many wide : Nat) (ras : List Addr) (rows : List (List Int)) (ns : List Int), vs = [.ref r, .ref b, .int st] ∧ H r = some (.tup (ras.map V.ref)) ∧ RowsAt H ras rows ∧ RowsOk many wide rows ∧
  H b = some (.tup (ns.map V.int)) ∧ (∀ z ∈ ns, 0 ≤ z ∧ z < (wide : Int)) ∧ (0 ≤ st ∧ st < (many : Int)) ∧ Q (.int (walkI rows ns st)) H
def spIsRow : Sp := fun vs H Q _ => ∃ (b : Addr) (wd : Int) (ns : List Int), vs = [.ref b, .int wd] ∧ H b = some (.tup (ns.map V.int)) ∧ (∀ z ∈ ns, 0 ≤ z ∧ z < wd) ∧ Q (.bl true) H
def spBehind (K : PySem.W.Frag) : Sp := fun vs H Q _ => ∃ (a b : Addr) (ns ms : List Int), vs = [.ref a, .ref b] ∧ H a = some (.tup (ns.map V.int)) ∧ H b = some (.tup (ms.map V.int)) ∧ ∀ H', Same H H' → Q (.bl (behindB ns ms)) H'
theorem lexB_at : ∀ {ns ms : List Int} {i : Nat}, (∀ j, j < i → ns[j]? = ms[j]?) → i ≤ ns.length → ns.length = ms.length → (i = ns.length → lexB ns ms = false) ∧ ∀ x y, ns[i]? = some x → ms[i]? = some y → x ≠ y → lexB ns ms = decide (y < x)
  | [], [], i, _, hi, _ => ⟨(fun _ => rfl), (fun x y h => by cases h)⟩
  | [], m :: ms, i, _, _, hl => by cases hl
  | n :: ns, [], i, _, _, hl => by cases hl
  | n :: ns, m :: ms, 0, _, _, hl => by
    refine ⟨(fun h => by cases h), fun x y hx hy ne => ?_⟩
    cases hx
    cases hy
    show (if n = m then lexB ns ms else decide (m < n)) = _
    rw [if_neg ne]
  | n :: ns, m :: ms, i + 1, h, hi, hl => by
    have e : n = m := Option.some.inj (h 0 (Nat.succ_pos _))
    have ih := lexB_at (ns := ns) (ms := ms) (i := i) (fun j hj => h (j + 1) (by omega)) (by simpa using hi) (by simpa using hl)
    have q : lexB (n :: ns) (m :: ms) = lexB ns ms := by
      show (if n = m then lexB ns ms else decide (m < n)) = _
      rw [if_pos e]
    rw [q]
    exact ⟨fun z => ih.1 (by simpa using z), fun x y hx hy ne => ih.2 x y hx hy ne⟩
section
variable {P : Program} {w : World} {K : PySem.W.Frag} {mg : Str → Option Value} {base : Heap} {f : Addr} {fd : FuncData} {dV : Value}
theorem sc__law_walk : FnScope ["_law_rows", "_law_row", "_law_at", "_law_figure"] ["_law_rows", "_law_row", "_law_at"] (defScope s__law_walk) := ⟨rfl, rfl, rfl, by decide +kernel, rfl, by decide +kernel, by decide +kernel⟩
theorem sc__law_is_row : FnScope ["_law_found", "_law_wide", "_law_one"] ["_law_found", "_law_wide"] (defScope s__law_is_row) := ⟨rfl, rfl, rfl, by decide +kernel, rfl, by decide +kernel, by decide +kernel⟩
theorem sc__law_behind : FnScope ["_law_row", "_law_other", "_law_one", "_law_two"] ["_law_row", "_law_other"] (defScope s__law_behind) := ⟨rfl, rfl, rfl, by decide +kernel, rfl, by decide +kernel, by decide +kernel⟩
theorem sc__law_leads : FnScope ["_law_machine_here", "_law_found", "_law_wide", "_law_rows", "_law_signs_here", "_law_q", "_law_row", "_law_f", "_law_other"] ["_law_machine_here", "_law_found"] (defScope s__law_leads) := ⟨rfl, rfl, rfl, by decide +kernel, rfl, by decide +kernel, by decide +kernel⟩
theorem sc__law_parted : FnScope ["_law_machine_here", "_law_table", "_law_p", "_law_q", "_law_wide", "_law_rows", "_law_signs_here", "_law_row", "_law_f", "_law_behind_here"] ["_law_machine_here", "_law_table", "_law_p", "_law_q"] (defScope s__law_parted) := ⟨rfl, rfl, rfl, by decide +kernel, rfl, by decide +kernel, by decide +kernel⟩
theorem sc_law : FnScope ["_law_script", "_law_machine_here", "_law_first", "_law_other", "_law_table", "_law_many", "_law_p", "_law_q"] ["_law_script"] (defScope s_law) := ⟨rfl, rfl, rfl, by decide +kernel, rfl, by decide +kernel, by decide +kernel⟩
theorem ok_walkT (F : FunD K "_law_walk" "_law_walk" s__law_walk dV f fd) : FnOk P w K mg base CX0 1 f fd ["_law_rows", "_law_row", "_law_at"] (spWalkT K) := by
  refine F.ok sc__law_walk (fun vs H Q E h => ?_) (fun cdv A outer s H vs Q E hr h => ?_)
  · obtain ⟨r, b, st, many, wide, ras, rows, ns, rfl, _⟩ := h
    rfl
  obtain ⟨r, b, st, many, wide, ras, rows, ns, rfl, hr', hA, R, hb, hin, ⟨s0, s1⟩, q⟩ := h
  refine ⟨_, (pss_cons (ps_for PassesOwn.never rfl (pi_tup (pv 1)) (pg_name (i := 3) sc__law_walk.nd rfl (Or.inl rfl)) (pss_one (ps_set (i := 2) sc__law_walk.nd rfl (Or.inl rfl) (pe_ix ix_tup (pe_ix ix_tup (pv 0) (pv 2) (fun _ _ => rfl)) (pv 3) (fun _ _ => rfl)))))
      (pss_one (ps_ret (pv 2)))), ?_⟩
  refine ⟨_, rfl, b, rfl, ⟨_, SqT.of hb⟩, for_tup (K := K) (xs := ns.map V.int) (fun i σ' H' => ∃ v, σ' = [some (.ref r), some (.ref b), some (.int (walkI rows (ns.take i) st)), v] ∧ H' = H) ⟨none, rfl, rfl⟩ (fun i σ' H' _ ⟨_, _, e⟩ => by rw [e]; exact SqT.of hb) ?_ ?_⟩
  · rintro i y σ' H' hi ⟨v, rfl, rfl⟩
    obtain ⟨z, rfl, hz⟩ := ints_at hi
    have w0 := walkI_ok R (ns := ns.take i) (h := st) (fun z hz => hin z (List.mem_of_mem_take hz)) s0 s1
    have hz' := hin z (List.mem_of_getElem? hz)
    obtain ⟨ra, rr, e1, e2, e3⟩ := row_step hA R w0.1 w0.2 hz'.1 hz'.2
    refine ⟨_, rfl, _, rfl, r, _, _, _, rfl, rfl, SqT.of hr', e1, _, rfl, ra, _, _, _, rfl, rfl, SqT.of e2, e3, ?_⟩
    refine ⟨some (.int z), ?_, rfl⟩
    rw [walkI_take hz]
    rfl
  · rintro σ' H' ⟨v, rfl, rfl⟩
    refine ⟨_, rfl, ?_⟩
    rw [List.length_map, List.take_length]
    exact q
theorem ok_is_row (F : FunD K "_law_is_row" "_law_is_row" s__law_is_row dV f fd) (z_isinstance : mg "isinstance" = none) (z_tuple : mg "tuple" = none) (z_int : mg "int" = none) (z_bool : mg "bool" = none) : FnOk P w K mg base CX0 1 f fd ["_law_found", "_law_wide"] spIsRow := by
  refine F.ok sc__law_is_row (fun vs H Q E h => ?_) (fun cdv A outer s H vs Q E hr h => ?_)
  · obtain ⟨b, wd, ns, rfl, _⟩ := h
    rfl
  obtain ⟨b, wd, ns, rfl, hb, hin, q⟩ := h
  refine ⟨_, (pss_cons (ps_if (pt_not (pt_val (pe_callB call_isi (by rfl) z_isinstance bt_isinstance (pa_cons (pv 0) (pa_cons (pe_bltn (v := .ty "tuple") rfl z_tuple bt_tuple rfl) pa_nil))))) (pss_one (ps_ret pe_bl)) pss_nil)
      (pss_cons (ps_for PassesOwn.never rfl (pi_tup (pv 0)) (pg_name (i := 2) sc__law_is_row.nd rfl (Or.inl rfl)) (pss_one (ps_if (PW.pt (pw_or (pt_not (pt_val (pe_callB call_isi (by rfl) z_isinstance bt_isinstance (pa_cons (pv 2) (pa_cons (pe_bltn (v := .ty "int") rfl z_int bt_int rfl) pa_nil))))) (pw_or (pt_val (pe_callB call_isi (by rfl) z_isinstance bt_isinstance (pa_cons (pv 2) (pa_cons (pe_bltn (v := .ty "bool") rfl z_bool bt_bool rfl) pa_nil)))) (pw_or (pt_cmpR op_lt (pv 2) pe_int (nomark _)) (pw_or1 (pt_cmpR op_ge (pv 2) (pv 1) (nomark _))))))) (pss_one (ps_ret pe_bl)) pss_nil)))
      (pss_one (ps_ret pe_bl)))), ?_⟩
  refine ⟨_, rfl, _, _, _, _, rfl, TyOf.tup hb, kit_tuple_tuple K, _, rfl, iteF ?_⟩
  refine ⟨_, rfl, b, rfl, ⟨_, SqT.of hb⟩, for_tup (K := K) (xs := ns.map V.int) (fun i σ' H' => ∃ v, σ' = [some (.ref b), some (.int wd), v] ∧ H' = H) ⟨none, rfl, rfl⟩ (fun i σ' H' _ ⟨_, _, e⟩ => by rw [e]; exact SqT.of hb) ?_ ?_⟩
  · rintro i y σ' H' hi ⟨v, rfl, rfl⟩
    obtain ⟨z, rfl, hz⟩ := ints_at hi
    have zr := hin z (List.mem_of_getElem? hz)
    refine ⟨_, rfl, _, _, _, _, rfl, TyOf.int z, kit_int_int K, _, rfl, iteF ?_⟩
    refine ⟨_, rfl, _, _, _, _, rfl, TyOf.int z, kit_int_bool K, _, rfl, iteF ?_⟩
    refine ⟨_, rfl, _, _, rfl, rfl, _, rfl, iteD (fun c => by omega) (fun _ => ?_)⟩
    refine ⟨_, rfl, _, rfl, _, _, rfl, rfl, _, rfl, iteD (fun c => by omega) (fun _ => ?_)⟩
    exact ⟨_, rfl, rfl⟩
  · rintro σ' H' ⟨v, rfl, rfl⟩
    exact q
theorem ok_behind (F : FunD K "_law_behind" "_law_behind" s__law_behind dV f fd) (z_len : mg "len" = none) (z_zip : mg "zip" = none) : FnOk P w K mg base CX0 1 f fd ["_law_row", "_law_other"] (spBehind K) := by
  refine F.ok sc__law_behind (fun vs H Q E h => ?_) (fun cdv A outer s H vs Q E hr h => ?_)
  · obtain ⟨a, b, ns, ms, rfl, _⟩ := h
    rfl
  obtain ⟨a, b, ns, ms, rfl, ha, hb, q⟩ := h
  refine ⟨_, (pss_cons (ps_if (pt_cmpR op_ne (pe_callB call_len_seq (by rfl) z_len bt_len (pa_cons (pv 0) pa_nil)) (pe_callB call_len_seq (by rfl) z_len bt_len (pa_cons (pv 1) pa_nil)) (nomark _)) (pss_one (ps_ret (pe_cmpR op_gt (pe_callB call_len_seq (by rfl) z_len bt_len (pa_cons (pv 0) pa_nil)) (pe_callB call_len_seq (by rfl) z_len bt_len (pa_cons (pv 1) pa_nil)) (nomark _)))) pss_nil)
      (pss_cons (ps_for PassesOwn.never rfl (pi_zipT rfl z_zip (pa_cons (pv 0) (pa_cons (pv 1) pa_nil))) (pg_tup rfl (pgs_cons (pg_name (i := 2) sc__law_behind.nd rfl (Or.inl rfl)) (pgs_cons (pg_name (i := 3) sc__law_behind.nd rfl (Or.inl rfl)) pgs_nil))) (pss_one (ps_if (pt_cmpR op_ne (pv 2) (pv 3) (nomark _)) (pss_one (ps_ret (pe_cmpR op_gt (pv 2) (pv 3) (nomark _)))) pss_nil)))
      (pss_one (ps_ret pe_bl)))), ?_⟩
  refine ⟨_, rfl, a, _, rfl, .inr (SqT.of ha), _, rfl, b, _, rfl, .inr (SqT.of hb), rfl, _, rfl, iteDn (fun c => ?_) (fun c => ?_)⟩
  · refine ⟨_, rfl, a, _, rfl, .inr (SqT.of ha), _, rfl, b, _, rfl, .inr (SqT.of hb), _, _, rfl, rfl, ?_⟩
    have ne : ns.length ≠ ms.length := fun z => c (by rw [List.length_map, List.length_map, z])
    have e : decide ((((ms.map V.int).length : Nat) : Int) < (((ns.map V.int).length : Nat) : Int)) = behindB ns ms := by
      unfold behindB
      rw [if_neg ne, List.length_map, List.length_map, decide_eq_decide]
      omega
    show Q (V.bl (decide _)) H
    rw [e]
    exact q H (Same.refl _)
  have el : ns.length = ms.length := by
    have := V.int.inj c
    rw [List.length_map, List.length_map] at this
    omega
  have eb : behindB ns ms = lexB ns ms := by unfold behindB; rw [if_pos el]
  refine ⟨_, rfl, _, rfl, a, b, rfl, ⟨_, SqT.of ha⟩, ⟨_, SqT.of hb⟩, for_zipT (K := K) (xs := ns.map V.int) (ys := ms.map V.int) (by rw [List.length_map, List.length_map]; exact el) (fun i σ' H' => ∃ v2 v3, σ' = [some (.ref a), some (.ref b), v2, v3] ∧ Same H H' ∧ ∀ j, j < i → ns[j]? = ms[j]?)
    ⟨none, none, rfl, Same.refl _, fun j hj => absurd hj (Nat.not_lt_zero _)⟩ (fun i σ' H' _ ⟨_, _, _, e, _⟩ => ⟨SqT.of (e _ _ ha), SqT.of (e _ _ hb)⟩) ?_ ?_⟩
  · rintro i x y σ' H' T hx hy ⟨v2, v3, rfl, s1, bef⟩ hT
    obtain ⟨x, rfl, hx'⟩ := ints_at hx
    obtain ⟨y, rfl, hy'⟩ := ints_at hy
    have s2 := s1.trans (same_new hT (HO.tup [V.int x, V.int y]))
    have il : i < ns.length := (List.getElem?_eq_some_iff.mp hx').1
    refine ⟨T, _, rfl, SqT.of upd_same, rfl, _, _, rfl, _, _, rfl, rfl, ?_⟩
    refine ⟨_, rfl, _, rfl, rfl, _, rfl, iteDn (fun c => ?_) (fun c => ?_)⟩
    · refine ⟨_, rfl, _, rfl, _, _, rfl, rfl, ?_⟩
      have e := (lexB_at bef (by omega) el).2 x y hx' hy' (fun z => c (by rw [z]))
      have q' := q _ s2
      rw [eb, e] at q'
      exact q'
    · refine ⟨_, _, rfl, s2, fun j hj => ?_⟩
      rcases Nat.lt_or_eq_of_le (Nat.le_of_lt_succ hj) with z | z
      · exact bef j z
      · rw [z, hx', hy', V.int.inj c]
  · rintro σ' H' ⟨v2, v3, rfl, s1, bef⟩
    rw [List.length_map] at bef
    have e := (lexB_at bef (Nat.le_refl _) el).1 rfl
    have q' := q H' s1
    rw [eb, e] at q'
    exact q'
end
end My

set_option Elab.async false
set_option linter.all false
set_option maxRecDepth 100000
set_option maxHeartbeats 8000000
namespace My
open PySem L2
def spLeadsL : Sp := fun vs H Q _ => ∃ (m r g t : Addr) (many wide : Nat) (rows : List (List Int)) (signs ks : List Int) (ls : List (List Int)) (us : List V), vs = [.ref m, .ref t] ∧ MachAt H m r g wide rows signs ∧ RowsOk many wide rows ∧ (1 ≤ many ∧ many ≤ 1000) ∧ wide ≤ 1000 ∧ Bfs many wide rows ks ∧ LeadI wide rows ks.length 0 ks ls ∧ H t = some (.tup us) ∧ us.length = many ∧
    (∀ q : Nat, q < many → (q : Int) ∉ ks → us[q]? = some .non) ∧ (∀ (j : Nat) (q : Int) (l : List Int), ks[j]? = some q → ls[j]? = some l → ∃ a, us[q.toNat]? = some (.ref a) ∧ H a = some (.tup (l.map V.int))) ∧ ∀ H', Same H H' → Q (.bl true) H'
section
variable {P : Program} {w : World} {K : PySem.W.Frag} {mg : Str → Option Value} {base : Heap} {f : Addr} {fd : FuncData} {dV : Value}
theorem ok_leadsL (F : FunD K "_law_leads" "_law_leads" s__law_leads dV f fd) (G__law_walk : DefOk P w K mg base "_law_walk" 1 ["_law_rows", "_law_row", "_law_at"] [] (spWalkT K)) (G__law_is_row : DefOk P w K mg base "_law_is_row" 1 ["_law_found", "_law_wide"] [] spIsRow) (G__law_behind : DefOk P w K mg base "_law_behind" 1 ["_law_row", "_law_other"] [] (spBehind K))
    (z_isinstance : mg "isinstance" = none) (z_tuple : mg "tuple" = none) (z_len : mg "len" = none) (z_range : mg "range" = none) : FnOk P w K mg base CX0 2 f fd ["_law_machine_here", "_law_found"] spLeadsL := by
  refine F.ok sc__law_leads (fun vs H Q E h => ?_) (fun cdv A outer s H vs Q E hr h => ?_)
  · obtain ⟨m, r, g, t, many, wide, rows, signs, ks, ls, us, rfl, _⟩ := h
    rfl
  obtain ⟨m, r, g, t, many, wide, rows, signs, ks, ls, us, rfl, M, R, ⟨n0, n1⟩, hw, B, L, ht, lu, uN, uS, k⟩ := h
  obtain ⟨ras, hr', hA⟩ := M.rows
  have hu := hr.units0
  have lras : ras.length = many := (RowsAt.length hA).trans R.len
  refine body_w (ws_cons (PSW.mk (ps_asg (pv 0) (pg_tup rfl (pgs_cons (pg_name (i := 2) sc__law_leads.nd rfl (Or.inl rfl)) (pgs_cons (pg_name (i := 3) sc__law_leads.nd rfl (Or.inl rfl)) (pgs_cons (pg_name (i := 4) sc__law_leads.nd rfl (Or.inl rfl)) pgs_nil))))))
      (ws_cons (PSW.mk (ps_if (PW.pt (pw_or (pt_not (pt_val (pe_callB call_isi (by rfl) z_isinstance bt_isinstance (pa_cons (pv 1) (pa_cons (pe_bltn (v := .ty "tuple") rfl z_tuple bt_tuple rfl) pa_nil))))) (pw_or (pt_cmpR op_ne (pe_callB call_len_seq (by rfl) z_len bt_len (pa_cons (pv 1) pa_nil)) (pe_callB call_len_seq (by rfl) z_len bt_len (pa_cons (pv 3) pa_nil)) (nomark _)) (pw_or1 (pt_cmpR (op_neT hu) (pe_ix ix_tup (pv 1) pe_int (fun _ _ => rfl)) (pe_tup pa_nil) (nomark _)))))) (pss_one (ps_ret pe_bl)) pss_nil))
      (ws_cons (PSW.mk (ps_for PassesOwn.never rfl (pi_range1 rfl z_range (pa_cons (pe_callB call_len_seq (by rfl) z_len bt_len (pa_cons (pv 3) pa_nil)) pa_nil)) (pg_name (i := 5) sc__law_leads.nd rfl (Or.inl rfl)) (pss_cons (ps_set (i := 6) sc__law_leads.nd rfl (Or.inl rfl) (pe_ix ix_tup (pv 1) (pv 5) (fun _ _ => rfl)))
      (pss_one (ps_if (pt_cmpR op_notN (pv 6) pe_non (nomark _)) (pss_cons (ps_if (PW.pt (pw_or (pt_not (pt_val (pe_cd G__law_is_row hr (pa_cons (pv 6) (pa_cons (pv 2) pa_nil))))) (pw_or1 (pt_cmpR op_ne (pe_cd G__law_walk hr (pa_cons (pv 3) (pa_cons (pv 6) (pa_cons pe_int pa_nil)))) (pv 5) (nomark _))))) (pss_one (ps_ret pe_bl)) pss_nil)
      (pss_one (ps_for PassesOwn.never rfl (pi_range1 rfl z_range (pa_cons (pv 2) pa_nil)) (pg_name (i := 7) sc__law_leads.nd rfl (Or.inl rfl)) (pss_cons (ps_set (i := 8) sc__law_leads.nd rfl (Or.inl rfl) (pe_ix ix_tup (pv 1) (pe_ix ix_tup (pe_ix ix_tup (pv 3) (pv 5) (fun _ _ => rfl)) (pv 7) (fun _ _ => rfl)) (fun _ _ => rfl)))
      (pss_one (ps_if (PW.pt (pw_or (pt_not (pt_val (pe_cd G__law_is_row hr (pa_cons (pv 8) (pa_cons (pv 2) pa_nil))))) (pw_or1 (pt_val (pe_cd G__law_behind hr (pa_cons (pv 8) (pa_cons (pe_op op_catA (pv 6) (pe_tup (pa_cons (pv 7) pa_nil))) pa_nil))))))) (pss_one (ps_ret pe_bl)) pss_nil)))))) pss_nil)))))
      (ws_one (PSW.mk (ps_ret pe_bl)))))) ?_
  refine ⟨_, rfl, m, _, rfl, SqT.of M.tup, rfl, _, _, rfl, _, _, rfl, _, _, rfl, rfl, ?_⟩
  refine ⟨_, rfl, _, _, _, _, rfl, TyOf.tup ht, kit_tuple_tuple K, _, rfl, iteF ?_⟩
  refine ⟨_, rfl, t, _, rfl, .inr (SqT.of ht), _, rfl, r, _, rfl, .inr (SqT.of hr'), rfl, _, rfl, iteDn (fun z => absurd (by rw [List.length_map, lras, lu]) z) (fun _ => ?_)⟩
  obtain ⟨a0, u0, h0⟩ := uS 0 0 [] L.k0 L.l0
  refine ⟨_, rfl, t, _, _, _, rfl, rfl, SqT.of ht, atI_nat (j := 0) u0, (by show 0 ≤ sizeLine; decide), fun e0 he0 => ?_⟩
  have s1 := same_new he0 (HO.tup [])
  refine ⟨a0, e0, [], [], rfl, rfl, SqT.of (s1 _ _ h0), SqT.of upd_same, rfl, rfl, _, rfl, iteF ?_⟩
  have rIn : ∀ {H' : Hp}, Same H H' → ∀ {q : Nat} {g : Nat}, q < many → g < wide → ∃ (ra : Addr) (rr : List Int), atI (ras.map V.ref) (q : Int) = some (.ref ra) ∧ H' ra = some (.tup (rr.map V.int)) ∧ atI (rr.map V.int) (g : Int) = some (.int (stepI rows q g)) := fun {H'} s' {q} {g} hq hg => by
    have l1 : ((q : Int)).toNat < rows.length := by rw [R.len]; omega
    obtain ⟨ra, e1, e2⟩ := hA.get l1
    have lr : rows[((q : Int)).toNat].length = wide := R.row _ (List.getElem_mem l1)
    refine ⟨ra, _, atI_refs (by omega) e1, s' _ _ e2, ?_⟩
    have q2 := atI_ints (ns := rows[((q : Int)).toNat]) (k := (g : Int)) (by omega) (by omega)
    rw [q2]
    unfold stepI
    rw [getD_at l1]
  have uAt : ∀ {q : Nat} {v : V}, us[q]? = some v → atI us (q : Int) = some v := fun h => atI_nat h
  have z0 : ∀ (i : Nat), (0 : Int) + (i : Int) = (i : Int) := fun i => Int.zero_add _
  refine ⟨_, rfl, r, _, rfl, .inr (SqT.of (s1 _ _ hr')), _, rfl, by rw [List.length_map, lras]; omega, by rw [List.length_map, lras]; omega, ?_⟩
  refine for_range (fun i σ' H' => ∃ v5 v6 v7 v8, σ' = [some (.ref m), some (.ref t), some (.int wide), some (.ref r), some (.ref g), v5, v6, v7, v8] ∧ Same H H') ⟨none, none, none, none, rfl, s1⟩ ?_ ?_
  · rintro i σ' H2 hi ⟨v5, v6, v7, v8, rfl, s2⟩
    rw [List.length_map, lras, Int.toNat_natCast] at hi
    rw [z0 i]
    by_cases c : (i : Int) ∈ ks
    · obtain ⟨j, hj, ej⟩ := List.getElem_of_mem c
      have hj' : ks[j]? = some (i : Int) := by rw [List.getElem?_eq_getElem hj, ej]
      have jl : j < ls.length := by rw [L.len]; exact hj
      obtain ⟨l, hl⟩ : ∃ l, ls[j]? = some l := ⟨_, List.getElem?_eq_getElem jl⟩
      obtain ⟨a, ua, ha⟩ := uS j i l hj' hl
      rw [Int.toNat_natCast] at ua
      obtain ⟨wl, inl⟩ := L.wlk j i l hj' hl
      have short := L.short hl
      have kl := few_below many B.nd B.inr
      refine ⟨_, rfl, _, rfl, t, _, _, _, rfl, rfl, SqT.of (s2 _ _ ht), uAt ua, ?_⟩
      refine ⟨_, rfl, rfl, _, rfl, iteDn (fun _ => ?_) (fun z => by cases z)⟩
      refine ⟨_, rfl, _, rfl, a, wide, l, rfl, s2 _ _ ha, inl, _, rfl, iteF ?_⟩
      refine ⟨_, rfl, _, rfl, r, a, 0, many, wide, ras, rows, l, rfl, s2 _ _ hr', hA.same (fun b xs h => s2 _ _ h), R, s2 _ _ ha, inl, ⟨by omega, by omega⟩, ?_⟩
      refine ⟨_, rfl, rfl, _, rfl, iteDn (fun z => absurd (by rw [wl]) z) (fun _ => ?_)⟩
      refine ⟨_, rfl, (wide : Int), rfl, by omega, by omega, ?_⟩
      refine for_range (fun e σ' H' => ∃ v7 v8, σ' = [some (.ref m), some (.ref t), some (.int wide), some (.ref r), some (.ref g), some (.int i), some (.ref a), v7, v8] ∧ Same H H') ⟨v7, v8, rfl, s2⟩ ?_ ?_
      · rintro e σ' H3 he ⟨v7, v8, rfl, s3⟩
        rw [Int.toNat_natCast] at he
        rw [z0 e]
        obtain ⟨ra, rr, e1, e2, e3⟩ := rIn s3 hi he
        obtain ⟨jj, l2, hk2, hl2, hb2⟩ := L.done j e i l (.inl ⟨hj, he⟩) hj' hl
        obtain ⟨a2, ua2, ha2⟩ := uS jj _ l2 hk2 hl2
        have hs2 := B.inr _ (List.mem_of_getElem? hk2)
        have in2 := (L.wlk jj _ l2 hk2 hl2).2
        have ua2' : atI us (stepI rows i e) = some (.ref a2) := by
          have q := uAt ua2
          rw [Int.toNat_of_nonneg hs2.1] at q
          exact q
        refine ⟨_, rfl, _, rfl, _, rfl, r, _, _, _, rfl, rfl, SqT.of (s3 _ _ hr'), e1, _, rfl, ra, _, _, _, rfl, rfl, SqT.of e2, e3, t, _, _, _, rfl, rfl, SqT.of (s3 _ _ ht), ua2', ?_⟩
        refine ⟨_, rfl, _, rfl, a2, wide, l2, rfl, s3 _ _ ha2, in2, _, rfl, iteF ?_⟩
        refine ⟨_, rfl, _, rfl, _, rfl, (by show 1 ≤ sizeLine; decide), fun t1 ht1 => ?_⟩
        have s4 := s3.trans (same_new ht1 (HO.tup [V.int e]))
        refine ⟨a, t1, _, _, rfl, rfl, SqT.of (s4 _ _ ha), SqT.of upd_same, Nat.le_of_lt (Nat.lt_of_le_of_lt (show _ ≤ 1001 by rw [List.length_map]; simp only [List.length_singleton]; omega) (by decide)), fun en => ?_, (fun _ z => by cases z), fun _ _ p hp => ?_⟩
        · have en' : l = [] := by simpa using en
          refine ⟨a2, t1, l2, l ++ [(e : Int)], rfl, s4 _ _ ha2, by rw [upd_same, en']; rfl, fun H5 s5 => ?_⟩
          rw [hb2]
          exact ⟨_, rfl, iteF ⟨_, _, rfl, s4.trans s5⟩⟩
        · have s5 := s4.trans (same_new hp (HO.tup (l.map V.int ++ [V.int e])))
          refine ⟨a2, p, l2, l ++ [(e : Int)], rfl, s5 _ _ ha2, by rw [upd_same, List.map_append]; rfl, fun H6 s6 => ?_⟩
          rw [hb2]
          exact ⟨_, rfl, iteF ⟨_, _, rfl, s5.trans s6⟩⟩
      · rintro σ' H3 ⟨v7, v8, rfl, s3⟩
        exact ⟨_, _, _, _, rfl, s3⟩
    · have ua := uN i hi c
      refine ⟨_, rfl, _, rfl, t, _, _, _, rfl, rfl, SqT.of (s2 _ _ ht), uAt ua, ?_⟩
      refine ⟨_, rfl, rfl, _, rfl, iteDn (fun z => absurd rfl z) (fun _ => ?_)⟩
      exact ⟨_, _, _, _, rfl, s2⟩
  · rintro σ' H2 ⟨v5, v6, v7, v8, rfl, s2⟩
    exact k H2 s2
end
end My

set_option Elab.async false
set_option linter.all false
set_option maxRecDepth 100000
set_option maxHeartbeats 8000000
namespace My
open PySem L2
/-- what parting told, as it lies there -/
def ResAt (H : Hp) (v : V) : Option (List Int) → Prop
  | none => v = .non
  | some row => ∃ a, v = .ref a ∧ H a = some (.tup (row.map V.int))
theorem ResAt.same {H H' : Hp} {v : V} {r : Option (List Int)} (h : ResAt H v r) (s : ∀ b xs, H b = some (.tup xs) → H' b = some (.tup xs)) : ResAt H' v r := by
  cases r with
  | none => exact h
  | some row =>
    obtain ⟨a, e1, e2⟩ := h
    exact ⟨a, e1, s _ _ e2⟩
def TabAt (H : Hp) (D : Addr) (many : Nat) (res : Nat → Nat → Option (List Int)) : Prop := ∃ kvs : List (List Key × V), H D = some (.dT kvs) ∧ ∀ p q : Nat, p < many → q < many → ∃ v, valV kvs [Sum.inl (p : Int), Sum.inl (q : Int)] = some v ∧ ResAt H v (res p q)
def spPartedL : Sp := fun vs H Q _ => ∃ (m r g D : Addr) (many wide : Nat) (rows : List (List Int)) (signs : List Int) (res : Nat → Nat → Option (List Int)) (p q : Nat), vs = [.ref m, .ref D, .int p, .int q] ∧ MachAt H m r g wide rows signs ∧ RowsOk many wide rows ∧ signs.length = many ∧ many ≤ 1000 ∧ wide ≤ 1000 ∧ TabAt H D many res ∧
  (∀ p q : Nat, p < many → q < many → PartRes rows wide many signs p q (res p q)) ∧ p < many ∧ q < many ∧ ∀ H', Same H H' → Q (.bl true) H'
section
variable {P : Program} {w : World} {K : PySem.W.Frag} {mg : Str → Option Value} {base : Heap} {f : Addr} {fd : FuncData} {dV : Value}
theorem ok_partedL (F : FunD K "_law_parted" "_law_parted" s__law_parted dV f fd) (G__law_walk : DefOk P w K mg base "_law_walk" 1 ["_law_rows", "_law_row", "_law_at"] [] (spWalkT K)) (G__law_is_row : DefOk P w K mg base "_law_is_row" 1 ["_law_found", "_law_wide"] [] spIsRow)
    (z_len : mg "len" = none) (z_range : mg "range" = none) : FnOk P w K mg base CX0 2 f fd ["_law_machine_here", "_law_table", "_law_p", "_law_q"] spPartedL := by
  refine F.ok sc__law_parted (fun vs H Q E h => ?_) (fun cdv A outer s H vs Q E hr h => ?_)
  · obtain ⟨m, r, g, D, many, wide, rows, signs, res, p, q, rfl, _⟩ := h
    rfl
  obtain ⟨m, r, g, D, many, wide, rows, signs, res, p, q, rfl, M, R, lsg, hn, hw, ⟨kvs, hD, tab⟩, PR, pm, qm, k⟩ := h
  obtain ⟨ras, hr', hA⟩ := M.rows
  have hu := hu_of hr
  have hu0 := hr.units0
  have z0 : ∀ (i : Nat), (0 : Int) + (i : Int) = (i : Int) := fun i => Int.zero_add _
  have pI : 0 ≤ (p : Int) ∧ (p : Int) < (many : Int) := ⟨by omega, by omega⟩
  have qI : 0 ≤ (q : Int) ∧ (q : Int) < (many : Int) := ⟨by omega, by omega⟩
  have rIn : ∀ {H' : Hp}, Same H H' → ∀ {q : Nat} {g : Nat}, q < many → g < wide → ∃ (ra : Addr) (rr : List Int), atI (ras.map V.ref) (q : Int) = some (.ref ra) ∧ H' ra = some (.tup (rr.map V.int)) ∧ atI (rr.map V.int) (g : Int) = some (.int (stepI rows q g)) := fun {H'} s' {q} {g} hq hg => by
    have l1 : ((q : Int)).toNat < rows.length := by rw [R.len]; omega
    obtain ⟨ra, e1, e2⟩ := hA.get l1
    have lr : rows[((q : Int)).toNat].length = wide := R.row _ (List.getElem_mem l1)
    refine ⟨ra, _, atI_refs (by omega) e1, s' _ _ e2, ?_⟩
    have q2 := atI_ints (ns := rows[((q : Int)).toNat]) (k := (g : Int)) (by omega) (by omega)
    rw [q2]
    unfold stepI
    rw [getD_at l1]
  have sAt : ∀ {y : Int}, 0 ≤ y → y < (many : Int) → atI (signs.map V.int) y = some (.int (sgn signs y)) := fun {y} y0 y1 => atI_ints y0 (by omega)
  refine body_w (ws_cons (PSW.mk (ps_asg (pv 0) (pg_tup rfl (pgs_cons (pg_name (i := 4) sc__law_parted.nd rfl (Or.inl rfl)) (pgs_cons (pg_name (i := 5) sc__law_parted.nd rfl (Or.inl rfl)) (pgs_cons (pg_name (i := 6) sc__law_parted.nd rfl (Or.inl rfl)) pgs_nil))))))
      (ws_cons (PSW.mk (ps_set (i := 7) sc__law_parted.nd rfl (Or.inl rfl) (pe_dget hu (pv 1) (pe_tup (pa_cons (pv 2) (pa_cons (pv 3) pa_nil))) (fun _ _ => rfl))))
      (ws_cons (PSW.mk (ps_if (pt_cmpR op_notN (pv 7) pe_non (nomark _)) (pss_cons (ps_if (pt_not (pt_val (pe_cd G__law_is_row hr (pa_cons (pv 7) (pa_cons (pv 4) pa_nil))))) (pss_one (ps_ret pe_bl)) pss_nil)
      (pss_one (ps_if (pt_cmpR op_eq (pe_ix ix_tup (pv 6) (pe_cd G__law_walk hr (pa_cons (pv 5) (pa_cons (pv 7) (pa_cons (pv 2) pa_nil)))) (fun _ _ => rfl)) (pe_ix ix_tup (pv 6) (pe_cd G__law_walk hr (pa_cons (pv 5) (pa_cons (pv 7) (pa_cons (pv 3) pa_nil)))) (fun _ _ => rfl)) (nomark _)) (pss_one (ps_ret pe_bl)) pss_nil))) pss_nil))
      (ws_cons (PSW.mk (ps_if (pt_cmpR op_ne (pe_ix ix_tup (pv 6) (pv 2) (fun _ _ => rfl)) (pe_ix ix_tup (pv 6) (pv 3) (fun _ _ => rfl)) (nomark _)) (pss_one (ps_ret (pe_cmpR (op_eqT hu0) (pv 7) (pe_tup pa_nil) (nomark _)))) pss_nil))
      (ws_cons (w_for PassesOwn.never rfl (pi_range1 rfl z_range (pa_cons (pv 4) pa_nil)) (pg_name (i := 8) sc__law_parted.nd rfl (Or.inl rfl)) (ws_cons (w_set (i := 9) sc__law_parted.nd rfl (Or.inl rfl) (PEW.mk (pe_dget hu (pv 1) (pe_tup (pa_cons (pe_ix ix_tup (pe_ix ix_tup (pv 5) (pv 2) (fun _ _ => rfl)) (pv 8) (fun _ _ => rfl)) (pa_cons (pe_ix ix_tup (pe_ix ix_tup (pv 5) (pv 3) (fun _ _ => rfl)) (pv 8) (fun _ _ => rfl)) pa_nil))) (fun _ _ => rfl))))
      (ws_one (PSW.mk (ps_if (PW.pt (pw_and (pt_cmpR op_notN (pv 9) pe_non (nomark _)) (pw_and1 (PW.pt (pw_or (pt_cmpR op_isN (pv 7) pe_non (nomark _)) (pw_or1 (pt_cmpR op_gt (pe_callB call_len_seq (by rfl) z_len bt_len (pa_cons (pv 7) pa_nil)) (pe_op op_add (pe_callB call_len_seq (by rfl) z_len bt_len (pa_cons (pv 9) pa_nil)) pe_int) (nomark _)))))))) (pss_one (ps_ret pe_bl)) pss_nil)))))
      (ws_one (PSW.mk (ps_ret pe_bl)))))))) ?_
  refine ⟨_, rfl, m, _, rfl, SqT.of M.tup, rfl, _, _, rfl, _, _, rfl, _, _, rfl, rfl, ?_⟩
  obtain ⟨v, hv, hres⟩ := tab p q pm qm
  refine ⟨_, rfl, _, rfl, _, rfl, (by show 2 ≤ sizeLine; decide), fun t1 ht1 => ?_⟩
  have s1 := same_new ht1 (HO.tup [V.int p, V.int q])
  have dg1 : DGet (upd H t1 (HO.tup [V.int p, V.int q])) D (.ref t1) (some v) := by
    have z := DGet.t (k := [Sum.inl (p : Int), Sum.inl (q : Int)]) (s1 _ _ hD) (b := t1) (by rw [upd_same]; rfl)
    rw [hv] at z
    exact z
  refine ⟨D, v, rfl, dg1, ?_⟩
  try dsimp only [gName]
  have tp : ∀ {H' : Hp}, Same H H' → ∀ b xs, H b = some (.tup xs) → H' b = some (.tup xs) := fun s b xs h => s _ _ h
  have prs := PR p q pm qm
  refine cut_seq (t := tIfS _ _ _) (fun σ' H' => σ' = [some (.ref m), some (.ref D), some (.int p), some (.int q), some (.int wide), some (.ref r), some (.ref g), some v, none, none] ∧ Same H H') ?_ (fun nxt => ?_)
  rotate_left
  · cases er : res p q with
    | none =>
      rw [er] at hres
      obtain rfl : v = .non := hres
      refine ⟨_, rfl, rfl, _, rfl, iteDn (fun z => absurd rfl z) (fun _ => ?_)⟩
      exact nxt _ _ ⟨rfl, s1⟩
    | some row =>
      rw [er] at hres prs
      obtain ⟨a, rfl, ha⟩ := hres
      obtain ⟨inr, df, _⟩ := prs.sound R pI qI
      have wp := walkI_ok R (ns := row) (h := (p : Int)) inr pI.1 pI.2
      have wq := walkI_ok R (ns := row) (h := (q : Int)) inr qI.1 qI.2
      refine ⟨_, rfl, rfl, _, rfl, iteDn (fun _ => ?_) (fun z => nomatch z)⟩
      refine ⟨_, rfl, _, rfl, a, wide, row, rfl, s1 _ _ ha, inr, _, rfl, iteF ?_⟩
      refine ⟨_, rfl, _, rfl, _, rfl, _, rfl, r, a, p, many, wide, ras, rows, row, rfl, s1 _ _ hr', hA.same (tp s1), R, s1 _ _ ha, inr, pI, g, _, _, _, rfl, rfl, SqT.of (s1 _ _ M.sgn), sAt wp.1 wp.2, ?_⟩
      refine ⟨_, rfl, _, rfl, _, rfl, _, rfl, r, a, q, many, wide, ras, rows, row, rfl, s1 _ _ hr', hA.same (tp s1), R, s1 _ _ ha, inr, qI, g, _, _, _, rfl, rfl, SqT.of (s1 _ _ M.sgn), sAt wq.1 wq.2, rfl, _, rfl, iteD (fun c => absurd (V.int.inj c) df) (fun _ => ?_)⟩
      exact nxt _ _ ⟨rfl, s1⟩
  rintro σ' H2 ⟨rfl, s2⟩
  refine ⟨_, rfl, _, rfl, g, _, _, _, rfl, rfl, SqT.of (s2 _ _ M.sgn), sAt pI.1 pI.2, _, rfl, _, rfl, g, _, _, _, rfl, rfl, SqT.of (s2 _ _ M.sgn), sAt qI.1 qI.2, rfl, _, rfl, iteDn (fun c => ?_) (fun c => ?_)⟩
  · have nd : sgn signs (p : Int) ≠ sgn signs (q : Int) := fun z => c (by rw [z])
    cases er : res p q with
    | none =>
      rw [er] at prs
      exact absurd (prs.none_all R pI qI [] (fun f hf => by cases hf)) nd
    | some row =>
      rw [er] at hres prs
      obtain ⟨a, rfl, ha⟩ := hres
      obtain ⟨_, _, sh⟩ := prs.sound R pI qI
      have e0 : row = [] := List.eq_nil_of_length_eq_zero (Nat.le_zero.mp (sh [] (fun f hf => by cases hf) nd))
      subst e0
      refine ⟨_, rfl, (by show 0 ≤ sizeLine; decide), fun e he => ?_⟩
      have s3 := s2.trans (same_new he (HO.tup []))
      exact ⟨a, e, [], [], rfl, rfl, SqT.of (s3 _ _ ha), SqT.of upd_same, rfl, rfl, k _ s3⟩
  have same0 : sgn signs (p : Int) = sgn signs (q : Int) := V.int.inj c
  refine ⟨_, rfl, (wide : Int), rfl, by omega, by omega, ?_⟩
  refine for_range (fun i σ' H' => ∃ v8 v9, σ' = [some (.ref m), some (.ref D), some (.int p), some (.int q), some (.int wide), some (.ref r), some (.ref g), some v, v8, v9] ∧ Same H H') ⟨none, none, rfl, s2⟩ ?_ ?_
  · rintro e σ' H3 he ⟨v8, v9, rfl, s3⟩
    rw [Int.toNat_natCast] at he
    rw [z0 e]
    obtain ⟨ra, rr, e1, e2, e3⟩ := rIn s3 pm he
    obtain ⟨rb, rr2, f1, f2, f3⟩ := rIn s3 qm he
    have ia := step_in R pI (f := e) he
    have ib := step_in R qI (f := e) he
    obtain ⟨pa, epa⟩ : ∃ pa : Nat, stepI rows p e = pa := ⟨(stepI rows p e).toNat, by omega⟩
    obtain ⟨pb, epb⟩ : ∃ pb : Nat, stepI rows q e = pb := ⟨(stepI rows q e).toNat, by omega⟩
    rw [epa] at e3 ia
    rw [epb] at f3 ib
    obtain ⟨v2, hv2, hres2⟩ := tab pa pb (by omega) (by omega)
    have prs2 := PR pa pb (by omega) (by omega)
    refine ⟨_, rfl, _, rfl, _, rfl, r, _, _, _, rfl, rfl, SqT.of (s3 _ _ hr'), e1, _, rfl, ra, _, _, _, rfl, rfl, SqT.of e2, e3, _, rfl, _, rfl, r, _, _, _, rfl, rfl, SqT.of (s3 _ _ hr'), f1, _, rfl, rb, _, _, _, rfl, rfl, SqT.of f2, f3, (by show 2 ≤ sizeLine; decide), fun t2 ht2 => ?_⟩
    have s4 := s3.trans (same_new ht2 (HO.tup [V.int pa, V.int pb]))
    have dg2 : DGet (upd H3 t2 (HO.tup [V.int pa, V.int pb])) D (.ref t2) (some v2) := by
      have z := DGet.t (k := [Sum.inl (pa : Int), Sum.inl (pb : Int)]) (s4 _ _ hD) (b := t2) (by rw [upd_same]; rfl)
      rw [hv2] at z
      exact z
    refine ⟨D, v2, rfl, dg2, ?_⟩
    cases er2 : res pa pb with
    | none =>
      rw [er2] at hres2
      obtain rfl : v2 = .non := hres2
      refine ⟨_, rfl, rfl, _, rfl, iteDn (fun z => absurd rfl z) (fun _ => iteF ?_)⟩
      exact ⟨_, _, rfl, s4⟩
    | some r2 =>
      rw [er2] at hres2 prs2
      obtain ⟨b2, rfl, hb2⟩ := hres2
      obtain ⟨in2, df2, _⟩ := prs2.sound R ia ib
      have inE : InF wide ((e : Int) :: r2) := fun f hf => by
        rcases List.mem_cons.mp hf with z | z
        · rw [z]; omega
        · exact in2 f z
      have dfE : sgn signs (walkI rows ((e : Int) :: r2) p) ≠ sgn signs (walkI rows ((e : Int) :: r2) q) := by
        show sgn signs (walkI rows r2 (stepI rows p e)) ≠ sgn signs (walkI rows r2 (stepI rows q e))
        rw [epa, epb]
        exact df2
      refine ⟨_, rfl, rfl, _, rfl, iteDn (fun _ => ?_) (fun z => nomatch z)⟩
      cases er : res p q with
      | none =>
        rw [er] at prs
        exact absurd (prs.none_all R pI qI _ inE) dfE
      | some row =>
        rw [er] at hres prs
        obtain ⟨a, rfl, ha⟩ := hres
        obtain ⟨_, _, sh⟩ := prs.sound R pI qI
        have le := sh _ inE dfE
        rw [List.length_cons] at le
        refine ⟨_, rfl, rfl, _, rfl, iteD (fun z => nomatch z) (fun _ => ?_)⟩
        refine ⟨_, rfl, a, _, rfl, .inr (SqT.of (s4 _ _ ha)), _, rfl, b2, _, rfl, .inr (SqT.of (s4 _ _ hb2)), _, _, rfl, rfl, _, _, rfl, rfl, _, rfl, iteD (fun c => ?_) (fun _ => ?_)⟩
        · rw [List.length_map, List.length_map] at c
          omega
        · exact ⟨_, _, rfl, s4⟩
  · rintro σ' H3 ⟨v8, v9, rfl, s3⟩
    exact k H3 s3
end
end My

set_option Elab.async false
set_option linter.all false
set_option maxRecDepth 100000
set_option maxHeartbeats 8000000
namespace My
open PySem L2
def spLaw (K : PySem.W.Frag) : Sp := fun vs H Q _ => ∃ (a : Addr) (ns : List Int), vs = [.ref a] ∧ SqL K H a (ns.map V.int) ∧ ns.length ≤ 63 ∧ ∀ H', Q (.bl true) H'
theorem paired_at {R : V → V → Prop} : ∀ {xs ys : List V}, xs.length = ys.length → (∀ (i : Nat) x y, xs[i]? = some x → ys[i]? = some y → R x y) → Paired R xs ys
  | [], [], _, _ => .nil
  | [], y :: ys, h, _ => by cases h
  | x :: xs, [], h, _ => by cases h
  | x :: xs, y :: ys, h, q => .cons (q 0 x y rfl rfl) (paired_at (by simpa using h) fun i a b ha hb => q (i + 1) a b ha hb)
theorem find_map_key {kvs : List (List Key × V)} {k k' : List Key} {v : V} (h : k ≠ k') : valV (kvs.map fun kv => if kv.1 = k then (kv.1, v) else kv) k' = valV kvs k' := by
  induction kvs with
  | nil => rfl
  | cons e r ih =>
    rw [List.map_cons]
    by_cases c : e.1 = k'
    · have ne : ¬ e.1 = k := fun z => h (z.symm.trans c)
      rw [valV_pos c, if_neg ne, valV_pos c]
    · rw [valV_neg c]
      by_cases c2 : e.1 = k
      · rw [if_pos c2, valV_neg (show ¬ (e.1, v).1 = k' from c)]; exact ih
      · rw [if_neg c2, valV_neg c]; exact ih
theorem put_val_ne {kvs : List (List Key × V)} {k k' : List Key} {v : V} (h : k ≠ k') : valV (putK kvs k v) k' = valV kvs k' := by
  unfold putK
  split
  · exact find_map_key h
  · induction kvs with
    | nil => show valV [(k, v)] k' = _; rw [valV_neg (show ¬ (k, v).1 = k' from h)]
    | cons e r ih =>
      rename_i hn
      rw [List.cons_append]
      by_cases c : e.1 = k'
      · rw [valV_pos c, valV_pos c]
      · rw [valV_neg c, valV_neg c]
        exact ih (fun z => hn (by rw [List.any_cons, z, Bool.or_true]))
theorem put_val {kvs : List (List Key × V)} {k : List Key} {v : V} : valV (putK kvs k v) k = some v := by
  unfold putK
  split
  · rename_i h
    induction kvs with
    | nil => cases h
    | cons e r ih =>
      rw [List.map_cons]
      by_cases c : e.1 = k
      · rw [if_pos c, valV_pos (show (e.1, v).1 = k from c)]
      · rw [if_neg c, valV_neg c]
        refine ih ?_
        rw [List.any_cons, decide_eq_false c, Bool.false_or] at h
        exact h
  · rename_i h
    induction kvs with
    | nil => exact valV_pos rfl
    | cons e r ih =>
      have c : ¬ e.1 = k := fun z => h (by rw [List.any_cons, decide_eq_true z, Bool.true_or])
      rw [List.cons_append, valV_neg c]
      exact ih (fun z => h (by rw [List.any_cons, z, Bool.or_true]))
theorem Bfs.len {many wide : Nat} {rows : List (List Int)} {ks ks' : List Int} (h : Bfs many wide rows ks) (h' : Bfs many wide rows ks') : ks.length = ks'.length :=
  ((List.perm_ext_iff_of_nodup h.nd h'.nd).mpr fun q => (h.re q).trans (h'.re q).symm).length_eq
/-- what is told of the pairs so far -/
def TabTo (H : Hp) (rows : List (List Int)) (wide many : Nat) (signs : List Int) (kvs : List (List Key × V)) (i j : Nat) : Prop := ∀ p q : Nat, p < many → q < many → (p < i ∨ (p = i ∧ q < j)) → ∃ (r : Option (List Int)) (v : V), valV kvs [Sum.inl (p : Int), Sum.inl (q : Int)] = some v ∧ ResAt H v r ∧ PartRes rows wide many signs p q r
theorem TabTo.same {H H' : Hp} {rows : List (List Int)} {wide many : Nat} {signs : List Int} {kvs : List (List Key × V)} {i j : Nat} (h : TabTo H rows wide many signs kvs i j) (s : ∀ b xs, H b = some (.tup xs) → H' b = some (.tup xs)) : TabTo H' rows wide many signs kvs i j := fun p q hp hq c => by
  obtain ⟨r, v, e1, e2, e3⟩ := h p q hp hq c
  exact ⟨r, v, e1, e2.same s, e3⟩
theorem TabTo.put {H : Hp} {rows : List (List Int)} {wide many : Nat} {signs : List Int} {kvs : List (List Key × V)} {i j : Nat} {v : V} {r : Option (List Int)} (h : TabTo H rows wide many signs kvs i j) (hv : ResAt H v r) (hr : PartRes rows wide many signs i j r) : TabTo H rows wide many signs (putK kvs [Sum.inl (i : Int), Sum.inl (j : Int)] v) i (j + 1) := fun p q hp hq c => by
  by_cases e : p = i ∧ q = j
  · obtain ⟨rfl, rfl⟩ := e
    exact ⟨r, v, put_val, hv, hr⟩
  · obtain ⟨r', v', e1, e2, e3⟩ := h p q hp hq (by omega)
    refine ⟨r', v', ?_, e2, e3⟩
    rw [put_val_ne]
    · exact e1
    · intro z
      have z1 := (List.cons.inj z).1
      have z2 := (List.cons.inj (List.cons.inj z).2).1
      have y1 : (i : Int) = p := Sum.inl.inj z1
      have y2 : (j : Int) = q := Sum.inl.inj z2
      omega
theorem TabTo.tab {H : Hp} {D : Addr} {rows : List (List Int)} {wide many : Nat} {signs : List Int} {kvs : List (List Key × V)} (h : TabTo H rows wide many signs kvs many 0) (hD : H D = some (.dT kvs)) : ∃ res, TabAt H D many res ∧ ∀ p q : Nat, p < many → q < many → PartRes rows wide many signs p q (res p q) := by
  have h' : ∀ p q : Nat, p < many → q < many → ∃ (r : Option (List Int)), ∃ (v : V), valV kvs [Sum.inl (p : Int), Sum.inl (q : Int)] = some v ∧ ResAt H v r ∧ PartRes rows wide many signs p q r := fun p q hp hq => h p q hp hq (.inl hp)
  clear h
  have sp : ∀ p q : Nat, ∃ r : Option (List Int), p < many → q < many → ∃ (v : V), valV kvs [Sum.inl (p : Int), Sum.inl (q : Int)] = some v ∧ ResAt H v r ∧ PartRes rows wide many signs p q r := fun p q => by
    by_cases c : p < many ∧ q < many
    · obtain ⟨r, e⟩ := h' p q c.1 c.2
      exact ⟨r, fun _ _ => e⟩
    · exact ⟨none, fun a b => absurd ⟨a, b⟩ c⟩
  refine ⟨fun p q => Classical.choose (sp p q), ⟨kvs, hD, fun p q hp hq => ?_⟩, fun p q hp hq => ?_⟩
  · obtain ⟨v, e1, e2, e3⟩ := Classical.choose_spec (sp p q) hp hq
    exact ⟨v, e1, e2⟩
  · obtain ⟨v, e1, e2, e3⟩ := Classical.choose_spec (sp p q) hp hq
    exact e3
section
variable {P : Program} {w : World} {K : PySem.W.Frag} {mg : Str → Option Value} {base : Heap} {f : Addr} {fd : FuncData} {dV : Value}
theorem ok_law (F : FunD K "law" "law" s_law dV f fd) (G__law_draw : DefOk P w K mg base "_law_draw" 1 ["_law_script", "_law_k"] [] (spDraw K)) (G__law_machine : DefOk P w K mg base "_law_machine" 3 ["_law_script", "_law_at", "_law_most", "_law_widest"] [] (spMachine K))
    (G_leads : DefOk P w K mg base "leads" 3 ["machine"] [] (spLeads K)) (G_parting : DefOk P w K mg base "parting" 3 ["machine", "one", "other"] [] (spParting K)) (G__law_leads : DefOk P w K mg base "_law_leads" 2 ["_law_machine_here", "_law_found"] [] spLeadsL)
    (G__law_parted : DefOk P w K mg base "_law_parted" 2 ["_law_machine_here", "_law_table", "_law_p", "_law_q"] [] spPartedL) (z_range : mg "range" = none) (z_len : mg "len" = none) : FnOk P w K mg base CX0 4 f fd ["_law_script"] (spLaw K) := by
  refine F.ok sc_law (fun vs H Q E h => ?_) (fun cdv A outer s H vs Q E hr h => ?_)
  · obtain ⟨a, ns, rfl, _⟩ := h
    rfl
  obtain ⟨a, ns, rfl, hS, h63, k⟩ := h
  have hu := hu_of hr
  have hu0 := hr.units0
  refine body_w (ws_cons (PSW.mk (ps_set (i := 1) sc_law.nd rfl (Or.inl rfl) (pe_cd G__law_machine hr (pa_cons (pv 0) (pa_cons pe_int (pa_cons pe_int (pa_cons pe_int pa_nil)))))))
      (ws_cons (PSW.mk (ps_set (i := 2) sc_law.nd rfl (Or.inl rfl) (pe_cd G_leads hr (pa_cons (pv 1) pa_nil))))
      (ws_cons (PSW.mk (ps_if (pt_not (pt_val (pe_cd G__law_leads hr (pa_cons (pv 1) (pa_cons (pv 2) pa_nil))))) (pss_one (ps_ret pe_bl)) pss_nil))
      (ws_cons (PSW.mk (ps_set (i := 3) sc_law.nd rfl (Or.inl rfl) (pe_cd G__law_machine hr (pa_cons (pv 0) (pa_cons pe_int (pa_cons pe_int (pa_cons pe_int pa_nil)))))))
      (ws_cons (PSW.mk (ps_set (i := 4) sc_law.nd rfl (Or.inl rfl) pe_dnewT))
      (ws_cons (PSW.mk (ps_set (i := 5) sc_law.nd rfl (Or.inl rfl) (pe_callB call_len_seq (by rfl) z_len bt_len (pa_cons (pe_ix ix_tup (pv 3) pe_int (fun _ _ => rfl)) pa_nil))))
      (ws_cons (PSW.mk (ps_for PassesOwn.never rfl (pi_range1 rfl z_range (pa_cons (pv 5) pa_nil)) (pg_name (i := 6) sc_law.nd rfl (Or.inl rfl)) (pss_one (ps_for PassesOwn.never rfl (pi_range1 rfl z_range (pa_cons (pv 5) pa_nil)) (pg_name (i := 7) sc_law.nd rfl (Or.inl rfl)) (pss_one (ps_dput hu (pv 4) (pe_tup (pa_cons (pv 6) (pa_cons (pv 7) pa_nil))) (pe_cd G_parting hr (pa_cons (pv 3) (pa_cons (pv 6) (pa_cons (pv 7) pa_nil)))) rfl))))))
      (ws_cons (PSW.mk (ps_for PassesOwn.never rfl (pi_range1 rfl z_range (pa_cons (pv 5) pa_nil)) (pg_name (i := 6) sc_law.nd rfl (Or.inl rfl)) (pss_one (ps_for PassesOwn.never rfl (pi_range1 rfl z_range (pa_cons (pv 5) pa_nil)) (pg_name (i := 7) sc_law.nd rfl (Or.inl rfl)) (pss_one (ps_if (pt_not (pt_val (pe_cd G__law_parted hr (pa_cons (pv 3) (pa_cons (pv 4) (pa_cons (pv 6) (pa_cons (pv 7) pa_nil))))))) (pss_one (ps_ret pe_bl)) pss_nil))))))
      (ws_cons (PSW.mk (ps_set (i := 6) sc_law.nd rfl (Or.inl rfl) (pe_op op_mod (pe_cd G__law_draw hr (pa_cons (pv 0) (pa_cons pe_int pa_nil))) (pv 5))))
      (ws_cons (PSW.mk (ps_set (i := 7) sc_law.nd rfl (Or.inl rfl) (pe_op op_mod (pe_cd G__law_draw hr (pa_cons (pv 0) (pa_cons pe_int pa_nil))) (pv 5))))
      (ws_one (PSW.mk (ps_ret (pe_and (pe_cmpR (op_eqA hu0) (pe_cd G_parting hr (pa_cons (pv 3) (pa_cons (pv 6) (pa_cons (pv 7) pa_nil)))) (pe_dget hu (pv 4) (pe_tup (pa_cons (pv 6) (pa_cons (pv 7) pa_nil))) (fun _ _ => rfl)) (nomark _)) (pe_one (pe_cmpR (op_eqN hu) (pe_cd G_leads hr (pa_cons (pv 1) pa_nil)) (pv 2) (nomark _))))))))))))))))) ?_
  refine ⟨_, rfl, a, 2, 12, 6, ns, rfl, hS, h63, ⟨by decide, by decide⟩, ⟨by decide, by decide⟩, ⟨by decide, by decide⟩, fun m1 r1 g1 H1 n1 w1 rows1 sg1 s1 M1 R1 lg1 _ n1a n1b w1a w1b => ?_⟩
  refine ⟨_, rfl, m1, r1, g1, n1, w1, rows1, sg1, rfl, M1, R1, ⟨n1a, by omega⟩, fun t H2 ks ls us s2 B L eN ht lu uN uS => ?_⟩
  have tp : ∀ {H H' : Hp}, Same H H' → ∀ b xs, H b = some (.tup xs) → H' b = some (.tup xs) := fun s b xs h => s _ _ h
  refine ⟨_, rfl, _, rfl, m1, r1, g1, t, n1, w1, rows1, sg1, ks, ls, us, rfl, M1.same (tp s2), R1, ⟨n1a, by omega⟩, by omega, B, L, ht, lu, uN, uS, fun H3 s3 => ⟨_, rfl, iteF ?_⟩⟩
  have S3 := (s1.trans s2).trans s3
  refine ⟨_, rfl, a, 100, 5, 4, ns, rfl, S3.seq hS, h63, ⟨by decide, by decide⟩, ⟨by decide, by decide⟩, ⟨by decide, by decide⟩, fun m r g H4 many wide rows signs s4 M R lsg _ na nb wa wb => ?_⟩
  obtain ⟨ras, hr', hA⟩ := M.rows
  have lras : ras.length = many := (RowsAt.length hA).trans R.len
  refine fun D hD => ?_
  try dsimp only [gName]
  have s5 := same_new hD (HO.dT [])
  refine ⟨_, rfl, m, _, _, _, rfl, rfl, SqT.of (s5 _ _ M.tup), rfl, r, _, rfl, .inr (SqT.of (s5 _ _ hr')), ?_⟩
  rw [List.length_map, lras]
  have z0 : ∀ (i : Nat), (0 : Int) + (i : Int) = (i : Int) := fun i => Int.zero_add _
  have n5 : many ≤ 5 := by omega
  have mset : (((((List.set (L2.start ["_law_script", "_law_machine_here", "_law_first", "_law_other", "_law_table", "_law_many", "_law_p", "_law_q"] [V.ref a]) 1 (some (V.ref m1))).set 2 (some (V.ref t))).set 3 (some (V.ref m))).set 4 (some (V.ref D))).set 5 (some (V.int many))) = [some (.ref a), some (.ref m1), some (.ref t), some (.ref m), some (.ref D), some (.int many), none, none] := rfl
  try dsimp only [gName]
  refine cut_seq (t := tFor _ _ _) (fun σ' H' => ∃ (kvs : List (List Key × V)) (v6 v7 : Option V), σ' = [some (.ref a), some (.ref m1), some (.ref t), some (.ref m), some (.ref D), some (.int many), v6, v7] ∧ Same H4 H' ∧ H' D = some (.dT kvs) ∧ TabTo H' rows wide many signs kvs many 0) ?_ (fun nxt => ?_)
  rotate_left
  · refine ⟨_, rfl, (many : Int), rfl, by omega, by omega, ?_⟩
    refine for_range (fun i σ' H' => ∃ (kvs : List (List Key × V)) (v6 v7 : Option V), σ' = [some (.ref a), some (.ref m1), some (.ref t), some (.ref m), some (.ref D), some (.int many), v6, v7] ∧ Same H4 H' ∧ H' D = some (.dT kvs) ∧ kvs.length ≤ 5 * i ∧ TabTo H' rows wide many signs kvs i 0) ⟨[], none, none, rfl, s5, upd_same, Nat.le_refl _, fun p q _ _ c => by omega⟩ ?_ ?_
    · rintro i σ' H5 hi ⟨kvs, v6, v7, rfl, s6, hD6, lk, T6⟩
      rw [Int.toNat_natCast] at hi
      rw [z0 i]
      refine ⟨_, rfl, (many : Int), rfl, by omega, by omega, ?_⟩
      refine for_range (fun j σ' H' => ∃ (kvs : List (List Key × V)) (v7 : Option V), σ' = [some (.ref a), some (.ref m1), some (.ref t), some (.ref m), some (.ref D), some (.int many), some (.int i), v7] ∧ Same H4 H' ∧ H' D = some (.dT kvs) ∧ kvs.length ≤ 5 * i + j ∧ TabTo H' rows wide many signs kvs i j) ⟨kvs, v7, rfl, s6, hD6, lk, T6⟩ ?_ ?_
      · rintro j σ' H6 hj ⟨kvs, v7, rfl, s7, hD7, lk7, T7⟩
        rw [Int.toNat_natCast] at hj
        rw [z0 j]
        have fin : ∀ (v : V) (rr : Option (List Int)) (H7 : Hp), Same H6 H7 → ResAt H7 v rr → PartRes rows wide many signs i j rr → ∀ tt, H7 tt = none → ∃ (kvs' : List (List Key × V)) (v7 : Option V), [some (V.ref a), some (V.ref m1), some (V.ref t), some (V.ref m), some (V.ref D), some (V.int many), some (V.int i), some (V.int j)] = [some (.ref a), some (.ref m1), some (.ref t), some (.ref m), some (.ref D), some (.int many), some (.int i), v7] ∧
            Same H4 (upd (upd H7 tt (HO.tup [V.int i, V.int j])) D (HO.dT (putK kvs [Sum.inl (i : Int), Sum.inl (j : Int)] v))) ∧ (upd (upd H7 tt (HO.tup [V.int i, V.int j])) D (HO.dT (putK kvs [Sum.inl (i : Int), Sum.inl (j : Int)] v))) D = some (.dT kvs') ∧ kvs'.length ≤ 5 * i + (j + 1) ∧
            TabTo (upd (upd H7 tt (HO.tup [V.int i, V.int j])) D (HO.dT (putK kvs [Sum.inl (i : Int), Sum.inl (j : Int)] v))) rows wide many signs kvs' i (j + 1) := by
          intro v rr H7 s8 hv hr tt htt
          have hD8 := s8 _ _ hD7
          have keep : ∀ b xs, H7 b = some (.tup xs) → (upd (upd H7 tt (HO.tup [V.int i, V.int j])) D (HO.dT (putK kvs [Sum.inl (i : Int), Sum.inl (j : Int)] v))) b = some (.tup xs) := fun b xs h => by
            rw [upd_ne (ne_of h hD8 (by intro z; cases z)), upd_ne (ne_of_none h htt)]; exact h
          refine ⟨_, _, rfl, same_upd ((s7.trans s8).trans (same_new htt _)) hD, upd_same, ?_, ?_⟩
          · have := length_putK kvs [Sum.inl (i : Int), Sum.inl (j : Int)] v
            omega
          · exact (T7.same fun b xs h => keep b xs (s8 _ _ h)).put (hv.same keep) hr
        have lk8 : kvs.length < sizeLine := small1000 (by omega)
        refine ⟨_, rfl, _, rfl, _, rfl, m, r, g, many, wide, rows, signs, i, j, rfl, M.same (tp s7), R, lsg, by omega, ⟨by omega, by omega⟩, ⟨by omega, by omega⟩, fun H7 s8 pr => ?_, fun H7 ra row s8 hra pr => ?_⟩
        · refine ⟨_, rfl, _, rfl, _, rfl, (by show 2 ≤ sizeLine; decide), fun tt htt => ⟨D, _, rfl, DPut.t (k := [Sum.inl (i : Int), Sum.inl (j : Int)]) ((same_new htt _) _ _ (s8 _ _ hD7)) (by rw [upd_same]; rfl) lk8, fin .non none H7 s8 rfl pr tt htt⟩⟩
        · refine ⟨_, rfl, _, rfl, _, rfl, (by show 2 ≤ sizeLine; decide), fun tt htt => ⟨D, _, rfl, DPut.t (k := [Sum.inl (i : Int), Sum.inl (j : Int)]) ((same_new htt _) _ _ (s8 _ _ hD7)) (by rw [upd_same]; rfl) lk8, fin (.ref ra) (some row) H7 s8 ⟨ra, rfl, hra⟩ pr tt htt⟩⟩
      · rintro σ' H6 ⟨kvs, v7, rfl, s7, hD7, lk7, T7⟩
        rw [Int.toNat_natCast] at lk7 T7
        refine ⟨kvs, _, _, rfl, s7, hD7, by omega, fun p q hp hq c => T7 p q hp hq (by omega)⟩
    · rintro σ' H5 ⟨kvs, v6, v7, rfl, s6, hD6, lk, T6⟩
      rw [Int.toNat_natCast] at T6
      exact nxt _ _ ⟨kvs, v6, v7, rfl, s6, hD6, T6⟩
  rintro σ' H5 ⟨kvs, v6, v7, rfl, s6, hD6, T6⟩
  obtain ⟨res, tab, PR⟩ := T6.tab hD6
  have tabS : ∀ {H' : Hp}, Same H5 H' → TabAt H' D many res := fun {H'} s' => by
    obtain ⟨kv, h1, h2⟩ := tab
    refine ⟨kv, s' _ _ h1, fun p q hp hq => ?_⟩
    obtain ⟨v, e1, e2⟩ := h2 p q hp hq
    exact ⟨v, e1, e2.same (tp s')⟩
  refine cut_seq (t := tFor _ _ _) (fun σ' H' => ∃ (v6 v7 : Option V), σ' = [some (.ref a), some (.ref m1), some (.ref t), some (.ref m), some (.ref D), some (.int many), v6, v7] ∧ Same H5 H') ?_ (fun nxt => ?_)
  rotate_left
  · refine ⟨_, rfl, (many : Int), rfl, by omega, by omega, ?_⟩
    refine for_range (fun i σ' H' => ∃ (v6 v7 : Option V), σ' = [some (.ref a), some (.ref m1), some (.ref t), some (.ref m), some (.ref D), some (.int many), v6, v7] ∧ Same H5 H') ⟨_, _, rfl, Same.refl _⟩ ?_ ?_
    · rintro i σ' H6 hi ⟨v6, v7, rfl, s7⟩
      rw [Int.toNat_natCast] at hi
      rw [z0 i]
      refine ⟨_, rfl, (many : Int), rfl, by omega, by omega, ?_⟩
      refine for_range (fun j σ' H' => ∃ (v7 : Option V), σ' = [some (.ref a), some (.ref m1), some (.ref t), some (.ref m), some (.ref D), some (.int many), some (.int i), v7] ∧ Same H5 H') ⟨_, rfl, s7⟩ ?_ ?_
      · rintro j σ' H7 hj ⟨v7, rfl, s8⟩
        rw [Int.toNat_natCast] at hj
        rw [z0 j]
        refine ⟨_, rfl, _, rfl, _, rfl, _, rfl, m, r, g, D, many, wide, rows, signs, res, i, j, rfl, M.same (tp (s6.trans s8)), R, lsg, by omega, by omega, tabS s8, PR, hi, hj, fun H8 s9 => ⟨_, rfl, iteF ⟨_, rfl, s8.trans s9⟩⟩⟩
      · rintro σ' H7 ⟨v7, rfl, s8⟩
        exact ⟨_, _, rfl, s8⟩
    · rintro σ' H6 ⟨v6, v7, rfl, s7⟩
      exact nxt _ _ ⟨v6, v7, rfl, s7⟩
  rintro σ' H6 ⟨v6, v7, rfl, s7⟩
  have S6 := ((S3.trans s4).trans s6).trans s7
  refine ⟨_, rfl, a, 0, ns, rfl, S6.seq hS, h63, by decide, by decide, fun x1 _ _ => ⟨_, rfl, _, _, rfl, rfl, (by show (0 : Int) < (many : Int); omega), ?_⟩⟩
  refine ⟨_, rfl, a, 1, ns, rfl, S6.seq hS, h63, by decide, by decide, fun x2 _ _ => ⟨_, rfl, _, _, rfl, rfl, (by show (0 : Int) < (many : Int); omega), ?_⟩⟩
  have r1' := mod_in (a := x1) (b := (many : Int)) (by omega)
  have r2' := mod_in (a := x2) (b := (many : Int)) (by omega)
  obtain ⟨p, ep⟩ : ∃ p : Nat, x1 % (many : Int) = p := ⟨(x1 % (many : Int)).toNat, by omega⟩
  obtain ⟨q, eq⟩ : ∃ q : Nat, x2 % (many : Int) = q := ⟨(x2 % (many : Int)).toNat, by omega⟩
  try dsimp only [gName]
  rw [ep] at r1' ⊢
  rw [eq] at r2' ⊢
  obtain ⟨kv, hDk, tb⟩ := tabS s7
  obtain ⟨v, hv, hres⟩ := tb p q (by omega) (by omega)
  have prs := PR p q (by omega) (by omega)
  have eqv : ∀ (v1 : V) (rr : Option (List Int)) (H7 : Hp), Same H6 H7 → ResAt H7 v1 rr → PartRes rows wide many signs p q rr → EqN K H7 v1 v := by
    intro v1 rr H7 s8 hv1 pr
    have e := prs.unique pr
    rw [e] at hres
    cases rr with
    | none =>
      obtain rfl : v1 = .non := hv1
      obtain rfl : v = .non := hres
      exact .non
    | some row =>
      obtain ⟨a1, rfl, h1⟩ := hv1
      obtain ⟨a2, rfl, h2⟩ := hres
      exact .tup (SqT.of h1) (SqT.of (s8 _ _ h2))
  have pairs : ∀ (H9 : Hp) (ks' : List Int) (ls' : List (List Int)) (us' : List V), Same H2 H9 → Bfs n1 w1 rows1 ks' → (ks', ls') = leadN rows1 w1 ks'.length → us'.length = n1 → (∀ q : Nat, q < n1 → (q : Int) ∉ ks' → us'[q]? = some .non) →
      (∀ (j : Nat) (q : Int) (l : List Int), ks'[j]? = some q → ls'[j]? = some l → ∃ a, us'[q.toNat]? = some (.ref a) ∧ H9 a = some (.tup (l.map V.int))) → Paired (EqN K H9) us' us := by
    intro H9 ks' ls' us' s9 B' eN' lu' uN' uS'
    have e : (ks', ls') = (ks, ls) := by rw [eN', eN, B'.len B]
    obtain ⟨rfl, rfl⟩ : ks' = ks ∧ ls' = ls := by
      injection e with h1 h2
      exact ⟨h1, h2⟩
    refine paired_at (by rw [lu', lu]) fun i x y hx hy => ?_
    have il : i < n1 := by rw [← lu]; exact (List.getElem?_eq_some_iff.mp hy).1
    by_cases c : (i : Int) ∈ ks'
    · obtain ⟨j, hj, ej⟩ := List.getElem_of_mem c
      have hj' : ks'[j]? = some (i : Int) := by rw [List.getElem?_eq_getElem hj, ej]
      obtain ⟨l, hl⟩ : ∃ l, ls'[j]? = some l := ⟨_, List.getElem?_eq_getElem (by rw [L.len]; exact hj)⟩
      obtain ⟨a1, u1, h1⟩ := uS' j i l hj' hl
      obtain ⟨a2, u2, h2⟩ := uS j i l hj' hl
      rw [Int.toNat_natCast] at u1 u2
      rw [u1] at hx
      rw [u2] at hy
      cases hx
      cases hy
      exact .tup (SqT.of h1) (SqT.of (s9 _ _ h2))
    · rw [uN' i il c] at hx
      rw [uN i il c] at hy
      cases hx
      cases hy
      exact .non
  have S26 : Same H2 H6 := ((s3.trans s4).trans s6).trans s7
  have dgs : ∀ (H7 : Hp) (tt : Addr), Same H6 H7 → H7 tt = none → DGet (upd H7 tt (HO.tup [V.int p, V.int q])) D (.ref tt) (some v) := fun H7 tt s8 htt => by
    have z := DGet.t (k := [Sum.inl (p : Int), Sum.inl (q : Int)]) ((same_new htt (HO.tup [V.int p, V.int q])) _ _ (s8 _ _ hDk)) (b := tt) (by rw [upd_same]; rfl)
    rw [hv] at z
    exact z
  refine ⟨_, rfl, _, rfl, _, rfl, m, r, g, many, wide, rows, signs, p, q, rfl, M.same (tp (s6.trans s7)), R, lsg, by omega, r1', r2', fun H7 s8 pr => ?_, fun H7 ra row s8 hra pr => ?_⟩
  · refine ⟨_, rfl, _, rfl, _, rfl, (by show 2 ≤ sizeLine; decide), fun tt htt => ⟨D, v, rfl, dgs H7 tt s8 htt, eqv .non none _ (s8.trans (same_new htt _)) rfl pr, _, rfl, iteT ?_⟩⟩
    have S8 := S26.trans (s8.trans (same_new htt (HO.tup [V.int p, V.int q])))
    refine ⟨_, rfl, m1, r1, g1, n1, w1, rows1, sg1, rfl, M1.same (tp (s2.trans S8)), R1, ⟨n1a, by omega⟩, fun t' H9 ks' ls' us' s9 B' L' eN' ht' lu' uN' uS' => ?_⟩
    exact ⟨_, rfl, t', t, us', us, rfl, rfl, SqT.of ht', SqT.of ((S8.trans s9) _ _ ht), pairs H9 ks' ls' us' (S8.trans s9) B' eN' lu' uN' uS', k _⟩
  · refine ⟨_, rfl, _, rfl, _, rfl, (by show 2 ≤ sizeLine; decide), fun tt htt => ⟨D, v, rfl, dgs H7 tt s8 htt, eqv (.ref ra) (some row) _ (s8.trans (same_new htt _)) ⟨ra, rfl, (same_new htt _) _ _ hra⟩ pr, _, rfl, iteT ?_⟩⟩
    have S8 := S26.trans (s8.trans (same_new htt (HO.tup [V.int p, V.int q])))
    refine ⟨_, rfl, m1, r1, g1, n1, w1, rows1, sg1, rfl, M1.same (tp (s2.trans S8)), R1, ⟨n1a, by omega⟩, fun t' H9 ks' ls' us' s9 B' L' eN' ht' lu' uN' uS' => ?_⟩
    exact ⟨_, rfl, t', t, us', us, rfl, rfl, SqT.of ht', SqT.of ((S8.trans s9) _ _ ht), pairs H9 ks' ls' us' (S8.trans s9) B' eN' lu' uN' uS', k _⟩
end
end My

set_option Elab.async false
set_option linter.all false
set_option maxRecDepth 100000
set_option maxHeartbeats 8000000
namespace My
open PySem L2
theorem all_mk {l : PySem.W.OpenLaw} {w : World} {K : PySem.W.Frag} {h : Heap} {mg : Str → Option Value} {fa : Addr} (X : K.In h) (G : h.Ns mainGlobals mg) (hfa : mg "law" = some (.ref fa))
    {f_reached_rooms f_first_rows f_leads f_Alike___init__ f_Alike_take_as_alike f_led_on f_parting f__law_draw f__law_there f__law_signs f__law_machine f__law_walk f__law_is_row f__law_behind f__law_leads f__law_parted f_law : Addr} {od_reached_rooms an_reached_rooms od_first_rows an_first_rows od_leads an_leads od_Alike___init__ an_Alike___init__ od_Alike_take_as_alike an_Alike_take_as_alike od_led_on an_led_on od_parting an_parting od__law_draw an__law_draw od__law_there an__law_there od__law_signs an__law_signs od__law_machine an__law_machine od__law_walk an__law_walk od__law_is_row an__law_is_row od__law_behind an__law_behind od__law_leads an__law_leads od__law_parted an__law_parted od_law an_law : Option Addr} {sl_reached_rooms sl_first_rows sl_leads sl_Alike___init__ sl_Alike_take_as_alike sl_led_on sl_parting sl__law_draw sl__law_there sl__law_signs sl__law_machine sl__law_walk sl__law_is_row sl__law_behind sl__law_leads sl__law_parted sl_law : Array (Option Value)} {oc_reached_rooms kV_reached_rooms dc_reached_rooms pm_reached_rooms cd_reached_rooms ct_reached_rooms oc_first_rows kV_first_rows dc_first_rows pm_first_rows cd_first_rows ct_first_rows oc_leads kV_leads dc_leads pm_leads cd_leads ct_leads oc_Alike___init__ kV_Alike___init__ dc_Alike___init__ pm_Alike___init__ cd_Alike___init__ ct_Alike___init__ oc_Alike_take_as_alike kV_Alike_take_as_alike dc_Alike_take_as_alike pm_Alike_take_as_alike cd_Alike_take_as_alike ct_Alike_take_as_alike oc_led_on kV_led_on dc_led_on pm_led_on cd_led_on ct_led_on oc_parting kV_parting dc_parting pm_parting cd_parting ct_parting oc__law_draw kV__law_draw dc__law_draw pm__law_draw cd__law_draw ct__law_draw oc__law_there kV__law_there dc__law_there pm__law_there cd__law_there ct__law_there oc__law_signs kV__law_signs dc__law_signs pm__law_signs cd__law_signs ct__law_signs oc__law_machine kV__law_machine dc__law_machine pm__law_machine cd__law_machine ct__law_machine oc__law_walk kV__law_walk dc__law_walk pm__law_walk cd__law_walk ct__law_walk oc__law_is_row kV__law_is_row dc__law_is_row pm__law_is_row cd__law_is_row ct__law_is_row oc__law_behind kV__law_behind dc__law_behind pm__law_behind cd__law_behind ct__law_behind oc__law_leads kV__law_leads dc__law_leads pm__law_leads cd__law_leads ct__law_leads oc__law_parted kV__law_parted dc__law_parted pm__law_parted cd__law_parted ct__law_parted oc_law kV_law dc_law pm_law cd_law ct_law : Value}
    {T_reached_rooms tn_reached_rooms : Nat} {tc_reached_rooms : Value} {td_reached_rooms : Option Addr} {tsl_reached_rooms : Array (Option Value)} {tk0_reached_rooms : Tok}
    (a_reached_rooms : PySem.W.nsIn K mainGlobals "reached_rooms" = some (some (.ref f_reached_rooms))) (l_reached_rooms : K.lookup f_reached_rooms = some ⟨oc_reached_rooms, od_reached_rooms, .func (PySem.W.fnOf "reached_rooms" "reached_rooms" (defArgs s_reached_rooms) (defBody s_reached_rooms) (defScope s_reached_rooms) (.ref T_reached_rooms) kV_reached_rooms dc_reached_rooms pm_reached_rooms an_reached_rooms cd_reached_rooms ct_reached_rooms), sl_reached_rooms⟩) (c_reached_rooms : PySem.W.codeIn K cd_reached_rooms "reached_rooms" = true) (k_reached_rooms : PySem.W.keepIn K (.ref f_reached_rooms) = true)
    (t_reached_rooms : K.lookup T_reached_rooms = some ⟨tc_reached_rooms, td_reached_rooms, .seq #[Value.int 0 tk0_reached_rooms] tn_reached_rooms, tsl_reached_rooms⟩)
    (a_first_rows : PySem.W.nsIn K mainGlobals "first_rows" = some (some (.ref f_first_rows))) (l_first_rows : K.lookup f_first_rows = some ⟨oc_first_rows, od_first_rows, .func (PySem.W.fnOf "first_rows" "first_rows" (defArgs s_first_rows) (defBody s_first_rows) (defScope s_first_rows) .none kV_first_rows dc_first_rows pm_first_rows an_first_rows cd_first_rows ct_first_rows), sl_first_rows⟩) (c_first_rows : PySem.W.codeIn K cd_first_rows "first_rows" = true) (k_first_rows : PySem.W.keepIn K (.ref f_first_rows) = true)
    (a_leads : PySem.W.nsIn K mainGlobals "leads" = some (some (.ref f_leads))) (l_leads : K.lookup f_leads = some ⟨oc_leads, od_leads, .func (PySem.W.fnOf "leads" "leads" (defArgs s_leads) (defBody s_leads) (defScope s_leads) .none kV_leads dc_leads pm_leads an_leads cd_leads ct_leads), sl_leads⟩) (c_leads : PySem.W.codeIn K cd_leads "leads" = true) (k_leads : PySem.W.keepIn K (.ref f_leads) = true)
    (a_led_on : PySem.W.nsIn K mainGlobals "led_on" = some (some (.ref f_led_on))) (l_led_on : K.lookup f_led_on = some ⟨oc_led_on, od_led_on, .func (PySem.W.fnOf "led_on" "led_on" (defArgs s_led_on) (defBody s_led_on) (defScope s_led_on) .none kV_led_on dc_led_on pm_led_on an_led_on cd_led_on ct_led_on), sl_led_on⟩) (c_led_on : PySem.W.codeIn K cd_led_on "led_on" = true) (k_led_on : PySem.W.keepIn K (.ref f_led_on) = true)
    (a_parting : PySem.W.nsIn K mainGlobals "parting" = some (some (.ref f_parting))) (l_parting : K.lookup f_parting = some ⟨oc_parting, od_parting, .func (PySem.W.fnOf "parting" "parting" (defArgs s_parting) (defBody s_parting) (defScope s_parting) .none kV_parting dc_parting pm_parting an_parting cd_parting ct_parting), sl_parting⟩) (c_parting : PySem.W.codeIn K cd_parting "parting" = true) (k_parting : PySem.W.keepIn K (.ref f_parting) = true)
    (a__law_draw : PySem.W.nsIn K mainGlobals "_law_draw" = some (some (.ref f__law_draw))) (l__law_draw : K.lookup f__law_draw = some ⟨oc__law_draw, od__law_draw, .func (PySem.W.fnOf "_law_draw" "_law_draw" (defArgs s__law_draw) (defBody s__law_draw) (defScope s__law_draw) .none kV__law_draw dc__law_draw pm__law_draw an__law_draw cd__law_draw ct__law_draw), sl__law_draw⟩) (c__law_draw : PySem.W.codeIn K cd__law_draw "_law_draw" = true) (k__law_draw : PySem.W.keepIn K (.ref f__law_draw) = true)
    (a__law_there : PySem.W.nsIn K mainGlobals "_law_there" = some (some (.ref f__law_there))) (l__law_there : K.lookup f__law_there = some ⟨oc__law_there, od__law_there, .func (PySem.W.fnOf "_law_there" "_law_there" (defArgs s__law_there) (defBody s__law_there) (defScope s__law_there) .none kV__law_there dc__law_there pm__law_there an__law_there cd__law_there ct__law_there), sl__law_there⟩) (c__law_there : PySem.W.codeIn K cd__law_there "_law_there" = true) (k__law_there : PySem.W.keepIn K (.ref f__law_there) = true)
    (a__law_signs : PySem.W.nsIn K mainGlobals "_law_signs" = some (some (.ref f__law_signs))) (l__law_signs : K.lookup f__law_signs = some ⟨oc__law_signs, od__law_signs, .func (PySem.W.fnOf "_law_signs" "_law_signs" (defArgs s__law_signs) (defBody s__law_signs) (defScope s__law_signs) .none kV__law_signs dc__law_signs pm__law_signs an__law_signs cd__law_signs ct__law_signs), sl__law_signs⟩) (c__law_signs : PySem.W.codeIn K cd__law_signs "_law_signs" = true) (k__law_signs : PySem.W.keepIn K (.ref f__law_signs) = true)
    (a__law_machine : PySem.W.nsIn K mainGlobals "_law_machine" = some (some (.ref f__law_machine))) (l__law_machine : K.lookup f__law_machine = some ⟨oc__law_machine, od__law_machine, .func (PySem.W.fnOf "_law_machine" "_law_machine" (defArgs s__law_machine) (defBody s__law_machine) (defScope s__law_machine) .none kV__law_machine dc__law_machine pm__law_machine an__law_machine cd__law_machine ct__law_machine), sl__law_machine⟩) (c__law_machine : PySem.W.codeIn K cd__law_machine "_law_machine" = true) (k__law_machine : PySem.W.keepIn K (.ref f__law_machine) = true)
    (a__law_walk : PySem.W.nsIn K mainGlobals "_law_walk" = some (some (.ref f__law_walk))) (l__law_walk : K.lookup f__law_walk = some ⟨oc__law_walk, od__law_walk, .func (PySem.W.fnOf "_law_walk" "_law_walk" (defArgs s__law_walk) (defBody s__law_walk) (defScope s__law_walk) .none kV__law_walk dc__law_walk pm__law_walk an__law_walk cd__law_walk ct__law_walk), sl__law_walk⟩) (c__law_walk : PySem.W.codeIn K cd__law_walk "_law_walk" = true) (k__law_walk : PySem.W.keepIn K (.ref f__law_walk) = true)
    (a__law_is_row : PySem.W.nsIn K mainGlobals "_law_is_row" = some (some (.ref f__law_is_row))) (l__law_is_row : K.lookup f__law_is_row = some ⟨oc__law_is_row, od__law_is_row, .func (PySem.W.fnOf "_law_is_row" "_law_is_row" (defArgs s__law_is_row) (defBody s__law_is_row) (defScope s__law_is_row) .none kV__law_is_row dc__law_is_row pm__law_is_row an__law_is_row cd__law_is_row ct__law_is_row), sl__law_is_row⟩) (c__law_is_row : PySem.W.codeIn K cd__law_is_row "_law_is_row" = true) (k__law_is_row : PySem.W.keepIn K (.ref f__law_is_row) = true)
    (a__law_behind : PySem.W.nsIn K mainGlobals "_law_behind" = some (some (.ref f__law_behind))) (l__law_behind : K.lookup f__law_behind = some ⟨oc__law_behind, od__law_behind, .func (PySem.W.fnOf "_law_behind" "_law_behind" (defArgs s__law_behind) (defBody s__law_behind) (defScope s__law_behind) .none kV__law_behind dc__law_behind pm__law_behind an__law_behind cd__law_behind ct__law_behind), sl__law_behind⟩) (c__law_behind : PySem.W.codeIn K cd__law_behind "_law_behind" = true) (k__law_behind : PySem.W.keepIn K (.ref f__law_behind) = true)
    (a__law_leads : PySem.W.nsIn K mainGlobals "_law_leads" = some (some (.ref f__law_leads))) (l__law_leads : K.lookup f__law_leads = some ⟨oc__law_leads, od__law_leads, .func (PySem.W.fnOf "_law_leads" "_law_leads" (defArgs s__law_leads) (defBody s__law_leads) (defScope s__law_leads) .none kV__law_leads dc__law_leads pm__law_leads an__law_leads cd__law_leads ct__law_leads), sl__law_leads⟩) (c__law_leads : PySem.W.codeIn K cd__law_leads "_law_leads" = true) (k__law_leads : PySem.W.keepIn K (.ref f__law_leads) = true)
    (a__law_parted : PySem.W.nsIn K mainGlobals "_law_parted" = some (some (.ref f__law_parted))) (l__law_parted : K.lookup f__law_parted = some ⟨oc__law_parted, od__law_parted, .func (PySem.W.fnOf "_law_parted" "_law_parted" (defArgs s__law_parted) (defBody s__law_parted) (defScope s__law_parted) .none kV__law_parted dc__law_parted pm__law_parted an__law_parted cd__law_parted ct__law_parted), sl__law_parted⟩) (c__law_parted : PySem.W.codeIn K cd__law_parted "_law_parted" = true) (k__law_parted : PySem.W.keepIn K (.ref f__law_parted) = true)
    (a_law : PySem.W.nsIn K mainGlobals "law" = some (some (.ref f_law))) (l_law : K.lookup f_law = some ⟨oc_law, od_law, .func (PySem.W.fnOf "law" "law" (defArgs s_law) (defBody s_law) (defScope s_law) .none kV_law dc_law pm_law an_law cd_law ct_law), sl_law⟩) (c_law : PySem.W.codeIn K cd_law "law" = true) (k_law : PySem.W.keepIn K (.ref f_law) = true)
    (y_len : PySem.W.nsIn K mainGlobals "len" = some none)
    (y_min : PySem.W.nsIn K mainGlobals "min" = some none)
    (y_range : PySem.W.nsIn K mainGlobals "range" = some none)
    (y_int : PySem.W.nsIn K mainGlobals "int" = some none)
    (y_tuple : PySem.W.nsIn K mainGlobals "tuple" = some none)
    (y_list : PySem.W.nsIn K mainGlobals "list" = some none)
    (y_isinstance : PySem.W.nsIn K mainGlobals "isinstance" = some none)
    (y_bool : PySem.W.nsIn K mainGlobals "bool" = some none)
    (y_enumerate : PySem.W.nsIn K mainGlobals "enumerate" = some none)
    (y_zip : PySem.W.nsIn K mainGlobals "zip" = some none)
    {C_Alike : Addr} (cl_Alike : PySem.W.nsIn K mainGlobals "Alike" = some (some (.ref C_Alike)))
    (a_Alike___init__ : PySem.W.findIn K (.ref C_Alike) "__init__" = some (some (.ref f_Alike___init__))) (l_Alike___init__ : K.lookup f_Alike___init__ = some ⟨oc_Alike___init__, od_Alike___init__, .func (PySem.W.fnOf "__init__" "Alike.__init__" (defArgs s_Alike___init__) (defBody s_Alike___init__) (defScope s_Alike___init__) .none kV_Alike___init__ dc_Alike___init__ pm_Alike___init__ an_Alike___init__ cd_Alike___init__ ct_Alike___init__), sl_Alike___init__⟩) (c_Alike___init__ : PySem.W.codeIn K cd_Alike___init__ "Alike.__init__" = true) (k_Alike___init__ : PySem.W.keepIn K (.ref f_Alike___init__) = true)
    (a_Alike_take_as_alike : PySem.W.findIn K (.ref C_Alike) "take_as_alike" = some (some (.ref f_Alike_take_as_alike))) (l_Alike_take_as_alike : K.lookup f_Alike_take_as_alike = some ⟨oc_Alike_take_as_alike, od_Alike_take_as_alike, .func (PySem.W.fnOf "take_as_alike" "Alike.take_as_alike" (defArgs s_Alike_take_as_alike) (defBody s_Alike_take_as_alike) (defScope s_Alike_take_as_alike) .none kV_Alike_take_as_alike dc_Alike_take_as_alike pm_Alike_take_as_alike an_Alike_take_as_alike cd_Alike_take_as_alike ct_Alike_take_as_alike), sl_Alike_take_as_alike⟩) (c_Alike_take_as_alike : PySem.W.codeIn K cd_Alike_take_as_alike "Alike.take_as_alike" = true) (k_Alike_take_as_alike : PySem.W.keepIn K (.ref f_Alike_take_as_alike) = true)
    (c_pg : PySem.W.plainGet K C_Alike Str.empty = true)
    (c_hd : PySem.W.hasDictIn K C_Alike = true)
    (c_po : PySem.W.plainOver K C_Alike = true)
    (c_sa : PySem.W.findIn K (.ref C_Alike) "__setattr__" = some (some (.builtin "object.__setattr__")))
    (c_n1 : PySem.W.findIn K (.ref C_Alike) "group_of" = some none)
    (c_n2 : PySem.W.findIn K (.ref C_Alike) "members" = some none)
    (c_mk : PySem.W.makesIn K C_Alike = true)
    (c_fi : PySem.W.isFn K (.ref f_Alike___init__) = true)
    (c_kp : PySem.W.keepIn K (.ref C_Alike) = true)
    (fn_Alike_take_as_alike : PySem.W.isFn K (.ref f_Alike_take_as_alike) = true) :
    ∃ fd : FuncData, (∀ (s : Shared) (v : Value), BindsTo s fd ⟨[v], []⟩ [("_law_script", v)]) ∧ ∀ base : Heap, K.In base → base.Ns mainGlobals mg → FnOk l.prog w K mg base CX0 4 fa fd ["_law_script"] (spLaw K) := by
  have e := hfa.symm.trans (PySem.W.mg_of X G a_law)
  cases e
  have F_reached_rooms := fund_mk (st := s_reached_rooms) l_reached_rooms c_reached_rooms k_reached_rooms
  have b_reached_rooms : Binds K _ ["machine", "start"] [] := F_reached_rooms.bindsD t_reached_rooms rfl 2 rfl fun _ _ _ _ _ _ us hl => match us, hl with | [_, _], _ => ⟨_, rfl, rfl⟩
  have b_reached_rooms_d : Binds K _ ["machine", "start"] [Value.int 0 tk0_reached_rooms] := F_reached_rooms.bindsD t_reached_rooms rfl 1 rfl fun _ _ _ _ _ _ us hl => match us, hl with | [_], _ => ⟨_, rfl, rfl⟩
  have m_reached_rooms := PySem.W.mg_of X G a_reached_rooms
  have F_first_rows := fund_mk (st := s_first_rows) l_first_rows c_first_rows k_first_rows
  have b_first_rows := F_first_rows.binds (ps := ["machine", "start"]) fun _ _ _ _ _ _ us hl => match us, hl with | [_, _], _ => rfl
  have m_first_rows := PySem.W.mg_of X G a_first_rows
  have F_leads := fund_mk (st := s_leads) l_leads c_leads k_leads
  have b_leads := F_leads.binds (ps := ["machine"]) fun _ _ _ _ _ _ us hl => match us, hl with | [_], _ => rfl
  have m_leads := PySem.W.mg_of X G a_leads
  have F_Alike___init__ := fund_mk (st := s_Alike___init__) l_Alike___init__ c_Alike___init__ k_Alike___init__
  have b_Alike___init__ := F_Alike___init__.binds (ps := ["self", "many"]) fun _ _ _ _ _ _ us hl => match us, hl with | [_, _], _ => rfl
  have F_Alike_take_as_alike := fund_mk (st := s_Alike_take_as_alike) l_Alike_take_as_alike c_Alike_take_as_alike k_Alike_take_as_alike
  have b_Alike_take_as_alike := F_Alike_take_as_alike.binds (ps := ["self", "one", "other"]) fun _ _ _ _ _ _ us hl => match us, hl with | [_, _, _], _ => rfl
  have F_led_on := fund_mk (st := s_led_on) l_led_on c_led_on k_led_on
  have b_led_on := F_led_on.binds (ps := ["rows", "alike", "level"]) fun _ _ _ _ _ _ us hl => match us, hl with | [_, _, _], _ => rfl
  have m_led_on := PySem.W.mg_of X G a_led_on
  have F_parting := fund_mk (st := s_parting) l_parting c_parting k_parting
  have b_parting := F_parting.binds (ps := ["machine", "one", "other"]) fun _ _ _ _ _ _ us hl => match us, hl with | [_, _, _], _ => rfl
  have m_parting := PySem.W.mg_of X G a_parting
  have F__law_draw := fund_mk (st := s__law_draw) l__law_draw c__law_draw k__law_draw
  have b__law_draw := F__law_draw.binds (ps := ["_law_script", "_law_k"]) fun _ _ _ _ _ _ us hl => match us, hl with | [_, _], _ => rfl
  have m__law_draw := PySem.W.mg_of X G a__law_draw
  have F__law_there := fund_mk (st := s__law_there) l__law_there c__law_there k__law_there
  have b__law_there := F__law_there.binds (ps := ["_law_script", "_law_at", "_law_place", "_law_way"]) fun _ _ _ _ _ _ us hl => match us, hl with | [_, _, _, _], _ => rfl
  have m__law_there := PySem.W.mg_of X G a__law_there
  have F__law_signs := fund_mk (st := s__law_signs) l__law_signs c__law_signs k__law_signs
  have b__law_signs := F__law_signs.binds (ps := ["_law_script", "_law_at", "_law_many", "_law_half", "_law_way"]) fun _ _ _ _ _ _ us hl => match us, hl with | [_, _, _, _, _], _ => rfl
  have m__law_signs := PySem.W.mg_of X G a__law_signs
  have F__law_machine := fund_mk (st := s__law_machine) l__law_machine c__law_machine k__law_machine
  have b__law_machine := F__law_machine.binds (ps := ["_law_script", "_law_at", "_law_most", "_law_widest"]) fun _ _ _ _ _ _ us hl => match us, hl with | [_, _, _, _], _ => rfl
  have m__law_machine := PySem.W.mg_of X G a__law_machine
  have F__law_walk := fund_mk (st := s__law_walk) l__law_walk c__law_walk k__law_walk
  have b__law_walk := F__law_walk.binds (ps := ["_law_rows", "_law_row", "_law_at"]) fun _ _ _ _ _ _ us hl => match us, hl with | [_, _, _], _ => rfl
  have m__law_walk := PySem.W.mg_of X G a__law_walk
  have F__law_is_row := fund_mk (st := s__law_is_row) l__law_is_row c__law_is_row k__law_is_row
  have b__law_is_row := F__law_is_row.binds (ps := ["_law_found", "_law_wide"]) fun _ _ _ _ _ _ us hl => match us, hl with | [_, _], _ => rfl
  have m__law_is_row := PySem.W.mg_of X G a__law_is_row
  have F__law_behind := fund_mk (st := s__law_behind) l__law_behind c__law_behind k__law_behind
  have b__law_behind := F__law_behind.binds (ps := ["_law_row", "_law_other"]) fun _ _ _ _ _ _ us hl => match us, hl with | [_, _], _ => rfl
  have m__law_behind := PySem.W.mg_of X G a__law_behind
  have F__law_leads := fund_mk (st := s__law_leads) l__law_leads c__law_leads k__law_leads
  have b__law_leads := F__law_leads.binds (ps := ["_law_machine_here", "_law_found"]) fun _ _ _ _ _ _ us hl => match us, hl with | [_, _], _ => rfl
  have m__law_leads := PySem.W.mg_of X G a__law_leads
  have F__law_parted := fund_mk (st := s__law_parted) l__law_parted c__law_parted k__law_parted
  have b__law_parted := F__law_parted.binds (ps := ["_law_machine_here", "_law_table", "_law_p", "_law_q"]) fun _ _ _ _ _ _ us hl => match us, hl with | [_, _, _, _], _ => rfl
  have m__law_parted := PySem.W.mg_of X G a__law_parted
  have F_law := fund_mk (st := s_law) l_law c_law k_law
  have b_law := F_law.binds (ps := ["_law_script"]) fun _ _ _ _ _ _ us hl => match us, hl with | [_], _ => rfl
  have m_law := PySem.W.mg_of X G a_law
  have z_len := PySem.W.mg_none_of X G y_len
  have z_min := PySem.W.mg_none_of X G y_min
  have z_range := PySem.W.mg_none_of X G y_range
  have z_int := PySem.W.mg_none_of X G y_int
  have z_tuple := PySem.W.mg_none_of X G y_tuple
  have z_list := PySem.W.mg_none_of X G y_list
  have z_isinstance := PySem.W.mg_none_of X G y_isinstance
  have z_bool := PySem.W.mg_none_of X G y_bool
  have z_enumerate := PySem.W.mg_none_of X G y_enumerate
  have z_zip := PySem.W.mg_none_of X G y_zip
  have g_Alike := PySem.W.mg_of X G cl_Alike
  refine ⟨PySem.W.fnOf "law" "law" (defArgs s_law) (defBody s_law) (defScope s_law) .none kV_law dc_law pm_law an_law cd_law ct_law, fun s v => .of_eq rfl, fun base _ _ => ?_⟩
  have cls_Alike := (show Cls K C_Alike from ⟨c_pg, c_hd, c_po, c_sa⟩)
  have mk_Alike := (show Mk K C_Alike f_Alike___init__ from ⟨c_mk, a_Alike___init__, c_fi, c_kp⟩)
  have G_reached_rooms : DefOk l.prog w K mg base "reached_rooms" 1 ["machine", "start"] [] (spReached K) := ⟨_, _, [], m_reached_rooms, k_reached_rooms, .nil, b_reached_rooms, ok_reached F_reached_rooms z_list⟩
  have G_first_rows : DefOk l.prog w K mg base "first_rows" 2 ["machine", "start"] [] (spFirst0 K) := ⟨_, _, [], m_first_rows, k_first_rows, .nil, b_first_rows, ok_first0 F_first_rows G_reached_rooms z_enumerate⟩
  have G_leads : DefOk l.prog w K mg base "leads" 3 ["machine"] [] (spLeads K) := ⟨_, _, [], m_leads, k_leads, .nil, b_leads, ok_leads F_leads G_first_rows z_tuple z_range z_len⟩
  have GM_Alike : DefMk l.prog w K mg base "Alike" C_Alike 1 ["self", "many"] (spAlikeInit C_Alike) := ⟨g_Alike, cls_Alike, _, _, mk_Alike, b_Alike___init__, ok_alikeInit F_Alike___init__ cls_Alike c_n1 c_n2 z_list z_range⟩
  have GE_take_as_alike : DefMe l.prog w K mg base C_Alike "take_as_alike" 1 ["self", "one", "other"] (spTake C_Alike) := ⟨cls_Alike, _, _, ⟨a_Alike_take_as_alike, fn_Alike_take_as_alike, k_Alike_take_as_alike⟩, b_Alike_take_as_alike, ok_take F_Alike_take_as_alike cls_Alike c_n1 c_n2 z_len⟩
  have G_led_on : DefOk l.prog w K mg base "led_on" 2 ["rows", "alike", "level"] [] (spLedOn C_Alike) := ⟨_, _, [], m_led_on, k_led_on, .nil, b_led_on, ok_led_on F_led_on GE_take_as_alike c_n1 z_enumerate⟩
  have G_parting : DefOk l.prog w K mg base "parting" 3 ["machine", "one", "other"] [] (spParting K) := ⟨_, _, [], m_parting, k_parting, .nil, b_parting, ok_parting F_parting GM_Alike G_led_on z_len⟩
  have G__law_draw : DefOk l.prog w K mg base "_law_draw" 1 ["_law_script", "_law_k"] [] (spDraw K) := ⟨_, _, [], m__law_draw, k__law_draw, .nil, b__law_draw, ok_draw F__law_draw z_len⟩
  have G__law_there : DefOk l.prog w K mg base "_law_there" 2 ["_law_script", "_law_at", "_law_place", "_law_way"] [] (spThere K) := ⟨_, _, [], m__law_there, k__law_there, .nil, b__law_there, ok_there F__law_there G__law_draw z_min⟩
  have G__law_signs : DefOk l.prog w K mg base "_law_signs" 2 ["_law_script", "_law_at", "_law_many", "_law_half", "_law_way"] [] (spSigns K) := ⟨_, _, [], m__law_signs, k__law_signs, .nil, b__law_signs, ok_signs F__law_signs G__law_draw z_range z_int z_tuple⟩
  have G__law_machine : DefOk l.prog w K mg base "_law_machine" 3 ["_law_script", "_law_at", "_law_most", "_law_widest"] [] (spMachine K) := ⟨_, _, [], m__law_machine, k__law_machine, .nil, b__law_machine, ok_machine F__law_machine G__law_draw G__law_there G__law_signs z_range z_tuple⟩
  have G__law_walk : DefOk l.prog w K mg base "_law_walk" 1 ["_law_rows", "_law_row", "_law_at"] [] (spWalkT K) := ⟨_, _, [], m__law_walk, k__law_walk, .nil, b__law_walk, ok_walkT F__law_walk ⟩
  have G__law_is_row : DefOk l.prog w K mg base "_law_is_row" 1 ["_law_found", "_law_wide"] [] (spIsRow) := ⟨_, _, [], m__law_is_row, k__law_is_row, .nil, b__law_is_row, ok_is_row F__law_is_row z_isinstance z_tuple z_int z_bool⟩
  have G__law_behind : DefOk l.prog w K mg base "_law_behind" 1 ["_law_row", "_law_other"] [] (spBehind K) := ⟨_, _, [], m__law_behind, k__law_behind, .nil, b__law_behind, ok_behind F__law_behind z_len z_zip⟩
  have G__law_leads : DefOk l.prog w K mg base "_law_leads" 2 ["_law_machine_here", "_law_found"] [] (spLeadsL) := ⟨_, _, [], m__law_leads, k__law_leads, .nil, b__law_leads, ok_leadsL F__law_leads G__law_walk G__law_is_row G__law_behind z_isinstance z_tuple z_len z_range⟩
  have G__law_parted : DefOk l.prog w K mg base "_law_parted" 2 ["_law_machine_here", "_law_table", "_law_p", "_law_q"] [] (spPartedL) := ⟨_, _, [], m__law_parted, k__law_parted, .nil, b__law_parted, ok_partedL F__law_parted G__law_walk G__law_is_row z_len z_range⟩
  exact ok_law F_law G__law_draw G__law_machine G_leads G_parting G__law_leads G__law_parted z_range z_len
theorem walk {l : PySem.W.OpenLaw} {q : Program} {loose : List Str} {XP : (Str → Option Value) → Heap → Prop} {YP : World → Heap → Prop} {d : DefRec} {K : Params → PySem.W.Frag} (hn : l.most = some 63) (hdf : d.params.defaults = [])
    (hY : ∀ (w : World) (h : Heap), YP w h → (K w.params).In h)
    (F : ∀ (w : World) (mg : Str → Option Value) (fa : Addr) (h : Heap), (K w.params).In h → h.Ns mainGlobals mg → mg d.name = some (.ref fa) →
      ∃ fd : FuncData, (∀ (s : Shared) (u : Value), BindsTo s fd ⟨[u], []⟩ [("_law_script", u)]) ∧ ∀ base : Heap, (K w.params).In base → base.Ns mainGlobals mg → FnOk l.prog w (K w.params) mg base CX0 4 fa fd ["_law_script"] (spLaw (K w.params))) :
    PySem.W.WalkO q loose XP YP l.row.toRowW d [] (fun f vs => PySem.call f vs) :=
  L2.walk_of (n := 63) (k := 4) (x := "_law_script") (CX := fun _ => CX0) (sp := fun w => spLaw (K w.params)) hn (by decide) hdf ⟨rfl, by decide, by decide⟩ hY F (fun _ _ a ns hl _ hS => ⟨a, ns, rfl, hS, hl, fun _ => rfl⟩) fun _ _ _ _ _ z => z
end My
open PySem PySem.W PyProof.Rows
set_option maxRecDepth 100000 in
set_option maxHeartbeats 0 in
theorem PySem.Challenge.cw_figuretell_k15_leads_and_partings_holds : PySem.Challenge.rw_figuretell_k15_leads_and_partings.Holds := by
  w_on; o_law; k_head; (case hw => w_witness2)
  k_fill
  refine My.walk (l := PySem.Challenge.rw_figuretell_k15_leads_and_partings) rfl rfl (fun w h Y => PySem.W.kIn_of Y) ?F
  case F =>
    intro w mg fa h KX G hmg
    refine' My.all_mk KX G hmg ?a_reached_rooms ?l_reached_rooms ?c_reached_rooms ?k_reached_rooms ?t_reached_rooms ?a_first_rows ?l_first_rows ?c_first_rows ?k_first_rows ?a_leads ?l_leads ?c_leads ?k_leads ?a_led_on ?l_led_on ?c_led_on ?k_led_on ?a_parting ?l_parting ?c_parting ?k_parting ?a__law_draw ?l__law_draw ?c__law_draw ?k__law_draw ?a__law_there ?l__law_there ?c__law_there ?k__law_there ?a__law_signs ?l__law_signs ?c__law_signs ?k__law_signs ?a__law_machine ?l__law_machine ?c__law_machine ?k__law_machine ?a__law_walk ?l__law_walk ?c__law_walk ?k__law_walk ?a__law_is_row ?l__law_is_row ?c__law_is_row ?k__law_is_row ?a__law_behind ?l__law_behind ?c__law_behind ?k__law_behind ?a__law_leads ?l__law_leads ?c__law_leads ?k__law_leads ?a__law_parted ?l__law_parted ?c__law_parted ?k__law_parted ?a_law ?l_law ?c_law ?k_law ?y_len ?y_min ?y_range ?y_int ?y_tuple ?y_list ?y_isinstance ?y_bool ?y_enumerate ?y_zip ?cl_Alike ?a_Alike___init__ ?l_Alike___init__ ?c_Alike___init__ ?k_Alike___init__ ?a_Alike_take_as_alike ?l_Alike_take_as_alike ?c_Alike_take_as_alike ?k_Alike_take_as_alike ?c_pg ?c_hd ?c_po ?c_sa ?c_n1 ?c_n2 ?c_mk ?c_fi ?c_kp ?fn_Alike_take_as_alike
    (case a_reached_rooms => k_is); (case l_reached_rooms => k_is); (case c_reached_rooms => k_is); (case k_reached_rooms => k_is); (case t_reached_rooms => k_is)
    (case a_first_rows => k_is); (case l_first_rows => k_is); (case c_first_rows => k_is); (case k_first_rows => k_is)
    (case a_leads => k_is); (case l_leads => k_is); (case c_leads => k_is); (case k_leads => k_is)
    (case a_led_on => k_is); (case l_led_on => k_is); (case c_led_on => k_is); (case k_led_on => k_is)
    (case a_parting => k_is); (case l_parting => k_is); (case c_parting => k_is); (case k_parting => k_is)
    (case a__law_draw => k_is); (case l__law_draw => k_is); (case c__law_draw => k_is); (case k__law_draw => k_is)
    (case a__law_there => k_is); (case l__law_there => k_is); (case c__law_there => k_is); (case k__law_there => k_is)
    (case a__law_signs => k_is); (case l__law_signs => k_is); (case c__law_signs => k_is); (case k__law_signs => k_is)
    (case a__law_machine => k_is); (case l__law_machine => k_is); (case c__law_machine => k_is); (case k__law_machine => k_is)
    (case a__law_walk => k_is); (case l__law_walk => k_is); (case c__law_walk => k_is); (case k__law_walk => k_is)
    (case a__law_is_row => k_is); (case l__law_is_row => k_is); (case c__law_is_row => k_is); (case k__law_is_row => k_is)
    (case a__law_behind => k_is); (case l__law_behind => k_is); (case c__law_behind => k_is); (case k__law_behind => k_is)
    (case a__law_leads => k_is); (case l__law_leads => k_is); (case c__law_leads => k_is); (case k__law_leads => k_is)
    (case a__law_parted => k_is); (case l__law_parted => k_is); (case c__law_parted => k_is); (case k__law_parted => k_is)
    (case a_law => k_is); (case l_law => k_is); (case c_law => k_is); (case k_law => k_is)
    (case y_len => k_is); (case y_min => k_is); (case y_range => k_is); (case y_int => k_is); (case y_tuple => k_is); (case y_list => k_is); (case y_isinstance => k_is); (case y_bool => k_is); (case y_enumerate => k_is); (case y_zip => k_is)
    (case cl_Alike => k_is)
    (case a_Alike___init__ => k_is); (case l_Alike___init__ => k_is); (case c_Alike___init__ => k_is); (case k_Alike___init__ => k_is)
    (case a_Alike_take_as_alike => k_is); (case l_Alike_take_as_alike => k_is); (case c_Alike_take_as_alike => k_is); (case k_Alike_take_as_alike => k_is)
    (case c_pg => first | k_is | k_exc | decide | kernel_rfl)
    (case c_hd => first | k_is | k_exc | decide | kernel_rfl)
    (case c_po => first | k_is | k_exc | decide | kernel_rfl)
    (case c_sa => first | k_is | k_exc | decide | kernel_rfl)
    (case c_n1 => first | k_is | k_exc | decide | kernel_rfl)
    (case c_n2 => first | k_is | k_exc | decide | kernel_rfl)
    (case c_mk => first | k_is | k_exc | decide | kernel_rfl)
    (case c_fi => first | k_is | k_exc | decide | kernel_rfl)
    (case c_kp => first | k_is | k_exc | decide | kernel_rfl)
    (case fn_Alike_take_as_alike => first | k_is | k_exc | decide | kernel_rfl)

