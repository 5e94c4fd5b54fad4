import PyProof.Rows.All
import Wide.All
import OpenK.AllK
import Wide.FinOn
import Lean
import PyProof.EqAt
import PyProof.EqKinds
import PyProof.TupleCall
import PyProof.NeKinds
import PyProof.ExcBaseAll.ValueError
import PyProof.ExcClass3
import OpenK.KOwn
import PyProof.Rows.FStr
import KE.KTryMore
import PyProof.ExcAttrAll.ValueError
import KE.KDictList
import PyProof.CompMap
import PyProof.Draws
import PyProof.ListRange
import PyProof.ZipIter
import PyProof.EnumMake
import PyProof.CollectIter
import PyProof.SetRoads
import PyProof.Rows.SortShell
import PyProof.Rows.SortWalk
import PySem.Challenge.RW_figuretell_k17_rings_of_rooms
set_option Elab.async false
set_option linter.all false
set_option maxRecDepth 100000
namespace L2
open PySem PySem.Spec PyProof.Rows
abbrev Key := Sum Int Str
def oJ : Key -> Value -> Bool
 | .inl k, v => Value.isInt k v
 | .inr x, v => Value.isStrOf x v
def Dz (w : World) : Key -> Int
 | .inl k => hashInt k
 | .inr x => hashStr w x
theorem bK : ∀ {k : Key} {v : Value}, oJ k v = true -> (∃ i t, k = Sum.inl i /\ v = Value.int i t) \/ (∃ x t, k = Sum.inr x /\ v = Value.str x t)
 | .inl i, v, h => by
  obtain ⟨t, e⟩ := Value.isInt_shape (k := i) (v := v) h
  exact .inl ⟨i, t, rfl, e⟩
 | .inr x, v, h => by
  obtain ⟨t, e⟩ := Value.isStrOf_shape (x := x) (v := v) h
  exact .inr ⟨x, t, rfl, e⟩
theorem yo (i : Int) (t : Tok) : oJ (.inl i) (.int i t) = true := by simp [oJ, Value.isInt]
theorem yE (x : Str) (t : Tok) : oJ (.inr x) (.str x t) = true := by simp [oJ, Value.isStrOf]
theorem Cq (a b : Int) : decide ((Sum.inl a : Key) = Sum.inl b) = (a == b) := by
 by_cases e : a = b
 ·subst e; simp
 ·have h : ¬ (Sum.inl a : Key) = Sum.inl b := fun q => e (Sum.inl.inj q)
  rw [decide_eq_false h]
  exact (beq_eq_false_iff_ne.mpr e).symm
theorem Co (a b : Str) : decide ((Sum.inr a : Key) = Sum.inr b) = decide (a = b) := by
 by_cases e : a = b
 ·subst e; simp
 ·have h : ¬ (Sum.inr a : Key) = Sum.inr b := fun q => e (Sum.inr.inj q)
  rw [decide_eq_false h, decide_eq_false e]
theorem BX (a : Int) (b : Str) : decide ((Sum.inl a : Key) = Sum.inr b) = false := decide_eq_false (fun q => nomatch q)
theorem Cu (a : Str) (b : Int) : decide ((Sum.inr a : Key) = Sum.inl b) = false := decide_eq_false (fun q => nomatch q)
def aQ (prog : Program) (w : World) : PySem.KeyKind prog w Key where
 is := oJ
 hash := Dz w
 inj := fun v a b ha hb => by
  rcases bK ha with ⟨i, t, rfl, rfl⟩ | ⟨x, t, rfl, rfl⟩
  ·rcases bK hb with ⟨j, u, rfl, e⟩ | ⟨y, u, rfl, e⟩
   ·injection e with e1 _; rw [e1]
   ·exact nomatch e
  ·rcases bK hb with ⟨j, u, rfl, e⟩ | ⟨y, u, rfl, e⟩
   ·exact nomatch e
   ·injection e with e1 _; rw [e1]
 byValue := fun k v h => by
  rcases bK h with ⟨i, t, rfl, rfl⟩ | ⟨x, t, rfl, rfl⟩ <;> rfl
 pyHash := fun hv h => by
  rcases bK hv with ⟨i, t, rfl, rfl⟩ | ⟨x, t, rfl, rfl⟩
  ·exact wpAny_pyHash_int h
  ·exact wpAny_pyHash_str h
 eqBool := fun hu hv h => by
  rcases bK hu with ⟨i, t, rfl, rfl⟩ | ⟨x, t, rfl, rfl⟩
  ·rcases bK hv with ⟨j, u, rfl, rfl⟩ | ⟨y, u, rfl, rfl⟩
   ·rw [Cq] at h; exact wpAny_eqBool_int h
   ·rw [BX] at h; exact SeqAt.EqAt.int_str i t y u _ _ _ _ h
  ·rcases bK hv with ⟨j, u, rfl, rfl⟩ | ⟨y, u, rfl, rfl⟩
   ·rw [Cu] at h; exact SeqAt.EqAt.str_int x t j u _ _ _ _ h
   ·rw [Co] at h; exact wpAny_eqBool_str h
 «strs» := fun k x t v h => by
  rcases bK h with ⟨i, u, rfl, e⟩ | ⟨y, u, rfl, e⟩
  ·exact nomatch e
  ·injection e with e1 _
   subst e1
   cases v <;> rfl
theorem vh (prog : Program) (w : World) (i : Int) (t : Tok) : (aQ prog w).is (.inl i) (.int i t) = true := yo i t
theorem vp (prog : Program) (w : World) (x : Str) (t : Tok) : (aQ prog w).is (.inr x) (.str x t) = true := yE x t
end L2
namespace L2
open PySem PySem.Spec PyProof.Rows
inductive V where
 | non | bl (b : Bool) | int (i : Int) | str (x : Str) | byt (b : Array UInt8) | flt (b : UInt64) | ref (a : Addr) | ty (n : String)
 deriving DecidableEq
def RelV : V -> Value -> Prop
 | .non, u => u = Value.none
 | .bl b, u => u = Value.bool b
 | .int i, u => ∃ t, u = Value.int i t
 | .str x, u => ∃ t, u = Value.str x t
 | .byt b, u => ∃ t, u = Value.bytes b t
 | .flt b, u => ∃ t, u = Value.float b t
 | .ref a, u => u = Value.ref a
 | .ty n, u => u = Value.type n
abbrev Vals : List V -> List Value -> Prop := Paired RelV
theorem Vals.length {xs : List V} {us : List Value} (r : Vals xs us) : xs.length = us.length := Paired.length r
theorem Vals.get : ∀ {xs : List V} {us : List Value} {i : Nat} {x : V}, Vals xs us -> xs[i]? = some x -> ∃ u, us[i]? = some u /\ RelV x u
 | _, _, _, _, .nil, e => by simp at e
 | _, _, 0, _, .cons r _, e => by simp at e; subst e; exact ⟨_, rfl, r⟩
 | _, _, i + 1, x, .cons _ t, e => by
  obtain ⟨u, h1, h2⟩ := Vals.get (i := i) (x := x) t (by simpa using e)
  exact ⟨u, by simpa using h1, h2⟩
theorem Vals.set {x : V} {u : Value} (r : RelV x u) : ∀ {xs : List V} {us : List Value} (i : Nat), Vals xs us -> Vals (xs.set i x) (us.set i u)
 | _, _, _, .nil => .nil
 | _, _, 0, .cons _ t => .cons r t
 | _, _, i + 1, .cons q t => .cons q (Vals.set r i t)
theorem Vals.append : ∀ {xs ys : List V} {us ws : List Value}, Vals xs us -> Vals ys ws -> Vals (xs ++ ys) (us ++ ws)
 | _, _, _, _, .nil, s => s
 | _, _, _, _, .cons r t, s => .cons r (Vals.append t s)
theorem Vals.take : ∀ {xs : List V} {us : List Value} (n : Nat), Vals xs us -> Vals (xs.take n) (us.take n)
 | _, _, 0, _ => .nil
 | _, _, _ + 1, .nil => .nil
 | _, _, n + 1, .cons r t => .cons r (Vals.take n t)
theorem Vals.drop : ∀ {xs : List V} {us : List Value} (n : Nat), Vals xs us -> Vals (xs.drop n) (us.drop n)
 | _, _, 0, r => r
 | _, _, _ + 1, .nil => .nil
 | _, _, n + 1, .cons _ t => Vals.drop n t
def RelO : Option V -> Option Value -> Prop
 | some v, some u => RelV v u
 | none, none => True
 | _, _ => False
def KV {κ : Type} : List (κ × V) -> List (κ × Value) -> Prop := Paired fun (p : κ × V) (q : κ × Value) => p.1 = q.1 /\ RelV p.2 q.2
def kV : Key -> V
 | .inl i => .int i
 | .inr x => .str x
inductive HO where
  | lst (xs : List V)
  | tup (xs : List V)
  | dK (kvs : List (Key × V)) | dT (kvs : List (List Key × V))
  | set (S : Int -> Bool) (n : Nat)
  | ins (C dx : Addr) (fs : List (Str × V))
  | own (x : Addr)
  | xd (fs : List (Str × V))
  | met (f x : Addr)
  | rng (lo hi : Int)
  | frz (o : Obj) (u : HO)
  | tbl (ps : Array Value)
  | ext (φ : Heap -> Prop)
abbrev Hp := Addr -> Option HO
def upd (H : Hp) (a : Addr) (o : HO) : Hp := fun b => if b = a then some o else H b
theorem ab {H : Hp} {a : Addr} {o : HO} : upd H a o a = some o := by unfold upd; rw [if_pos rfl]
theorem ae {H : Hp} {a b : Addr} {o : HO} (h : b ≠ a) : upd H a o b = H b := by unfold upd; rw [if_neg h]
theorem yd {H : Hp} {a : Addr} {o u : HO} : upd (upd H a o) a u = upd H a u := by
 funext b; unfold upd; split <;> rfl
theorem aB {H : Hp} {a b : Addr} {o u : HO} (h : H a = some o) (h' : H b = some u) (d : o ≠ u) : a ≠ b := by
 intro e; subst e; rw [h] at h'; exact d (Option.some.inj h')
theorem aq {H : Hp} {a b : Addr} {o : HO} (h : H a = some o) (h' : H b = none) : a ≠ b := by
 intro e; subst e; rw [h] at h'; cases h'
section
variable (P : Program) (w : World)
def ObjOk (H : Hp) (h : Heap) (a : Addr) : HO -> Prop
 | .lst xs => xs.length <= sizeLine /\ ∃ (its : List Value) (n : Nat), Vals xs its /\ h.get? a = some { cls := .type "list", data := .seq its.toArray n }
 | .tup xs => xs.length <= sizeLine /\ ∃ its : List Value, Vals xs its /\ IsTup h a its.toArray
 | .dK kvs => kvs.length <= sizeLine /\ (a == sysModules) = false /\ ∃ vs, KV kvs vs /\ h.DictOf (aQ P w) a vs
 | .dT kvs => kvs.length <= sizeLine /\ (a == sysModules) = false /\ ∃ xs : List (List Key × Addr × Value),
   Paired (fun (p : List Key × V) (q : List Key × Addr × Value) => p.1 = q.1 /\ H q.2.1 = some (.tup (p.1.map kV)) /\ RelV p.2 q.2.2) kvs xs /\
   ∃ o es ep, h.get? a = some o /\ o.ExactDict /\ o.data = .dict es ep /\ es.toList = xs.map (entryOfKey (tupleKind (aQ P w))) /\ (xs.map (·.1)).Nodup
 | .set S n => h.SetOf (intKind P w) a S n
 | .ins C dx fs => H dx = some (.own a) /\ fs.length <= 1000 /\ dx ≠ a /\ h.get? a = some (PySem.W.instObj C dx) /\
   ∃ mA, h.Ns1 dx mA /\ (∀ f, RelO (fs.lookup f) (mA f)) /\ PySem.Within mA (fs.map (·.1))
 | .own _ => ∃ o, h.get? a = some o
 | .xd fs => ∃ mA, h.Ns1 a mA /\ ∀ f, RelO (fs.lookup f) (mA f)
 | .rng lo hi => ∃ t u v, h.get? a = some { cls := .type "range", data := .fields #[.int lo t, .int hi u, .int 1 v] }
 | .frz o u => h.get? a = some o /\ ObjOk H h a u
 | .tbl ps => h.get? a = some { cls := .none, data := .fields ps }
 | .met f x => h.get? a = some (PySem.W.methodObj (.ref f) (.ref x))
 | .ext φ => φ h /\ (∃ o, h.get? a = some o) /\ ∀ h1 h2 : Heap, φ h1 -> (∀ o, h1.get? a = some o -> h2.get? a = some o) -> φ h2
def HOk (H : Hp) (h : Heap) : Prop := ∀ a o, H a = some o -> ObjOk P w H h a o
end
section
variable {P : Program} {w : World} {H H' : Hp} {h h' : Heap} {a : Addr} {o : HO}
theorem ObjOk.lt (x : ObjOk P w H h a o) : a < h.objs.size := by
 cases o with
 | lst xs => obtain ⟨_, _, _, _, e⟩ := x; exact Heap.lt_size e
 | tup xs => obtain ⟨_, _, _, p⟩ := x; exact p.lt
 | dK kvs => obtain ⟨_, _, _, _, o, _, _, e, _⟩ := x; exact Heap.lt_size e
 | dT kvs => obtain ⟨_, _, _, _, o, _, _, e, _⟩ := x; exact Heap.lt_size e
 | set S n => obtain ⟨o, _, _, _, e, _⟩ := x; exact Heap.lt_size e
 | ins C dx fs => obtain ⟨_, _, _, e, _⟩ := x; exact Heap.lt_size e
 | own y => obtain ⟨_, e⟩ := x; exact Heap.lt_size e
 | xd fs => obtain ⟨_, ⟨_, _, _, e, _⟩, _⟩ := x; exact Heap.lt_size e
 | rng lo hi => obtain ⟨_, _, _, e⟩ := x; exact Heap.lt_size e
 | frz ob u => obtain ⟨e, _⟩ := x; exact Heap.lt_size e
 | tbl ps => exact Heap.lt_size (show h.get? a = some _ from x)
 | met f y => exact Heap.lt_size (show h.get? a = some _ from x)
 | ext φ => obtain ⟨_, ⟨_, e⟩, _⟩ := x; exact Heap.lt_size e
theorem Paired.mapP {α β : Type} {F G : α -> β -> Prop} : ∀ {l₁ : List α} {l₂ : List β}, Paired F l₁ l₂ -> (∀ a b, F a b -> G a b) -> Paired G l₁ l₂
 | _, _, .nil, _ => .nil
 | _, _, .cons r t, f => .cons (f _ _ r) (Paired.mapP t f)
theorem ObjOk.stay (x : ObjOk P w H h a o) (k : ∀ b u, (b = a \/ H b = some (.own a)) -> h.get? b = some u -> h'.get? b = some u)
  (ho : ∀ b, H b = some (.own a) -> H' b = some (.own a)) (ht : ∀ b xs, H b = some (.tup xs) -> H' b = some (.tup xs)) : ObjOk P w H' h' a o := by
 induction o with
 | lst xs => obtain ⟨z, its, n, r, e⟩ := x; exact ⟨z, its, n, r, k _ _ (.inl rfl) e⟩
 | tup xs => obtain ⟨z, its, r, ob, e, c⟩ := x; exact ⟨z, its, r, ob, k _ _ (.inl rfl) e, c⟩
 | dK kvs => obtain ⟨z, y, vs, r, ob, es, ep, e, c⟩ := x; exact ⟨z, y, vs, r, ob, es, ep, k _ _ (.inl rfl) e, c⟩
 | dT kvs =>
  obtain ⟨z, y, xs, r, ob, es, ep, e, c⟩ := x
  exact ⟨z, y, xs, Paired.mapP r fun p q z => ⟨z.1, ht _ _ z.2.1, z.2.2⟩, ob, es, ep, k _ _ (.inl rfl) e, c⟩
 | set S n => obtain ⟨ob, es, ep, t, e, c⟩ := x; exact ⟨ob, es, ep, t, k _ _ (.inl rfl) e, c⟩
 | ins C dx fs =>
  obtain ⟨d, z, ne, e, mA, ⟨od, es, ep, e2, c⟩, r⟩ := x
  exact ⟨ho _ d, z, ne, k _ _ (.inl rfl) e, mA, ⟨od, es, ep, k _ _ (.inr d) e2, c⟩, r⟩
 | own y => obtain ⟨ob, e⟩ := x; exact ⟨ob, k _ _ (.inl rfl) e⟩
 | xd fs => obtain ⟨mA, ⟨od, es, ep, e, c⟩, r⟩ := x; exact ⟨mA, ⟨od, es, ep, k _ _ (.inl rfl) e, c⟩, r⟩
 | rng lo hi => obtain ⟨t, u, v, e⟩ := x; exact ⟨t, u, v, k _ _ (.inl rfl) e⟩
 | frz ob u ih => obtain ⟨e, q⟩ := x; exact ⟨k _ _ (.inl rfl) e, ih q⟩
 | tbl ps =>
  have e : h.get? a = some { cls := .none, data := .fields ps } := x
  show h'.get? a = some { cls := .none, data := .fields ps }
  exact k a _ (.inl rfl) e
 | met f y =>
  have e : h.get? a = some (PySem.W.methodObj (.ref f) (.ref y)) := x
  show h'.get? a = some (PySem.W.methodObj (.ref f) (.ref y))
  exact k a _ (.inl rfl) e
 | ext φ => obtain ⟨p, ⟨o, e⟩, st⟩ := x; exact ⟨st _ _ p fun o q => k _ _ (.inl rfl) q, ⟨o, k _ _ (.inl rfl) e⟩, st⟩
theorem HOk.lt (x : HOk P w H h) (e : H a = some o) : a < h.objs.size := (x a o e).lt
theorem HOk.fresh (x : HOk P w H h) (e : h.objs.size <= a) : H a = none := by
 cases q : H a with
 | none => rfl
 | some u => exact absurd (Nat.lt_of_lt_of_le (x.lt q) e) (Nat.lt_irrefl _)
theorem HOk.kept (x : HOk P w H h) (k : ∀ b u, h.get? b = some u -> h'.get? b = some u) : HOk P w H h' := fun a o e =>
 (x a o e).stay (fun b u _ q => k b u q) (fun _ q => q) fun _ _ q => q
theorem HOk.laid (x : HOk P w H h) (k : ∀ b u, h.get? b = some u -> h'.get? b = some u) (hp : h.objs.size <= a) (new : ObjOk P w (upd H a o) h' a o) : HOk P w (upd H a o) h' := fun b u e => by
 have hn := x.fresh hp
 by_cases hb : b = a
 ·subst hb; rw [ab] at e; cases e; exact new
 ·rw [ae hb] at e
  exact (x b u e).stay (fun c v _ q => k c v q) (fun c q => by rw [ae (aq q hn)]; exact q) fun c xs q => by rw [ae (aq q hn)]; exact q
end
def Rd (H : Hp) (a : Addr) (u : HO) : Prop := H a = some u \/ ∃ o, H a = some (.frz o u)
theorem Rd.ok {P : Program} {w : World} {H : Hp} {h : Heap} {a : Addr} {u : HO} (r : Rd H a u) (x : HOk P w H h) : ObjOk P w H h a u := by
 rcases r with r | ⟨o, r⟩
 ·exact x a u r
 ·obtain ⟨_, q⟩ := x a _ r
  exact q
def Mut : Option HO -> Prop
 | some (.lst _) => True
 | some (.dK _) => True
 | some (.dT _) => True
 | some (.set _ _) => True
 | some (.ins _ _ _) => True
 | some (.ext _) => True
 | _ => False
section
variable {P : Program} {w : World} {H : Hp} {h h' : Heap} {x e : Addr} {o' : HO}
theorem HOk.write (ok : HOk P w H h) (mu : Mut (H x)) (he : e = x \/ H e = some (.own x)) (k : ∀ b u, b ≠ e -> h.get? b = some u -> h'.get? b = some u) (heo : ∃ u, h'.get? e = some u)
  (new : ObjOk P w (upd H x o') h' x o') : HOk P w (upd H x o') h' := fun b u q => by
 have nown : ∀ c y, H c = some (.own y) -> c ≠ x := fun c y r z => by subst z; rw [r] at mu; exact mu
 have ntup : ∀ c xs, H c = some (.tup xs) -> c ≠ x := fun c xs r z => by subst z; rw [r] at mu; exact mu
 by_cases hb : b = x
 ·subst hb; rw [ab] at q; cases q; exact new
 ·rw [ae hb] at q
  by_cases hbe : b = e
  ·have q' : H b = some (.own x) := by
    rcases he with z | z
    ·exact absurd (hbe.trans z) hb
    ·rw [hbe]; exact z
   rw [q] at q'; cases q'
   obtain ⟨v, hv⟩ := heo
   exact ⟨v, by rw [hbe]; exact hv⟩
  ·refine (ok b u q).stay (fun c v hc r => k c v ?_ r) (fun c r => by rw [ae (nown c b r)]; exact r) fun c xs r => by rw [ae (ntup c xs r)]; exact r
   rcases hc with rfl | hc
   ·exact hbe
   ·rintro rfl
    rcases he with z | z
    ·exact nown c b hc z
    ·rw [hc] at z; cases z; exact hb rfl
end
structure Un (fs ex : List Addr) (H H' : Hp) (h h' : Heap) : Prop where
 keep : ∀ b o, h.get? b = some o -> H b = none -> b ∉ fs -> b ∉ ex -> h'.get? b = some o
 slot : ∀ b o, h.get? b = some o -> H b = none -> b ∈ fs -> b ∉ ex -> ∃ sl, h'.get? b = some { o with slots := sl }
 free : ∀ b o, h.get? b = some o -> H b = none -> b ∉ ex -> H' b = none
 there : ∀ b o, h.get? b = some o -> b ∉ ex -> ∃ o', h'.get? b = some o'
 tups : ∀ b xs, H b = some (.tup xs) -> H' b = some (.tup xs)
 frzs : ∀ b o u, H b = some (.frz o u) -> H' b = some (.frz o u)
 tbls : ∀ b ps, H b = some (.tbl ps) -> ∃ more, H' b = some (.tbl (ps ++ more))
section
variable {fs fs' ex ex' : List Addr} {H H1 H2 : Hp} {h h1 h2 h' : Heap} {a x e : Addr} {o : HO}
theorem Un.any (u : Un fs ex H H1 h h1) {b : Addr} {ob : Obj} (q : h.get? b = some ob) (n : H b = none) (hx : b ∉ ex) : ∃ sl, h1.get? b = some { ob with slots := sl } := by
 by_cases hb : b ∈ fs
 ·exact u.slot b ob q n hb hx
 ·exact ⟨ob.slots, u.keep b ob q n hb hx⟩
theorem Un.kept (k : ∀ b u, h.get? b = some u -> h'.get? b = some u) : Un fs ex H H h h' :=
 ⟨fun b ob q _ _ _ => k b ob q, fun b ob q _ _ _ => ⟨ob.slots, k b ob q⟩, fun _ _ _ n _ => n, fun b ob q _ => ⟨ob, k b ob q⟩, fun _ _ q => q, fun _ _ _ q => q, fun _ ps q => ⟨#[], by rw [q]; simp⟩⟩
theorem Un.refl : Un fs ex H H h h := Un.kept fun _ _ q => q
theorem Un.laid (k : ∀ b u, h.get? b = some u -> h'.get? b = some u) (hp : h.objs.size <= a) (hn : H a = none) : Un fs ex H (upd H a o) h h' where
 keep := fun b u q _ _ _ => k b u q
 slot := fun b u q _ _ _ => ⟨u.slots, k b u q⟩
 free := fun b u q n _ => by rw [ae (Nat.ne_of_lt (Nat.lt_of_lt_of_le (Heap.lt_size q) hp))]; exact n
 there := fun b u q _ => ⟨u, k b u q⟩
 tups := fun b xs q => by rw [ae (aq q hn)]; exact q
 frzs := fun b u xs q => by rw [ae (aq q hn)]; exact q
 tbls := fun b ps q => ⟨#[], by rw [ae (aq q hn), q]; simp⟩
theorem Un.write (mu : Mut (H x)) (he : e = x \/ H e = some (.own x)) (k : ∀ b u, b ≠ e -> h.get? b = some u -> h'.get? b = some u) (heo : ∃ u, h'.get? e = some u) : Un fs ex H (upd H x o) h h' := by
 have hx : ∀ b, H b = none -> b ≠ x := fun b n z => by subst z; rw [n] at mu; exact mu
 have hb : ∀ b, H b = none -> b ≠ e := fun b n z => by
  subst z
  rcases he with r | r
  ·exact hx b n r
  ·rw [n] at r; cases r
 have hm : ∀ b u, H b = some u -> ¬ Mut (some u) -> b ≠ x := fun b u q nm z => by subst z; rw [q] at mu; exact nm mu
 refine ⟨fun b u q n _ _ => k b u (hb b n) q, fun b u q n _ _ => ⟨u.slots, k b u (hb b n) q⟩, fun b u q n _ => by rw [ae (hx b n)]; exact n, fun b u q _ => ?_,
  fun b xs q => by rw [ae (hm b _ q fun z => z)]; exact q, fun b u xs q => by rw [ae (hm b _ q fun z => z)]; exact q, fun b ps q => ⟨#[], by rw [ae (hm b _ q fun z => z), q]; simp⟩⟩
 by_cases hbe : b = e
 ·subst hbe; exact heo
 ·exact ⟨u, k b u hbe q⟩
end
def trk (h : Heap) (H : Hp) : List Addr := (List.range h.objs.size).filter fun a => (H a).isSome
def uo (h : Heap) (H : Hp) : Heap := PySem.W.hideAll h (trk h H)
theorem yj (h : Heap) (H : Hp) : (uo h H).objs.size = h.objs.size := PySem.W.hideAll_size _ _
theorem Ao {h : Heap} {H : Hp} {b : Addr} {o : Obj} (e : h.get? b = some o) (n : H b = none) : (uo h H).get? b = some o :=
 PySem.W.hideAll_get _ e fun hm => by
  have q : (H b).isSome = true := (List.mem_filter.mp hm).2
  rw [n] at q; simp at q
theorem BF {h : Heap} {H : Hp} {b : Addr} {o : Obj} (e : (uo h H).get? b = some o) : h.get? b = some o /\ H b = none := by
 have e' : h.get? b = some o := PySem.W.of_hideAll (trk h H) e
 refine ⟨e', ?_⟩
 cases q : H b with
 | none => rfl
 | some x =>
  have hm : b ∈ trk h H := List.mem_filter.mpr ⟨List.mem_range.mpr (Heap.lt_size e'), by simp [q]⟩
  have z : (uo h H).get? b = none := PySem.W.hideAll_none (trk h H) hm
  rw [z] at e; cases e
def Bm (g h : Heap) (L : Addr) : List (Addr × Obj) := (List.range h.objs.size).filterMap fun a => if a = L \/ (g.get? a).isSome = true then none else (h.get? a).map fun o => (a, o)
def rest (g h : Heap) (L d : Addr) : List (Addr × Obj) := (Bm g h L).filter fun p => decide (p.1 ≠ d)
end L2
namespace L2
open PySem PySem.Spec PyProof.Rows
structure Mod (K : PySem.W.Frag) (mg : Str -> Option Value) (base : Heap) : Prop where
 kin : K.In base
 glob : base.Ns mainGlobals mg
 blt : ∃ mb, base.Ns builtinsNs mb /\ ∀ x : Str, x ≠ "__name__" -> mb x = bootBuiltins x
 nolimit : base.NoLimit
structure Cx where
 prog : Program
 w : World
 K : PySem.W.Frag
 mg : Str -> Option Value
 base : Heap
 A : Around
 N : List Str
 s₀ : Shared
 H₀ : Hp
 env : Env
 outer : List Env
 stack : List Env
 ex : List Addr
 fn : Str -> Bool
 calm : Bool
 pn : List (Addr × Obj)
 xe : Value -> Shared -> Prop
def frs (l : List Env) : List Addr := l.filterMap (·.frame)
abbrev Cx.fs (X : Cx) : List Addr := frs X.outer
def Vis (sc : Scope) (x : Str) : Prop := sc.names.lookup x = some .local \/ sc.names.lookup x = some .cell \/ sc.names.lookup x = some .free
def Loc (sc : Scope) (x : Str) : Prop := sc.names.lookup x = some .local \/ sc.names.lookup x = some .cell
def Look (env : Env) (h : Heap) (m : Str -> Option Value) (x : Str) (u : Value) : Prop :=
 (env.kindOf x = some .local /\ m x = some u) \/ ((env.kindOf x = some .cell \/ env.kindOf x = some .free) /\ ∃ c, env.cells.lookup x = some c /\ h.IsCell c (some u))
structure Cx.Ok (X : Cx) : Prop where
 mod : Mod X.K X.mg X.base
 kind : X.env.scope.kind = .function
 glob : X.env.globals = mainGlobals
 blt : X.env.builtins = builtinsNs
 above : X.s₀.heap.objs.size <= X.env.locals
 inj : ∀ x y c, X.env.cells.lookup x = some c -> X.env.cells.lookup y = some c -> x = y
 has : ∀ x, (X.env.kindOf x = some .cell \/ X.env.kindOf x = some .free) -> ∃ c, X.env.cells.lookup x = some c
 cab : ∀ x c, X.fn x = true -> X.env.cells.lookup x = some c -> X.s₀.heap.objs.size <= c
 hd : X.calm = true -> X.A.handled = none
 frames : X.A.frames = some X.stack
 stk : X.stack = X.outer \/ (X.stack = X.env :: X.outer /\ X.env.frame = some X.env.locals)
 exf : ∀ b ∈ X.ex, b ≠ X.env.locals /\ ∀ x c, X.env.cells.lookup x = some c -> c ≠ b
 bs : ∀ b o, X.base.get? b = some o -> X.s₀.heap.get? b = some o /\ X.H₀ b = none
 bsz : X.base.objs.size <= X.s₀.heap.objs.size
 noex : ∀ b o, X.base.get? b = some o -> b ∉ X.ex
 exfs : ∀ b ∈ X.ex, b ∉ X.fs
 funs : X.s₀.heap.FunFrames X.base X.outer
 frf : ∀ b ∈ X.fs, X.H₀ b = none
structure Inv (X : Cx) (pins : List (Addr × Obj)) (σ : List (Option V)) (H : Hp) (s : Shared) : Prop where
 ok : X.Ok
 os : s.os = X.s₀.os
 bare : AllBare s.gens
 base : Un X.fs X.ex X.H₀ H X.s₀.heap s.heap
 loc : ∃ m, s.heap.Ns X.env.locals m /\ ∀ (i : Nat) (x : Str) (v : V), X.N[i]? = some x -> σ[i]? = some (some v) -> Vis X.env.scope x -> ∃ u, RelV v u /\ Look X.env s.heap m x u
 cell : ∀ x c, X.env.cells.lookup x = some c -> ∃ v, s.heap.IsCell c v
 free : H X.env.locals = none
 freeC : ∀ x c, X.env.cells.lookup x = some c -> H c = none
 pin : ∀ p ∈ X.pn ++ pins, s.heap.get? p.1 = some p.2 /\ H p.1 = none /\ p.1 ≠ X.env.locals /\ p.1 ∉ X.fs /\ ∀ v, p.2.data ≠ .cell v
 hok : HOk X.prog X.w H s.heap
 len : σ.length = X.N.length
section
variable {X : Cx} {pins : List (Addr × Obj)} {σ : List (Option V)} {H H' : Hp} {s : Shared} {h' : Heap}
theorem Cx.Ok.nofr (ok : X.Ok) {b : Addr} {o : Obj} (e : X.base.get? b = some o) : b ∉ X.fs := fun hb => by
 have := (ok.funs.mem hb).1
 rw [e] at this; cases this
theorem Inv.bs (I : Inv X pins σ H s) : ∀ b o, X.base.get? b = some o -> s.heap.get? b = some o /\ H b = none := fun b o e =>
 ⟨I.base.keep b o (I.ok.bs b o e).1 (I.ok.bs b o e).2 (I.ok.nofr e) (I.ok.noex b o e), I.base.free b o (I.ok.bs b o e).1 (I.ok.bs b o e).2 (I.ok.noex b o e)⟩
theorem Inv.bk (I : Inv X pins σ H s) : ∀ b o, X.base.get? b = some o -> s.heap.get? b = some o := fun b o e => (I.bs b o e).1
theorem Inv.mod (I : Inv X pins σ H s) : Mod X.K X.mg X.base := I.ok.mod
theorem Inv.kIn (I : Inv X pins σ H s) : X.K.In s.heap := I.ok.mod.kin.keeps I.bk
theorem Inv.lt (I : Inv X pins σ H s) : X.env.locals < s.heap.objs.size := let ⟨_, hn, _⟩ := I.loc; hn.lt
theorem Inv.sz (I : Inv X pins σ H s) : X.s₀.heap.objs.size <= s.heap.objs.size := Nat.le_trans I.ok.above (Nat.le_of_lt I.lt)
theorem Inv.nofs (I : Inv X pins σ H s) {a : Addr} (h : s.heap.objs.size <= a) : a ∉ X.fs := fun hb => by
 obtain ⟨_, o, ho, _⟩ := I.ok.funs.mem hb
 exact absurd (Nat.lt_of_lt_of_le (Heap.lt_size ho) (Nat.le_trans I.sz h)) (Nat.lt_irrefl _)
theorem Inv.cne (I : Inv X pins σ H s) : ∀ x c, X.env.cells.lookup x = some c -> c ≠ X.env.locals := fun x c e z => by
 obtain ⟨v, o, ho, hd⟩ := I.cell x c e
 obtain ⟨m, ⟨o', es, ep, ho', hd', _⟩, _⟩ := I.loc
 rw [z, ho'] at ho; cases ho; rw [hd'] at hd; cases hd
theorem Inv.funs (I : Inv X pins σ H s) : s.heap.FunFrames X.base X.outer := by
 have all : ∀ (l : List Env), (∀ b ∈ frs l, b ∈ X.fs) -> X.s₀.heap.FunFrames X.base l -> s.heap.FunFrames X.base l := by
  intro l
  induction l with
  | nil => intro _ _; trivial
  | cons env r ih =>
   intro hs hl
   obtain ⟨hk, ⟨L, o, hf, hn, ho, hd⟩, hr⟩ := hl
   have hL : L ∈ X.fs := hs L (by unfold frs; rw [List.filterMap_cons, hf]; exact List.mem_cons_self)
   obtain ⟨sl, e⟩ := I.base.slot L o ho (I.ok.frf L hL) hL fun z => I.ok.exfs L z hL
   exact ⟨hk, ⟨L, _, hf, hn, e, hd⟩, ih (fun b hb => hs b (by unfold frs; rw [List.filterMap_cons, hf]; exact List.mem_cons_of_mem _ hb)) hr⟩
 exact all X.outer (fun _ hb => hb) I.ok.funs
theorem Inv.stack (I : Inv X pins σ H s) : s.heap.FunFrames X.base X.stack := by
 rcases I.ok.stk with e | ⟨e, hf⟩
 ·rw [e]; exact I.funs
 ·rw [e]
  obtain ⟨m, hn, _⟩ := I.loc
  refine .cons (by rw [I.ok.kind]; decide) hf hn ?_ I.funs
  exact Heap.get?_none_of_le (Nat.le_trans I.ok.bsz I.ok.above)
theorem Inv.stkSub (I : Inv X pins σ H s) : ∀ b ∈ frs X.stack, b ∈ X.env.locals :: X.fs := fun b hb => by
 rcases I.ok.stk with e | ⟨e, hf⟩
 ·rw [e] at hb; exact List.mem_cons_of_mem _ hb
 ·rw [e] at hb
  unfold frs at hb
  rw [List.filterMap_cons, hf] at hb
  exact hb
theorem Inv.stkFree (I : Inv X pins σ H s) : ∀ b ∈ frs X.stack, H b = none := fun b hb => by
 rcases List.mem_cons.mp (I.stkSub b hb) with e | hb
 ·rw [e]; exact I.free
 ·obtain ⟨_, o, ho, _⟩ := I.ok.funs.mem hb
  exact I.base.free b o ho (I.ok.frf b hb) fun z => I.ok.exfs b z hb
theorem Inv.step {g' : Array GenState} {t' : Nat} {d' : Drawn} {ch : List Addr} (I : Inv X pins σ H s)
  (hch : ∀ b ∈ ch, (b ∈ X.ex \/ X.s₀.heap.objs.size <= b) /\ b ≠ X.env.locals /\ (∀ x c, X.env.cells.lookup x = some c -> c ≠ b) /\ ∀ p ∈ X.pn ++ pins, p.1 ≠ b)
  (keep : ∀ b o, b ≠ X.env.locals -> b ∉ X.fs -> b ∉ ch -> s.heap.get? b = some o -> H b = none -> h'.get? b = some o)
  (slot : ∀ b o, b ≠ X.env.locals -> b ∈ X.fs -> b ∉ ch -> s.heap.get? b = some o -> H b = none -> ∃ sl, h'.get? b = some { o with slots := sl }) (free : ∀ b o, b ∉ ch -> s.heap.get? b = some o -> H b = none -> H' b = none)
  (there : ∀ b o, b ∉ ch -> s.heap.get? b = some o -> ∃ o', h'.get? b = some o')
  (tups : ∀ b xs, H b = some (.tup xs) -> H' b = some (.tup xs)) (frzs : ∀ b o u, H b = some (.frz o u) -> H' b = some (.frz o u)) (tbls : ∀ b ps, H b = some (.tbl ps) -> ∃ more, H' b = some (.tbl (ps ++ more)))
  (ns : ∀ m, s.heap.Ns X.env.locals m -> h'.Ns X.env.locals m) (hok : HOk X.prog X.w H' h') (hg : AllBare g') :
  Inv X pins σ H' { s with heap := h', gens := g', drawn := d', toks := t' } := by
 have neL : ∀ b o, X.s₀.heap.get? b = some o -> b ≠ X.env.locals := fun b o e => Nat.ne_of_lt (Nat.lt_of_lt_of_le (Heap.lt_size e) I.ok.above)
 have neC : ∀ b o, X.s₀.heap.get? b = some o -> b ∉ X.ex -> b ∉ ch := fun b o e hx hb => by
  rcases (hch b hb).1 with z | z
  ·exact hx z
  ·exact absurd (Nat.lt_of_lt_of_le (Heap.lt_size e) z) (Nat.lt_irrefl _)
 have cellK : ∀ x c, X.env.cells.lookup x = some c -> ∀ v, s.heap.IsCell c v -> h'.IsCell c v := fun x c e v ⟨o, ho, hd⟩ => by
  have nch : c ∉ ch := fun z => (hch c z).2.2.1 x c e rfl
  by_cases hc : c ∈ X.fs
  ·obtain ⟨sl, q⟩ := slot c o (I.cne x c e) hc nch ho (I.freeC x c e)
   exact ⟨_, q, hd⟩
  ·exact ⟨o, keep c o (I.cne x c e) hc nch ho (I.freeC x c e), hd⟩
 refine ⟨I.ok, I.os, hg, ⟨fun b o e n hb hx => ?_, fun b o e n hb hx => ?_, fun b o e n hx => ?_, fun b o e hx => ?_, fun b xs e => tups b xs (I.base.tups b xs e), fun b o xs e => frzs b o xs (I.base.frzs b o xs e), fun b ps e => ?_⟩, ?_, fun x c e => ?_, ?_, fun x c e => ?_, fun p hp => ?_, hok, I.len⟩
 ·exact keep b o (neL b o e) hb (neC b o e hx) (I.base.keep b o e n hb hx) (I.base.free b o e n hx)
 ·obtain ⟨sl, e1⟩ := I.base.slot b o e n hb hx
  obtain ⟨sl', e2⟩ := slot b _ (neL b o e) hb (neC b o e hx) e1 (I.base.free b o e n hx)
  exact ⟨sl', e2⟩
 ·obtain ⟨o', e1⟩ := I.base.there b o e hx
  exact free b o' (neC b o e hx) e1 (I.base.free b o e n hx)
 ·obtain ⟨o', e1⟩ := I.base.there b o e hx
  exact there b o' (neC b o e hx) e1
 ·obtain ⟨m1, e1⟩ := I.base.tbls b ps e
  obtain ⟨m2, e2⟩ := tbls b _ e1
  exact ⟨m1 ++ m2, by rw [e2, Array.append_assoc]⟩
 ·obtain ⟨m, hn, hl⟩ := I.loc
  refine ⟨m, ns m hn, fun i x v e1 e2 e3 => ?_⟩
  obtain ⟨u, r, l⟩ := hl i x v e1 e2 e3
  refine ⟨u, r, ?_⟩
  rcases l with l | ⟨k, c, e, z⟩
  ·exact .inl l
  ·exact .inr ⟨k, c, e, cellK x c e _ z⟩
 ·obtain ⟨v, z⟩ := I.cell x c e
  exact ⟨v, cellK x c e v z⟩
 ·obtain ⟨m, ⟨o, _, _, ho, _⟩, _⟩ := I.loc
  exact free _ o (fun z => (hch _ z).2.1 rfl) ho I.free
 ·obtain ⟨v, o, ho, hd⟩ := I.cell x c e
  exact free c o (fun z => (hch c z).2.2.1 x c e rfl) ho (I.freeC x c e)
 ·obtain ⟨e, n, ne, nf, d⟩ := I.pin p hp
  have nch : p.1 ∉ ch := fun z => (hch p.1 z).2.2.2 p hp rfl
  exact ⟨keep p.1 p.2 ne nf nch e n, free p.1 p.2 nch e n, ne, nf, d⟩
theorem Inv.un {t' : Nat} (I : Inv X pins σ H s) (u : Un X.fs [] H H' s.heap h') (hok : HOk X.prog X.w H' h') : Inv X pins σ H' { s with heap := h', toks := t' } := by
 obtain ⟨m, ⟨o, es, ep, ho, r⟩, _⟩ := id I.loc
 obtain ⟨sl, hL⟩ := u.any ho I.free (by simp)
 exact I.step (g' := s.gens) (d' := s.drawn) (ch := []) (fun _ z => nomatch z) (fun b o _ hb _ e n => u.keep b o e n hb (by simp)) (fun b o _ hb _ e n => u.slot b o e n hb (by simp)) (fun b o _ e n => u.free b o e n (by simp)) (fun b o _ e => u.there b o e (by simp)) u.tups u.frzs u.tbls (fun m' hm => by
  obtain ⟨o', es', ep', ho', r'⟩ := hm
  rw [ho] at ho'; cases ho'
  exact ⟨_, es', ep', hL, r'⟩) hok I.bare
theorem Inv.call {g' : Array GenState} {t' : Nat} {d' : Drawn} {ch : List Addr} (I : Inv X pins σ H s) (u : Un (frs X.stack) ch H H' s.heap h') (hok : HOk X.prog X.w H' h') (hg : AllBare g')
  (hch : ∀ b ∈ ch, (b ∈ X.ex \/ X.s₀.heap.objs.size <= b) /\ b ≠ X.env.locals /\ (∀ x c, X.env.cells.lookup x = some c -> c ≠ b) /\ ∀ p ∈ X.pn ++ pins, p.1 ≠ b) :
  Inv X pins σ H' { s with heap := h', gens := g', drawn := d', toks := t' } := by
 obtain ⟨m, ⟨o, es, ep, ho, r⟩, _⟩ := id I.loc
 obtain ⟨sl, hL⟩ := u.any ho I.free fun z => (hch _ z).2.1 rfl
 exact I.step (ch := ch) hch (fun b o hL hb hc e n => u.keep b o e n (fun z => (List.mem_cons.mp (I.stkSub b z)).elim hL hb) hc) (fun b o _ _ hc e n => u.any e n hc) (fun b o hc e n => u.free b o e n hc) (fun b o hc e => u.there b o e hc) u.tups u.frzs u.tbls (fun m' hm => by
  obtain ⟨o', es', ep', ho', r'⟩ := hm
  rw [ho] at ho'; cases ho'
  exact ⟨_, es', ep', hL, r'⟩) hok hg
theorem Inv.turned {t' : Nat} {it : Addr} (I : Inv X pins σ H s) (k : ∀ b o, b ≠ it -> s.heap.get? b = some o -> h'.get? b = some o) (hn : H it = none) (hL : it ≠ X.env.locals)
  (h1 : it ∈ X.ex \/ X.s₀.heap.objs.size <= it) (h2 : ∀ x c, X.env.cells.lookup x = some c -> c ≠ it) (h3 : ∀ p ∈ X.pn ++ pins, p.1 ≠ it) : Inv X pins σ H { s with heap := h', toks := t' } := by
 have nit : ∀ b u, H b = some u -> b ≠ it := fun b u e z => by rw [z, hn] at e; cases e
 refine I.step (g' := s.gens) (d' := s.drawn) (ch := [it]) (fun b hb => ?_) (fun b o _ _ hc e _ => k b o (fun z => hc (by simp [z])) e) (fun b o _ _ hc e _ => ⟨o.slots, k b o (fun z => hc (by simp [z])) e⟩) (fun _ _ _ _ n => n)
  (fun b o hc e => ⟨o, k b o (fun z => hc (by simp [z])) e⟩) (fun _ _ e => e) (fun _ _ _ e => e) (fun b ps e => ⟨#[], by rw [e]; simp⟩) (fun m hm => ?_) (fun b u e => ?_) I.bare
 ·have e : b = it := by simpa using hb
  subst e
  exact ⟨h1, hL, h2, h3⟩
 ·obtain ⟨o, es, ep, ho, r⟩ := hm
  exact ⟨o, es, ep, k _ o (Ne.symm hL) ho, r⟩
 ·refine (I.hok b u e).stay (fun c v hc q => k c v ?_ q) (fun _ q => q) fun _ _ q => q
  rcases hc with z | z
  ·rw [z]; exact nit b u e
  ·exact nit c _ z
theorem Inv.tok (I : Inv X pins σ H s) (t : Nat) : Inv X pins σ H { s with toks := t } := I.un (h' := s.heap) (t' := t) Un.refl I.hok
theorem Inv.kept {t' : Nat} (I : Inv X pins σ H s) (k : ∀ b u, s.heap.get? b = some u -> h'.get? b = some u) : Inv X pins σ H { s with heap := h', toks := t' } := I.un (Un.kept k) (I.hok.kept k)
theorem Inv.laid {a : Addr} {o : HO} {t' : Nat} (I : Inv X pins σ H s) (k : ∀ b u, s.heap.get? b = some u -> h'.get? b = some u) (hp : s.heap.objs.size <= a) (new : ObjOk X.prog X.w (upd H a o) h' a o) :
  Inv X pins σ (upd H a o) { s with heap := h', toks := t' } := I.un (Un.laid k hp (I.hok.fresh hp)) (I.hok.laid k hp new)
theorem Inv.write {x e : Addr} {o : HO} {t' : Nat} (I : Inv X pins σ H s) (mu : Mut (H x)) (he : e = x \/ H e = some (.own x)) (k : ∀ b u, b ≠ e -> s.heap.get? b = some u -> h'.get? b = some u) (heo : ∃ u, h'.get? e = some u)
  (new : ObjOk X.prog X.w (upd H x o) h' x o) : Inv X pins σ (upd H x o) { s with heap := h', toks := t' } := I.un (Un.write mu he k heo) (I.hok.write mu he k heo new)
theorem Inv.pins_of {pins' : List (Addr × Obj)} (I : Inv X pins σ H s) (h : ∀ p ∈ pins', s.heap.get? p.1 = some p.2 /\ H p.1 = none /\ p.1 ≠ X.env.locals /\ p.1 ∉ X.fs /\ ∀ v, p.2.data ≠ .cell v) : Inv X pins' σ H s :=
 ⟨I.ok, I.os, I.bare, I.base, I.loc, I.cell, I.free, I.freeC, fun p hp => (List.mem_append.mp hp).elim (fun z => I.pin p (List.mem_append_left _ z)) (h p), I.hok, I.len⟩
theorem uZ {N : List Str} (hN : N.Nodup) {i j : Nat} {x : Str} (a : N[i]? = some x) (b : N[j]? = some x) : i = j := by
 obtain ⟨h1, e1⟩ := List.getElem?_eq_some_iff.mp a
 obtain ⟨h2, e2⟩ := List.getElem?_eq_some_iff.mp b
 exact (List.getElem_inj hN).mp (e1.trans e2.symm)
theorem nX {M : Model} {A : Around} {E : Value -> Shared -> Prop} {i : Nat} {x : Str} {v : V} {u : Value} {Q : Unit -> Shared -> Prop} (I : Inv X pins σ H s) (hN : X.N.Nodup) (hi : X.N[i]? = some x) (hx : Loc X.env.scope x) (r : RelV v u)
  (h : ∀ s', Inv X pins (σ.set i (some v)) H s' -> (∃ a, Heap.SameBut a s.heap s'.heap /\ (a = X.env.locals \/ X.env.cells.lookup x = some a)) -> Q () s') (hf : X.fn x = true \/ X.env.scope.names.lookup x = some .local := by first | exact .inl rfl | exact .inr rfl | assumption) : wpAny M A (storeName X.env x u) Q E s := by
 obtain ⟨m, hn, hl⟩ := id I.loc
 have hcls : (X.env.scope.kind == .class || (X.env.scope.kind == .module && X.env.locals != X.env.globals)) = false := by rw [I.ok.kind]; rfl
 have hiσ : i < σ.length := by rw [I.len]; exact (List.getElem?_eq_some_iff.mp hi).1
 have cne := I.cne
 have tracked : ∀ {a : Addr} {h' : Heap}, (∃ o, s.heap.get? a = some o /\ H a = none) -> Heap.SameBut a s.heap h' -> HOk X.prog X.w H h' := fun {a h'} ha hs b ob e => by
  obtain ⟨_, _, hfree⟩ := ha
  refine (I.hok b ob e).stay (fun c w' hc q => (hs.2 c ?_).trans q) (fun _ q => q) fun _ _ q => q
  rintro rfl
  rcases hc with rfl | hc
  ·rw [hfree] at e; cases e
  ·rw [hfree] at hc; cases hc
 rcases hx with hk | hk
 ·refine wpAny_storeName_local hk hn (fun h' hn' hs => ?_) hcls
  obtain ⟨oL, _, _, hoL, _⟩ := id hn
  refine h _ ⟨I.ok, I.os, I.bare, ⟨fun b o e n hb hx => ?_, fun b o e n hb hx => ?_, I.base.free, fun b o e hx => ?_, I.base.tups, I.base.frzs, I.base.tbls⟩, ⟨_, hn', fun j y v' e1 e2 e3 => ?_⟩, fun y c e => ?_, I.free, I.freeC, fun p hp => ?_, tracked ⟨oL, hoL, I.free⟩ hs, by simpa using I.len⟩ ⟨_, hs, .inl rfl⟩
  ·exact (hs.2 b (Nat.ne_of_lt (Nat.lt_of_lt_of_le (Heap.lt_size e) I.ok.above))).trans (I.base.keep b o e n hb hx)
  ·obtain ⟨sl, e1⟩ := I.base.slot b o e n hb hx
   exact ⟨sl, (hs.2 b (Nat.ne_of_lt (Nat.lt_of_lt_of_le (Heap.lt_size e) I.ok.above))).trans e1⟩
  ·obtain ⟨o', e1⟩ := I.base.there b o e hx
   exact ⟨o', (hs.2 b (Nat.ne_of_lt (Nat.lt_of_lt_of_le (Heap.lt_size e) I.ok.above))).trans e1⟩
  ·by_cases hj : j = i
   ·subst hj
    rw [hi] at e1; cases e1
    rw [List.getElem?_set_self hiσ] at e2
    cases e2
    exact ⟨u, r, .inl ⟨hk, by simp⟩⟩
   ·rw [List.getElem?_set_ne (Ne.symm hj)] at e2
    obtain ⟨u', r', q⟩ := hl j y v' e1 e2 e3
    refine ⟨u', r', ?_⟩
    rcases q with ⟨k, e⟩ | ⟨k, c, e, z⟩
    ·refine .inl ⟨k, ?_⟩
     have : y ≠ x := fun e => hj (uZ hN e1 (e ▸ hi))
     simp [this, e]
    ·exact .inr ⟨k, c, e, z.sameBut hs (cne y c e)⟩
  ·obtain ⟨w', z⟩ := I.cell y c e
   exact ⟨w', z.sameBut hs (cne y c e)⟩
  ·obtain ⟨e, n, ne, nf, d⟩ := I.pin p hp
   exact ⟨(hs.2 p.1 ne).trans e, n, ne, nf, d⟩
 ·have hfn : X.fn x = true := by
   rcases hf with z | z
   ·exact z
   ·rw [z] at hk; cases hk
  obtain ⟨c, hc⟩ := I.ok.has x (.inl hk)
  obtain ⟨w', z⟩ := I.cell x c hc
  refine wpAny_storeName_cell I.ok.kind hk hc z (fun h' hc' hs => ?_)
  obtain ⟨oc, hoc, hocd⟩ := id z
  refine h { s with heap := h' } ⟨I.ok, I.os, I.bare, ⟨fun b o e n hb hx => ?_, fun b o e n hb hx => ?_, I.base.free, fun b o e hx => ?_, I.base.tups, I.base.frzs, I.base.tbls⟩, ⟨m, hn.sameBut hs (Ne.symm (cne x c hc)), fun j y v' e1 e2 e3 => ?_⟩, fun y c' e => ?_, I.free, I.freeC, fun p hp => ?_, tracked ⟨oc, hoc, I.freeC x c hc⟩ hs, by simpa using I.len⟩ ⟨c, hs, .inr hc⟩
  ·exact (hs.2 b (Nat.ne_of_lt (Nat.lt_of_lt_of_le (Heap.lt_size e) (I.ok.cab x c hfn hc)))).trans (I.base.keep b o e n hb hx)
  ·obtain ⟨sl, e1⟩ := I.base.slot b o e n hb hx
   exact ⟨sl, (hs.2 b (Nat.ne_of_lt (Nat.lt_of_lt_of_le (Heap.lt_size e) (I.ok.cab x c hfn hc)))).trans e1⟩
  ·obtain ⟨o', e1⟩ := I.base.there b o e hx
   exact ⟨o', (hs.2 b (Nat.ne_of_lt (Nat.lt_of_lt_of_le (Heap.lt_size e) (I.ok.cab x c hfn hc)))).trans e1⟩
  ·by_cases hj : j = i
   ·subst hj
    rw [hi] at e1; cases e1
    rw [List.getElem?_set_self hiσ] at e2
    cases e2
    exact ⟨u, r, .inr ⟨.inl hk, c, hc, hc'⟩⟩
   ·rw [List.getElem?_set_ne (Ne.symm hj)] at e2
    obtain ⟨u', r', q⟩ := hl j y v' e1 e2 e3
    refine ⟨u', r', ?_⟩
    rcases q with q | ⟨k, c', e, z'⟩
    ·exact .inl q
    ·refine .inr ⟨k, c', e, z'.sameBut hs ?_⟩
     rintro rfl
     exact hj (uZ hN e1 (I.ok.inj _ _ _ e hc ▸ hi))
  ·by_cases hcc : c' = c
   ·subst hcc; exact ⟨_, hc'⟩
   ·obtain ⟨w2, z2⟩ := I.cell y c' e
    exact ⟨w2, z2.sameBut hs hcc⟩
  ·obtain ⟨e, n, ne, nf, d⟩ := I.pin p hp
   refine ⟨(hs.2 p.1 ?_).trans e, n, ne, nf, d⟩
   intro q
   rw [q, hoc] at e
   have q' : oc = p.2 := Option.some.inj e
   exact d w' (by rw [<- q']; exact hocd)
theorem vx {M : Model} {A : Around} {E : Value -> Shared -> Prop} {i : Nat} {x : Str} {v : V} {u : Value} {Q : Unit -> Shared -> Prop} (I : Inv X pins σ H s) (hN : X.N.Nodup) (hi : X.N[i]? = some x) (hx : Loc X.env.scope x) (r : RelV v u)
  (h : ∀ s', Inv X pins (σ.set i (some v)) H s' -> Q () s') (hf : X.fn x = true \/ X.env.scope.names.lookup x = some .local := by first | exact .inl rfl | exact .inr rfl | assumption) : wpAny M A (storeName X.env x u) Q E s :=
 nX I hN hi hx r (fun s' I' _ => h s' I') hf
theorem Inv.call' {s' : Shared} {ch : List Addr} (I : Inv X pins σ H s) (ho : s'.os = s.os) (u : Un (frs X.stack) ch H H' s.heap s'.heap) (hok : HOk X.prog X.w H' s'.heap) (hg : AllBare s'.gens)
  (hch : ∀ b ∈ ch, (b ∈ X.ex \/ X.s₀.heap.objs.size <= b) /\ b ≠ X.env.locals /\ (∀ x c, X.env.cells.lookup x = some c -> c ≠ b) /\ ∀ p ∈ X.pn ++ pins, p.1 ≠ b) : Inv X pins σ H' s' := by
 obtain ⟨h', g', d', t', o'⟩ := s'
 have e : o' = s.os := ho
 subst e
 exact I.call (g' := g') (t' := t') (d' := d') u hok hg hch
end
abbrev XK := Value -> Option Addr -> Hp -> Prop
abbrev St := List (Option V)
abbrev VK := V -> Hp -> Prop
abbrev TE := St -> Hp -> VK -> Prop
abbrev TT := St -> Hp -> (Bool -> Hp -> Prop) -> Prop
abbrev TA := St -> Hp -> (List V -> Hp -> Prop) -> Prop
structure Ends where
 nx : St -> Hp -> Prop
 rt : VK
 bk : St -> Hp -> Prop := fun _ _ => False
 ct : St -> Hp -> Prop := fun _ _ => False
abbrev TS := Ends -> St -> Hp -> Prop
def EP (X : Cx) (pins : List (Addr × Obj)) (σ : St) (Q : VK) (u : Value) (s' : Shared) : Prop := ∃ v H', Inv X pins σ H' s' /\ RelV v u /\ Q v H'
def TP (X : Cx) (pins : List (Addr × Obj)) (σ : St) (Q : Bool -> Hp -> Prop) (b : Bool) (s' : Shared) : Prop := ∃ H', Inv X pins σ H' s' /\ Q b H'
def AP (X : Cx) (pins : List (Addr × Obj)) (σ : St) (Q : List V -> Hp -> Prop) (us : List Value) (s' : Shared) : Prop := ∃ vs H', Inv X pins σ H' s' /\ Vals vs us /\ Q vs H'
def SP (X : Cx) (pins : List (Addr × Obj)) (D : Ends) (f : Flow) (s' : Shared) : Prop :=
 match f with
 | .next => ∃ σ' H', Inv X pins σ' H' s' /\ D.nx σ' H'
 | .brk => ∃ σ' H', Inv X pins σ' H' s' /\ D.bk σ' H'
 | .cont => ∃ σ' H', Inv X pins σ' H' s' /\ D.ct σ' H'
 | .ret u => ∃ v σ' H', Inv X pins σ' H' s' /\ RelV v u /\ D.rt v H'
def PE (X : Cx) (e : Expr) (t : TE) : Prop :=
 ∀ (pins : List (Addr × Obj)) (s : Shared) (σ : St) (H : Hp) (Q : VK), Inv X pins σ H s -> t σ H Q -> wpAny (model X.prog X.w) X.A (eval e X.env) (EP X pins σ Q) X.xe s
def PT (X : Cx) (e : Expr) (t : TT) : Prop :=
 ∀ (pins : List (Addr × Obj)) (s : Shared) (σ : St) (H : Hp) (Q : Bool -> Hp -> Prop), Inv X pins σ H s -> t σ H Q -> wpAny (model X.prog X.w) X.A (isTrue e X.env (eval e X.env)) (TP X pins σ Q) X.xe s
def PW (X : Cx) (e : Expr) (t : TT) : Prop :=
 ∀ (whole : Sem Value) (pins : List (Addr × Obj)) (s : Shared) (σ : St) (H : Hp) (Q : Bool -> Hp -> Prop), Inv X pins σ H s -> t σ H Q -> wpAny (model X.prog X.w) X.A (isTrue e X.env whole) (TP X pins σ Q) X.xe s
theorem PW.pt {X : Cx} {e : Expr} {t : TT} (h : PW X e t) : PT X e t := h _
def PA (X : Cx) (es : List Expr) (t : TA) : Prop :=
 ∀ (pos : Pos) (pins : List (Addr × Obj)) (s : Shared) (σ : St) (H : Hp) (Q : List V -> Hp -> Prop), Inv X pins σ H s -> t σ H Q -> wpAny (model X.prog X.w) X.A (spliced (backTo pos (starEach es X.env))) (AP X pins σ Q) X.xe s
def PS (X : Cx) (st : Stmt) (t : TS) : Prop :=
 ∀ (pins : List (Addr × Obj)) (s : Shared) (σ : St) (H : Hp) (D : Ends), Inv X pins σ H s -> t D σ H -> wpAny (model X.prog X.w) X.A (exec st X.env) (SP X pins D) X.xe s
def PSs (X : Cx) (st : List Stmt) (t : TS) : Prop :=
 ∀ (pins : List (Addr × Obj)) (s : Shared) (σ : St) (H : Hp) (D : Ends), Inv X pins σ H s -> t D σ H -> wpAny (model X.prog X.w) X.A (execs st X.env) (SP X pins D) X.xe s
theorem thn {α : Type} {t : Sem α} {Q Q' : α -> Shared -> Prop} {M : Model} {A : Around} {E : Value -> Shared -> Prop} {s : Shared} (h : wpAny M A t Q E s) (hQ : ∀ a s, Q a s -> Q' a s) : wpAny M A t Q' E s := wpAny_mono h hQ fun _ _ x => x
end L2
namespace L2
open PySem PySem.Spec PyProof.Rows
section
variable {X : Cx}
def C4 (i : Nat) : TE := fun σ H Q => ∃ v, σ[i]? = some (some v) /\ Q v H
def tC (v : V) : TE := fun _ H Q => Q v H
theorem Cf {i : Nat} {x : Str} {pos : Pos} (hN : X.N[i]? = some x) (hv : Vis X.env.scope x) (hd : (x == ("__debug__" : Str)) = false := by decide) (hcd : (x == ("__classdict__" : Str)) = false := by decide) : PE X (.Name x pos) (C4 i) := by
 intro pins s σ H Q I h
 obtain ⟨v, e, h⟩ := h
 obtain ⟨m, hn, hl⟩ := I.loc
 obtain ⟨u, r, l⟩ := hl i x v hN e hv
 have fin : EP X pins σ Q u s := ⟨v, H, I, r, h⟩
 rcases l with ⟨hk, hm⟩ | ⟨hk, c, hc, hcell⟩
 ·exact wpAny_Name (wpAny_loadName_local I.ok.kind hk hn hm fin) hd
 ·rcases hk with hk | hk
  ·exact wpAny_Name (wpAny_loadName_cell I.ok.kind hk hc hcell fin) hd
  ·exact wpAny_Name (wpAny_loadName_free I.ok.kind hk hc hcell fin hcd) hd
theorem ay {i j pos} : PE X (.Constant (.int i) j pos) (tC (.int i)) := fun _ _ _ H _ I h => wpAny_Constant_int ⟨.int i, H, I.tok _, ⟨_, rfl⟩, h⟩
theorem eA {b j pos} : PE X (.Constant (.bool b) j pos) (tC (.bl b)) := fun _ _ _ H _ I h => Constant_bool ⟨.bl b, H, I, rfl, h⟩
theorem zL {j pos} : PE X (.Constant .none j pos) (tC .non) := fun _ _ _ H _ I h => Constant_none ⟨.non, H, I, rfl, h⟩
def Gl (X : Cx) (x : Str) : Prop := X.env.kindOf x = some .globalImplicit
theorem xZ {E : Value -> Shared -> Prop} {pins : List (Addr × Obj)} {s : Shared} {σ : St} {H : Hp} {x : Str} {u : Value} {pos : Pos} {Q : Value -> Shared -> Prop} (I : Inv X pins σ H s) (hg : Gl X x) (hm : X.mg x = some u) (h : Q u s)
  (hd : (x == ("__debug__" : Str)) = false := by decide) : wpAny (model X.prog X.w) X.A (eval (.Name x pos) X.env) Q E s :=
 Calls.Name_function_global I.ok.kind hg (Calls.loadGlobal_global (by rw [I.ok.glob]; exact I.mod.glob.keeps I.bk) hm h) hd
theorem jA {E : Value -> Shared -> Prop} {pins : List (Addr × Obj)} {s : Shared} {σ : St} {H : Hp} {x : Str} {u : Value} {pos : Pos} {Q : Value -> Shared -> Prop} (I : Inv X pins σ H s) (hg : Gl X x) (hm : X.mg x = none) (hv : bootBuiltins x = some u) (h : Q u s)
  (hn : x ≠ "__name__" := by decide) (hd : (x == ("__debug__" : Str)) = false := by decide) : wpAny (model X.prog X.w) X.A (eval (.Name x pos) X.env) Q E s := by
 obtain ⟨mb, h1, h2⟩ := I.mod.blt
 exact Calls.Name_function_global I.ok.kind hg (Calls.loadGlobal_builtin (by rw [I.ok.glob]; exact I.mod.glob.keeps I.bk) hm (by rw [I.ok.blt]; exact h1.keeps I.bk) ((h2 x hn).trans hv) h) hd
theorem jV {x : Str} {v : V} {u : Value} {pos : Pos} (hg : Gl X x) (hm : X.mg x = none) (hv : bootBuiltins x = some u) (r : RelV v u) (hn : x ≠ "__name__" := by decide) (hd : (x == ("__debug__" : Str)) = false := by decide) : PE X (.Name x pos) (tC v) :=
 fun _ _ _ H _ I h => jA I hg hm hv ⟨v, H, I, r, h⟩ hn hd
variable {a b : Expr} {ta tb : TE} {pos : Pos}
def PC (X : Cx) (op : CmpOp) (a b : Expr) (t : TE) : Prop :=
 ∀ (pins : List (Addr × Obj)) (s : Shared) (σ : St) (H : Hp) (Q : VK), Inv X pins σ H s -> t σ H Q ->
  wpAny (model X.prog X.w) X.A (eval a X.env) (fun v s₁ => wpAny (model X.prog X.w) X.A (eval b X.env) (fun u s₂ => wpAny (model X.prog X.w) X.A (compareOp op v u) (EP X pins σ Q) X.xe s₂) X.xe s₁) X.xe s
theorem zj (b : Expr) {op : CmpOp} (h : op ≠ .In) (h2 : op ≠ .NotIn) : behindInMarks op b = false := by
 have e1 : (op == CmpOp.In) = false := by cases op <;> first | rfl | exact absurd rfl h
 have e2 : (op == CmpOp.NotIn) = false := by cases op <;> first | rfl | exact absurd rfl h2
 cases b <;> simp [behindInMarks, e1, e2]
def tB (t : TE) : TT := fun σ H Q => t σ H fun x H1 => ∃ c, x = .bl c /\ Q c H1
theorem tW {op : CmpOp} {t : TE} (h : PC X op a b t) (h1 : behindInMarks op b = false := by first | exact zj _ (by decide) (by decide) | rfl) : PT X (.Compare a [op] [b] pos) (tB t) := by
 intro pins s σ H Q I hw
 refine wpAny_isTrue_Compare1 (thn (h pins s σ H _ I hw) fun v s1 h1 => thn h1 fun u s2 h2 => thn h2 fun c s3 ⟨x, H1, I1, r1, q1⟩ => ?_) h1
 obtain ⟨d, rfl, q⟩ := q1
 cases r1
 exact wpAny_truthy_bool ⟨H1, I1, q⟩
theorem fc {e : Expr} {t : TE} (h : PE X e t) (he : ∀ whole, isTrue e X.env whole = (do let v <- whole; standAt e.pos; holding [v] (truthy v)) := by intro _; rfl) : PT X e (tB t) := by
 intro pins s σ H Q I hw
 refine isTrue_plain (thn (h pins s σ H _ I hw) fun v s1 ⟨x, H1, I1, r1, q1⟩ => ?_) (he _)
 obtain ⟨d, rfl, q⟩ := q1
 cases r1
 exact wpAny_truthy_bool ⟨H1, I1, q⟩
variable {tA tB' : TT} {rest : List Expr}
def Di (t u : TT) : TT := fun σ H Q => t σ H fun c H1 => if c = true then u σ H1 Q else Q false H1
def tOr (t u : TT) : TT := fun σ H Q => t σ H fun c H1 => if c = true then Q true H1 else u σ H1 Q
def Du (t : TT) : TT := fun σ H Q => t σ H fun c H1 => Q (!c) H1
theorem BI (ha : PT X a tA) : PW X (.BoolOp .And [a] pos) tA := by
 intro wh pins s σ H Q I h
 refine isTrue_and (thn (ha pins s σ H Q I h) fun c s1 e => ?_)
 cases c with
 | true => exact isTrue_and_nil e
 | false => exact e
theorem ko (ha : PT X a tA) : PW X (.BoolOp .Or [a] pos) tA := by
 intro wh pins s σ H Q I h
 refine isTrue_or (thn (ha pins s σ H Q I h) fun c s1 e => ?_)
 cases c with
 | false => exact isTrue_or_nil e
 | true => exact e
theorem Cv (ha : PT X a tA) (hb : PW X (.BoolOp .And (b :: rest) pos) tB') : PW X (.BoolOp .And (a :: b :: rest) pos) (Di tA tB') := by
 intro wh pins s σ H Q I h
 refine isTrue_and (thn (ha pins s σ H _ I h) fun c s1 ⟨H1, I1, q1⟩ => ?_)
 cases c with
 | true => exact hb wh pins s1 σ H1 Q I1 q1
 | false => exact ⟨H1, I1, q1⟩
theorem ke (ha : PT X a tA) (hb : PW X (.BoolOp .Or (b :: rest) pos) tB') : PW X (.BoolOp .Or (a :: b :: rest) pos) (tOr tA tB') := by
 intro wh pins s σ H Q I h
 refine isTrue_or (thn (ha pins s σ H _ I h) fun c s1 ⟨H1, I1, q1⟩ => ?_)
 cases c with
 | true => exact ⟨H1, I1, q1⟩
 | false => exact hb wh pins s1 σ H1 Q I1 q1
theorem gm (ha : PT X a tA) : PT X (.UnaryOp .Not a pos) (Du tA) := by
 intro pins s σ H Q I h
 exact isTrue_not (ha pins s σ H (fun c H1 => Q (!c) H1) I h)
def C2 (ta tb : TE) : TE := fun σ H Q => ta σ H fun x H1 => ∃ c, x = .bl c /\ if c = true then tb σ H1 Q else Q (.bl false) H1
theorem zI {op} {t : TE} (h : PE X a t) : PE X (.BoolOp op [a] pos) t := fun pins s σ H Q I hw => BoolOp_one (h pins s σ H Q I hw)
theorem xp (ha : PE X a ta) (hb : PE X (.BoolOp .And (b :: rest) pos) tb) : PE X (.BoolOp .And (a :: b :: rest) pos) (C2 ta tb) := by
 intro pins s σ H Q I h
 refine BoolOp_and (thn (ha pins s σ H _ I h) fun v s1 ⟨x, H1, I1, r1, q1⟩ => ?_)
 obtain ⟨c, rfl, q1⟩ := q1
 cases r1
 refine wpAny_truthy_bool ?_
 cases c with
 | true => exact hb pins s1 σ H1 Q I1 q1
 | false => exact ⟨.bl false, H1, I1, rfl, q1⟩
end
end L2
namespace L2
open PySem PySem.Spec PyProof.Rows
def SqL (K : PySem.W.Frag) (H : Hp) (a : Addr) (xs : List V) : Prop :=
 Rd H a (.lst xs) \/
  ∃ (o : Obj) (its : Array Value) (n : Nat), K.lookup a = some o /\ o.cls = .type "list" /\ o.dict = none /\ o.data = .seq its n /\ its.size <= sizeLine /\ Vals xs its.toList
def SqT (K : PySem.W.Frag) (H : Hp) (a : Addr) (xs : List V) : Prop :=
 Rd H a (.tup xs) \/
  ∃ (o : Obj) (its : Array Value) (n : Nat), K.lookup a = some o /\ o.cls = .type "tuple" /\ o.data = .seq its n /\ its.size <= sizeLine /\ Vals xs its.toList
def Dp : Value -> Option V
 | .none => some .non
 | .bool b => some (.bl b)
 | .int i _ => some (.int i)
 | .str x _ => some (.str x)
 | .bytes b _ => some (.byt b)
 | .float b _ => some (.flt b)
 | .ref a => some (.ref a)
 | .type n => some (.ty n)
 | _ => none
theorem RelV.abs {x : V} {u : Value} (r : RelV x u) : Dp u = some x := by
 cases x with
 | non => cases r; rfl
 | bl _ => cases r; rfl
 | int _ => obtain ⟨t, rfl⟩ := r; rfl
 | str _ => obtain ⟨t, rfl⟩ := r; rfl
 | byt _ => obtain ⟨t, rfl⟩ := r; rfl
 | flt _ => obtain ⟨t, rfl⟩ := r; rfl
 | ref _ => cases r; rfl
 | ty _ => cases r; rfl
theorem RelV.inj {x y : V} {u : Value} (r : RelV x u) (q : RelV y u) : x = y := Option.some.inj (r.abs.symm.trans q.abs)
theorem Vals.inj : ∀ {xs ys : List V} {us : List Value}, Vals xs us -> Vals ys us -> xs = ys
 | _, _, _, .nil, .nil => rfl
 | _, _, _, .cons r t, .cons r' t' => by rw [r.inj r', Vals.inj t t']
section
variable {X : Cx} {pins : List (Addr × Obj)} {σ : St} {H : Hp} {s : Shared} {a : Addr} {xs ys : List V}
theorem SqL.of {K : PySem.W.Frag} (h : H a = some (.lst xs)) : SqL K H a xs := .inl (.inl h)
theorem SqT.of {K : PySem.W.Frag} (h : H a = some (.tup xs)) : SqT K H a xs := .inl (.inl h)
theorem Inv.list (I : Inv X pins σ H s) (h : SqL X.K H a xs) : ∃ its : List Value, Vals xs its /\ PlainL s.heap a its.toArray /\ xs.length <= sizeLine := by
 rcases h with h | ⟨o, its, n, hk, hc, hd, hs, hz, r⟩
 ·obtain ⟨z, its, n, r, e⟩ := h.ok I.hok
  exact ⟨its, r, ⟨_, n, e, rfl, rfl, rfl⟩, z⟩
 ·refine ⟨its.toList, r, ⟨o, n, I.kIn a o hk, hc, hd, by simpa using hs⟩, ?_⟩
  have e := r.length
  simp only [Array.length_toList] at e
  omega
theorem Inv.tuple (I : Inv X pins σ H s) (h : SqT X.K H a xs) : ∃ its : List Value, Vals xs its /\ IsTup s.heap a its.toArray /\ xs.length <= sizeLine := by
 rcases h with h | ⟨o, its, n, hk, hc, hs, hz, r⟩
 ·obtain ⟨z, its, r, p⟩ := h.ok I.hok
  exact ⟨its, r, p, z⟩
 ·refine ⟨its.toList, r, ⟨o, I.kIn a o hk, hc, n, by simpa using hs⟩, ?_⟩
  have e := r.length
  simp only [Array.length_toList] at e
  omega
theorem Inv.list_inj (I : Inv X pins σ H s) (h : SqL X.K H a xs) (h' : SqL X.K H a ys) : xs = ys := by
 obtain ⟨its, r, ⟨o, n, e, _, _, d⟩, _⟩ := I.list h
 obtain ⟨its', r', ⟨o', n', e', _, _, d'⟩, _⟩ := I.list h'
 rw [e] at e'; cases e'
 rw [d] at d'
 injection d' with d1 _
 have : its = its' := by simpa using congrArg Array.toList d1
 subst this
 exact r.inj r'
theorem Inv.tuple_inj (I : Inv X pins σ H s) (h : SqT X.K H a xs) (h' : SqT X.K H a ys) : xs = ys := by
 obtain ⟨its, r, ⟨o, e, _, n, d⟩, _⟩ := I.tuple h
 obtain ⟨its', r', ⟨o', e', _, n', d'⟩, _⟩ := I.tuple h'
 rw [e] at e'; cases e'
 rw [d] at d'
 injection d' with d1 _
 have : its = its' := by simpa using congrArg Array.toList d1
 subst this
 exact r.inj r'
end
abbrev Cx.wish (X : Cx) (E : Value -> Shared -> Prop) : Cx := { X with xe := E }
abbrev Cx.nox (X : Cx) : Cx := X.wish fun _ _ => False
theorem Cx.Ok.wish {X : Cx} (ok : X.Ok) (E : Value -> Shared -> Prop) : (X.wish E).Ok :=
 ⟨ok.mod, ok.kind, ok.glob, ok.blt, ok.above, ok.inj, ok.has, ok.cab, ok.hd, ok.frames, ok.stk, ok.exf, ok.bs, ok.bsz, ok.noex, ok.exfs, ok.funs, ok.frf⟩
theorem Cx.Ok.unwish {X : Cx} {E : Value -> Shared -> Prop} (ok : (X.wish E).Ok) : X.Ok :=
 ⟨ok.mod, ok.kind, ok.glob, ok.blt, ok.above, ok.inj, ok.has, ok.cab, ok.hd, ok.frames, ok.stk, ok.exf, ok.bs, ok.bsz, ok.noex, ok.exfs, ok.funs, ok.frf⟩
section
variable {X : Cx} {pins : List (Addr × Obj)} {σ : St} {H : Hp} {s : Shared} {E : Value -> Shared -> Prop}
theorem Inv.wish (I : Inv X pins σ H s) (E : Value -> Shared -> Prop) : Inv (X.wish E) pins σ H s := ⟨I.ok.wish E, I.os, I.bare, I.base, I.loc, I.cell, I.free, I.freeC, I.pin, I.hok, I.len⟩
theorem Inv.unwish (I : Inv (X.wish E) pins σ H s) : Inv X pins σ H s := ⟨I.ok.unwish, I.os, I.bare, I.base, I.loc, I.cell, I.free, I.freeC, I.pin, I.hok, I.len⟩
theorem SP.unwish {D : Ends} {f : Flow} {s' : Shared} (h : SP (X.wish E) pins D f s') : SP X pins D f s' := by
 cases f with
 | next => obtain ⟨σ', H', I, q⟩ := h; exact ⟨σ', H', I.unwish, q⟩
 | brk => obtain ⟨σ', H', I, q⟩ := h; exact ⟨σ', H', I.unwish, q⟩
 | cont => obtain ⟨σ', H', I, q⟩ := h; exact ⟨σ', H', I.unwish, q⟩
 | ret u => obtain ⟨v, σ', H', I, r, q⟩ := h; exact ⟨v, σ', H', I.unwish, r, q⟩
theorem PSs.nox {st : List Stmt} {t : TS} (h : PSs X.nox st t) : PSs X st t := fun pins s σ H D I hw =>
 wpAny_mono (h pins s σ H D (I.wish _) hw) (fun _ _ q => q.unwish) fun _ _ z => False.elim z
end
section
variable {X : Cx} {st : Stmt} {rest : List Stmt} {t u : TS} {e : Expr} {te : TE} {pos : Pos}
def dZ : TS := fun D σ H => D.nx σ H
def yW (t u : TS) : TS := fun D σ H => t { D with nx := u D } σ H
theorem bP : PSs X [] dZ := fun _ _ σ H _ I h => wpAny_execs_nil ⟨σ, H, I, h⟩
theorem aj (h1 : PS X st t) (h2 : PSs X rest u) : PSs X (st :: rest) (yW t u) := by
 intro pins s σ H D I h
 refine wpAny_execs_cons (thn (h1 pins s σ H { D with nx := u D } I h) fun f s1 q => ?_)
 cases f with
 | next =>
  obtain ⟨σ', H', I', q⟩ := q
  exact h2 pins s1 σ' H' D I' q
 | ret v => exact q
 | brk => exact q
 | cont => exact q
theorem av (h1 : PS X st t) : PSs X [st] t := by
 intro pins s σ H D I h
 refine wpAny_execs_cons (thn (h1 pins s σ H D I h) fun f s1 q => ?_)
 cases f with
 | next => exact wpAny_execs_nil q
 | ret v => exact q
 | brk => exact q
 | cont => exact q
theorem Inv.quiet {pins : List (Addr × Obj)} {σ : St} {H : Hp} {s : Shared} (I : Inv X pins σ H s) : interactive X.env = false := by simp [interactive, I.ok.kind]
def BO (te : TE) : TS := fun D σ H => te σ H fun _ H1 => D.nx σ H1
theorem bD (he : PE X e te) (hs : swapsWith e none pos.line X.env = pure false := by rfl) : PS X (.Expr e pos) (BO te) := by
 intro pins s σ H D I h
 exact wpAny_Expr_any (thn (he pins s σ H _ I h) fun v s1 ⟨x, H1, I1, r1, q1⟩ => ⟨σ, H1, I1, q1⟩) I.quiet hs
def Dy (te : TE) : TS := fun D σ H => te σ H D.rt
theorem bh (he : PE X e te) : PS X (.Return (some e) pos) (Dy te) := by
 intro pins s σ H D I h
 exact wpAny_Return_some (thn (he pins s σ H _ I h) fun v s1 ⟨x, H1, I1, r1, q1⟩ => ⟨x, σ, H1, I1, r1, q1⟩)
def zu (c : TT) (t u : TS) : TS := fun D σ H => c σ H fun b H1 => if b = true then t D σ H1 else u D σ H1
theorem dr {c : Expr} {a b : List Stmt} {tc : TT} (hc : PT X c tc) (ha : PSs X a t) (hb : PSs X b u) : PS X (.If c a b pos) (zu tc t u) := by
 intro pins s σ H D I h
 refine wpAny_If (thn (hc pins s σ H _ I h) fun d s1 ⟨H1, I1, q1⟩ => ?_)
 cases d with
 | true => exact ha pins s1 σ H1 D I1 q1
 | false => exact hb pins s1 σ H1 D I1 q1
end
abbrev TG := V -> St -> Hp -> (St -> Hp -> Prop) -> Prop
abbrev TGs := List V -> St -> Hp -> (St -> Hp -> Prop) -> Prop
def PG (X : Cx) (target : Expr) (t : TG) : Prop :=
 ∀ (pins : List (Addr × Obj)) (s : Shared) (σ : St) (H : Hp) (v : V) (u : Value) (Q : St -> Hp -> Prop), Inv X pins σ H s -> RelV v u -> t v σ H Q ->
  wpAny (model X.prog X.w) X.A (assign target X.env u) (fun _ s' => ∃ σ' H', Inv X pins σ' H' s' /\ Q σ' H') X.xe s
def PGs (X : Cx) (ts : List Expr) (t : TGs) : Prop :=
 ∀ (pins : List (Addr × Obj)) (s : Shared) (σ : St) (H : Hp) (vs : List V) (us : List Value) (Q : St -> Hp -> Prop), Inv X pins σ H s -> Vals vs us -> t vs σ H Q ->
  wpAny (model X.prog X.w) X.A (assignInOrder ((assignEach ts X.env).map (·.2)) us) (fun _ s' => ∃ σ' H', Inv X pins σ' H' s' /\ Q σ' H') X.xe s
abbrev B8 := V -> V -> V -> Hp -> (Hp -> Prop) -> Prop
def CS (X : Cx) (t : B8) : Prop :=
 ∀ (pins : List (Addr × Obj)) (s : Shared) (σ : St) (H : Hp) (o i v : V) (ov iv u : Value) (Q : Hp -> Prop), Inv X pins σ H s -> RelV o ov -> RelV i iv -> RelV v u -> t o i v H Q ->
  wpAny (model X.prog X.w) X.A (setItem ov iv u) (fun _ s' => ∃ H', Inv X pins σ H' s' /\ Q H') X.xe s
section
variable {X : Cx} {pos : Pos}
def bR (i : Nat) : TG := fun v σ H Q => Q (σ.set i (some v)) H
theorem ax {i : Nat} {x : Str} (hN : X.N.Nodup) (hi : X.N[i]? = some x) (hx : Loc X.env.scope x) (hf : X.fn x = true \/ X.env.scope.names.lookup x = some .local := by first | exact .inl rfl | exact .inr rfl | assumption) : PG X (.Name x pos) (bR i) := by
 intro pins s σ H v u Q I r h
 exact wpAny_assign_Name (vx I hN hi hx r (fun s' I' => ⟨_, H, I', h⟩) hf)
def DF : TGs := fun vs σ H Q => vs = [] /\ Q σ H
def C0 (t : TG) (u : TGs) : TGs := fun vs σ H Q => ∃ v r, vs = v :: r /\ t v σ H fun σ' H' => u r σ' H' Q
theorem fQ : PGs X [] DF := by
 intro pins s σ H vs us Q I r h
 obtain ⟨e, h⟩ := h
 subst e
 cases r
 exact assignInOrder_nil ⟨σ, H, I, h⟩
theorem bt {e : Expr} {es : List Expr} {t : TG} {u : TGs} (h1 : PG X e t) (h2 : PGs X es u)
  (hs : (assignEach (e :: es) X.env).map (·.2) = assign e X.env :: (assignEach es X.env).map (·.2) := by rfl) : PGs X (e :: es) (C0 t u) := by
 intro pins s σ H vs us Q I r h
 obtain ⟨v, vr, e1, h⟩ := h
 subst e1
 cases r with
 | cons r rr =>
  rw [hs]
  refine assignInOrder_cons (thn (h1 pins s σ H _ _ _ I r h) fun _ s1 ⟨σ1, H1, I1, q1⟩ => ?_)
  exact h2 pins s1 σ1 H1 _ _ Q I1 rr q1
def CJ (K : PySem.W.Frag) (n : Nat) (t : TGs) : TG := fun v σ H Q => ∃ a xs, v = .ref a /\ SqT K H a xs /\ xs.length = n /\ t xs σ H Q
theorem ic {es : List Expr} {k : Nat} {t : TGs} {n : Nat} (hc : X.calm = true) (h : PGs X es t)
  (hn : (assignEach es X.env).length = n := by rfl) (hst : (assignEach es X.env).findIdx? (·.1) = none := by rfl) : PG X (.Tuple es k pos) (CJ X.K n t) := by
 intro pins s σ H v u Q I r hw
 obtain ⟨a, xs, e1, hq, hl, hw⟩ := hw
 subst e1
 cases r
 obtain ⟨its, rv, ht, hz⟩ := I.tuple hq
 refine assign_Tuple_tuple (I.ok.hd hc) ht (by simp [hn, <- hl, rv.length]) hst fun h' hx => ?_
 have I1 : Inv X pins σ H { s with heap := h' } := I.kept (t' := s.toks) fun b o e => hx b o (Nat.ne_of_lt (Heap.lt_size e)) e
 exact h pins _ σ H xs _ Q I1 (by simpa using rv) hw
def Dx (to ti : TE) (t : B8) : TG := fun v σ H Q => to σ H fun o H1 => ti σ H1 fun i H2 => t o i v H2 fun H3 => Q σ H3
theorem uH {o i : Expr} {to ti : TE} {t : B8} (ho : PE X o to) (hi : PE X i ti) (hs : CS X t)
  (ha : ∀ v, assign (.Subscript o i pos) X.env v = (do
   let ov <- holding [v] (eval o X.env)
   let iv <- holding [v, ov] (eval i X.env)
   standAt pos
   holding [v, ov, iv] (setItem ov iv v)
   release [v, ov, iv] []) := by intro _; rfl) : PG X (.Subscript o i pos) (Dx to ti t) := by
 intro pins s σ H v u Q I r h
 rw [ha]
 refine wpAny_bind (wpAny_holding (thn (ho pins s σ H _ I h) fun ov s1 ⟨x, H1, I1, r1, q1⟩ => ?_))
 refine wpAny_bind (wpAny_holding (thn (hi pins s1 σ H1 _ I1 q1) fun iv s2 ⟨y, H2, I2, r2, q2⟩ => ?_))
 refine wpAny_bind (wpAny_standAt (wpAny_bind (wpAny_holding (thn (hs pins s2 σ H2 x y v ov iv u _ I2 r1 r2 r q2) fun _ s3 ⟨H3, I3, q3⟩ => ?_))))
 exact wpAny_release ⟨σ, H3, I3, q3⟩
def oP (te : TE) (g : TG) : TS := fun D σ H => te σ H fun x H1 => g x σ H1 D.nx
theorem uF {tg e : Expr} {te : TE} {g : TG} (he : PE X e te) (hg : PG X tg g) (hs : swapsWithSole [tg] e pos.line X.env = pure false := by rfl) (hw : swappedStores [tg] e X.env = pure none := by rfl)
  (h1 : (assignEach [tg] X.env).map (·.2) = [assign tg X.env] := by rfl) : PS X (.Assign [tg] e pos) (oP te g) := by
 intro pins s σ H D I h
 refine wpAny_Assign_stores (thn (he pins s σ H _ I h) fun v s1 ⟨x, H1, I1, r1, q1⟩ => ?_) hs hw
 rw [h1]
 exact thn (hg pins s1 σ H1 x v _ I1 r1 q1) fun _ s2 q => q
theorem az {i : Nat} {x : Str} {e : Expr} {te : TE} {pos' : Pos} (hN : X.N.Nodup) (hi : X.N[i]? = some x) (hx : Loc X.env.scope x) (he : PE X e te) (hs : swapsWith e (some (.Name x pos')) pos.line X.env = pure false := by rfl) (hf : X.fn x = true \/ X.env.scope.names.lookup x = some .local := by first | exact .inl rfl | exact .inr rfl | assumption) :
  PS X (.Assign [.Name x pos'] e pos) (oP te (bR i)) := by
 intro pins s σ H D I h
 refine wpAny_Assign_Name (thn (he pins s σ H _ I h) fun v s1 ⟨y, H1, I1, r1, q1⟩ => ?_) hs
 exact vx I1 hN hi hx r1 (fun s2 I2 => ⟨_, H1, I2, q1⟩) hf
end
section
variable {X : Cx} {pos : Pos}
def n9 (c : TT) (tb : TS) : TS := fun D σ H => ∃ W : Nat -> St -> Hp -> Prop, (∃ m, W m σ H) /\ ∀ m σ H, W m σ H ->
 c σ H fun b H1 => if b = true then ∃ N : St -> Hp -> Prop, (∀ σ' H', N σ' H' -> ∃ m', m' < m /\ W m' σ' H') /\ tb { D with nx := N, ct := N, bk := D.nx } σ H1 else D.nx σ H1
theorem mY {c : Expr} {body : List Stmt} {tc : TT} {tb : TS} (hp : PassesOwn (model X.prog X.w) X.A X.env X.xe) (hc : PT X c tc) (hb : PSs X body tb) : PS X (.While c body [] pos) (n9 tc tb) := by
 intro pins s σ H D I h
 obtain ⟨W, ⟨m0, w0⟩, turn⟩ := h
 refine wpAny_While (codeAny_whileLoop (fun n s' => ∃ σ' H', Inv X pins σ' H' s' /\ W n σ' H') ?_ m0 ⟨σ, H, I, w0⟩)
 rintro n s1 ⟨σ1, H1, I1, w1⟩
 refine wpAny_passesOwn hp (thn (hc pins s1 σ1 H1 _ I1 (turn n σ1 H1 w1)) fun b s2 ⟨H2, I2, q2⟩ => ?_)
 cases b with
 | true =>
  obtain ⟨N, hN, q2⟩ := q2
  rw [if_pos rfl]
  refine wpAny_passesOwn hp (thn (hb pins s2 σ1 H2 _ I2 q2) fun f s3 q3 => ?_)
  cases f with
  | next =>
   obtain ⟨σ3, H3, I3, n3⟩ := q3
   obtain ⟨m', hm, w3⟩ := hN σ3 H3 n3
   exact ⟨m', hm, σ3, H3, I3, w3⟩
  | cont =>
   obtain ⟨σ3, H3, I3, n3⟩ := q3
   obtain ⟨m', hm, w3⟩ := hN σ3 H3 n3
   exact ⟨m', hm, σ3, H3, I3, w3⟩
  | brk => exact q3
  | ret v => exact q3
 | false =>
  rw [if_neg Bool.false_ne_true]
  exact wpAny_execs_nil ⟨σ1, H2, I2, q2⟩
end
structure It where
 go : Nat -> Hp -> Prop
 yld : Nat -> Hp -> V -> Hp -> Prop
 stop : Nat -> Hp -> Prop
def iE (X : Cx) (pins : List (Addr × Obj)) (H : Hp) (b : Addr) : Prop :=
 H b = none /\ b ≠ X.env.locals /\ b ∉ X.fs /\ (b ∈ X.ex \/ X.s₀.heap.objs.size <= b) /\ (∀ x c, X.env.cells.lookup x = some c -> c ≠ b) /\ ∀ p ∈ X.pn ++ pins, p.1 ≠ b
theorem Inv.fpOk {X : Cx} {pins : List (Addr × Obj)} {σ : St} {H H' : Hp} {s : Shared} {b : Addr} (I : Inv X pins σ H s) (hb : s.heap.objs.size <= b) (hn : H' b = none) : iE X pins H' b := by
 refine ⟨hn, Nat.ne_of_gt (Nat.lt_of_lt_of_le I.lt hb), I.nofs hb, .inr (Nat.le_trans I.sz hb), fun x c e z => ?_, fun p hp z => ?_⟩
 ·obtain ⟨v, q⟩ := I.cell x c e
  exact absurd (Nat.lt_of_lt_of_le q.lt (by rw [z]; exact hb)) (Nat.lt_irrefl _)
 ·exact absurd (Nat.lt_of_lt_of_le (Heap.lt_size (I.pin p hp).1) (by rw [z]; exact hb)) (Nat.lt_irrefl _)
structure Turn (P : Program) (w : World) (K : PySem.W.Frag) (tg : Expr) (J : It) (fp : List Addr) (it : Addr) (tn : Nat -> Heap -> Prop) : Prop where
 mem : it ∈ fp
 obj : ∀ i h, tn i h -> ∀ b ∈ fp, ∃ o, h.get? b = some o /\ ∀ v, o.data ≠ .cell v
 keep : ∀ i h h', tn i h -> (∀ b ∈ fp, ∀ o, h.get? b = some o -> h'.get? b = some o) -> tn i h'
 item : ∀ (X : Cx), X.prog = P -> X.w = w -> X.K = K -> X.calm = true -> ∀ (i : Nat) (pins : List (Addr × Obj)) (s : Shared) (σ : St) (H : Hp) (E : Value -> Shared -> Prop), Inv X pins σ H s -> (∀ b ∈ fp, iE X pins H b) -> tn i s.heap -> J.go i H ->
  wpAny (model P w) X.A (pyNext (.ref it)) (fun r s1 => ∃ u, r = some u /\
   wpAny (model P w) X.A (letOwnedTupleGo tg (.ref it) u) (fun _ s2 => ∃ x H', Inv X pins σ H' s2 /\ RelV x u /\ J.yld i H x H' /\ tn (i + 1) s2.heap /\ ∀ b ∈ fp, H' b = none) E s1) E s
 done : ∀ (X : Cx), X.prog = P -> X.w = w -> X.K = K -> X.calm = true -> ∀ (i : Nat) (pins : List (Addr × Obj)) (s : Shared) (σ : St) (H : Hp) (E : Value -> Shared -> Prop), Inv X pins σ H s -> (∀ b ∈ fp, iE X pins H b) -> tn i s.heap -> J.stop i H ->
  wpAny (model P w) X.A (pyNext (.ref it)) (fun r s1 => r = none /\ Inv X pins σ H s1) E s
 self : ∀ (A : Around) (i : Nat) (s : Shared) (Q : Value -> Shared -> Prop) (E : Value -> Shared -> Prop), tn i s.heap -> Q (.ref it) s -> wpAny (model P w) A (pyIter (.ref it)) Q E s
abbrev TI := St -> Hp -> (It -> Hp -> Prop) -> Prop
def PIE (X : Cx) (pins : List (Addr × Obj)) (σ : St) (tg : Expr) (R : It -> Hp -> Prop) (itv : Value) (s2 : Shared) : Prop :=
 ∃ (it : Addr) (fp : List Addr) (tn : Nat -> Heap -> Prop) (J : It) (H' : Hp), itv = .ref it /\ Inv X pins σ H' s2 /\ Turn X.prog X.w X.K tg J fp it tn /\ tn 0 s2.heap /\ (∀ b ∈ fp, iE X pins H' b) /\ R J H'
def PI (X : Cx) (tg iter : Expr) (wi : TI) : Prop :=
 ∀ (pins : List (Addr × Obj)) (s : Shared) (σ : St) (H : Hp) (R : It -> Hp -> Prop), Inv X pins σ H s -> wi σ H R ->
  wpAny (model X.prog X.w) X.A (eval iter X.env) (fun v s1 => wpAny (model X.prog X.w) X.A (pyIter v) (PIE X pins σ tg R) X.xe s1) X.xe s
theorem xK {M : Model} {A : Around} {E : Value -> Shared -> Prop} {s : Shared} {tg : Expr} {it : Addr} {u : Value} {o : Obj} {n : String} {vs : Array Value} {Q : Unit -> Shared -> Prop} (ho : s.heap.get? it = some o) (hc : o.cls = .type n) (hd : o.data = .fields vs)
  (hn : ["enumerate", "zip", "dict_itemiterator", "dict_reverseitemiterator", "odict_iterator", "itertools.zip_longest", "itertools.pairwise"].contains n = false) (hQ : Q () s) : wpAny M A (letOwnedTupleGo tg (.ref it) u) Q E s := by
 unfold letOwnedTupleGo
 cases tg <;> first
  | exact wpAny_pure hQ
  | (cases u <;> first
    | exact wpAny_pure hQ
    | (refine wpAny_bind (wpAny_load ho ?_)
       rw [hc, hd]
       show wpAny M A (if (["enumerate", "zip", "dict_itemiterator", "dict_reverseitemiterator", "odict_iterator", "itertools.zip_longest", "itertools.pairwise"].contains n && vs[0]? == some (rawInt _)) = true then _ else _) Q E s
       rw [if_neg (by intro h; rw [hn, Bool.false_and] at h; cases h)]
       exact wpAny_pure hQ))
def Itl (K : PySem.W.Frag) (a : Addr) : It :=
 ⟨fun i H => ∃ xs x, SqL K H a xs /\ xs[i]? = some x, fun i H x H' => H' = H /\ ∀ xs, SqL K H a xs -> xs[i]? = some x, fun i H => ∃ xs, SqL K H a xs /\ xs.length <= i⟩
def Itt (K : PySem.W.Frag) (a : Addr) : It :=
 ⟨fun i H => ∃ xs x, SqT K H a xs /\ xs[i]? = some x, fun i H x H' => H' = H /\ ∀ xs, SqT K H a xs -> xs[i]? = some x, fun i H => ∃ xs, SqT K H a xs /\ xs.length <= i⟩
def Itr (lo : Int) (n : Nat) : It := ⟨fun i _ => i < n, fun i H x H' => H' = H /\ x = .int (lo + i), fun i _ => n <= i⟩
theorem yq {P : Program} {w : World} {K : PySem.W.Frag} {tg : Expr} (a it : Addr) : Turn P w K tg (Itl K a) [it] it (fun i h => h.IsListIter it a i) where
 mem := by simp
 obj := fun i h st b hb => by
  have e : b = it := by simpa using hb
  subst e
  obtain ⟨o, e, c, d⟩ := st
  exact ⟨o, e, fun v z => by rw [d] at z; cases z⟩
 keep := fun i h h' st k => st.at fun o e => k it (by simp) o e
 item := by
  intro X hP hw hK hc i pins s σ H E I hf st hg
  subst hP hw hK
  obtain ⟨xs, x, hq, hx⟩ := hg
  obtain ⟨its, rv, p, hz⟩ := I.list hq
  obtain ⟨u, hu, ru⟩ := rv.get hx
  obtain ⟨f0, f1, f2, f3, f4, f5⟩ := hf it (by simp)
  refine wpAny_pyNext_list_item st p.isList (x := u) (by simpa using hu) fun h' st' sb => ?_
  have I1 : Inv X pins σ H { s with heap := h' } := I.turned (t' := s.toks) (fun b o hb e => (sb.2 b hb).trans e) f0 f1 f3 f4 f5
  obtain ⟨o, e, c, d⟩ := id st'
  exact ⟨u, rfl, xK (s := { s with heap := h' }) e c d (by decide) ⟨x, H, I1, ru, ⟨rfl, fun ys hy => by rw [I.list_inj hy hq]; exact hx⟩, st', fun b hb => (hf b hb).1⟩⟩
 done := by
  intro X hP hw hK hc i pins s σ H E I hf st hg
  subst hP hw hK
  obtain ⟨xs, hq, hx⟩ := hg
  obtain ⟨its, rv, p, hz⟩ := I.list hq
  obtain ⟨f0, f1, f2, f3, f4, f5⟩ := hf it (by simp)
  have hl := rv.length
  exact wpAny_pyNext_list_end (I.ok.hd hc) st p.isList (by simp; omega) fun h' eb => ⟨rfl, I.turned (t' := s.toks) (fun b o hb e => eb b o hb e) f0 f1 f3 f4 f5⟩
 self := fun _ _ _ _ _ st h => wpAny_pyIter_listiter st h
theorem wz {P : Program} {w : World} {K : PySem.W.Frag} {tg : Expr} (a it : Addr) : Turn P w K tg (Itt K a) [it] it (fun i h => h.IsTupleIter it a i) where
 mem := by simp
 obj := fun i h st b hb => by
  have e : b = it := by simpa using hb
  subst e
  obtain ⟨o, e, c, d⟩ := st
  exact ⟨o, e, fun v z => by rw [d] at z; cases z⟩
 keep := fun i h h' st k => st.at fun o e => k it (by simp) o e
 item := by
  intro X hP hw hK hc i pins s σ H E I hf st hg
  subst hP hw hK
  obtain ⟨xs, x, hq, hx⟩ := hg
  obtain ⟨its, rv, p, hz⟩ := I.tuple hq
  obtain ⟨u, hu, ru⟩ := rv.get hx
  obtain ⟨f0, f1, f2, f3, f4, f5⟩ := hf it (by simp)
  refine wpAny_pyNext_tuple_item st (show s.heap.IsTuple a its.toArray from p) (x := u) (by simpa using hu) fun h' st' sb => ?_
  have I1 : Inv X pins σ H { s with heap := h' } := I.turned (t' := s.toks) (fun b o hb e => (sb.2 b hb).trans e) f0 f1 f3 f4 f5
  obtain ⟨o, e, c, d⟩ := id st'
  exact ⟨u, rfl, xK (s := { s with heap := h' }) e c d (by decide) ⟨x, H, I1, ru, ⟨rfl, fun ys hy => by rw [I.tuple_inj hy hq]; exact hx⟩, st', fun b hb => (hf b hb).1⟩⟩
 done := by
  intro X hP hw hK hc i pins s σ H E I hf st hg
  subst hP hw hK
  obtain ⟨xs, hq, hx⟩ := hg
  obtain ⟨its, rv, p, hz⟩ := I.tuple hq
  obtain ⟨f0, f1, f2, f3, f4, f5⟩ := hf it (by simp)
  have hl := rv.length
  exact wpAny_pyNext_tuple_end (I.ok.hd hc) st (show s.heap.IsTuple a its.toArray from p) (by simp; omega) fun h' eb => ⟨rfl, I.turned (t' := s.toks) (fun b o hb e => eb b o hb e) f0 f1 f3 f4 f5⟩
 self := fun _ _ _ _ _ st h => wpAny_pyIter_tupleiter st h
theorem wN {P : Program} {w : World} {K : PySem.W.Frag} {tg : Expr} (it : Addr) (lo : Int) (n : Nat) : Turn P w K tg (Itr lo n) [it] it (fun i h => IsRangeIter h it (lo + (i : Nat) * 1) ((n : Int) - (i : Nat)) 1) where
 mem := by simp
 obj := fun i h st b hb => by
  have e : b = it := by simpa using hb
  subst e
  exact ⟨_, st, fun v z => by
   have z' : Data.fields _ = Data.cell v := z
   cases z'⟩
 keep := fun i h h' st k => k it (by simp) _ st
 item := by
  intro X hP hw hK hc i pins s σ H E I hf st hg
  subst hP hw hK
  obtain ⟨f0, f1, f2, f3, f4, f5⟩ := hf it (by simp)
  have W := Walks.range (prog := X.prog) (w := X.w) (I.ok.hd hc) it lo 1 n
  refine W.item i s _ _ hg st fun v h' tk hv st' kk => ?_
  obtain ⟨t, rfl⟩ := hv
  have I1 : Inv X pins σ H { s with heap := h', toks := tk } := I.turned (fun b o hb e => kk b o (by simpa using hb) e) f0 f1 f3 f4 f5
  refine ⟨_, rfl, xK (s := { s with heap := h', toks := tk }) (n := "range_iterator") st' rfl rfl (by decide) ⟨.int (lo + i), H, I1, ⟨t, ?_⟩, ⟨rfl, rfl⟩, st', fun b hb => (hf b hb).1⟩⟩
  rw [Int.mul_one]
 done := by
  intro X hP hw hK hc i pins s σ H E I hf st hg
  subst hP hw hK
  obtain ⟨f0, f1, f2, f3, f4, f5⟩ := hf it (by simp)
  exact wpAny_pyNext_range_end (I.ok.hd hc) st (by have : n <= i := hg; omega) fun h' eb => ⟨rfl, I.turned (t' := s.toks) (fun b o hb e => eb b o hb e) f0 f1 f3 f4 f5⟩
 self := fun _ _ _ _ _ st h => wpAny_pyIter_rangeiter st h
end L2
namespace L2
open PySem PySem.Spec PyProof.Rows
section
variable {X : Cx} {tg : Expr}
def BQ (K : PySem.W.Frag) (tl : TE) : TI := fun σ H R => tl σ H fun x H1 => ∃ a, x = .ref a /\ (∃ xs, SqL K H1 a xs) /\ R (Itl K a) H1
def Df (K : PySem.W.Frag) (tl : TE) : TI := fun σ H R => tl σ H fun x H1 => ∃ a, x = .ref a /\ (∃ xs, SqT K H1 a xs) /\ R (Itt K a) H1
theorem bO {l : Expr} {tl : TE} (hl : PE X l tl) : PI X tg l (BQ X.K tl) := by
 intro pins s σ H R I h
 refine thn (hl pins s σ H _ I h) fun v s1 ⟨x, H1, I1, r1, q1⟩ => ?_
 obtain ⟨a, e, ⟨xs, hq⟩, q⟩ := q1
 subst e
 cases r1
 obtain ⟨its, rv, p, hz⟩ := I1.list hq
 refine wpAny_pyIter_list p.isList ?_
 refine ⟨s1.heap.objs.size, [s1.heap.objs.size], _, _, H1, rfl, I1.kept (t' := s1.toks) fun b o e => Heap.get?_push_of_some _ e, yq a _, ⟨_, Heap.get?_push_size _ rfl, rfl, rfl⟩, fun b hb => ?_, q⟩
 have e : b = s1.heap.objs.size := by simpa using hb
 subst e
 exact I1.fpOk (Nat.le_refl _) (I1.hok.fresh (Nat.le_refl _))
theorem iM {l : Expr} {tl : TE} (hl : PE X l tl) : PI X tg l (Df X.K tl) := by
 intro pins s σ H R I h
 refine thn (hl pins s σ H _ I h) fun v s1 ⟨x, H1, I1, r1, q1⟩ => ?_
 obtain ⟨a, e, ⟨xs, hq⟩, q⟩ := q1
 subst e
 cases r1
 obtain ⟨its, rv, p, hz⟩ := I1.tuple hq
 refine wpAny_pyIter_tuple (show s1.heap.IsTuple a its.toArray from p) ?_
 refine ⟨s1.heap.objs.size, [s1.heap.objs.size], _, _, H1, rfl, I1.kept (t' := s1.toks) fun b o e => Heap.get?_push_of_some _ e, wz a _, ⟨_, Heap.get?_push_size _ rfl, rfl, rfl⟩, fun b hb => ?_, q⟩
 have e : b = s1.heap.objs.size := by simpa using hb
 subst e
 exact I1.fpOk (Nat.le_refl _) (I1.hok.fresh (Nat.le_refl _))
theorem Ac {pins : List (Addr × Obj)} {σ : St} {H : Hp} {s : Shared} {R : It -> Hp -> Prop} {E : Value -> Shared -> Prop} {lo hi : Int} {t u v : Tok} {tk : Nat} (I : Inv X pins σ H s) (h1 : -(2 ^ 62) <= lo) (h2 : lo < 2 ^ 62) (h3 : -(2 ^ 62) <= hi) (h4 : hi < 2 ^ 62)
  (q : R (Itr lo (hi - lo).toNat) H) : wpAny (model X.prog X.w) X.A (pyIter (.ref s.heap.objs.size)) (PIE X pins σ tg R) E { s with heap := s.heap.push { cls := .type "range", data := .fields #[.int lo t, .int hi u, .int 1 v] }, toks := tk } := by
 refine wpAny_pyIter_range (IsRange.new ..) (small_one h1 h2 h3 h4) ?_
 have I1 : Inv X pins σ H { s with heap := s.heap.push { cls := .type "range", data := .fields #[.int lo t, .int hi u, .int 1 v] }, toks := tk } := I.kept fun b o e => Heap.get?_push_of_some _ e
 refine ⟨(s.heap.push { cls := .type "range", data := .fields #[.int lo t, .int hi u, .int 1 v] }).objs.size, [(s.heap.push { cls := .type "range", data := .fields #[.int lo t, .int hi u, .int 1 v] }).objs.size], _, _, H, rfl,
  I1.kept (t' := tk) fun b o e => Heap.get?_push_of_some _ e, wN _ lo (hi - lo).toNat, ?_, fun b hb => ?_, q⟩
 ·have e1 : lo + ((0 : Nat) : Int) * 1 = lo := by simp
  have e2 : (((hi - lo).toNat : Nat) : Int) - ((0 : Nat) : Int) = Builtin.Range.rangeSize lo hi 1 := by rw [rangeSize_one]; split <;> omega
  show IsRangeIter _ _ (lo + ((0 : Nat) : Int) * 1) ((((hi - lo).toNat : Nat) : Int) - ((0 : Nat) : Int)) 1
  rw [e1, e2]
  exact Heap.get?_push_size _ rfl
 ·have e : b = (s.heap.push { cls := .type "range", data := .fields #[.int lo t, .int hi u, .int 1 v] }).objs.size := by simpa using hb
  subst e
  exact I1.fpOk (Nat.le_refl _) (I1.hok.fresh (Nat.le_refl _))
def CT (ta : TA) : TI := fun σ H R => ta σ H fun vs H1 => ∃ j : Int, vs = [.int j] /\ -(2 ^ 62) <= j /\ j < 2 ^ 62 /\ R (Itr 0 j.toNat) H1
theorem dG {a : Expr} {ta : TA} {p pos : Pos} (hg : Gl X "range") (hm : X.mg "range" = none) (ha : PA X [a] ta) (hs : starEach [a] X.env = [(false, eval a X.env)] := by rfl) : PI X tg (.Call (.Name "range" p) [a] [] pos) (CT ta) := by
 intro pins s σ H R I h
 refine Call_ (jA I hg hm boot_range (PyProof.Rows.callWith_type1 (thn (ha pos pins s σ H _ I h) fun us s1 ⟨vs, H1, I1, r1, q1⟩ => ?_) hs rfl))
 obtain ⟨j, e, q1, q2, q⟩ := q1
 subst e
 cases r1 with
 | cons r rr =>
  cases rr
  obtain ⟨t, rfl⟩ := r
  exact call_range_1 (Ac I1 (by omega) (by omega) q1 q2 (by simpa using q))
def oQ (wi : TI) (g : TG) (tb : TS) : TS := fun D σ H => wi σ H fun J H1 => ∃ W : Nat -> Nat -> St -> Hp -> Prop, (∃ m, W 0 m σ H1) /\ ∀ i m σ H, W i m σ H ->
 (J.stop i H /\ D.nx σ H) \/ (J.go i H /\ ∃ N : St -> Hp -> Prop, (∀ σ' H', N σ' H' -> ∃ m', m' < m /\ W (i + 1) m' σ' H') /\ ∀ x H', J.yld i H x H' -> g x σ H' fun σ2 H2 => tb { D with nx := N, ct := N, bk := D.nx } σ2 H2)
def tV (fp : List Addr) (h : Heap) : List (Addr × Obj) := fp.filterMap fun b => (h.get? b).map fun o => (b, o)
theorem eY {fp : List Addr} {h : Heap} {b : Addr} {o : Obj} (hb : b ∈ fp) (e : h.get? b = some o) : (b, o) ∈ tV fp h := List.mem_filterMap.mpr ⟨b, hb, by rw [e]; rfl⟩
theorem yR {fp : List Addr} {h : Heap} {p : Addr × Obj} (hp : p ∈ tV fp h) : p.1 ∈ fp /\ h.get? p.1 = some p.2 := by
 obtain ⟨b, hb, e⟩ := List.mem_filterMap.mp hp
 cases q : h.get? b with
 | none => rw [q] at e; cases e
 | some o =>
  rw [q] at e
  have e' : (b, o) = p := Option.some.inj e
  subst e'
  exact ⟨hb, q⟩
theorem Inv.pinned {pins : List (Addr × Obj)} {σ : St} {H : Hp} {s : Shared} {fp : List Addr} (I : Inv X pins σ H s) (hf : ∀ b ∈ fp, iE X pins H b) (ho : ∀ b ∈ fp, ∃ o, s.heap.get? b = some o /\ ∀ v, o.data ≠ .cell v) : Inv X (pins ++ tV fp s.heap) σ H s :=
 I.pins_of fun p hp => (List.mem_append.mp hp).elim (fun z => I.pin p (List.mem_append_right _ z)) fun z => by
  obtain ⟨hb, e⟩ := yR z
  obtain ⟨f0, f1, f2, _⟩ := hf p.1 hb
  obtain ⟨o, e', d⟩ := ho p.1 hb
  rw [e] at e'; cases e'
  exact ⟨e, f0, f1, f2, d⟩
theorem Inv.unpinned {pins pl : List (Addr × Obj)} {σ : St} {H : Hp} {s : Shared} (I : Inv X (pins ++ pl) σ H s) : Inv X pins σ H s := I.pins_of fun p hp => I.pin p (List.mem_append_right _ (List.mem_append_left _ hp))
theorem cf {iter : Expr} {body : List Stmt} {wi : TI} {g : TG} {tb : TS} {pos : Pos} (hp : PassesOwn (model X.prog X.w) X.A X.env X.xe) (hc : X.calm = true) (hi : PI X tg iter wi) (hg : PG X tg g) (hb : PSs X body tb)
  (hs : ∀ x, foldedSetIterable iter X.env x = pure x := by intro _; rfl) : PS X (.For tg iter body [] pos) (oQ wi g tb) := by
 intro pins s σ H D I h
 refine wpAny_For (thn (hi pins s σ H _ I h) fun v s1 h1 => thn h1 fun itv s2 h2 => ?_) hs
 obtain ⟨it, fp, tn, J, H2, e, I2, T, st2, f2, W, ⟨m0, w0⟩, turn⟩ := h2
 subst e
 have stat : ∀ {H' : Hp}, (∀ b ∈ fp, H' b = none) -> ∀ b ∈ fp, iE X pins H' b := fun hn b hb => ⟨hn b hb, (f2 b hb).2⟩
 refine codeAny_forLoop_any (fun n s' => ∃ i σ' H', Inv X pins σ' H' s' /\ tn i s'.heap /\ (∀ b ∈ fp, H' b = none) /\ W i n σ' H') ?_ m0 ⟨0, σ, H2, I2, st2, fun b hb => (f2 b hb).1, w0⟩
 rintro n s3 ⟨i, σ3, H3, I3, st3, fr3, w3⟩
 rcases turn i n σ3 H3 w3 with ⟨stop, qn⟩ | ⟨go, N, hN, step⟩
 ·refine wpAny_passesOwn hp (thn (T.done X rfl rfl rfl hc i pins s3 σ3 H3 X.xe I3 (stat fr3) st3 stop) fun r s4 ⟨hr, I4⟩ => ?_)
  subst hr
  exact wpAny_execs_nil ⟨σ3, H3, I4, qn⟩
 ·refine wpAny_passesOwn hp (thn (T.item X rfl rfl rfl hc i pins s3 σ3 H3 X.xe I3 (stat fr3) st3 go) fun r s4 ⟨u, hr, h4⟩ => ?_)
  subst hr
  refine wpAny_passesOwn hp (thn h4 fun _ s5 ⟨x, H5, I5, r5, y5, st5, fr5⟩ => ?_)
  have I5' := I5.pinned (stat fr5) (T.obj _ _ st5)
  refine wpAny_passesOwn hp (thn (hg _ s5 σ3 H5 x u _ I5' r5 (step x H5 y5)) fun _ s6 ⟨σ6, H6, I6, q6⟩ => ?_)
  refine wpAny_passesOwn hp (thn (hb _ s6 σ6 H6 _ I6 q6) fun f s7 q7 => ?_)
  have again : ∀ {σ7 : St} {H7 : Hp}, Inv X (pins ++ tV fp s5.heap) σ7 H7 s7 -> N σ7 H7 -> ∃ m, m < n /\ ∃ i σ' H', Inv X pins σ' H' s7 /\ tn i s7.heap /\ (∀ b ∈ fp, H' b = none) /\ W i m σ' H' := fun {σ7 H7} I7 n7 => by
   obtain ⟨m', hm, w7⟩ := hN σ7 H7 n7
   refine ⟨m', hm, i + 1, σ7, H7, I7.unpinned, T.keep _ _ _ st5 fun b hb o e => (I7.pin (b, o) (List.mem_append_right _ (List.mem_append_right _ (eY hb e)))).1, fun b hb => ?_, w7⟩
   obtain ⟨o, e, d⟩ := T.obj _ _ st5 b hb
   exact (I7.pin (b, o) (List.mem_append_right _ (List.mem_append_right _ (eY hb e)))).2.1
  cases f with
  | next => obtain ⟨σ7, H7, I7, n7⟩ := q7; exact again I7 n7
  | cont => obtain ⟨σ7, H7, I7, n7⟩ := q7; exact again I7 n7
  | brk => obtain ⟨σ7, H7, I7, q7⟩ := q7; exact ⟨σ7, H7, I7.unpinned, q7⟩
  | ret v => obtain ⟨x7, σ7, H7, I7, r7, q7⟩ := q7; exact ⟨x7, σ7, H7, I7.unpinned, r7, q7⟩
end
theorem cL {K : PySem.W.Frag} {a : Addr} {xs : List V} {g : TG} {tb : TS} {D : Ends} {σ : St} {H : Hp} (Pv : Nat -> St -> Hp -> Prop) (h0 : Pv 0 σ H) (hl : ∀ i σ H, i <= xs.length -> Pv i σ H -> SqL K H a xs)
  (hs : ∀ i x σ H, xs[i]? = some x -> Pv i σ H -> g x σ H fun σ2 H2 => tb { D with nx := Pv (i + 1), ct := Pv (i + 1), bk := D.nx } σ2 H2) (hd : ∀ σ H, Pv xs.length σ H -> D.nx σ H) :
  ∃ W : Nat -> Nat -> St -> Hp -> Prop, (∃ m, W 0 m σ H) /\ ∀ i m σ H, W i m σ H ->
   ((Itl K a).stop i H /\ D.nx σ H) \/ ((Itl K a).go i H /\ ∃ N : St -> Hp -> Prop, (∀ σ' H', N σ' H' -> ∃ m', m' < m /\ W (i + 1) m' σ' H') /\ ∀ x H', (Itl K a).yld i H x H' -> g x σ H' fun σ2 H2 => tb { D with nx := N, ct := N, bk := D.nx } σ2 H2) := by
 refine ⟨fun i m σ H => m = xs.length - i /\ i <= xs.length /\ Pv i σ H, ⟨xs.length, by simp, Nat.zero_le _, h0⟩, ?_⟩
 rintro i m σ H ⟨rfl, hi, p⟩
 have q := hl i σ H hi p
 by_cases hlt : i < xs.length
 ·refine .inr ⟨⟨xs, xs[i], q, by simp [hlt]⟩, Pv (i + 1), fun σ' H' p' => ⟨xs.length - (i + 1), by omega, rfl, hlt, p'⟩, fun x H' y => ?_⟩
  obtain ⟨e, y⟩ := y
  subst e
  exact hs i x σ _ (y xs q) p
 ·have e : i = xs.length := by omega
  subst e
  exact .inl ⟨⟨xs, q, Nat.le_refl _⟩, hd σ H p⟩
theorem tK {K : PySem.W.Frag} {a : Addr} {xs : List V} {g : TG} {tb : TS} {D : Ends} {σ : St} {H : Hp} (Pv : Nat -> St -> Hp -> Prop) (h0 : Pv 0 σ H) (hl : ∀ i σ H, i <= xs.length -> Pv i σ H -> SqT K H a xs)
  (hs : ∀ i x σ H, xs[i]? = some x -> Pv i σ H -> g x σ H fun σ2 H2 => tb { D with nx := Pv (i + 1), ct := Pv (i + 1), bk := D.nx } σ2 H2) (hd : ∀ σ H, Pv xs.length σ H -> D.nx σ H) :
  ∃ W : Nat -> Nat -> St -> Hp -> Prop, (∃ m, W 0 m σ H) /\ ∀ i m σ H, W i m σ H ->
   ((Itt K a).stop i H /\ D.nx σ H) \/ ((Itt K a).go i H /\ ∃ N : St -> Hp -> Prop, (∀ σ' H', N σ' H' -> ∃ m', m' < m /\ W (i + 1) m' σ' H') /\ ∀ x H', (Itt K a).yld i H x H' -> g x σ H' fun σ2 H2 => tb { D with nx := N, ct := N, bk := D.nx } σ2 H2) := by
 refine ⟨fun i m σ H => m = xs.length - i /\ i <= xs.length /\ Pv i σ H, ⟨xs.length, by simp, Nat.zero_le _, h0⟩, ?_⟩
 rintro i m σ H ⟨rfl, hi, p⟩
 have q := hl i σ H hi p
 by_cases hlt : i < xs.length
 ·refine .inr ⟨⟨xs, xs[i], q, by simp [hlt]⟩, Pv (i + 1), fun σ' H' p' => ⟨xs.length - (i + 1), by omega, rfl, hlt, p'⟩, fun x H' y => ?_⟩
  obtain ⟨e, y⟩ := y
  subst e
  exact hs i x σ _ (y xs q) p
 ·have e : i = xs.length := by omega
  subst e
  exact .inl ⟨⟨xs, q, Nat.le_refl _⟩, hd σ H p⟩
theorem rU {lo : Int} {n : Nat} {g : TG} {tb : TS} {D : Ends} {σ : St} {H : Hp} (Pv : Nat -> St -> Hp -> Prop) (h0 : Pv 0 σ H)
  (hs : ∀ i σ H, i < n -> Pv i σ H -> g (.int (lo + i)) σ H fun σ2 H2 => tb { D with nx := Pv (i + 1), ct := Pv (i + 1), bk := D.nx } σ2 H2) (hd : ∀ σ H, Pv n σ H -> D.nx σ H) :
  ∃ W : Nat -> Nat -> St -> Hp -> Prop, (∃ m, W 0 m σ H) /\ ∀ i m σ H, W i m σ H ->
   ((Itr lo n).stop i H /\ D.nx σ H) \/ ((Itr lo n).go i H /\ ∃ N : St -> Hp -> Prop, (∀ σ' H', N σ' H' -> ∃ m', m' < m /\ W (i + 1) m' σ' H') /\ ∀ x H', (Itr lo n).yld i H x H' -> g x σ H' fun σ2 H2 => tb { D with nx := N, ct := N, bk := D.nx } σ2 H2) := by
 refine ⟨fun i m σ H => m = n - i /\ i <= n /\ Pv i σ H, ⟨n, by simp, Nat.zero_le _, h0⟩, ?_⟩
 rintro i m σ H ⟨rfl, hi, p⟩
 by_cases hlt : i < n
 ·refine .inr ⟨hlt, Pv (i + 1), fun σ' H' p' => ⟨n - (i + 1), by omega, rfl, hlt, p'⟩, fun x H' y => ?_⟩
  obtain ⟨e, y⟩ := y
  subst e y
  exact hs i σ _ hlt p
 ·have e : i = n := by omega
  subst e
  exact .inl ⟨Nat.le_refl _, hd σ H p⟩
end L2
namespace L2
open PySem PySem.Spec PyProof.Rows
abbrev R2 := V -> V -> Hp -> VK -> Prop
def OpR (X : Cx) (f : Value -> Value -> Sem Value) (r : R2) : Prop :=
 ∀ (pins : List (Addr × Obj)) (s : Shared) (σ : St) (H : Hp) (x y : V) (v u : Value) (Q : VK), Inv X pins σ H s -> RelV x v -> RelV y u -> r x y H Q ->
  wpAny (model X.prog X.w) X.A (f v u) (EP X pins σ Q) X.xe s
def gU (X : Cx) (f : Value) (r : List V -> Hp -> VK -> Prop) : Prop :=
 ∀ (pins : List (Addr × Obj)) (s : Shared) (σ : St) (H : Hp) (xs : List V) (us : List Value) (Q : VK), Inv X pins σ H s -> Vals xs us -> r xs H Q ->
  wpAny (model X.prog X.w) X.A (call f us) (EP X pins σ Q) X.xe s
def DE (X : Cx) (r : V -> Hp -> (Bool -> Hp -> Prop) -> Prop) : Prop :=
 ∀ (pins : List (Addr × Obj)) (s : Shared) (σ : St) (H : Hp) (x : V) (v : Value) (Q : Bool -> Hp -> Prop), Inv X pins σ H s -> RelV x v -> r x H Q ->
  wpAny (model X.prog X.w) X.A (truthy v) (TP X pins σ Q) X.xe s
def tOp (r : R2) (ta tb : TE) : TE := fun σ H Q => ta σ H fun x H1 => tb σ H1 fun y H2 => r x y H2 Q
def rI (C : Int -> Int -> Prop) (g : Int -> Int -> V) : R2 := fun x y H Q => ∃ i j, x = .int i /\ y = .int j /\ C i j /\ Q (g i j) H
def rI0 (g : Int -> Int -> V) : R2 := fun x y H Q => ∃ i j, x = .int i /\ y = .int j /\ Q (g i j) H
section
variable {X : Cx} {a b c : Expr} {ta tb tc : TE} {pos : Pos}
theorem Cn (ha : PE X a ta) (hb : PE X b tb) {pins : List (Addr × Obj)} {s : Shared} {σ : St} {H : Hp} {R : V -> V -> Hp -> Prop} (I : Inv X pins σ H s)
  (h : ta σ H fun x H1 => tb σ H1 fun y H2 => R x y H2) {Q : Value -> Shared -> Prop} {f : Value -> Value -> Sem Value}
  (hf : ∀ v u s2 x y H2, Inv X pins σ H2 s2 -> RelV x v -> RelV y u -> R x y H2 -> wpAny (model X.prog X.w) X.A (f v u) Q X.xe s2) :
  wpAny (model X.prog X.w) X.A (eval a X.env) (fun v s₁ => wpAny (model X.prog X.w) X.A (eval b X.env) (fun u s₂ => wpAny (model X.prog X.w) X.A (f v u) Q X.xe s₂) X.xe s₁) X.xe s := by
 refine thn (ha pins s σ H _ I h) fun v s1 ⟨x, H1, I1, r1, q1⟩ => ?_
 refine thn (hb pins s1 σ H1 _ I1 q1) fun u s2 ⟨y, H2, I2, r2, q2⟩ => ?_
 exact hf v u s2 x y H2 I2 r1 r2 q2
theorem aU {op : Operator} {r : R2} (ho : OpR X (binaryOp op) r) (ha : PE X a ta) (hb : PE X b tb) : PE X (.BinOp a op b pos) (tOp r ta tb) := by
 intro pins s σ H Q I h
 exact wpAny_BinOp (Cn ha hb I h fun v u s2 x y H2 I2 rx ry q => ho pins s2 σ H2 x y v u Q I2 rx ry q)
theorem opI {f : Value -> Value -> Sem Value} {C : Int -> Int -> Prop} {g : Int -> Int -> Int}
  (rule : ∀ (i j : Int) (t u : Tok) (s : Shared) (Q : Value -> Shared -> Prop) (E : Value -> Shared -> Prop), C i j -> Q (.int (g i j) s.toks) { s with toks := s.toks + 1 } -> wpAny (model X.prog X.w) X.A (f (.int i t) (.int j u)) Q E s) :
  OpR X f (rI C fun i j => .int (g i j)) := by
 intro pins s σ H x y v u Q I rx ry h
 obtain ⟨i, j, rfl, rfl, hc, q⟩ := h
 obtain ⟨t, rfl⟩ := rx
 obtain ⟨t', rfl⟩ := ry
 exact rule i j t t' s _ _ hc ⟨.int (g i j), H, I.tok _, ⟨_, rfl⟩, q⟩
theorem DA {f : Value -> Value -> Sem Value} {g : Int -> Int -> Int}
  (rule : ∀ (i j : Int) (t u : Tok) (s : Shared) (Q : Value -> Shared -> Prop) (E : Value -> Shared -> Prop), Q (.int (g i j) s.toks) { s with toks := s.toks + 1 } -> wpAny (model X.prog X.w) X.A (f (.int i t) (.int j u)) Q E s) :
  OpR X f (rI0 fun i j => .int (g i j)) := by
 intro pins s σ H x y v u Q I rx ry h
 obtain ⟨i, j, rfl, rfl, q⟩ := h
 obtain ⟨t, rfl⟩ := rx
 obtain ⟨t', rfl⟩ := ry
 exact rule i j t t' s _ _ ⟨.int (g i j), H, I.tok _, ⟨_, rfl⟩, q⟩
theorem Bj {f : Value -> Value -> Sem Value} {g : Int -> Int -> Bool}
  (rule : ∀ (i j : Int) (t u : Tok) (s : Shared) (Q : Value -> Shared -> Prop) (E : Value -> Shared -> Prop), Q (.bool (g i j)) s -> wpAny (model X.prog X.w) X.A (f (.int i t) (.int j u)) Q E s) :
  OpR X f (rI0 fun i j => .bl (g i j)) := by
 intro pins s σ H x y v u Q I rx ry h
 obtain ⟨i, j, rfl, rfl, q⟩ := h
 obtain ⟨t, rfl⟩ := rx
 obtain ⟨t', rfl⟩ := ry
 exact rule i j t t' s _ _ ⟨.bl (g i j), H, I, rfl, q⟩
def DC (i j : Int) : Prop := 0 < j /\ j < 1073741824
def CMul (i j : Int) : Prop := (-(2 ^ 64) < i /\ i < 2 ^ 64) \/ (-(2 ^ 64) < j /\ j < 2 ^ 64)
theorem CMul.ok {i j : Int} (h : CMul i j) : IntMulOk i j := by
 rcases h with ⟨h1, h2⟩ | ⟨h1, h2⟩
 ·exact .of_left (intBits_le_64 h1 h2)
 ·exact .of_right (intBits_le_64 h1 h2)
theorem cY : OpR X (binaryOp .Add) (rI0 fun i j => .int (i + j)) := DA fun _ _ _ _ _ _ _ q => add_int q
theorem kX : OpR X (binaryOp .Mult) (rI CMul fun i j => .int (i * j)) := opI fun _ _ _ _ _ _ _ hc q => mul_int q hc.ok
theorem A9 : OpR X (binaryOp .FloorDiv) (rI DC fun i j => .int (i / j)) := opI fun i j _ _ _ _ _ hc q => by
 have h1 : (0 : Int) < j := hc.1
 have h2 : j < 1073741824 := hc.2
 exact floordiv_int (by omega) (by rw [Int.fdiv_eq_ediv_of_nonneg i (by omega)]; exact q) (.inl (PyProof.noPylong_small (by omega)))
theorem bS : OpR X (binaryOp .Mod) (rI (fun _ j => 0 < j) fun i j => .int (i % j)) := opI fun i j _ _ _ _ _ hc q => by
 have h1 : (0 : Int) < j := hc
 exact mod_int' (by omega) (by rw [Int.fmod_eq_emod_of_nonneg i (by omega)]; exact q)
end
def C6 : V -> V -> Bool
 | .non, .non => true | .non, .int _ => true | .int _, .non => true | .non, .bl _ => true | .bl _, .non => true | .non, .str _ => true | .str _, .non => true
 | .int _, .int _ => true | .bl _, .bl _ => true | .str _, .str _ => true | .byt _, .byt _ => true
 | .int _, .str _ => true | .str _, .int _ => true | .bl _, .str _ => true | .str _, .bl _ => true
 | _, _ => false
def rEq : R2 := fun x y H Q => C6 x y = true /\ Q (.bl (decide (x = y))) H
def rNe : R2 := fun x y H Q => C6 x y = true /\ Q (.bl (!decide (x = y))) H
theorem xI {i j : Int} : decide (V.int i = V.int j) = (i == j) := by
 rw [Bool.eq_iff_iff]
 simp
theorem zq {i j : Bool} : decide (V.bl i = V.bl j) = (i == j) := by
 rw [Bool.eq_iff_iff]
 simp
theorem yc {i j : Str} : decide (V.str i = V.str j) = (i == j) := by
 rw [Bool.eq_iff_iff]
 simp
theorem xV {i j : Array UInt8} : decide (V.byt i = V.byt j) = (i.toList == j.toList) := by
 rw [Bool.eq_iff_iff]
 cases i
 cases j
 simp
section
variable {X : Cx} {a b c : Expr} {ta tb tc : TE} {pos : Pos}
theorem bq {pins : List (Addr × Obj)} {σ : St} {H : Hp} {s : Shared} {Q : VK} {k k' : Bool} (I : Inv X pins σ H s) (q : Q (.bl k) H) (e : k = k') : EP X pins σ Q (.bool k') s := by
 subst e
 exact ⟨.bl k, H, I, rfl, q⟩
theorem vf : OpR X (compareOp .Eq) rEq := by
 intro pins s σ H x y v u Q I rx ry h
 obtain ⟨hs, q⟩ := h
 cases x with
 | non =>
  cases rx
  cases y with
  | non => cases ry; exact PySem.EqNone.eq_none_none (bq I q (by simp))
  | bl j => cases ry; exact PySem.EqNone.eq_none_bool (bq I q (by simp))
  | int j => obtain ⟨t', rfl⟩ := ry; exact PySem.EqNone.eq_none_int (bq I q (by simp))
  | str j => obtain ⟨t', rfl⟩ := ry; exact PySem.EqNone.eq_none_str (bq I q (by simp))
  | _ => exact absurd (show false = true from hs) Bool.false_ne_true
 | bl i =>
  cases rx
  cases y with
  | non => cases ry; exact PySem.EqNone.eq_bool_none (bq I q (by simp))
  | bl j => cases ry; exact eq_bool (bq I q zq)
  | str j => obtain ⟨t', rfl⟩ := ry; exact PySem.EqMixed.eq_bool_str (bq I q (by simp))
  | _ => exact absurd (show false = true from hs) Bool.false_ne_true
 | int i =>
  obtain ⟨t, rfl⟩ := rx
  cases y with
  | non => cases ry; exact PySem.EqNone.eq_int_none (bq I q (by simp))
  | int j => obtain ⟨t', rfl⟩ := ry; exact eq_int (bq I q xI)
  | str j => obtain ⟨t', rfl⟩ := ry; exact PySem.EqMixed.eq_int_str (bq I q (by simp))
  | _ => exact absurd (show false = true from hs) Bool.false_ne_true
 | str i =>
  obtain ⟨t, rfl⟩ := rx
  cases y with
  | non => cases ry; exact PySem.EqNone.eq_str_none (bq I q (by simp))
  | bl j => cases ry; exact PySem.EqMixed.eq_str_bool (bq I q (by simp))
  | int j => obtain ⟨t', rfl⟩ := ry; exact PySem.EqMixed.eq_str_int (bq I q (by simp))
  | str j => obtain ⟨t', rfl⟩ := ry; exact eq_str (bq I q yc)
  | _ => exact absurd (show false = true from hs) Bool.false_ne_true
 | byt i =>
  obtain ⟨t, rfl⟩ := rx
  cases y with
  | byt j => obtain ⟨t', rfl⟩ := ry; exact PySem.W.eq_bytes (bq I q xV)
  | _ => exact absurd (show false = true from hs) Bool.false_ne_true
 | _ => cases y <;> exact absurd (show false = true from hs) Bool.false_ne_true
theorem sE : OpR X (compareOp .NotEq) rNe := by
 intro pins s σ H x y v u Q I rx ry h
 obtain ⟨hs, q⟩ := h
 cases x with
 | non =>
  cases rx
  cases y with
  | non => cases ry; exact PySem.EqNone.ne_none_none (bq I q (by simp))
  | bl j => cases ry; exact PySem.EqNone.ne_none_bool (bq I q (by simp))
  | int j => obtain ⟨t', rfl⟩ := ry; exact PySem.EqNone.ne_none_int (bq I q (by simp))
  | str j => obtain ⟨t', rfl⟩ := ry; exact PySem.EqNone.ne_none_str (bq I q (by simp))
  | _ => exact absurd (show false = true from hs) Bool.false_ne_true
 | bl i =>
  cases rx
  cases y with
  | non => cases ry; exact PySem.EqNone.ne_bool_none (bq I q (by simp))
  | bl j => cases ry; exact ne_bool (bq I q (congrArg not zq))
  | str j => obtain ⟨t', rfl⟩ := ry; exact PySem.EqMixed.ne_bool_str (bq I q (by simp))
  | _ => exact absurd (show false = true from hs) Bool.false_ne_true
 | int i =>
  obtain ⟨t, rfl⟩ := rx
  cases y with
  | non => cases ry; exact PySem.EqNone.ne_int_none (bq I q (by simp))
  | int j => obtain ⟨t', rfl⟩ := ry; exact ne_int (bq I q (congrArg not xI))
  | str j => obtain ⟨t', rfl⟩ := ry; exact PySem.EqMixed.ne_int_str (bq I q (by simp))
  | _ => exact absurd (show false = true from hs) Bool.false_ne_true
 | str i =>
  obtain ⟨t, rfl⟩ := rx
  cases y with
  | non => cases ry; exact PySem.EqNone.ne_str_none (bq I q (by simp))
  | bl j => cases ry; exact PySem.EqMixed.ne_str_bool (bq I q (by simp))
  | int j => obtain ⟨t', rfl⟩ := ry; exact PySem.EqMixed.ne_str_int (bq I q (by simp))
  | str j => obtain ⟨t', rfl⟩ := ry; exact ne_str (bq I q (congrArg not yc))
  | _ => exact absurd (show false = true from hs) Bool.false_ne_true
 | byt i =>
  obtain ⟨t, rfl⟩ := rx
  cases y with
  | byt j => obtain ⟨t', rfl⟩ := ry; exact PySem.W.ne_bytes (bq I q (congrArg not xV))
  | _ => exact absurd (show false = true from hs) Bool.false_ne_true
 | _ => cases y <;> exact absurd (show false = true from hs) Bool.false_ne_true
theorem AL : OpR X (compareOp .Lt) (rI0 fun i j => .bl (decide (i < j))) := Bj fun _ _ _ _ _ _ _ q => lt_int q
theorem CG : OpR X (compareOp .LtE) (rI0 fun i j => .bl (decide (i <= j))) := Bj fun _ _ _ _ _ _ _ q => le_int q
theorem uR : OpR X (compareOp .Gt) (rI0 fun i j => .bl (decide (j < i))) := Bj fun _ _ _ _ _ _ _ q => gt_int q
theorem BK : OpR X (compareOp .GtE) (rI0 fun i j => .bl (decide (j <= i))) := Bj fun _ _ _ _ _ _ _ q => ge_int q
theorem B0 : OpR X (compareOp .Is) (fun x y H Q => y = .non /\ Q (.bl (decide (x = .non))) H) := by
 intro pins s σ H x y v u Q I rx ry h
 obtain ⟨rfl, q⟩ := h
 cases ry
 refine is_none_gen (bq I q ?_)
 cases x <;> first
  | (cases rx; rfl)
  | (obtain ⟨t, rfl⟩ := rx; rfl)
theorem bQ (b : Expr) {op : CmpOp} (h : op ≠ .In := by decide) (h2 : op ≠ .NotIn := by decide) : behindInMarks op b = false := by
 have e1 : (op == CmpOp.In) = false := by cases op <;> first | rfl | exact absurd rfl h
 have e2 : (op == CmpOp.NotIn) = false := by cases op <;> first | rfl | exact absurd rfl h2
 cases b <;> simp [behindInMarks, e1, e2]
theorem fG {op : CmpOp} {r : R2} (ho : OpR X (compareOp op) r) (ha : PE X a ta) (hb : PE X b tb) (hm : behindInMarks op b = false) : PE X (.Compare a [op] [b] pos) (tOp r ta tb) := by
 intro pins s σ H Q I h
 exact wpAny_Compare1 (Cn ha hb I h fun v u s2 x y H2 I2 rx ry q => ho pins s2 σ H2 x y v u Q I2 rx ry q) hm
def CH (t : TE) : TT := fun σ H Q => t σ H fun x H' => ∃ k, x = .bl k /\ Q k H'
theorem cu {op : CmpOp} {r : R2} (ho : OpR X (compareOp op) r) (ha : PE X a ta) (hb : PE X b tb) (hm : behindInMarks op b = false) : PT X (.Compare a [op] [b] pos) (CH (tOp r ta tb)) := by
 intro pins s σ H Q I h
 refine wpAny_isTrue_Compare1 (thn (ha pins s σ H _ I h) fun v s1 ⟨x, H1, I1, r1, q1⟩ => thn (hb pins s1 σ H1 _ I1 q1) fun u s2 ⟨y, H2, I2, r2, q2⟩ =>
  thn (ho pins s2 σ H2 x y v u _ I2 r1 r2 q2) fun c s3 ⟨z, H3, I3, r3, k, e, q3⟩ => ?_) hm
 subst e
 cases r3
 exact wpAny_truthy_bool ⟨H3, I3, q3⟩
def De (K : PySem.W.Frag) (x : V) (H : Hp) (k : Bool) : Prop :=
 match x with
 | .non => k = false
 | .bl b => k = b
 | .int i => k = (i != 0)
 | .str y => y.length <= sizeLine /\ k = ((y.length : Int) != 0)
 | .byt y => y.size <= sizeLine /\ k = ((y.size : Int) != 0)
 | .ref p => (∃ xs, SqL K H p xs /\ k = !xs.isEmpty) \/ (∃ xs, SqT K H p xs /\ k = !xs.isEmpty) \/ ∃ kvs, H p = some (.dK kvs) /\ k = !kvs.isEmpty
 | _ => False
theorem wM {κ : Type} {kvs : List (κ × V)} {vs : List (κ × Value)} (r : KV kvs vs) : (!vs.isEmpty) = !kvs.isEmpty := by
 cases r <;> rfl
theorem pA {xs : List V} {its : List Value} (r : Vals xs its) : (!its.toArray.isEmpty) = !xs.isEmpty := by
 cases r <;> simp
theorem pM : (sizeLine : Nat) < 2 ^ 63 := by rw [sizeLine_eq]; decide
theorem B3 : DE X (fun x H Q => ∃ k, De X.K x H k /\ Q k H) := by
 intro pins s σ H x v Q I rx h
 obtain ⟨k, e, q⟩ := h
 have hl := pM
 have hs : sizeLine = 16777216 := sizeLine_eq
 cases x with
 | non =>
  cases rx
  have e' : k = false := e
  subst e'
  exact truthy_none ⟨H, I, q⟩
 | bl b =>
  cases rx
  have e' : k = b := e
  subst e'
  exact wpAny_truthy_bool ⟨H, I, q⟩
 | int i =>
  obtain ⟨t, rfl⟩ := rx
  have e' : k = (i != 0) := e
  subst e'
  exact PySem.P.truthy_int ⟨H, I, q⟩
 | str y =>
  obtain ⟨t, rfl⟩ := rx
  obtain ⟨hy, e'⟩ : y.length <= sizeLine /\ k = ((y.length : Int) != 0) := e
  subst e'
  exact PySem.P.truthy_str (by omega) ⟨H, I.tok _, q⟩
 | byt y =>
  obtain ⟨t, rfl⟩ := rx
  obtain ⟨hy, e'⟩ : y.size <= sizeLine /\ k = ((y.size : Int) != 0) := e
  subst e'
  exact PySem.W.truthy_bytes (by omega) ⟨H, I.tok _, q⟩
 | ref p =>
  cases rx
  have e' : (∃ xs, SqL X.K H p xs /\ k = !xs.isEmpty) \/ (∃ xs, SqT X.K H p xs /\ k = !xs.isEmpty) \/ ∃ kvs, H p = some (.dK kvs) /\ k = !kvs.isEmpty := e
  rcases e' with ⟨xs, hx, e'⟩ | ⟨xs, hx, e'⟩ | ⟨kvs, hx, e'⟩
  ·subst e'
   obtain ⟨its, r, pl, hz⟩ := I.list hx
   have hlen := r.length
   exact wpAny_truthy_list pl.isList (by simp only [List.size_toArray]; omega) ⟨H, I.tok _, by rw [pA r]; exact q⟩
  ·subst e'
   obtain ⟨its, r, pl, hz⟩ := I.tuple hx
   have hlen := r.length
   exact truthy_tuple pl (by simp only [List.size_toArray]; omega) ⟨H, I.tok _, by rw [pA r]; exact q⟩
  ·subst e'
   obtain ⟨hz, hS, vs, r, m⟩ : kvs.length <= sizeLine /\ (p == sysModules) = false /\ ∃ vs, KV kvs vs /\ s.heap.DictOf (aQ X.prog X.w) p vs := I.hok p _ hx
   have hlen : kvs.length = vs.length := Paired.length r
   exact wpAny_truthy_dict hS m (by omega) ⟨H, I.tok _, by rw [wM r]; exact q⟩
 | _ => exact (show False from e).elim
theorem p5 (ha : PE X a ta) (he : ∀ whole, isTrue a X.env whole = (do let v <- whole; standAt a.pos; holding [v] (truthy v))) :
  PT X a (fun σ H Q => ta σ H fun x H' => ∃ k, De X.K x H' k /\ Q k H') := by
 intro pins s σ H Q I h
 exact isTrue_plain (thn (ha pins s σ H _ I h) fun v s1 ⟨x, H1, I1, r1, q1⟩ => B3 pins s1 σ H1 x v Q I1 r1 q1) (he _)
theorem vals1 {x : V} {us : List Value} (r : Vals [x] us) : ∃ u, us = [u] /\ RelV x u := by
 cases r with
 | cons r1 r2 => cases r2; exact ⟨_, rfl, r1⟩
theorem sO : gU X (.type "int") (fun xs H Q => (∃ i, xs = [.int i] /\ Q (.int i) H) \/ ∃ k, xs = [.bl k] /\ Q (.int (if k then 1 else 0)) H) := by
 intro pins s σ H xs us Q I r h
 rcases h with ⟨i, rfl, q⟩ | ⟨k, rfl, q⟩
 ·obtain ⟨u, rfl, t, rfl⟩ := vals1 r
  exact call_int_int ⟨.int i, H, I, ⟨_, rfl⟩, q⟩
 ·obtain ⟨u, rfl, r1⟩ := vals1 r
  cases r1
  exact call_int_bool ⟨.int (if k then 1 else 0), H, I.tok _, ⟨_, rfl⟩, q⟩
end
end L2
namespace L2
open PySem PySem.Spec PyProof.Rows
structure ObjM (h : Heap) (x dx C : Addr) (mA : Str -> Option Value) : Prop where
 obj : h.get? x = some (PySem.W.instObj C dx)
 ns : h.Ns1 dx mA
 ne : dx ≠ x
theorem yg {h : Heap} {dx : Addr} {mA : Str -> Option Value} (n : h.Ns1 dx mA) : ∃ od, h.get? dx = some od /\ ∀ name, PySem.W.lookIn name od = some (mA name) := by
 obtain ⟨o, es, ep, ho, hd, hk, _, hm⟩ := n
 refine ⟨o, ho, fun name => ?_⟩
 have e := hm name
 unfold nsFind findBy at e
 rw [<- Array.find?_toList] at e
 unfold PySem.W.lookIn
 rw [hd]
 dsimp only
 split
 ·rename_i y q
  rw [q] at e
  exact congrArg some e
 ·rename_i q
  rw [q] at e
  have a : es.toList.any (·.refKey) = false := by
   rw [List.any_eq_false]
   intro y hy
   obtain ⟨z, t, hkey⟩ := hk y (Array.mem_toList_iff.mp hy)
   simp [DictEntry.refKey, hkey]
  have a' : ¬ es.toList.any (·.refKey) = true := by rw [a]; exact Bool.false_ne_true
  rw [if_neg a']
  exact congrArg some e
theorem ObjM.look {h : Heap} {x dx C : Addr} {mA : Str -> Option Value} (I : ObjM h x dx C mA) : ∃ od, PySem.W.InstAt h x (PySem.W.instObj C dx) C (some od) /\ ∀ name, PySem.W.lookIn name od = some (mA name) :=
 let ⟨od, ho, hl⟩ := yg I.ns
 ⟨od, ⟨I.obj, rfl, rfl, ho⟩, hl⟩
section
variable {prog : Program} {w : World} {A : Around} {E : Value -> Shared -> Prop} {s : Shared} {K : PySem.W.Frag} {x dx C f : Addr} {mA : Str -> Option Value} {name : Str} {v : Value}
theorem get_map {expr : Bool} {Q : Value -> Shared -> Prop} (X : K.In s.heap) (I : ObjM s.heap x dx C mA) (hg : PySem.W.plainGet K C name = true) (hh : PySem.W.hasDictIn K C = true)
  (ha : PySem.W.findIn K (.ref C) name = some none) (hv : mA name = some v) (hv' : PySem.W.handedIn v = true) (h : Q v { s with toks := s.toks + 1 }) :
  wpAny (model prog w) A (getAttr (.ref x) name expr) Q E s := by
 obtain ⟨od, J, hl⟩ := I.look
 exact PySem.W.get_value X J (PySem.W.plainGet_of hg).1 (PySem.W.findObj_own hh ha rfl (by rw [hl, hv])) hv' h
theorem zY {pl : Sem Bool} {Q : Value × List Value -> Shared -> Prop} (X : K.In s.heap) (I : ObjM s.heap x dx C mA) (hg : PySem.W.plainGet K C name = true)
  (hf : PySem.W.findIn K (.ref C) name = some (some (.ref f))) (ht : PySem.W.isFn K (.ref f) = true) (hv : mA name = none) (h : Q (.ref f, [.ref x]) s) :
  wpAny (model prog w) A (getMethod (.ref x) name pl) Q E s := by
 obtain ⟨od, J, hl⟩ := I.look
 exact PySem.W.method_fn X J (PySem.W.plainGet_of hg).1 (PySem.W.plainGet_of hg).2 hf (beq_iff_eq.mp ht) (by show (PySem.W.lookIn name od).map (·.isSome) = some false; rw [hl, hv]; rfl) h
theorem Bv {ns : List Str} {Q : Unit -> Shared -> Prop} (X : K.In s.heap) (I : ObjM s.heap x dx C mA)
  (hs : PySem.W.findIn K (.ref C) "__setattr__" = some (some (.builtin "object.__setattr__"))) (hp : PySem.W.plainOver K C = true) (ht : PySem.W.takerIn K C name = some none) (hh : PySem.W.hasDictIn K C = true)
  (hw : PySem.Within mA ns) (hsz : ns.length <= sizeLine)
  (h : ∀ h', ObjM h' x dx C (fun y => if y = name then some v else mA y) -> Heap.SameBut dx s.heap h' -> Q () { s with heap := h', toks := s.toks + 2 }) :
  wpAny (model prog w) A (setAttr (.ref x) name v) Q E s := by
 obtain ⟨od, J, hl⟩ := I.look
 refine PySem.W.set_plain X J hs (PySem.W.osa_open (s := { s with toks := s.toks + 1 }) (r := none) X J hp ht fun b => ?_)
 obtain ⟨cd, hc, hd'⟩ := PySem.W.any_some hh
 have hx : s.heap.get? x = some ⟨.ref C, some dx, .plain, #[]⟩ := I.obj
 refine wpAny_bind (wpAny_pure (wpAny_bind (wpAny_bind (wpAny_loadPart hx (wpAny_bind (PySem.W.Looks.here (s := { s with toks := s.toks + 1 }) (PySem.W.looks_clsIn X hc) ?_))))))
 rw [hd']
 refine wpAny_pure (a := some dx) (wpAny_bind (wpAny_pure (wpAny_bind ?_)))
 refine wpAny_nsSet1 (s := { s with toks := s.toks + 1 }) I.ns fun h' hn2 hs2 => ?_
 obtain ⟨oD, esD, epD, hoD, hdD, hcD⟩ := hn2.count (PySem.Within.cons name v hw)
 refine wpAny_bind (wpAny_lookBehind hoD (by rw [hdD]; exact pastItsLine_dict (Nat.le_trans hcD (by rw [List.length_cons]; omega))) ?_)
 exact wpAny_pure (h _ ⟨(hs2.2 _ (Ne.symm I.ne)).trans I.obj, hn2, I.ne⟩ hs2)
theorem Al {R : Result -> Shared -> Prop} {vs : List Value} {kw : List (Str × Value)} (X : K.In s.heap) (hm : PySem.W.makesIn K C = true)
  (hi : PySem.W.findIn K (.ref C) "__init__" = some (some (.ref f))) (hf : PySem.W.typeIn K (.ref f) = some (.type "function"))
  (h : codeAny (model prog w) (A.under (.builtin "type.__call__" ⟨.ref C :: vs, kw⟩)) (.call (.ref f) ⟨.ref (s.heap.objs.size + 1) :: vs, kw⟩) (PySem.W.InitBack (s.heap.objs.size + 1) R)
   { s with heap := (s.heap.push PySem.W.emptyDict).push (PySem.W.instObj C s.heap.objs.size) }) :
  codeAny (model prog w) A (.call (.ref C) ⟨vs, kw⟩) R s := by
 obtain ⟨hh, g, d, t, os⟩ := s
 exact PySem.W.make_core (PySem.W.makes_of X hm) (PySem.W.looks_findIn X hi) (fun self => PySem.W.bind_fn X self hf) (.inl rfl) h
end
def gQ (f : Str) (v : V) : List (Str × V) -> List (Str × V)
 | [] => [(f, v)]
 | (g, x) :: r => if g = f then (g, v) :: r else (g, x) :: gQ f v r
theorem ow (f g : Str) (v : V) : ∀ fs : List (Str × V), (gQ f v fs).lookup g = if g = f then some v else fs.lookup g
 | [] => by
  show List.lookup g [(f, v)] = _
  by_cases h : g = f
  ·have hb : (g == f) = true := beq_iff_eq.mpr h
   simp only [List.lookup, hb, if_pos h]
  ·have hb : (g == f) = false := beq_eq_false_iff_ne.mpr h
   simp only [List.lookup, hb, if_neg h]
 | (k, x) :: r => by
  have ih := ow f g v r
  rw [show gQ f v ((k, x) :: r) = (if k = f then (k, v) :: r else (k, x) :: gQ f v r) from rfl]
  by_cases hk : k = f
  ·rw [if_pos hk]
   by_cases h : g = k
   ·have hb : (g == k) = true := beq_iff_eq.mpr h
    simp only [List.lookup, hb, if_pos (h.trans hk)]
   ·have hb : (g == k) = false := beq_eq_false_iff_ne.mpr h
    simp only [List.lookup, hb, if_neg (fun e : g = f => h (e.trans hk.symm))]
  ·rw [if_neg hk]
   by_cases h : g = k
   ·have hb : (g == k) = true := beq_iff_eq.mpr h
    simp only [List.lookup, hb, if_neg (fun e : g = f => hk (h.symm.trans e))]
   ·have hb : (g == k) = false := beq_eq_false_iff_ne.mpr h
    simp only [List.lookup, hb]
    exact ih
theorem nU (f : Str) (v : V) : ∀ fs : List (Str × V), f ∈ (gQ f v fs).map (·.1) /\ ∀ g, g ∈ fs.map (·.1) -> g ∈ (gQ f v fs).map (·.1)
 | [] => ⟨by simp [gQ], fun g h => by simp at h⟩
 | (k, x) :: r => by
  obtain ⟨i1, i2⟩ := nU f v r
  rw [show gQ f v ((k, x) :: r) = (if k = f then (k, v) :: r else (k, x) :: gQ f v r) from rfl]
  by_cases hk : k = f
  ·rw [if_pos hk]
   subst hk
   exact ⟨by simp, fun g h => by simpa using h⟩
  ·rw [if_neg hk]
   refine ⟨?_, fun g h => ?_⟩
   ·rw [List.map_cons]
    exact List.mem_cons_of_mem _ i1
   ·rw [List.map_cons] at h ⊢
    rcases List.mem_cons.mp h with e | e
    ·exact List.mem_cons.mpr (.inl e)
    ·exact List.mem_cons_of_mem _ (i2 g e)
theorem oA (f : Str) (v : V) : ∀ fs : List (Str × V), (gQ f v fs).length <= fs.length + 1
 | [] => by simp [gQ]
 | (k, x) :: r => by
  have ih := oA f v r
  rw [show gQ f v ((k, x) :: r) = (if k = f then (k, v) :: r else (k, x) :: gQ f v r) from rfl]
  by_cases hk : k = f
  ·rw [if_pos hk, List.length_cons, List.length_cons]; omega
  ·rw [if_neg hk, List.length_cons, List.length_cons]; omega
theorem RelO.some_of {v : V} {o : Option Value} (r : RelO (some v) o) : ∃ u, o = some u /\ RelV v u := by
 cases o with
 | none => exact (show False from r).elim
 | some u => exact ⟨u, rfl, r⟩
theorem RelO.none_of {o : Option Value} (r : RelO none o) : o = none := by
 cases o with
 | none => rfl
 | some u => exact (show False from r).elim
theorem yV {v : V} {u : Value} (r : RelV v u) : PySem.W.handedIn u = true := by
 cases v with
 | non => cases (show u = Value.none from r); rfl
 | bl b => cases (show u = Value.bool b from r); rfl
 | int i => obtain ⟨t, e⟩ := (show ∃ t, u = Value.int i t from r); cases e; rfl
 | str x => obtain ⟨t, e⟩ := (show ∃ t, u = Value.str x t from r); cases e; rfl
 | byt b => obtain ⟨t, e⟩ := (show ∃ t, u = Value.bytes b t from r); cases e; rfl
 | flt b => obtain ⟨t, e⟩ := (show ∃ t, u = Value.float b t from r); cases e; rfl
 | ref a => cases (show u = Value.ref a from r); rfl
 | ty n => cases (show u = Value.type n from r); rfl
section
variable {P : Program} {w : World} {H H' : Hp} {h h' : Heap} {a C dx : Addr} {fs fs' : List (Str × V)}
theorem oV (hok : HOk P w H h) (e : H a = some (.ins C dx fs)) : ∃ mA, ObjM h a dx C mA /\ (∀ f, RelO (fs.lookup f) (mA f)) /\ PySem.Within mA (fs.map (·.1)) /\ fs.length <= 1000 /\ H dx = some (.own a) := by
 obtain ⟨d, z, ne, ob, mA, n, r, q⟩ := (show ObjOk P w H h a (.ins C dx fs) from hok a _ e)
 exact ⟨mA, ⟨ob, n, ne⟩, r, q, z, d⟩
end
structure Cls (K : PySem.W.Frag) (C : Addr) : Prop where
 pg : PySem.W.plainGet K C Str.empty = true
 hd : PySem.W.hasDictIn K C = true
 po : PySem.W.plainOver K C = true
 sa : PySem.W.findIn K (.ref C) "__setattr__" = some (some (.builtin "object.__setattr__"))
theorem Cls.get {K : PySem.W.Frag} {C : Addr} (c : Cls K C) (f : Str) : PySem.W.plainGet K C f = true := c.pg
def NoAttr (K : PySem.W.Frag) (C : Addr) (f : Str) : Prop := PySem.W.findIn K (.ref C) f = some none
theorem NoAttr.taker {K : PySem.W.Frag} {C : Addr} {f : Str} (n : NoAttr K C f) : PySem.W.takerIn K C f = some none := by
 unfold PySem.W.takerIn
 rw [show PySem.W.findIn K (.ref C) f = some none from n]
 rfl
structure Con (K : PySem.W.Frag) (C : Addr) (f : Str) (v : V) (u : Value) : Prop where
 at_ : PySem.W.findIn K (.ref C) f = some (some u)
 rel : RelV v u
 get : PySem.W.specialIn K u "__get__" = some none
 cp : PySem.W.copiedNames.contains f = false
structure Meth (K : PySem.W.Frag) (C : Addr) (m : Str) (f : Addr) : Prop where
 at_ : PySem.W.findIn K (.ref C) m = some (some (.ref f))
 fn : PySem.W.isFn K (.ref f) = true
 kp : PySem.W.keepIn K (.ref f) = true
section
variable {X : Cx} {pins : List (Addr × Obj)} {σ : St} {H : Hp} {s : Shared} {a C dx : Addr} {fs : List (Str × V)} {f : Str} {v : V} {A : Around} {E : Value -> Shared -> Prop}
theorem wX {b : Bool} {Q : Value -> Shared -> Prop} (I : Inv X pins σ H s) (e : H a = some (.ins C dx fs)) (c : Cls X.K C) (n : NoAttr X.K C f) (l : fs.lookup f = some v)
  (h : ∀ u s', Inv X pins σ H s' -> RelV v u -> Q u s') : wpAny (model X.prog X.w) A (getAttr (.ref a) f b) Q E s := by
 obtain ⟨mA, O, r, _, _, _⟩ := oV I.hok e
 obtain ⟨u, hu, ru⟩ := RelO.some_of (v := v) (o := mA f) (by rw [<- l]; exact r f)
 exact get_map I.kIn O (c.get f) c.hd n hu (yV ru) (h u _ (I.tok _) ru)
theorem qt {m : Str} {g : Addr} {pl : Sem Bool} {Q : Value × List Value -> Shared -> Prop} (I : Inv X pins σ H s) (e : H a = some (.ins C dx fs)) (c : Cls X.K C) (k : Meth X.K C m g) (l : fs.lookup m = none)
  (h : Q (.ref g, [.ref a]) s) : wpAny (model X.prog X.w) A (getMethod (.ref a) m pl) Q E s := by
 obtain ⟨mA, O, r, _, _, _⟩ := oV I.hok e
 have hn : mA m = none := RelO.none_of (by rw [<- l]; exact r m)
 exact zY I.kIn O (c.get m) k.at_ k.fn hn h
theorem vW {y : V} {u : Value} {Q : Unit -> Shared -> Prop} (I : Inv X pins σ H s) (e : H a = some (.ins C dx fs)) (c : Cls X.K C) (n : NoAttr X.K C f) (hl : fs.length < 1000) (ry : RelV y u)
  (h : ∀ s', Inv X pins σ (upd H a (.ins C dx (gQ f y fs))) s' -> Q () s') : wpAny (model X.prog X.w) A (setAttr (.ref a) f u) Q E s := by
 obtain ⟨mA, O, r, wi, _, ho⟩ := oV I.hok e
 have hz : (fs.map (·.1)).length <= sizeLine := by rw [List.length_map, sizeLine_eq]; omega
 refine Bv I.kIn O c.sa c.po n.taker c.hd wi hz fun h' O' sb => h _ ?_
 have hd : ∃ o, h'.get? dx = some o := let ⟨o, _, _, e', _⟩ := O'.ns; ⟨o, e'⟩
 refine I.write (x := a) (e := dx) (by rw [e]; exact True.intro) (.inr ho) (fun b q hb z => (sb.2 b hb).trans z) hd ?_
 refine ⟨by rw [ae O.ne]; exact ho, ?_, O.ne, O'.obj, _, O'.ns, fun g => ?_, fun g hg => ?_⟩
 ·have := oA f y fs; omega
 ·show RelO ((gQ f y fs).lookup g) (if g = f then some u else mA g)
  rw [ow]
  by_cases q : g = f
  ·rw [if_pos q, if_pos q]; exact ry
  ·rw [if_neg q, if_neg q]; exact r g
 ·by_cases q : g = f
  ·rw [q]; exact (nU f y fs).1
  ·refine (nU f y fs).2 g (wi g fun z => hg ?_)
   show (if g = f then some u else mA g) = none
   rw [if_neg q]; exact z
theorem Inv.made (I : Inv X pins σ H s) : Inv X pins σ (upd (upd H s.heap.objs.size (.own (s.heap.objs.size + 1))) (s.heap.objs.size + 1) (.ins C s.heap.objs.size []))
  { s with heap := (s.heap.push PySem.W.emptyDict).push (PySem.W.instObj C s.heap.objs.size) } := by
 have e1 : (s.heap.push PySem.W.emptyDict).get? s.heap.objs.size = some PySem.W.emptyDict := Heap.get?_push_size s.heap rfl
 have e2 : ((s.heap.push PySem.W.emptyDict).push (PySem.W.instObj C s.heap.objs.size)).get? (s.heap.objs.size + 1) = some (PySem.W.instObj C s.heap.objs.size) := by
  have := Heap.get?_push_size (s.heap.push PySem.W.emptyDict) (o := PySem.W.instObj C s.heap.objs.size) rfl
  rwa [Heap.size_push] at this
 have e3 : (s.heap.push PySem.W.emptyDict).Ns s.heap.objs.size (fun _ => none) := ⟨PySem.W.emptyDict, #[], _, e1, rfl, (fun e he => absurd he (by simp)), fun _ => rfl⟩
 have I1 := I.laid (a := s.heap.objs.size) (o := .own (s.heap.objs.size + 1)) (h' := s.heap.push PySem.W.emptyDict) (t' := s.toks) (fun b u q => Heap.get?_push_of_some _ q) (Nat.le_refl _) ⟨_, e1⟩
 refine I1.laid (a := s.heap.objs.size + 1) (o := .ins C s.heap.objs.size []) (t' := s.toks) (fun b u q => Heap.get?_push_of_some _ q) (Nat.le_of_eq (Heap.size_push _ _)) ?_
 have ne : s.heap.objs.size ≠ s.heap.objs.size + 1 := Nat.ne_of_lt (Nat.lt_succ_self _)
 refine ⟨by rw [ae ne, ab], Nat.zero_le _, ne, e2, fun _ => none, (Heap.Ns1.of_empty e3).at fun o q => Heap.get?_push_of_some _ q, fun _ => True.intro, fun y hy => absurd rfl hy⟩
theorem AW {prog : Program} {w : World} {env : Env} {e : Expr} {f : Str} {pos : Pos} {s : Shared} {Q : Value -> Shared -> Prop} (hb : attributeBase e f env (eval e env) = eval e env)
  (h : wpAny (model prog w) A (eval e env) (fun o s₁ => wpAny (model prog w) A (getAttr o f true) Q E s₁) E s) : wpAny (model prog w) A (eval (.Attribute e f pos) env) Q E s :=
 Attribute_any_ h (by rw [arm_eval_Attribute, hb])
end
def Dn (K : PySem.W.Frag) (ta : TE) (f : Str) : TE := fun σ H Q => ta σ H fun x H1 => ∃ a C dx fs v, x = .ref a /\ H1 a = some (.ins C dx fs) /\ Cls K C /\ NoAttr K C f /\ fs.lookup f = some v /\ Q v H1
def DD (K : PySem.W.Frag) (ta tv : TE) (f : Str) : TS := fun D σ H => tv σ H fun y H1 => ta σ H1 fun x H2 => ∃ a C dx fs, x = .ref a /\ H2 a = some (.ins C dx fs) /\ Cls K C /\ NoAttr K C f /\ fs.length < 1000 /\
 D.nx σ (upd H2 a (.ins C dx (gQ f y fs)))
section
variable {X : Cx} {o e value : Expr} {f : Str} {pos pos' tpos : Pos} {ta tv : TE}
theorem bC (he : PE X e ta) (hb : attributeBase e f X.env (eval e X.env) = eval e X.env) : PE X (.Attribute e f pos) (Dn X.K ta f) := by
 intro pins s σ H Q I h
 refine AW hb (thn (he pins s σ H _ I h) fun u s1 ⟨x, H1, I1, rx, a, C, dx, fs, v, ex, ea, c, n, l, q⟩ => ?_)
 subst ex
 obtain rfl : u = Value.ref a := rx
 exact wX I1 ea c n l fun u' s2 I2 ru => ⟨v, H1, I2, ru, q⟩
theorem nF (ha : PE X o ta) (hv : PE X value tv) (hs : swapsWith value (some (.Attribute o f pos')) pos.line X.env = pure false) : PS X (.Assign [.Attribute o f pos'] value pos) (DD X.K ta tv f) := by
 intro pins s σ H D I h
 refine plainObj_wpAny_Assign_Attribute (thn (hv pins s σ H _ I h) fun u s1 ⟨y, H1, I1, ry, q⟩ => thn (ha pins s1 σ H1 _ I1 q) fun ov s2 ⟨x, H2, I2, rx, a, C, dx, fs, ex, ea, c, n, l, q2⟩ => ?_) hs
 subst ex
 obtain rfl : ov = Value.ref a := rx
 exact vW I2 ea c n l ry fun s3 I3 => ⟨σ, _, I3, q2⟩
end
section
variable {X : Cx} {pins : List (Addr × Obj)} {σ : St} {H : Hp} {s : Shared} {A : Around} {E : Value -> Shared -> Prop} {Q : Value -> Shared -> Prop} {c : Value} {b : Bool}
inductive TyOf (K : PySem.W.Frag) (H : Hp) : V -> Value -> Prop where
 | non : TyOf K H .non (.type "NoneType")
 | bl (x : Bool) : TyOf K H (.bl x) (.type "bool")
 | int (i : Int) : TyOf K H (.int i) (.type "int")
 | str (x : Str) : TyOf K H (.str x) (.type "str")
 | flt (x : UInt64) : TyOf K H (.flt x) (.type "float")
 | lst {a : Addr} {xs : List V} (e : H a = some (.lst xs)) : TyOf K H (.ref a) (.type "list")
 | frz {a : Addr} {o : Obj} {xs : List V} (e : H a = some (.frz o (.lst xs))) : TyOf K H (.ref a) (.type "list")
 | tup {a : Addr} {xs : List V} (e : H a = some (.tup xs)) : TyOf K H (.ref a) (.type "tuple")
 | dK {a : Addr} {kvs : List (Key × V)} (e : H a = some (.dK kvs)) : TyOf K H (.ref a) (.type "dict")
 | dT {a : Addr} {kvs : List (List Key × V)} (e : H a = some (.dT kvs)) : TyOf K H (.ref a) (.type "dict")
 | ins {a C dx : Addr} {fs : List (Str × V)} (e : H a = some (.ins C dx fs)) (cl : Cls K C) (ha : PySem.W.findIn K (.ref C) "__class__" = some (some (.builtin "object.__class__")))
   (hn : PySem.W.specialIn K (.builtin "object.__class__") "__get__" = some (some (.builtin "getset_descriptor.__get__"))) (htk : PySem.W.takesIn K (.builtin "object.__class__") = some true)
   (hm : PySem.W.mroIn K C (.type "object") = some true) : TyOf K H (.ref a) (.ref C)
theorem y6 {x : V} {u t : Value} (I : Inv X pins σ H s) (rx : RelV x u) (ty : TyOf X.K H x t) (e : PySem.W.kitOne X.K t c = some b) (h : ∀ tk, Q (.bool b) { s with toks := tk }) :
  wpAny (model X.prog X.w) A (call (.builtin "isinstance") [u, c]) Q E s := by
 cases ty with
 | non => cases (show u = Value.none from rx); exact PySem.W.kia_one PySem.W.kitx_none I.kIn True.intro e (fun z => nomatch z) h
 | bl y => cases (show u = Value.bool y from rx); exact PySem.W.kia_one PySem.W.kitx_bool I.kIn True.intro e (fun z => nomatch z) h
 | int i => obtain ⟨t, q⟩ := (show ∃ t, u = Value.int i t from rx); cases q; exact PySem.W.kia_one PySem.W.kitx_int I.kIn True.intro e (fun z => nomatch z) h
 | str y => obtain ⟨t, q⟩ := (show ∃ t, u = Value.str y t from rx); cases q; exact PySem.W.kia_one PySem.W.kitx_str I.kIn True.intro e (fun z => nomatch z) h
 | flt y => obtain ⟨t, q⟩ := (show ∃ t, u = Value.float y t from rx); cases q; exact PySem.W.kia_one PySem.W.kitx_float I.kIn True.intro e (fun z => nomatch z) h
 | @lst a xs ea =>
  cases (show u = Value.ref a from rx)
  obtain ⟨_, _, n, _, h1⟩ := (show ObjOk X.prog X.w H s.heap a (.lst xs) from I.hok a _ ea)
  exact PySem.W.kia_one PySem.W.kitx_list I.kIn ⟨_, h1, rfl⟩ e (fun z => nomatch z) h
 | @frz a ob xs ea =>
  cases (show u = Value.ref a from rx)
  obtain ⟨_, _, _, n, _, h1⟩ := (show ObjOk X.prog X.w H s.heap a (.frz ob (.lst xs)) from I.hok a _ ea)
  exact PySem.W.kia_one PySem.W.kitx_list I.kIn ⟨_, h1, rfl⟩ e (fun z => nomatch z) h
 | @tup a xs ea =>
  cases (show u = Value.ref a from rx)
  obtain ⟨_, _, _, p⟩ := (show ObjOk X.prog X.w H s.heap a (.tup xs) from I.hok a _ ea)
  obtain ⟨o, h1, h2, _⟩ := p
  exact PySem.W.kia_one PySem.W.kitx_tuple I.kIn ⟨o, h1, h2⟩ e (fun z => nomatch z) h
 | @dK a kvs ea =>
  cases (show u = Value.ref a from rx)
  obtain ⟨_, _, vs, _, p⟩ := (show ObjOk X.prog X.w H s.heap a (.dK kvs) from I.hok a _ ea)
  obtain ⟨o, es, ep, h1, h2, _⟩ := p
  exact PySem.W.kia_one PySem.W.kitx_dict I.kIn ⟨o, h1, h2.1⟩ e (fun z => nomatch z) h
 | @dT a kvs ea =>
  cases (show u = Value.ref a from rx)
  obtain ⟨_, _, xs, _, o, es, ep, h1, h2, _⟩ := (show ObjOk X.prog X.w H s.heap a (.dT kvs) from I.hok a _ ea)
  exact PySem.W.kia_one PySem.W.kitx_dict I.kIn ⟨o, h1, h2.1⟩ e (fun z => nomatch z) h
 | @ins a C dx fs ea cl ha hn htk hm =>
  cases (show u = Value.ref a from rx)
  obtain ⟨mA, O, _⟩ := oV I.hok ea
  obtain ⟨od, J, _⟩ := O.look
  exact PySem.W.kia_one (PySem.W.kitx_own (cl.get _) cl.hd ha hn htk hm) I.kIn J e (fun z => nomatch z) h
end
end L2
namespace L2
open PySem PySem.Spec PyProof.Rows
structure Room (k : Nat) (A : Around) : Prop where
 hd : A.handled = none
 dp : A.depth + 3 * k + 5 < recursionLimit
 un : A.units + 16 * k + 200 < cLine
theorem Room.mono {j k : Nat} {A : Around} (r : Room k A) (h : j <= k) : Room j A := ⟨r.hd, by have := r.dp; omega, by have := r.un; omega⟩
theorem Room.deeper {k : Nat} {A : Around} (r : Room (k + 1) A) (env : Env) : Room k (A.deeper env) :=
 ⟨r.hd, by have := r.dp; show A.depth + 1 + 3 * k + 5 < _; omega, by have := r.un; show A.units + 3 + 16 * k + 200 < _; omega⟩
theorem vZ {A : Around} {C : Addr} {us : List Value} {kw : List (Str × Value)} : (A.under (.builtin "type.__call__" ⟨.ref C :: us, kw⟩)).depth = A.depth + 1 := by
 first | rfl | simp [Around.under, Code.weight, Code.isCreation, Code.isGuard, Code.isCaller, Code.frames, Code.isFrame, guardIds]
theorem wC {A : Around} {C : Addr} {us : List Value} {kw : List (Str × Value)} : (A.under (.builtin "type.__call__" ⟨.ref C :: us, kw⟩)).units = A.units + 1 := by
 first | rfl | simp [Around.under, Code.cUnits, Code.frames, Code.isFrame]
theorem Room.make {k : Nat} {A : Around} (r : Room (k + 1) A) (C : Addr) (us : List Value) (kw : List (Str × Value)) : Room k (A.under (.builtin "type.__call__" ⟨.ref C :: us, kw⟩)) :=
 ⟨r.hd, by have := r.dp; rw [vZ]; omega, by have := r.un; rw [wC]; omega⟩
theorem Room.depth {k : Nat} {A : Around} (r : Room k A) : A.depth < recursionLimit := by have := r.dp; omega
theorem Room.units {k : Nat} {A : Around} (r : Room k A) : A.units + 64 < cLine := by have := r.un; omega
def BC : TA := fun _ H Q => Q [] H
def BP (ta : TE) (tr : TA) : TA := fun σ H Q => ta σ H fun x H1 => tr σ H1 fun xs H2 => Q (x :: xs) H2
section
variable {X : Cx} {e : Expr} {es : List Expr} {te : TE} {t : TA} {pos : Pos}
theorem af : PA X [] BC := fun _ _ _ _ H Q I h => Calls.spliced_nil ⟨[], H, I, .nil, h⟩
theorem aa (ha : PE X e te) (hr : PA X es t) (hs : starEach (e :: es) X.env = (false, eval e X.env) :: starEach es X.env := by rfl) : PA X (e :: es) (BP te t) := by
 intro pos pins s σ H Q I h
 rw [hs]
 show wpAny _ _ (spliced ((false, eval e X.env) :: backTo pos (starEach es X.env))) _ _ s
 refine Calls.spliced_cons (thn (ha pins s σ H _ I h) fun u s1 ⟨x, H1, I1, r1, q1⟩ => ?_)
 exact thn (hr pos pins s1 σ H1 _ I1 q1) fun us s2 ⟨xs, H2, I2, r2, q2⟩ => ⟨x :: xs, H2, I2, .cons r1 r2, q2⟩
def Dq (t : TA) : TE := fun σ H Q => t σ H fun xs H1 => xs.length <= sizeLine /\ ∀ p, H1 p = none -> Q (.ref p) (upd H1 p (.tup xs))
def CN (t : TA) : TE := fun σ H Q => t σ H fun xs H1 => xs.length <= sizeLine /\ ∀ p, H1 p = none -> Q (.ref p) (upd H1 p (.lst xs))
theorem dD {x1} (h : PA X es t) : PE X (.Tuple es x1 pos) (Dq t) := by
 intro pins s σ H Q I hq
 refine wpAny_Tuple_spliced (thn (h pos pins s σ H _ I hq) fun us s1 ⟨xs, H1, I1, r, z, q⟩ => ⟨by rw [<- r.length]; exact z, ?_⟩)
 have hf : H1 s1.heap.objs.size = none := I1.hok.fresh (Nat.le_refl _)
 refine ⟨.ref s1.heap.objs.size, upd H1 s1.heap.objs.size (.tup xs), I1.laid (t' := s1.toks) (fun b u e => Heap.get?_push_of_some _ e) (Nat.le_refl _) ?_, rfl, q _ hf⟩
 exact ⟨z, us, r, ⟨_, Heap.get?_push_size _ rfl, rfl, _, rfl⟩⟩
theorem cW (h : PA X es t) : PE X (.List es pos) (CN t) := by
 intro pins s σ H Q I hq
 refine wpAny_List_spliced (thn (h pos pins s σ H _ I hq) fun us s1 ⟨xs, H1, I1, r, z, q⟩ => ⟨by rw [<- r.length]; exact z, ?_⟩)
 have hf : H1 s1.heap.objs.size = none := I1.hok.fresh (Nat.le_refl _)
 refine ⟨.ref s1.heap.objs.size, upd H1 s1.heap.objs.size (.lst xs), I1.laid (t' := s1.toks) (fun b u e => Heap.get?_push_of_some _ e) (Nat.le_refl _) ?_, rfl, q _ hf⟩
 exact ⟨z, us, 0, r, Heap.get?_push_size _ rfl⟩
end
abbrev Sp := List V -> Hp -> VK -> XK -> Prop
abbrev CXT := List Env -> Hp -> Shared -> XK -> Value -> Shared -> Prop
structure Env0 (P : Program) (w : World) (K : PySem.W.Frag) (mg : Str -> Option Value) (base : Heap) (A : Around) (outer : List Env) (s : Shared) (H : Hp) : Prop where
 frames : A.frames = some outer
 mod : Mod K mg base
 bs : ∀ b o, base.get? b = some o -> s.heap.get? b = some o /\ H b = none
 bsz : base.objs.size <= s.heap.objs.size
 funs : s.heap.FunFrames base outer
 frf : ∀ b ∈ frs outer, H b = none
 hok : HOk P w H s.heap
 bare : AllBare s.gens
def CE (outer : List Env) (P : Program) (w : World) (H : Hp) (s : Shared) (Q : VK) (u : Value) (s' : Shared) : Prop :=
 ∃ v H', s'.os = s.os /\ AllBare s'.gens /\ Un (frs outer) [] H H' s.heap s'.heap /\ HOk P w H' s'.heap /\ RelV v u /\ Q v H'
def CR (CX : CXT) (outer : List Env) (P : Program) (w : World) (H : Hp) (s : Shared) (Q : VK) (E : XK) (r : Result) (s' : Shared) : Prop :=
 match r with
 | .ok (.ret u) => CE outer P w H s Q u s'
 | .ok _ => False
 | .error e => CX outer H s E e s'
structure FnOk (P : Program) (w : World) (K : PySem.W.Frag) (mg : Str -> Option Value) (base : Heap) (CX : CXT) (k : Nat) (f : Addr) (fd : FuncData) (ps : List Str) (sp : Sp) : Prop where
 len : ∀ vs H Q E, sp vs H Q E -> vs.length = ps.length
 run : ∀ (A : Around) (outer : List Env) (s : Shared) (H : Hp) (args : Args) (us : List Value) (vs : List V) (Q : VK) (E : XK), Room k A -> Env0 P w K mg base A outer s H -> BindsTo s fd args (ps.zip us) -> Vals vs us -> sp vs H Q E ->
  codeAny (model P w) A (.call (.ref f) args) (CR CX outer P w H s Q E) s
theorem Env0.make {P : Program} {w : World} {K : PySem.W.Frag} {mg : Str -> Option Value} {base : Heap} {A : Around} {outer : List Env} {s : Shared} {H : Hp} (e : Env0 P w K mg base A outer s H) (C : Addr) (us : List Value) (kw : List (Str × Value)) :
  Env0 P w K mg base (A.under (.builtin "type.__call__" ⟨.ref C :: us, kw⟩)) outer s H := ⟨by first | exact e.frames | (simpa [Around.under, Code.envs, Code.isFrame, pushEnvs] using e.frames), e.mod, e.bs, e.bsz, e.funs, e.frf, e.hok, e.bare⟩
section
variable {X : Cx} {pins : List (Addr × Obj)} {σ : St} {H : Hp} {s s' : Shared}
theorem Inv.env0 (I : Inv X pins σ H s) : Env0 X.prog X.w X.K X.mg X.base X.A X.stack s H :=
 ⟨I.ok.frames, I.ok.mod, I.bs, Nat.le_trans I.ok.bsz I.sz, I.stack, I.stkFree, I.hok, I.bare⟩
theorem Inv.after {Q : VK} {u : Value} (I : Inv X pins σ H s) (h : CE X.stack X.prog X.w H s Q u s') : EP X pins σ Q u s' := by
 obtain ⟨v, H', os, bare, un, hok, r, q⟩ := h
 obtain ⟨hh, g, d, t, os'⟩ := s'
 obtain rfl : os' = s.os := os
 exact ⟨v, H', I.call (h' := hh) (g' := g) (d' := d) (t' := t) (ch := []) un hok bare (fun b z => absurd z (by simp)), r, q⟩
end
def BJ (sp : Sp) (dvs : List V) (E : XK) (t : TA) : TE := fun σ H Q => t σ H fun vs H1 => sp (vs ++ dvs) H1 Q E
def xU (C : Addr) (m : Str) (sp : Sp) (dvs : List V) (E : XK) (ta : TE) (t : TA) : TE := fun σ H Q => ta σ H fun x H1 => ∃ a dx fs, x = .ref a /\ H1 a = some (.ins C dx fs) /\ fs.lookup m = none /\
 t σ H1 fun vs H2 => sp (x :: (vs ++ dvs)) H2 Q E
def BL (C : Addr) (sp : Sp) (dvs : List V) (E : XK) (t : TA) : TE := fun σ H Q => t σ H fun vs H1 => ∀ x dx, H1 x = none -> H1 dx = none -> dx ≠ x ->
 sp (.ref x :: (vs ++ dvs)) (upd (upd H1 dx (.own x)) x (.ins C dx [])) (fun v H2 => v = .non /\ Q (.ref x) H2) E
def Binds (K : PySem.W.Frag) (fd : FuncData) (ps : List Str) (ds : List Value) : Prop :=
 ∀ (s : Shared) (us : List Value), K.In s.heap -> (us ++ ds).length = ps.length -> BindsTo s fd ⟨us, []⟩ (ps.zip (us ++ ds))
theorem Binds.all {K : PySem.W.Frag} {fd : FuncData} {ps : List Str} (h : ∀ us : List Value, us.length = ps.length -> bindArgs fd ⟨us, []⟩ = pure (ps.zip us)) : Binds K fd ps [] := fun s us _ hl => by
 rw [List.append_nil] at hl ⊢
 exact .of_eq (h us hl)
def Passes (CX : CXT) (X : Cx) (E : XK) : Prop := ∀ (pins : List (Addr × Obj)) (σ : St) (H : Hp) (s : Shared) (e : Value) (s' : Shared), Inv X pins σ H s -> CX X.stack H s E e s' -> X.xe e s'
section
variable {X : Cx} {CX : CXT} {k : Nat} {f C : Addr} {fd : FuncData} {ps : List Str} {sp : Sp} {dvs : List V} {ds : List Value} {E : XK} {x m : Str} {p pos apos : Pos} {e o : Expr} {es : List Expr} {ta : TE} {t : TA}
theorem wO {pins : List (Addr × Obj)} {σ : St} {H : Hp} {s : Shared} {Q : VK} {us : List Value} {vs : List V} (F : FnOk X.prog X.w X.K X.mg X.base CX k f fd ps sp) (hr : Room k X.A) (hb : Binds X.K fd ps ds) (hd : Vals dvs ds) (hx : Passes CX X E)
  (I : Inv X pins σ H s) (r : Vals vs us) (h : sp (vs ++ dvs) H Q E) : wpAny (model X.prog X.w) X.A (call (.ref f) us) (EP X pins σ Q) X.xe s := by
 have r2 : Vals (vs ++ dvs) (us ++ ds) := r.append hd
 have hl : (us ++ ds).length = ps.length := by rw [<- r2.length]; exact F.len _ _ _ _ h
 refine wpAny_call (codeAny_mono (F.run X.A X.stack s H ⟨us, []⟩ (us ++ ds) (vs ++ dvs) Q E hr I.env0 (hb s us I.kIn hl) r2 h) fun r s' hq => ?_)
 cases r with
 | error e => exact hx pins σ H s e s' I hq
 | ok fl =>
  cases fl with
  | ret u => exact I.after hq
  | next => exact False.elim hq
  | brk => exact False.elim hq
  | cont => exact False.elim hq
theorem A5 (F : FnOk X.prog X.w X.K X.mg X.base CX k f fd ps sp) (hr : Room k X.A) (hg : Gl X x) (hm : X.mg x = some (.ref f)) (hk : PySem.W.keepIn X.K (.ref f) = true) (hb : Binds X.K fd ps ds) (hd : Vals dvs ds) (hx : Passes CX X E)
  (ha : PA X (e :: es) t) (hdb : (x == ("__debug__" : Str)) = false := by decide) (he : starEach (e :: es) X.env = (false, eval e X.env) :: starEach es X.env := by rfl) (hpl : (backTo pos (starEach es X.env)).any (·.1) = false := by rfl) :
  PE X (.Call (.Name x p) (e :: es) [] pos) (BJ sp dvs E t) := by
 intro pins s σ H Q I h
 refine wpAny_Call_Name_kw (xZ I hg hm ?_ hdb)
 refine PySem.W.callWith_K (h₀ := X.base) I.ok.mod.kin hk (thn (ha pos pins s σ H _ I h) fun us s1 ⟨vs, H1, I1, r, q⟩ => ⟨I1.kIn, ?_⟩) he hpl
 exact wO F hr hb hd hx I1 r q
theorem Bf {pl : Sem Bool} (he : PE X o ta) (c : Cls X.K C) (hm : Meth X.K C m f) (F : FnOk X.prog X.w X.K X.mg X.base CX k f fd ps sp) (hr : Room k X.A) (hb : Binds X.K fd ps ds) (hd : Vals dvs ds) (hx : Passes CX X E) (ha : PA X (e :: es) t)
  (hst : starEach (e :: es) X.env = (false, eval e X.env) :: starEach es X.env := by rfl) (hpl : (backTo pos (starEach es X.env)).any (·.1) = false := by rfl)
  (ht : eval (.Call (.Attribute o m apos) (e :: es) [] pos) X.env = (do
   let ov <- eval o X.env
   standAt apos.atName
   let (f, first) <- holding [ov] (getMethod ov m pl)
   callWith pos f first (backTo pos (starEach (e :: es) X.env)) (backToKw pos (keywordEach [] X.env))) := by rfl) :
  PE X (.Call (.Attribute o m apos) (e :: es) [] pos) (xU C m sp dvs E ta t) := by
 intro pins s σ H Q I h
 refine PySem.W.methodCall_KW (pl := pl) (thn (he pins s σ H _ I h) fun u s1 ⟨x, H1, I1, rx, a, dx, fs, ex, ea, l, q⟩ => ?_) ht
 subst ex
 obtain rfl : u = Value.ref a := rx
 refine qt I1 ea c hm l ?_
 refine PySem.W.callWith_K (first := [.ref a]) (h₀ := X.base) I.ok.mod.kin hm.kp (thn (ha pos pins s1 σ H1 _ I1 q) fun us s2 ⟨vs, H2, I2, r, q2⟩ => ⟨I2.kIn, ?_⟩) hst hpl
 exact wO (us := .ref a :: us) (vs := .ref a :: vs) F hr hb hd hx I2 (.cons rfl r) q2
theorem Ay {pl : Sem Bool} (he : PE X o ta) (c : Cls X.K C) (hm : Meth X.K C m f) (F : FnOk X.prog X.w X.K X.mg X.base CX k f fd ps sp) (hr : Room k X.A) (hb : Binds X.K fd ps ds) (hd : Vals dvs ds) (hx : Passes CX X E)
  (ht : eval (.Call (.Attribute o m apos) [] [] pos) X.env = (do
   let ov <- eval o X.env
   standAt apos.atName
   let (f, first) <- holding [ov] (getMethod ov m pl)
   callWith pos f first (backTo pos (starEach [] X.env)) (backToKw pos (keywordEach [] X.env))) := by rfl) :
  PE X (.Call (.Attribute o m apos) [] [] pos) (xU C m sp dvs E ta BC) := by
 intro pins s σ H Q I h
 refine PySem.W.methodCall_KW (pl := pl) (thn (he pins s σ H _ I h) fun u s1 ⟨x, H1, I1, rx, a, dx, fs, ex, ea, l, q⟩ => ?_) ht
 subst ex
 obtain rfl : u = Value.ref a := rx
 refine qt I1 ea c hm l ?_
 exact PySem.W.callWith_K0 (first := [.ref a]) I1.kIn hm.kp (wO (us := [.ref a]) (vs := [.ref a]) F hr hb hd hx I1 (.cons rfl .nil) q)
structure Mk (K : PySem.W.Frag) (C f : Addr) : Prop where
 makes : PySem.W.makesIn K C = true
 init : PySem.W.findIn K (.ref C) "__init__" = some (some (.ref f))
 fn : PySem.W.isFn K (.ref f) = true
 kp : PySem.W.keepIn K (.ref C) = true
theorem Az {pins : List (Addr × Obj)} {σ : St} {H : Hp} {s : Shared} {Q : VK} {us : List Value} {vs : List V} (M : Mk X.K C f) (F : FnOk X.prog X.w X.K X.mg X.base CX k f fd ps sp) (hr : Room (k + 1) X.A) (hb : Binds X.K fd ps ds) (hd : Vals dvs ds)
  (hx : Passes CX X E) (I : Inv X pins σ H s) (r : Vals vs us)
  (h : ∀ x dx, H x = none -> H dx = none -> dx ≠ x -> sp (.ref x :: (vs ++ dvs)) (upd (upd H dx (.own x)) x (.ins C dx [])) (fun v H2 => v = .non /\ Q (.ref x) H2) E) :
  wpAny (model X.prog X.w) X.A (call (.ref C) us) (EP X pins σ Q) X.xe s := by
 have hq := h (s.heap.objs.size + 1) s.heap.objs.size (I.hok.fresh (Nat.le_succ _)) (I.hok.fresh (Nat.le_refl _)) (Nat.ne_of_lt (Nat.lt_succ_self _))
 have I2 := Inv.made (C := C) I
 have r2 : Vals (V.ref (s.heap.objs.size + 1) :: (vs ++ dvs)) (Value.ref (s.heap.objs.size + 1) :: (us ++ ds)) := .cons rfl (r.append hd)
 have hl : (Value.ref (s.heap.objs.size + 1) :: us ++ ds).length = ps.length := by
  have e := r2.length
  rw [F.len _ _ _ _ hq] at e
  exact e.symm
 refine wpAny_call (Al (f := f) I.kIn M.makes M.init (beq_iff_eq.mp M.fn) (codeAny_mono (F.run _ X.stack _ _ ⟨Value.ref (s.heap.objs.size + 1) :: us, []⟩ (Value.ref (s.heap.objs.size + 1) :: (us ++ ds)) _ _ E (hr.make C us [])
  (I2.env0.make C us []) (hb _ (Value.ref (s.heap.objs.size + 1) :: us) I2.kIn hl) r2 hq) fun r s' hq' => ?_))
 cases r with
 | error e => exact hx pins σ _ _ e s' I2 hq'
 | ok fl =>
  cases fl with
  | ret u =>
   obtain ⟨v, H', I3, rv, ev, q3⟩ := I2.after hq'
   subst ev
   exact ⟨rv, ⟨V.ref (s.heap.objs.size + 1), H', I3, rfl, q3⟩⟩
  | next => exact False.elim hq'
  | brk => exact False.elim hq'
  | cont => exact False.elim hq'
theorem Bc (M : Mk X.K C f) (F : FnOk X.prog X.w X.K X.mg X.base CX k f fd ps sp) (hr : Room (k + 1) X.A) (hg : Gl X x) (hm : X.mg x = some (.ref C)) (hb : Binds X.K fd ps ds) (hd : Vals dvs ds) (hx : Passes CX X E)
  (ha : PA X (e :: es) t) (hdb : (x == ("__debug__" : Str)) = false := by decide) (he : starEach (e :: es) X.env = (false, eval e X.env) :: starEach es X.env := by rfl) (hpl : (backTo pos (starEach es X.env)).any (·.1) = false := by rfl) :
  PE X (.Call (.Name x p) (e :: es) [] pos) (BL C sp dvs E t) := by
 intro pins s σ H Q I h
 refine wpAny_Call_Name_kw (xZ I hg hm ?_ hdb)
 refine PySem.W.callWith_K (h₀ := X.base) I.ok.mod.kin M.kp (thn (ha pos pins s σ H _ I h) fun us s1 ⟨vs, H1, I1, r, q⟩ => ⟨I1.kIn, ?_⟩) he hpl
 exact Az M F hr hb hd hx I1 r q
end
section
variable {X : Cx} {CX : CXT} {k : Nat} {f C : Addr} {fd : FuncData} {ps ks : List Str} {sp : Sp} {E : XK} {x m : Str} {p pos apos kpos : Pos} {e o : Expr} {es : List Expr} {kws : List Keyword} {te ta : TE} {t tk : TA} {nm : Option Str}
structure KBinds (K : PySem.W.Frag) (fd : FuncData) (ps ks : List Str) (g : List Value -> List Value -> List Value) (gV : List V -> List V -> List V) : Prop where
 to : ∀ (s : Shared) (us ws : List Value), K.In s.heap -> (g us ws).length = ps.length -> BindsTo s fd ⟨us, ks.zip ws⟩ (ps.zip (g us ws))
 rel : ∀ {vs : List V} {us : List Value} {zs : List V} {ws : List Value}, Vals vs us -> Vals zs ws -> Vals (gV vs zs) (g us ws)
variable {g : List Value -> List Value -> List Value} {gV : List V -> List V -> List V}
end
structure FnScope (N P : List Str) (sc : Scope) : Prop where
 kind : sc.kind = .function
 co : sc.isCoroutine = false
 gen : sc.isGenerator = false
 nd : N.Nodup
 pre : N.take P.length = P
 par : ∀ x ∈ P, sc.names.lookup x = some .local \/ sc.names.lookup x = some .cell
 nofree : ∀ y ∈ sc.names, y.2 ≠ .free
theorem sC {kindOf : Str -> Option NameKind} {x : Str} : ∀ {binds : List (Str × Value)} {m : Str -> Option Value}, (∀ v, (x, v) ∉ binds) -> bindL kindOf binds m x = m x
 | [], _, _ => rfl
 | (n, v) :: r, m, h => by
  unfold bindL
  rw [sC fun w hw => h w (List.mem_cons_of_mem _ hw)]
  split
  ·have : x ≠ n := by rintro rfl; exact h v List.mem_cons_self
   simp [this]
  ·rfl
theorem si {kindOf : Str -> Option NameKind} {x : Str} : ∀ {binds : List (Str × Value)} {m : Str -> Option Value}, (∀ v, (x, v) ∉ binds) -> bindC kindOf binds m x = m x
 | [], _, _ => rfl
 | (n, v) :: r, m, h => by
  unfold bindC
  rw [si fun w hw => h w (List.mem_cons_of_mem _ hw)]
  split
  ·rfl
  ·have : x ≠ n := by rintro rfl; exact h v List.mem_cons_self
   simp [this]
theorem su {kindOf : Str -> Option NameKind} {x : Str} {v : Value} : ∀ {P : List Str} {vs : List Value} {i : Nat} {m : Str -> Option Value}, P.Nodup -> P[i]? = some x -> vs[i]? = some v -> kindOf x = some .local ->
  bindL kindOf (P.zip vs) m x = some v
 | [], _, _, _, _, h, _, _ => by simp at h
 | _ :: _, [], _, _, _, _, h, _ => by simp at h
 | p :: P, w :: vs, 0, m, nd, h1, h2, hk => by
  simp at h1 h2; subst h1; subst h2
  show bindL kindOf ((p, w) :: P.zip vs) m p = _
  unfold bindL
  rw [sC fun v hv => (List.nodup_cons.mp nd).1 (List.of_mem_zip hv).1, if_pos hk]
  simp
 | p :: P, w :: vs, i + 1, m, nd, h1, h2, hk => by
  show bindL kindOf ((p, w) :: P.zip vs) m x = _
  unfold bindL
  exact su (i := i) (List.nodup_cons.mp nd).2 (by simpa using h1) (by simpa using h2) hk
theorem se {kindOf : Str -> Option NameKind} {x : Str} {v : Value} : ∀ {P : List Str} {vs : List Value} {i : Nat} {m : Str -> Option Value}, P.Nodup -> P[i]? = some x -> vs[i]? = some v -> kindOf x ≠ some .local ->
  bindC kindOf (P.zip vs) m x = some v
 | [], _, _, _, _, h, _, _ => by simp at h
 | _ :: _, [], _, _, _, _, h, _ => by simp at h
 | p :: P, w :: vs, 0, m, nd, h1, h2, hk => by
  simp at h1 h2; subst h1; subst h2
  show bindC kindOf ((p, w) :: P.zip vs) m p = _
  unfold bindC
  rw [si fun v hv => (List.nodup_cons.mp nd).1 (List.of_mem_zip hv).1, if_neg hk]
  simp
 | p :: P, w :: vs, i + 1, m, nd, h1, h2, hk => by
  show bindC kindOf ((p, w) :: P.zip vs) m x = _
  unfold bindC
  exact se (i := i) (List.nodup_cons.mp nd).2 (by simpa using h1) (by simpa using h2) hk
def start (N : List Str) (vs : List V) : St := vs.map some ++ List.replicate (N.length - vs.length) none
def yO (CX : CXT) (P : Program) (w : World) (K : PySem.W.Frag) (mg : Str -> Option Value) (base : Heap) (N : List Str) (qual : Str) (scope : Scope) (f : Addr) (cd : Value) (A : Around) (outer : List Env) (s : Shared) (H : Hp) (E : XK) : Cx where
 prog := P
 w := w
 K := K
 mg := mg
 base := base
 A := A.deeper (envOfC qual scope s.heap.objs.size f cd)
 N := N
 s₀ := s
 H₀ := H
 env := envOfC qual scope s.heap.objs.size f cd
 outer := outer
 stack := envOfC qual scope s.heap.objs.size f cd :: outer
 ex := []
 calm := true
 fn := fun _ => true
 pn := []
 xe := fun e s' => wpAny (model P w) (A.deeper (envOfC qual scope s.heap.objs.size f cd)) (leaving (envOfC qual scope s.heap.objs.size f cd) e) (fun _ s'' => CX outer H s E e s'') (fun e' s'' => CX outer H s E e' s'') s'
theorem vA {sc : Scope} {n : Nat} {x : Str} (h : sc.names.lookup x = some .cell) : ∃ c, (cellsFrom n sc.names []).lookup x = some c := by
 have q := PySem.W.cellsFrom_some sc.names n [] (.inl h)
 exact Option.isSome_iff_exists.mp q
theorem yI {CX : CXT} {P : Program} {w : World} {K : PySem.W.Frag} {mg : Str -> Option Value} {base : Heap} {N ps : List Str} {qual : Str} {scope : Scope} {f : Addr} {cd : Value} {A : Around} {outer : List Env} {s s1 : Shared} {H : Hp} {E : XK} {us : List Value} {vs : List V}
  (S : FnScope N ps scope) (hd : A.handled = none) (e0 : Env0 P w K mg base A outer s H) (hl : vs.length = ps.length) (r : Vals vs us)
  (x : InCallC s s.heap.objs.size (bindL (envOfC qual scope s.heap.objs.size f cd).kindOf (ps.zip us) fun _ => none) (cellsFrom (s.heap.objs.size + 1) scope.names []) (bindC (envOfC qual scope s.heap.objs.size f cd).kindOf (ps.zip us) fun _ => none) s1) :
  Inv (yO CX P w K mg base N qual scope f cd A outer s H E) [] (start N vs) H s1 := by
 have hpl : ps.length <= N.length := by have := congrArg List.length S.pre; rw [List.length_take] at this; omega
 obtain ⟨h1, tk, rfl, hk⟩ := x.done
 have noA : ∀ b : Addr, b ∉ (yO CX P w K mg base N qual scope f cd A outer s H E).ex := fun b z => absurd (show b ∈ ([] : List Addr) from z) (by simp)
 refine ⟨⟨e0.mod, S.kind, rfl, rfl, Nat.le_refl _, fun y z c h1 h2 => ?_, fun y hy => ?_, fun y c _ h => ?_, fun _ => hd, Around.frames_deeper e0.frames, .inr ⟨rfl, rfl⟩, fun b z => absurd z (noA b), e0.bs, e0.bsz, fun b _ _ => noA b, fun b z => absurd z (noA b), e0.funs, e0.frf⟩,
  rfl, e0.bare, Un.kept hk, ⟨_, x.toInCall.ns, fun i y v h1 h2 h3 => ?_⟩, fun y c h => ⟨_, x.cell y c h⟩, e0.hok.fresh (Nat.le_refl _), fun y c h => ?_, fun p hp => absurd (show p ∈ ([] : List (Addr × Obj)) from hp) (by simp), e0.hok.kept hk, ?_⟩
 ·exact name_of_addr x.apart (PySem.mem_of_lookup h1) (PySem.mem_of_lookup h2)
 ·have hy : scope.names.lookup y = some .cell \/ scope.names.lookup y = some .free := hy
  rcases hy with hy | hy
  ·exact vA hy
  ·exact absurd rfl (S.nofree _ (PySem.mem_of_lookup hy))
 ·exact Nat.le_of_lt (x.above y c (PySem.mem_of_lookup h))
 ·have hi : i < vs.length := by
   unfold start at h2
   by_cases hi : i < vs.length
   ·exact hi
   ·rw [List.getElem?_append_right (by simpa using hi)] at h2
    rw [List.getElem?_replicate] at h2
    split at h2 <;> cases h2
  have ha : vs[i]? = some v := by
   unfold start at h2
   rw [List.getElem?_append_left (by simpa using hi), List.getElem?_map] at h2
   cases e : vs[i]? with
   | none => rw [e] at h2; cases h2
   | some a => rw [e] at h2; cases h2; rfl
  obtain ⟨u, hu, rv⟩ := r.get ha
  have hp : ps[i]? = some y := by
   rw [<- S.pre, List.getElem?_take_of_lt (by omega)]; exact h1
  have ndP : ps.Nodup := by rw [<- S.pre]; exact S.nd.sublist (List.take_sublist _ _)
  refine ⟨u, rv, ?_⟩
  rcases S.par y (List.mem_of_getElem? hp) with k | k
  ·exact .inl ⟨k, su ndP hp hu k⟩
  ·obtain ⟨c, e⟩ := vA (n := s.heap.objs.size + 1) k
   refine .inr ⟨.inl k, c, e, ?_⟩
   have q := x.cell y c e
   rw [se ndP hp hu (by show scope.names.lookup y ≠ _; rw [k]; decide)] at q
   exact q
 ·exact e0.hok.fresh (Nat.le_of_lt (x.above y c (PySem.mem_of_lookup h)))
 ·unfold start
  show _ = N.length
  rw [List.length_append, List.length_map, List.length_replicate]
  omega
theorem CV {CX : CXT} {P : Program} {w : World} {K : PySem.W.Frag} {mg : Str -> Option Value} {base : Heap} {k : Nat} {f : Addr} {name qual : Str} {params : Arguments} {body : List Stmt} {scope : Scope} {dV kV doc pm cdv ct oc : Value} {an od : Option Addr}
  {osl : Array (Option Value)} {N ps : List Str} {sp : Sp} (lk : K.lookup f = some ⟨oc, od, .func (PySem.W.fnOf name qual params body scope dV kV doc pm an cdv ct), osl⟩) (hcd : PySem.W.codeIn K cdv qual = true) (S : FnScope N ps scope)
  (len : ∀ vs H Q E, sp vs H Q E -> vs.length = ps.length)
  (hbody : ∀ (A : Around) (outer : List Env) (s : Shared) (H : Hp) (vs : List V) (Q : VK) (E : XK), Room k (A.deeper (envOfC qual scope s.heap.objs.size f cdv)) -> sp vs H Q E ->
   ∃ t, PSs (yO CX P w K mg base N qual scope f cdv A outer s H E) body t /\ t { nx := fun _ H' => Q .non H', rt := Q } (start N vs) H) :
  FnOk P w K mg base CX (k + 1) f (PySem.W.fnOf name qual params body scope dV kV doc pm an cdv ct) ps sp := by
 refine ⟨len, fun A outer s H args us vs Q E hr e0 hb r hsp => ?_⟩
 have hl := len _ _ _ _ hsp
 have KX : K.In s.heap := e0.mod.kin.keeps fun b o e => (e0.bs b o e).1
 have lim : s.heap.NoLimit := e0.mod.nolimit.keeps fun b o e => (e0.bs b o e).1
 have hkind : ∀ y ∈ ps.zip us, scope.names.lookup y.1 = some .local \/ (scope.names.lookup y.1 = some .cell /\ ((cellsFrom (s.heap.objs.size + 1) scope.names []).lookup y.1).isSome = true) := fun ⟨n, v⟩ hy => by
  rcases S.par n (List.of_mem_zip hy).1 with q | q
  ·exact .inl q
  ·exact .inr ⟨q, PySem.W.cellsFrom_some _ _ _ (.inl q)⟩
 refine codeAny_call_function hr.depth (KX _ _ lk) rfl S.co S.gen rfl (PySem.W.codeRec_of KX hcd) (hb _ _ _ _ ?_)
 refine wpAny_newFunctionEnv_cells S.kind hkind fun env he s1 x => ?_
 subst he
 refine ⟨lim.keeps x.toInCall.keep, codeAny_func ?_⟩
 obtain ⟨t, ht, hq⟩ := hbody A outer s H vs Q E (hr.deeper _) hsp
 have I : Inv (yO CX P w K mg base N qual scope f cdv A outer s H E) [] (start N vs) H s1 := yI S hr.hd e0 hl r x
 refine wpAny_mono (ht [] s1 (start N vs) H _ I hq) (fun fl s' hs => ?_) fun e s' hs => hs
 have fin : ∀ {σ' : St} {H' : Hp} {v : V} {u : Value}, Inv (yO CX P w K mg base N qual scope f cdv A outer s H E) [] σ' H' s' -> RelV v u -> Q v H' -> CE outer P w H s Q u s' :=
  fun {σ' H' v u} J rv q => ⟨v, H', J.os, J.bare, J.base, J.hok, rv, q⟩
 cases fl with
 | ret u =>
  obtain ⟨v, σ', H', J, rv, q⟩ := hs
  exact fin J rv q
 | next =>
  obtain ⟨σ', H', J, q⟩ := hs
  exact fin (v := V.non) (u := Value.none) J rfl q
 | brk =>
  obtain ⟨_, _, _, q⟩ := hs
  exact False.elim q
 | cont =>
  obtain ⟨_, _, _, q⟩ := hs
  exact False.elim q
end L2
namespace L2
open PySem PySem.Spec PyProof.Rows
section
variable {X : Cx} {x : Str} {p pos : Pos} {e : Expr} {es : List Expr} {t : TA} {id T : String} {r : List V -> Hp -> VK -> Prop}
def tCB (r : List V -> Hp -> VK -> Prop) (t : TA) : TE := fun σ H Q => t σ H fun vs H1 => r vs H1 Q
theorem aC (hc : gU X (.builtin id) r) (hg : Gl X x) (hm : X.mg x = none) (hv : bootBuiltins x = some (.builtin id)) (ha : PA X (e :: es) t) (hn : x ≠ "__name__" := by decide) (hdb : (x == ("__debug__" : Str)) = false := by decide)
  (he : starEach (e :: es) X.env = (false, eval e X.env) :: starEach es X.env := by rfl) (hpl : (backTo pos (starEach es X.env)).any (·.1) = false := by rfl) : PE X (.Call (.Name x p) (e :: es) [] pos) (tCB r t) := by
 intro pins s σ H Q I h
 refine wpAny_Call_Name_kw (jA I hg hm hv ?_ hn hdb)
 exact PyProof.Rows.callWith_builtin1 (thn (ha pos pins s σ H _ I h) fun us s1 ⟨vs, H1, I1, r1, q1⟩ => hc pins s1 σ H1 vs us Q I1 r1 q1) he hpl
theorem aN (hc : gU X (.type T) r) (hg : Gl X x) (hm : X.mg x = none) (hv : bootBuiltins x = some (.type T)) (ha : PA X (e :: es) t) (hn : x ≠ "__name__" := by decide) (hdb : (x == ("__debug__" : Str)) = false := by decide)
  (he : starEach (e :: es) X.env = (false, eval e X.env) :: starEach es X.env := by rfl) (hpl : (backTo pos (starEach es X.env)).any (·.1) = false := by rfl) : PE X (.Call (.Name x p) (e :: es) [] pos) (tCB r t) := by
 intro pins s σ H Q I h
 refine wpAny_Call_Name_kw (jA I hg hm hv ?_ hn hdb)
 exact PyProof.Rows.callWith_type1 (thn (ha pos pins s σ H _ I h) fun us s1 ⟨vs, H1, I1, r1, q1⟩ => hc pins s1 σ H1 vs us Q I1 r1 q1) he hpl
end
end L2
namespace HT
open PySem PyProof.Rows
section
open PySem.SeqAt
open PySem.AutoSeq1 (wpAny_loadPart')
open PySem.MeetsSeq PySem.MeetsSeq2 PySem.MeetsSeq3
end
section
variable {prog : Program} {w : World} {A : Around} {E : Value -> Shared -> Prop} {s : Shared}
theorem cat_tup {t b : Addr} {vs ws : List Value} {Q : Value -> Shared -> Prop} (ht : IsTup s.heap t vs.toArray) (hb : IsTup s.heap b ws.toArray) (hv : vs ≠ [])
  (h1 : ws = [] -> Q (.ref t) s) (h2 : ws ≠ [] -> Q (.ref s.heap.objs.size) { s with heap := s.heap.push { cls := .type "tuple", data := .seq (vs ++ ws).toArray } })
  (hsz : vs.length + ws.length <= sizeLine) : wpAny (model prog w) A (binaryOp .Add (.ref t) (.ref b)) Q E s := by
 obtain ⟨⟨cls, dd, data, sl⟩, ho, hc, n, hd⟩ := id ht
 obtain ⟨⟨cls2, dd2, data2, sl2⟩, ho2, hc2, n2, hd2⟩ := id hb
 simp only at hc hd hc2 hd2
 subst hc hd hc2 hd2
 have e : vs.toArray ++ ws.toArray = (vs ++ ws).toArray := by simp
 by_cases hw : ws = []
 ·exact concat_meets ⟨_, ho, rfl⟩ ⟨_, ho2, rfl⟩ noFill_tuple_add seq_tuple_add PySem.F.slot_tuple_add PySem.F.entry_tuple_add (PySem.F.args_tuple_add_2 _ _)
   (tuple_addW1 t b vs.toArray ws.toArray n n2 dd dd2 sl sl2 (by simpa using hv) (by simp [hw])) ⟨ho, ho2, h1 hw⟩
 ·refine concat_meets ⟨_, ho, rfl⟩ ⟨_, ho2, rfl⟩ noFill_tuple_add seq_tuple_add PySem.F.slot_tuple_add PySem.F.entry_tuple_add (PySem.F.args_tuple_add_2 _ _)
   (tuple_addW2 t b vs.toArray ws.toArray n n2 dd dd2 sl sl2 (by simpa using hv) (by simpa using hw) (by rw [List.size_toArray, List.size_toArray]; exact hsz)) ⟨ho, ho2, ?_⟩
  rw [e]
  exact h2 hw
def sIx (n d : Nat) : Option Int -> Nat
 | none => d
 | some v => if v < 0 then (v + (n : Int)).toNat else min v.toNat n
theorem B4 (n d : Nat) (hd : d <= n) (o : Option Int) : sIx n d o <= n := by
 cases o with
 | none => exact hd
 | some v =>
  show (if v < 0 then (v + (n : Int)).toNat else min v.toNat n) <= n
  by_cases hv : v < 0
  ·rw [if_pos hv]; omega
  ·rw [if_neg hv]; exact Nat.min_le_right _ _
theorem x8 (v : Int) (n d : Nat) : (if v < 0 then max (v + (n : Int)) 0 else min v (n : Int)) = ((sIx n d (some v) : Nat) : Int) := by
 show (if v < 0 then max (v + (n : Int)) 0 else min v (n : Int)) = (((if v < 0 then (v + (n : Int)).toNat else min v.toNat n) : Nat) : Int)
 by_cases hv : v < 0
 ·simp only [if_pos hv]; omega
 ·simp only [if_neg hv]; omega
theorem wj (lo hi : Option Int) (n : Nat) : Builtin.Slice.sliceAdjust lo hi 1 (n : Int) = (((sIx n 0 lo : Nat) : Int), ((sIx n n hi : Nat) : Int)) := by
 have h1 : ¬ ((1 : Int) < 0) := by omega
 unfold Builtin.Slice.sliceAdjust
 simp only [h1, if_false]
 refine Prod.ext ?_ ?_
 ·cases lo with
  | none => rfl
  | some v => exact x8 v n 0
 ·cases hi with
  | none => rfl
  | some v => exact x8 v n n
theorem xA (i j : Nat) : Builtin.Slice.slicePlaces (i : Int) (j : Int) 1 = j - i := by
 unfold Builtin.Slice.slicePlaces
 have h1 : (1 : Int) > 0 := by omega
 simp only [h1, if_true, Int.ediv_one]
 split <;> omega
theorem pd {v : Value} {o : Option Int} {Q : Option Int -> Shared -> Prop} (p : IsPart v o) (h : Q o s) : wpAny (model prog w) A (Builtin.Slice.slicePartIndex v) Q E s := by
 cases p with
 | none => exact slicePart_none h
 | int i t => exact slicePart_int h
theorem g9 {sl : Addr} {vl vu : Value} {lo hi : Option Int} {n : Nat} {Q : Int × Int × Nat -> Shared -> Prop} (hs : s.heap.IsSliceOf sl vl vu .none) (pl : IsPart vl lo) (pu : IsPart vu hi)
  (h : Q (((sIx n 0 lo : Nat) : Int), 1, sIx n n hi - sIx n 0 lo) s) : wpAny (model prog w) A (Builtin.Slice.sliceApplied (.ref sl) (pure (n : Int))) Q E s := by
 obtain ⟨os, hos, hcs, hds⟩ := id hs
 unfold Builtin.Slice.sliceApplied Builtin.Slice.sliceFields
 refine wpAny_bind (wpAny_bind (wpAny_field hos hds (x := vl) rfl (wpAny_bind (wpAny_field hos hds (x := vu) rfl (wpAny_bind (wpAny_field hos hds (x := .none) rfl (wpAny_pure ?_)))))))
 refine wpAny_bind (slicePart_none ?_)
 show wpAny _ _ (if ((1 : Int) == 0) = true then _ else _) _ _ s
 rw [if_neg (by decide)]
 refine wpAny_bind (pd pl (wpAny_bind (pd pu (wpAny_bind (wpAny_pure ?_)))))
 show wpAny _ _ (match Builtin.Slice.sliceAdjust lo hi 1 (n : Int) with | (lo, hi) => pure (lo, (1 : Int), Builtin.Slice.slicePlaces lo hi 1)) _ _ s
 rw [wj lo hi n]
 show wpAny _ _ (pure (((sIx n 0 lo : Nat) : Int), (1 : Int), Builtin.Slice.slicePlaces ((sIx n 0 lo : Nat) : Int) ((sIx n n hi : Nat) : Int) 1)) _ _ s
 rw [xA]
 exact wpAny_pure h
theorem Am (xs : Array Value) (i k : Nat) : ((List.range k).filterMap fun (m : Nat) => xs[((i : Int) + (m : Int) * 1).toNat]?).toArray = ((xs.toList.drop i).take k).toArray := by
 have e : (fun (m : Nat) => xs[((i : Int) + (m : Int) * 1).toNat]?) = fun m => xs[i + m]? := by
  funext m
  have : ((i : Int) + (m : Int) * 1).toNat = i + m := by omega
  rw [this]
 rw [e]
 have := pick_run xs i k
 rw [List.filterMap_map] at this
 have e2 : ((fun x => xs[x]?) ∘ fun x => i + x) = fun m => xs[i + m]? := rfl
 rw [e2] at this
 rw [this]
theorem getItem_tuple_cut {t sl : Addr} {items : Array Value} {vl vu : Value} {lo hi : Option Int} {Q : Value -> Shared -> Prop} (ht : IsTup s.heap t items) (hs : s.heap.IsSliceOf sl vl vu .none) (pl : IsPart vl lo) (pu : IsPart vu hi)
  (hw : ¬ (sIx items.size 0 lo = 0 /\ sIx items.size items.size hi = items.size))
  (h : Q (.ref s.heap.objs.size) { s with heap := s.heap.push { cls := .type "tuple", data := .seq ((items.toList.drop (sIx items.size 0 lo)).take (sIx items.size items.size hi - sIx items.size 0 lo)).toArray } })
  (hsz : items.size <= sizeLine) : wpAny (model prog w) A (getItem (.ref t) (.ref sl)) Q E s := by
 have htake : sizeOk (.seq ((items.toList.drop (sIx items.size 0 lo)).take (sIx items.size items.size hi - sIx items.size 0 lo)).toArray) := by
  show ((items.toList.drop (sIx items.size 0 lo)).take (sIx items.size items.size hi - sIx items.size 0 lo)).toArray.size <= sizeLine
  rw [List.size_toArray, List.length_take, List.length_drop, Array.length_toList]
  omega
 have hj : sIx items.size items.size hi <= items.size := B4 _ _ (Nat.le_refl _) hi
 obtain ⟨os, hos, hcs, hds⟩ := id hs
 have hTs : s.TypeIs (.ref sl) "slice" := ⟨os, hos, hcs⟩
 unfold getItem
 try with_reducible refine wpAny_holding ?_
 first | refine wpAny_bind (wpAny_pure ?_) | skip
 refine wpAny_bind (wpAny_sequenceKey ht.typeIs (by decide) ?_)
 refine wpAny_bind (wpAny_callSpecial?_slot (name := Str.ofString "__getitem__") ht.typeIs PyProof.Rows.slot_tuple_getitem
  (wpAny_call_entry PyProof.Rows.slot_tuple_getitem ht.typeIs entry_tuple_getitem ?_ (args_tuple_getitem _ _)))
 show wpAny _ _ (Builtin.Tuple.tupleItemsOf (.ref t) >>= _) _ _ s
 refine wpAny_bind (tupleItemsOf_ ht ?_)
 refine wpAny_bind (wpAny_typeOf hTs ?_)
 rw [if_pos (by decide)]
 refine wpAny_bind (g9 hs pl pu ?_)
 have hno : ¬ ((((sIx items.size 0 lo : Nat) : Int) == 0 && (1 : Int) == 1 && (sIx items.size items.size hi - sIx items.size 0 lo) == items.size) = true) := by
  intro q
  rw [Bool.and_eq_true, Bool.and_eq_true] at q
  have q1 : ((sIx items.size 0 lo : Nat) : Int) = 0 := eq_of_beq q.1.1
  have q2 : sIx items.size items.size hi - sIx items.size 0 lo = items.size := eq_of_beq q.2
  exact hw ⟨by omega, by omega⟩
 show wpAny _ _ (if (((sIx items.size 0 lo : Nat) : Int) == 0 && (1 : Int) == 1 && (sIx items.size items.size hi - sIx items.size 0 lo) == items.size) = true then _ else _) _ _ s
 rw [if_neg hno, Am]
 first
  | exact wpAny_bind (m := Builtin.Tuple.tupleExact _) (wpAny_newObj_type (wpAny_pure ⟨_, rfl, wpAny_pure h⟩) htake)
  | exact wpAny_bind (m := Builtin.Tuple.tupleExact _) (wpAny_newObj_type (wpAny_bind (wpAny_pure (wpAny_pure ⟨_, rfl, wpAny_pure h⟩))) htake)
  | exact wpAny_bind (wpAny_bind (m := Builtin.Tuple.tupleExact _) (wpAny_newObj_type (wpAny_pure (wpAny_pure ⟨_, rfl, wpAny_pure h⟩)) htake))
  | exact wpAny_bind (wpAny_bind (m := Builtin.Tuple.tupleExact _) (wpAny_newObj_type (wpAny_pure ⟨_, rfl, wpAny_pure h⟩) htake))
end
end HT
namespace L2
open PySem PySem.Spec PyProof.Rows
abbrev TO := St -> Hp -> (Option Int -> Hp -> Prop) -> Prop
def PO (X : Cx) (e : Option Expr) (t : TO) : Prop :=
 ∀ (pins : List (Addr × Obj)) (s : Shared) (σ : St) (H : Hp) (Q : Option Int -> Hp -> Prop), Inv X pins σ H s -> t σ H Q ->
  wpAny (model X.prog X.w) X.A (evalPart e X.env) (fun u s' => ∃ o H', Inv X pins σ H' s' /\ IsPart u o /\ Q o H') X.xe s
def BD : TO := fun _ H Q => Q none H
def CC (t : TE) : TO := fun σ H Q => t σ H fun x H1 => ∃ i, x = .int i /\ Q (some i) H1
section
variable {X : Cx} {e : Expr} {te : TE} {lo hi : Option Expr} {tl th : TO} {pos p2 : Pos}
theorem BG : PO X none BD := by
 intro pins s σ H Q I h
 rw [evalPart_none]
 exact wpAny_pure ⟨none, H, I, .none, h⟩
theorem Br (h : PE X e te) : PO X (some e) (CC te) := by
 intro pins s σ H Q I hw
 rw [evalPart_some]
 refine thn (h pins s σ H _ I hw) fun u s1 ⟨x, H1, I1, r1, q1⟩ => ?_
 obtain ⟨i, rfl, q⟩ := q1
 obtain ⟨t, rfl⟩ := r1
 exact ⟨some i, H1, I1, .int i t, q⟩
def SlR (X : Cx) (r : V -> Option Int -> Option Int -> Hp -> VK -> Prop) : Prop :=
 ∀ (pins : List (Addr × Obj)) (s : Shared) (σ : St) (H : Hp) (x : V) (v vl vu : Value) (lo hi : Option Int) (sl : Addr) (Q : VK), Inv X pins σ H s -> RelV x v -> s.heap.IsSliceOf sl vl vu .none -> IsPart vl lo -> IsPart vu hi -> r x lo hi H Q ->
  ∃ T id, typeLookup (.type T) "__getitem__" = pure (some (.builtin id)) /\ s.TypeIs v T /\ wpAny (model X.prog X.w) X.A (getItem v (.ref sl)) (EP X pins σ Q) X.xe s
def tSl (r : V -> Option Int -> Option Int -> Hp -> VK -> Prop) (te : TE) (tl th : TO) : TE := fun σ H Q => te σ H fun x H1 => tl σ H1 fun l H2 => th σ H2 fun u H3 => r x l u H3 Q
theorem z9 {r : V -> Option Int -> Option Int -> Hp -> VK -> Prop} (hr : SlR X r) (he : PE X e te) (hl : PO X lo tl) (hu : PO X hi th) : PE X (.Subscript e (.Slice lo hi none p2) pos) (tSl r te tl th) := by
 intro pins s σ H Q I h
 refine Subscript_ (thn (he pins s σ H _ I h) fun v s1 ⟨x, H1, I1, r1, q1⟩ => ?_)
 refine wpAny_Slice (thn (hl pins s1 σ H1 _ I1 q1) fun vl s2 ⟨l, H2, I2, pl, q2⟩ => thn (hu pins s2 σ H2 _ I2 q2) fun vu s3 ⟨u, H3, I3, pu, q3⟩ => ?_)
 rw [evalPart_none]
 refine wpAny_pure ?_
 have I4 : Inv X pins σ H3 { s3 with heap := s3.heap.push { cls := .type "slice", data := .fields #[vl, vu, .none] } } := I3.kept (t' := s3.toks) fun b ob q => Heap.get?_push_of_some _ q
 obtain ⟨T, id, hT, ht, hg⟩ := hr pins { s3 with heap := s3.heap.push { cls := .type "slice", data := .fields #[vl, vu, .none] } } σ H3 x v vl vu l u s3.heap.objs.size Q I4 r1 (Heap.IsSliceOf.new ..) pl pu q3
 show wpAny (model X.prog X.w) X.A (subscriptTail e (.Slice lo hi none p2) v (.ref s3.heap.objs.size)) (EP X pins σ Q) X.xe { s3 with heap := s3.heap.push { cls := .type "slice", data := .fields #[vl, vu, .none] } }
 exact tail_any (ops := [.ref s3.heap.objs.size, v]) ht hT hg (by with_unfolding_all rfl)
def pj (xs : List V) (lo hi : Option Int) : List V := (xs.drop (HT.sIx xs.length 0 lo)).take (HT.sIx xs.length xs.length hi - HT.sIx xs.length 0 lo)
theorem oC (xs : List V) (lo hi : Option Int) : (pj xs lo hi).length <= xs.length := by
 unfold pj
 rw [List.length_take, List.length_drop]
 omega
def Dk (K : PySem.W.Frag) : V -> Option Int -> Option Int -> Hp -> VK -> Prop := fun x lo hi H Q => ∃ a xs, x = .ref a /\ SqT K H a xs /\
 ¬ (HT.sIx xs.length 0 lo = 0 /\ HT.sIx xs.length xs.length hi = xs.length) /\ ∀ p, H p = none -> Q (.ref p) (upd H p (.tup (pj xs lo hi)))
theorem Cr : SlR X (Dk X.K) := by
 intro pins s σ H x v vl vu lo hi sl Q I rx hs pl pu h
 obtain ⟨a, xs, rfl, hx, hw, q⟩ := h
 cases rx
 obtain ⟨its, r, ht, hz⟩ := I.tuple hx
 have hlen : its.toArray.size = xs.length := by rw [List.size_toArray]; exact r.length.symm
 refine ⟨"tuple", _, PyProof.Rows.slot_tuple_getitem.lookup, ht.typeIs, ?_⟩
 refine HT.getItem_tuple_cut ht hs pl pu (by rw [hlen]; exact hw) ?_ (by rw [hlen]; exact hz)
 rw [hlen]
 refine ⟨.ref s.heap.objs.size, _, I.laid (t' := s.toks) (o := .tup (pj xs lo hi)) (fun b ob q => Heap.get?_push_of_some _ q) (Nat.le_refl _) ?_, rfl, q _ (I.hok.fresh (Nat.le_refl _))⟩
 exact ⟨Nat.le_trans (oC xs lo hi) hz, _, (r.drop (HT.sIx xs.length 0 lo)).take (HT.sIx xs.length xs.length hi - HT.sIx xs.length 0 lo), IsTup.new _ _⟩
def CL (K : PySem.W.Frag) : R2 := fun x y H Q => ∃ a b xs ys, x = .ref a /\ y = .ref b /\ SqT K H a xs /\ SqT K H b ys /\ xs ≠ [] /\ xs.length + ys.length <= sizeLine /\
 (ys = [] -> Q (.ref a) H) /\ (ys ≠ [] -> ∀ p, H p = none -> Q (.ref p) (upd H p (.tup (xs ++ ys))))
theorem Vals.nil_iff {xs : List V} {us : List Value} (r : Vals xs us) : us = [] ↔ xs = [] := by
 cases r with
 | nil => simp
 | cons _ _ => simp
theorem AY : OpR X (binaryOp .Add) (CL X.K) := by
 intro pins s σ H x y v u Q I rx ry h
 obtain ⟨a, b, xs, ys, rfl, rfl, ha, hb, hx, hz, q1, q2⟩ := h
 cases rx
 cases ry
 obtain ⟨its, r1, p1, _⟩ := I.tuple ha
 obtain ⟨its2, r2, p2, _⟩ := I.tuple hb
 refine HT.cat_tup p1 p2 (fun z => hx (r1.nil_iff.mp z)) (fun z => ⟨.ref a, H, I, rfl, q1 (r2.nil_iff.mp z)⟩) (fun z => ?_) (by rw [<- r1.length, <- r2.length]; exact hz)
 refine ⟨.ref s.heap.objs.size, _, I.laid (t' := s.toks) (o := .tup (xs ++ ys)) (fun b ob q => Heap.get?_push_of_some _ q) (Nat.le_refl _) ?_, rfl, q2 (fun w => z (r2.nil_iff.mpr w)) _ (I.hok.fresh (Nat.le_refl _))⟩
 exact ⟨by rw [List.length_append]; exact hz, _, r1.append r2, IsTup.new _ _⟩
end
end L2
namespace L2
open PySem PySem.Spec PyProof.Rows
def ixN (n : Nat) (i : Int) : Option Nat := if 0 <= i then (if i < n then some i.toNat else none) else if -(n : Int) <= i then some (i + n).toNat else none
def atI {α : Type} (xs : List α) (i : Int) : Option α := (ixN xs.length i).bind fun j => xs[j]?
theorem xN {n : Nat} {i : Int} {j : Nat} (h : ixN n i = some j) : seqIndex? i n = some j /\ j < n /\ -(n : Int) <= i /\ i < n := by
 unfold ixN at h
 by_cases h0 : 0 <= i
 ·rw [if_pos h0] at h
  by_cases h1 : i < n
  ·rw [if_pos h1] at h
   have e : i.toNat = j := Option.some.inj h
   exact ⟨by rw [seqIndex_of h0 h1, e], by omega, by omega, h1⟩
  ·rw [if_neg h1] at h; cases h
 ·rw [if_neg h0] at h
  by_cases h1 : -(n : Int) <= i
  ·rw [if_pos h1] at h
   have e : (i + n).toNat = j := Option.some.inj h
   exact ⟨by rw [seqIndex_neg (by omega) h1, e], by omega, h1, by omega⟩
  ·rw [if_neg h1] at h; cases h
theorem xT {α : Type} {xs : List α} {i : Int} {v : α} (h : atI xs i = some v) : ∃ j, seqIndex? i xs.length = some j /\ xs[j]? = some v /\ j < xs.length /\ -(xs.length : Int) <= i /\ i < xs.length := by
 unfold atI at h
 cases e : ixN xs.length i with
 | none => rw [e] at h; cases h
 | some j =>
  rw [e] at h
  obtain ⟨h1, h2, h3, h4⟩ := xN e
  exact ⟨j, h1, h, h2, h3, h4⟩
theorem jW {α : Type} {xs : List α} {j : Nat} {v : α} (h : xs[j]? = some v) : atI xs (j : Int) = some v := by
 have hj : j < xs.length := (List.getElem?_eq_some_iff.mp h).1
 have e : ixN xs.length (j : Int) = some j := by
  unfold ixN
  rw [if_pos (by omega), if_pos (by omega)]; simp
 unfold atI; rw [e]; exact h
def Bu (b : Expr) : Prop := ∀ o i, subscripted b false o i = operate [o, i] (getItem o i)
def IxR (X : Cx) (r : R2) : Prop :=
 ∀ (value slice : Expr) (pins : List (Addr × Obj)) (s : Shared) (σ : St) (H : Hp) (x y : V) (v u : Value) (Q : VK), Inv X pins σ H s -> RelV x v -> RelV y u -> r x y H Q ->
  subscripted slice false v u = operate [v, u] (getItem v u) -> wpAny (model X.prog X.w) X.A (subscriptTail value slice v u) (EP X pins σ Q) X.xe s
def MtR (X : Cx) (id : String) (r : V -> List V -> Hp -> VK -> Prop) : Prop :=
 ∀ (pins : List (Addr × Obj)) (s : Shared) (σ : St) (H : Hp) (x : V) (xs : List V) (v : Value) (us : List Value) (Q : VK), Inv X pins σ H s -> RelV x v -> Vals xs us -> r x xs H Q ->
  wpAny (model X.prog X.w) X.A (call (.builtin id) (v :: us)) (EP X pins σ Q) X.xe s
section
variable {X : Cx} {a b : Expr} {ta tb : TE} {pos : Pos}
theorem aO {r : R2} (hr : IxR X r) (ha : PE X a ta) (hb : PE X b tb) (hs : Bu b) : PE X (.Subscript a b pos) (tOp r ta tb) := by
 intro pins s σ H Q I h
 exact Subscript_ (Cn ha hb I h fun v u s2 x y H2 I2 rx ry q => hr a b pins s2 σ H2 x y v u Q I2 rx ry q (hs _ _))
def CF (K : PySem.W.Frag) : R2 := fun x y H Q => ∃ p xs i v, x = .ref p /\ y = .int i /\ SqL K H p xs /\ atI xs i = some v /\ Q v H
def C5 (K : PySem.W.Frag) : R2 := fun x y H Q => ∃ p xs i v, x = .ref p /\ y = .int i /\ SqT K H p xs /\ atI xs i = some v /\ Q v H
theorem b9 : IxR X (CF X.K) := by
 intro value slice pins s σ H x y v u Q I rx ry h hs
 obtain ⟨p, xs, i, z, rfl, rfl, hq, he, q⟩ := h
 cases rx
 obtain ⟨t, rfl⟩ := ry
 obtain ⟨its, r, pl, hz⟩ := I.list hq
 obtain ⟨j, h1, h2, h3, h4, h5⟩ := xT he
 obtain ⟨w, ew, rw'⟩ := r.get h2
 have hl := r.length
 have hn := pM
 have fin : EP X pins σ Q w s := ⟨z, H, I, rw', q⟩
 by_cases h0 : 0 <= i
 ·have hj : i.toNat = j := by
   rw [seqIndex_of h0 h5] at h1
   exact Option.some.inj h1
  exact item_listR pl.isList h0 (by omega) (by rw [hj]; simpa using ew) fin hs
 ·have hj : (i + (its.toArray.size : Int)).toNat = j := by
   rw [seqIndex_neg (by omega) h4] at h1
   rw [List.size_toArray, <- hl]
   exact Option.some.inj h1
  exact subscriptTail_builtinR (x := w) pl.isList.typeIs slot_list_getitem.lookup
   (wpAny_getItem_list_neg (Q := fun r s' => r = w /\ EP X pins σ Q r s') pl.isList (by omega) (by rw [List.size_toArray] <;> omega) (by omega) (by rw [hj]; simpa using ew) ⟨rfl, fin⟩) hs
theorem bz : IxR X (C5 X.K) := by
 intro value slice pins s σ H x y v u Q I rx ry h hs
 obtain ⟨p, xs, i, z, rfl, rfl, hq, he, q⟩ := h
 cases rx
 obtain ⟨t, rfl⟩ := ry
 obtain ⟨its, r, pl, hz⟩ := I.tuple hq
 obtain ⟨j, h1, h2, h3, h4, h5⟩ := xT he
 obtain ⟨w, ew, rw'⟩ := r.get h2
 have hl := r.length
 have hn := pM
 have fin : EP X pins σ Q w s := ⟨z, H, I, rw', q⟩
 exact subscriptTail_builtinR (x := w) pl.typeIs slot_tuple_getitem.lookup
  (getItem_tuple (j := j) (Q := fun r s' => r = w /\ EP X pins σ Q r s') pl (by omega) (by omega) (by rw [List.size_toArray, <- hl]; exact h1) (by simpa using ew) ⟨rfl, fin⟩) hs
theorem vT (its : List Value) (n j : Nat) (u : Value) : Obj.mapSeq (·.setIfInBounds j u) { cls := .type "list", data := .seq its.toArray n } = { cls := .type "list", data := .seq (its.set j u).toArray n } := by
 simp [Obj.mapSeq]
theorem Inv.lst {pins : List (Addr × Obj)} {σ : St} {H : Hp} {s : Shared} {p : Addr} {xs : List V} (I : Inv X pins σ H s) (h : H p = some (.lst xs)) :
  ∃ (its : List Value) (n : Nat), Vals xs its /\ s.heap.get? p = some { cls := .type "list", data := .seq its.toArray n } /\ xs.length <= sizeLine := by
 obtain ⟨z, its, n, r, e⟩ := I.hok p _ h
 exact ⟨its, n, r, e, z⟩
theorem Inv.lstUpd {pins : List (Addr × Obj)} {σ : St} {H : Hp} {s : Shared} {p : Addr} {xs ys : List V} {its its' : List Value} {n n' : Nat} {f : Obj -> Obj} (I : Inv X pins σ H s) (h : H p = some (.lst xs))
  (ho : s.heap.get? p = some { cls := .type "list", data := .seq its.toArray n }) (hf : f { cls := .type "list", data := .seq its.toArray n } = { cls := .type "list", data := .seq its'.toArray n' }) (r : Vals ys its') (hz : ys.length <= sizeLine) (t : Nat) :
  Inv X pins σ (upd H p (.lst ys)) { s with heap := s.heap.update p f, toks := t } := by
 have e : (s.heap.update p f).get? p = some { cls := .type "list", data := .seq its'.toArray n' } := by
  rw [Heap.get?_update_self f ho (by rw [hf] <;> rfl), hf]
 refine I.write (x := p) (e := p) (by rw [h]; trivial) (.inl rfl) (fun b u hb q => (Heap.get?_update_other _ _ (Ne.symm hb)).trans q) ⟨_, e⟩ ?_
 exact ⟨hz, its', n', r, e⟩
def C1 : V -> V -> V -> Hp -> (Hp -> Prop) -> Prop := fun o i v H Q => ∃ p xs k j, o = .ref p /\ i = .int k /\ H p = some (.lst xs) /\ ixN xs.length k = some j /\ Q (upd H p (.lst (xs.set j v)))
theorem set_list : CS X C1 := by
 intro pins s σ H o i v ov iv u Q I ro ri rv h
 obtain ⟨p, xs, k, j, rfl, rfl, hp, hj, q⟩ := h
 cases ro
 obtain ⟨t, rfl⟩ := ri
 obtain ⟨its, n, r, ho, hz⟩ := I.lst hp
 obtain ⟨h1, h2, h3, h4⟩ := xN hj
 have hl := r.length
 have hn := pM
 have I' : Inv X pins σ (upd H p (.lst (xs.set j v))) { s with heap := s.heap.update p (Obj.mapSeq (·.setIfInBounds j u)) } :=
  I.lstUpd hp ho (vT its n j u) (r.set rv j) (by rw [List.length_set]; exact hz) s.toks
 by_cases h0 : 0 <= k
 ·have hk : k.toNat = j := by
   rw [seqIndex_of h0 h4] at h1
   exact Option.some.inj h1
  exact PySem.W.ki_setAt ho h0 (by omega) (by rw [List.size_toArray, <- hl]; exact h4) (by rw [hk]; exact ⟨_, I', q⟩)
 ·have hk : (k + (its.toArray.size : Int)).toNat = j := by
   rw [seqIndex_neg (by omega) h3] at h1
   rw [List.size_toArray, <- hl]
   exact Option.some.inj h1
  exact PySem.W.ki_setBack ho (by omega) (by rw [List.size_toArray, <- hl]; exact h3) (by omega) (by rw [hk]; exact ⟨_, I', q⟩)
theorem sX (lo hi : Option Int) (n : Nat) : (sliceBounds lo hi none n).1 = ((HT.sIx n 0 lo : Nat) : Int) /\ (sliceBounds lo hi none n).2.1 = ((HT.sIx n n hi : Nat) : Int) /\ (sliceBounds lo hi none n).2.2 = 1 := by
 refine ⟨?_, ?_, rfl⟩
 ·cases lo with
  | none => simp [sliceBounds, HT.sIx]
  | some i =>
   simp only [sliceBounds, HT.sIx, Option.getD_none, show (1 : Int) > 0 by decide, if_true]
   by_cases h : i < 0
   ·simp only [h, if_true] <;> omega
   ·simp only [h, if_false] <;> omega
 ·cases hi with
  | none => simp [sliceBounds, HT.sIx]
  | some i =>
   simp only [sliceBounds, HT.sIx, Option.getD_none, show (1 : Int) > 0 by decide, if_true]
   by_cases h : i < 0
   ·simp only [h, if_true] <;> omega
   ·simp only [h, if_false] <;> omega
theorem qU (its : List Value) (lo hi : Option Int) : slicePick its.toArray lo hi none = ((its.drop (HT.sIx its.length 0 lo)).take (HT.sIx its.length its.length hi - HT.sIx its.length 0 lo)).toArray := by
 obtain ⟨h1, h2, h3⟩ := sX lo hi its.toArray.size
 unfold slicePick
 rw [h1, h2, h3]
 simp only [sliceRange_one, pick_run, List.size_toArray] <;> rfl
def Dv (K : PySem.W.Frag) : V -> Option Int -> Option Int -> Hp -> VK -> Prop := fun x lo hi H Q => ∃ a xs, x = .ref a /\ SqL K H a xs /\ ∀ p, H p = none -> Q (.ref p) (upd H p (.lst (pj xs lo hi)))
theorem A6 : SlR X (Dv X.K) := by
 intro pins s σ H x v vl vu lo hi sl Q I rx hs pl pu h
 obtain ⟨a, xs, rfl, hx, q⟩ := h
 cases rx
 obtain ⟨its, r, ht, hz⟩ := I.list hx
 have hlen := r.length
 refine ⟨"list", _, slot_list_getitem.lookup, ht.isList.typeIs, ?_⟩
 refine wpAny_getItem_list_slice ht.isList hs pl pu .none (by simp) ?_ (by rw [List.size_toArray] <;> omega)
 rw [qU, <- hlen]
 refine ⟨.ref s.heap.objs.size, _, I.laid (t' := s.toks) (o := .lst (pj xs lo hi)) (fun b ob q => Heap.get?_push_of_some _ q) (Nat.le_refl _) ?_, rfl, q _ (I.hok.fresh (Nat.le_refl _))⟩
 exact ⟨Nat.le_trans (oC xs lo hi) hz, _, 0, (r.drop (HT.sIx xs.length 0 lo)).take (HT.sIx xs.length xs.length hi - HT.sIx xs.length 0 lo), Heap.get?_push_size _ rfl⟩
def mz : V -> Bool
 | .non => true
 | .bl _ => true
 | .int _ => true
 | .str _ => true
 | _ => false
def eqV : V -> V -> Bool
 | .non, .non => true
 | .bl a, .bl b => a == b
 | .bl a, .int b => (if a then 1 else 0) == b
 | .int a, .bl b => a == (if b then 1 else 0)
 | .int a, .int b => a == b
 | .str a, .str b => a == b
 | _, _ => false
theorem BS {A : Around} {s : Shared} {y x : V} {u v : Value} (ry : RelV y u) (rx : RelV x v) (fy : mz y = true) (fx : mz x = true) : SeqAt.EqAt A s u v (eqV y x) := by
 cases y with
 | non =>
  cases ry
  cases x with
  | non => cases rx; exact SeqAt.EqAt.same _
  | bl b => cases rx; exact SeqAt.EqAt.none_bool b
  | int b => obtain ⟨t, rfl⟩ := rx; exact SeqAt.EqAt.none_int b t
  | str b => obtain ⟨t, rfl⟩ := rx; exact SeqAt.EqAt.none_str b t
  | _ => exact absurd (show false = true from fx) Bool.false_ne_true
 | bl a =>
  cases ry
  cases x with
  | non => cases rx; exact SeqAt.EqAt.bool_none a
  | bl b => cases rx; exact SeqAt.EqAt.bool_bool a b
  | int b => obtain ⟨t, rfl⟩ := rx; exact SeqAt.EqAt.bool_int a b t
  | str b => obtain ⟨t, rfl⟩ := rx; exact SeqAt.EqAt.bool_str a b t
  | _ => exact absurd (show false = true from fx) Bool.false_ne_true
 | int a =>
  obtain ⟨t', rfl⟩ := ry
  cases x with
  | non => cases rx; exact SeqAt.EqAt.int_none a t'
  | bl b => cases rx; exact SeqAt.EqAt.int_bool a t' b
  | int b => obtain ⟨t, rfl⟩ := rx; exact SeqAt.EqAt.int_int a t' b t
  | str b => obtain ⟨t, rfl⟩ := rx; exact SeqAt.EqAt.int_str a t' b t
  | _ => exact absurd (show false = true from fx) Bool.false_ne_true
 | str a =>
  obtain ⟨t', rfl⟩ := ry
  cases x with
  | non => cases rx; exact SeqAt.EqAt.str_none a t'
  | bl b => cases rx; exact SeqAt.EqAt.str_bool a t' b
  | int b => obtain ⟨t, rfl⟩ := rx; exact SeqAt.EqAt.str_int a t' b t
  | str b => obtain ⟨t, rfl⟩ := rx; exact SeqAt.EqAt.str_str a t' b t
  | _ => exact absurd (show false = true from fx) Bool.false_ne_true
 | _ => exact absurd (show false = true from fy) Bool.false_ne_true
def eqU (x : V) (u : Value) : Bool := match u with
 | .none => eqV .non x
 | .bool b => eqV (.bl b) x
 | .int i _ => eqV (.int i) x
 | .str z _ => eqV (.str z) x
 | _ => false
theorem Ab {x y : V} {u : Value} (r : RelV y u) (f : mz y = true) : eqU x u = eqV y x := by
 cases y with
 | non => cases r; rfl
 | bl b => cases r; rfl
 | int i => obtain ⟨t, rfl⟩ := r; rfl
 | str z => obtain ⟨t, rfl⟩ := r; rfl
 | _ => exact absurd (show false = true from f) Bool.false_ne_true
theorem uy {x : V} : ∀ {xs : List V} {us : List Value}, Vals xs us -> xs.all mz = true -> us.any (eqU x) = xs.any fun y => eqV y x
 | _, _, .nil, _ => rfl
 | y :: xs, u :: us, .cons r t, f => by
  rw [List.all_cons, Bool.and_eq_true] at f
  rw [List.any_cons, List.any_cons, Ab r f.1, uy t f.2]
theorem qc {A : Around} {s : Shared} {x : V} {v : Value} (rx : RelV x v) (fx : mz x = true) : ∀ {xs : List V} {us : List Value}, Vals xs us -> xs.all mz = true -> ∀ u ∈ us, SeqAt.EqAt A s u v (eqU x u)
 | _, _, .nil, _ => fun u hu => by cases hu
 | y :: xs, u :: us, .cons r t, f => fun u' hu => by
  rw [List.all_cons, Bool.and_eq_true] at f
  rcases List.mem_cons.mp hu with rfl | hu
  ·rw [Ab r f.1]; exact BS r rx f.1 fx
  ·exact qc rx fx t f.2 u' hu
def inV (x : V) (xs : List V) : Bool := xs.any fun y => eqV y x
def rIn (K : PySem.W.Frag) (neg : Bool) : R2 := fun x y H Q => ∃ p xs, y = .ref p /\ (SqL K H p xs \/ SqT K H p xs) /\ mz x = true /\ xs.all mz = true /\ Q (.bl (if neg then !inV x xs else inV x xs)) H
theorem sV : OpR X (compareOp .NotIn) (rIn X.K true) := by
 intro pins s σ H x y v u Q I rx ry h
 obtain ⟨p, xs, rfl, hq, fx, fs, q⟩ := h
 cases ry
 rcases hq with hq | hq
 ·obtain ⟨its, r, pl, hz⟩ := I.list hq
  refine SeqAt.notIn_listAt (eqU x) pl.isList (fun w hw => qc rx fx r fs w (by simpa using hw)) ⟨.bl _, H, I, rfl, ?_⟩
  rw [show its.toArray.any (eqU x) = its.any (eqU x) by simp, uy r fs]
  exact q
 ·obtain ⟨its, r, pl, hz⟩ := I.tuple hq
  refine SeqAt.notIn_tupleAt (eqU x) pl (fun w hw => qc rx fx r fs w (by simpa using hw)) ⟨.bl _, H, I, rfl, ?_⟩
  rw [show its.toArray.any (eqU x) = its.any (eqU x) by simp, uy r fs]
  exact q
theorem aA : gU X (.builtin "len") (fun xs H Q => ∃ p ys, xs = [.ref p] /\ (SqL X.K H p ys \/ SqT X.K H p ys) /\ Q (.int ys.length) H) := by
 intro pins s σ H xs us Q I r h
 obtain ⟨p, ys, rfl, hq, q⟩ := h
 obtain ⟨u, rfl, rx⟩ := vals1 r
 cases rx
 have hn := pM
 rcases hq with hq | hq
 ·obtain ⟨its, r', pl, hz⟩ := I.list hq
  have hlen := r'.length
  exact Calls.call_len_list pl.isList (by simp only [List.size_toArray] <;> omega) ⟨.int ys.length, H, I.tok _, ⟨s.toks + 1, by rw [List.size_toArray, hlen]⟩, q⟩
 ·obtain ⟨its, r', pl, hz⟩ := I.tuple hq
  have hlen := r'.length
  exact len_tuple pl (by simp only [List.size_toArray] <;> omega) ⟨.int ys.length, H, I.tok _, ⟨s.toks + 1, by rw [List.size_toArray, hlen]⟩, q⟩
theorem aP : gU X (.type "tuple") (fun xs H Q => ∃ p ys, xs = [.ref p] /\ ((SqL X.K H p ys /\ ∀ l, H l = none -> Q (.ref l) (upd H l (.tup ys))) \/ (SqT X.K H p ys /\ Q (.ref p) H))) := by
 intro pins s σ H xs us Q I r h
 obtain ⟨p, ys, rfl, h⟩ := h
 obtain ⟨u, rfl, rx⟩ := vals1 r
 cases rx
 rcases h with ⟨hq, q⟩ | ⟨hq, q⟩
 ·obtain ⟨its, r', pl, hz⟩ := I.list hq
  have hlen := r'.length
  refine call_tuple_list pl.isList (fun h' kp => ?_) (by simp only [List.size_toArray] <;> omega)
  have I1 : Inv X pins σ H { s with heap := h' } := I.kept (t' := s.toks) kp
  have I2 : Inv X pins σ (upd H h'.objs.size (.tup ys)) { s with heap := h'.push { cls := .type "tuple", data := .seq its.toArray } } :=
   I1.laid (t' := s.toks) (fun b o e => Heap.get?_push_of_some _ e) (Nat.le_refl _) (show ObjOk X.prog X.w _ _ _ (.tup ys) from ⟨hz, its, r', IsTup.new _ _⟩)
  exact ⟨.ref h'.objs.size, _, I2, rfl, q _ (I1.hok.fresh (Nat.le_refl _))⟩
 ·obtain ⟨its, r', pl, hz⟩ := I.tuple hq
  exact call_tuple_same pl ⟨.ref p, H, I, rfl, q⟩
def tyV (K : PySem.W.Frag) (T : String) (x : V) (H : Hp) : Prop := match x with
 | .str _ => T = "str"
 | .int _ => T = "int"
 | .ref p => (T = "list" /\ ∃ xs, SqL K H p xs) \/ (T = "tuple" /\ ∃ o, K.lookup p = some o /\ o.cls = .type "tuple" /\ o.dict = none) \/
   (T = "dict" /\ ((∃ kvs, H p = some (.dK kvs)) \/ ∃ kvs, H p = some (.dT kvs))) \/ (T = "set" /\ ∃ S n, H p = some (.set S n))
 | _ => False
theorem zO {pins : List (Addr × Obj)} {σ : St} {H : Hp} {s : Shared} {T : String} {x : V} {v : Value} (I : Inv X pins σ H s) (r : RelV x v) (ty : tyV X.K T x H) :
  s.TypeIs v T /\ ∀ a, v = .ref a -> ∃ ob, s.heap.get? a = some ob /\ ob.dict = none := by
 cases x with
 | str z =>
  obtain ⟨t, rfl⟩ := r
  cases (show T = "str" from ty)
  exact ⟨typeIs_str s z t, fun _ e => nomatch e⟩
 | int i =>
  obtain ⟨t, rfl⟩ := r
  cases (show T = "int" from ty)
  exact ⟨typeIs_int s i t, fun _ e => nomatch e⟩
 | ref p =>
  cases r
  rcases ty with ⟨rfl, xs, hq⟩ | ⟨rfl, o, hk, hc, hd⟩ | ⟨rfl, hk⟩ | ⟨rfl, S, n, hk⟩
  ·obtain ⟨its, _, pl, _⟩ := I.list hq
   refine ⟨pl.isList.typeIs, fun a e => ?_⟩
   cases e
   obtain ⟨o, n, e, c, hd, _⟩ := pl
   exact ⟨o, e, hd⟩
  ·refine ⟨⟨o, I.kIn p o hk, hc⟩, fun a e => ?_⟩
   cases e
   exact ⟨o, I.kIn _ o hk, hd⟩
  ·have z : ∃ o, s.heap.get? p = some o /\ o.ExactDict := by
    rcases hk with ⟨kvs, hk⟩ | ⟨kvs, hk⟩
    ·obtain ⟨_, _, _, _, o, _, _, e, ex, _⟩ := I.hok p _ hk
     exact ⟨o, e, ex⟩
    ·obtain ⟨_, _, _, _, o, _, _, e, ex, _⟩ := I.hok p _ hk
     exact ⟨o, e, ex⟩
   obtain ⟨o, e, ex⟩ := z
   refine ⟨⟨o, e, ex.1⟩, fun a e2 => ?_⟩
   cases e2
   exact ⟨o, e, ex.2.1⟩
  ·obtain ⟨o, _, _, _, e, ex, _⟩ := I.hok p _ hk
   refine ⟨⟨o, e, ex.1⟩, fun a e2 => ?_⟩
   cases e2
   exact ⟨o, e, ex.2.1⟩
 | _ => exact False.elim ty
def Dh (K : PySem.W.Frag) (T : String) (r : V -> List V -> Hp -> VK -> Prop) (to : TE) : TE := fun σ H Q => to σ H fun x H1 => tyV K T x H1 /\ r x [] H1 Q
def tBM (K : PySem.W.Frag) (T : String) (r : V -> List V -> Hp -> VK -> Prop) (to : TE) (t : TA) : TE := fun σ H Q => to σ H fun x H1 => tyV K T x H1 /\ t σ H1 fun xs H2 => r x xs H2 Q
variable {o e : Expr} {es : List Expr} {to : TE} {t : TA} {name : Str} {apos cpos : Pos} {T id : String} {r : V -> List V -> Hp -> VK -> Prop}
theorem z6 (pa : PlainAttrs T) (slot : Slot T name id) (hty : typeOf (.builtin id) = pure (.type "method_descriptor")) (hm : MtR X id r) (ho : PE X o to)
  (hbase : attributeBase o name X.env (eval o X.env) = eval o X.env := by rfl) (hline : (apos.endLine == cpos.line) = true := by rfl) : PE X (.Call (.Attribute o name apos) [] [] cpos) (Dh X.K T r to) := by
 intro pins s σ H Q I h
 refine wpAny_Call_method0_late hbase hline (thn (ho pins s σ H _ I h) fun v s1 ⟨x, H1, I1, r1, ty, q1⟩ => ?_)
 obtain ⟨h1, h2⟩ := zO I1 r1 ty
 exact ⟨T, id, pa, slot, hty, h1, h2, Calls.callWith_builtin rfl (PySem.evalArgs_none (hm pins s1 σ H1 x [] v [] Q I1 r1 .nil q1))⟩
theorem fA (pa : PlainAttrs T) (slot : Slot T name id) (hty : typeOf (.builtin id) = pure (.type "method_descriptor")) (hm : MtR X id r) (ho : PE X o to) (ha : PA X (e :: es) t)
  (hbase : attributeBase o name X.env (eval o X.env) = eval o X.env := by rfl)
  (hfew : ((backTo cpos (starEach (e :: es) X.env)).all (fun x => !x.1) && (backToKw cpos (keywordEach [] X.env)).all (fun x => x.1.isSome)
   && decide ((e :: es).length + ([] : List Keyword).length + (if ([] : List Keyword).isEmpty then 0 else 1) < 30)) = true := by rfl)
  (hline : (apos.endLine == cpos.line) = true := by rfl) (hs : starEach (e :: es) X.env = (false, eval e X.env) :: starEach es X.env := by rfl) (hplain : (backTo cpos (starEach es X.env)).any (·.1) = false := by rfl) :
  PE X (.Call (.Attribute o name apos) (e :: es) [] cpos) (tBM X.K T r to t) := by
 intro pins s σ H Q I h
 refine wpAny_Call_method_late hbase hfew hline rfl (thn (ho pins s σ H _ I h) fun v s1 ⟨x, H1, I1, r1, ty, q1⟩ => ?_)
 obtain ⟨h1, h2⟩ := zO I1 r1 ty
 refine ⟨T, id, pa, slot, hty, h1, h2, ?_⟩
 have hA := ha cpos pins s1 σ H1 _ I1 q1
 rw [hs] at hA ⊢
 refine Calls.callWith_builtin (by show (false || (backTo cpos (starEach es X.env)).any (·.1)) = false; rw [hplain] <;> rfl) (Calls.evalArgs_plain ?_)
 exact thn hA fun us s2 ⟨vs, H2, I2, r2, q2⟩ => hm pins s2 σ H2 x vs v us Q I2 r1 r2 q2
/- xs.append(e), list.index on a module's tuple .. are MtR facts of 06m -/
end
end L2
namespace L2
open PySem PySem.Spec PyProof.Rows
def MtM (X : Cx) (id : String) (r : V -> List V -> Hp -> VK -> Prop) : Prop :=
 ∀ (pins : List (Addr × Obj)) (s : Shared) (σ : St) (H : Hp) (x : V) (xs : List V) (v : Value) (us : List Value) (Q : VK), Inv X pins σ H s -> RelV x v -> Vals xs us -> r x xs H Q ->
  wpAny (model X.prog X.w) X.A (call (.builtin id) (v :: us)) (EP X pins σ Q) X.xe s
theorem Vals.one : ∀ {x : V} {us : List Value}, Vals [x] us -> ∃ u, us = [u] /\ RelV x u
 | _, _, .cons r .nil => ⟨_, rfl, r⟩
theorem Vals.two : ∀ {x y : V} {us : List Value}, Vals [x, y] us -> ∃ u v, us = [u, v] /\ RelV x u /\ RelV y v
 | _, _, _, .cons r (.cons q .nil) => ⟨_, _, rfl, r, q⟩
theorem Vals.zero : ∀ {us : List Value}, Vals [] us -> us = []
 | _, .nil => rfl
theorem Vals.dropLast {xs : List V} {us : List Value} (h : Vals xs us) : Vals xs.dropLast us.dropLast := by
 induction h with
 | nil => exact .nil
 | cons r t ih =>
  cases t with
  | nil => exact .nil
  | cons q t' => exact .cons r ih
theorem xc {α : Type} (l : List α) : l.eraseIdx (l.length - 1) = l.dropLast := by
 induction l with
 | nil => rfl
 | cons a r ih =>
  cases r with
  | nil => rfl
  | cons b r =>
   have e : (a :: b :: r).length - 1 = ((b :: r).length - 1) + 1 := by
    have h1 : (a :: b :: r).length = r.length + 2 := rfl
    have h2 : (b :: r).length = r.length + 1 := rfl
    omega
   rw [e, List.eraseIdx_cons_succ, ih]
   all_goals rfl
section
variable {X : Cx} {pins : List (Addr × Obj)} {σ : St} {H : Hp} {s : Shared} {l b : Addr} {xs ys zs : List V}
theorem Inv.lset {its its' : List Value} {n : Nat} {f : Array Value -> Array Value} {t' : Nat} (I : Inv X pins σ H s) (hH : H l = some (.lst xs))
  (e : s.heap.get? l = some { cls := .type "list", data := .seq its.toArray n }) (hf : f its.toArray = its'.toArray) (hv : Vals ys its') (hz : ys.length <= sizeLine) :
  Inv X pins σ (upd H l (.lst ys)) { s with heap := s.heap.update l (Obj.mapSeq f), toks := t' } := by
 have q := PySem.IsL.update e f
 rw [hf] at q
 refine I.write (x := l) (e := l) (by rw [hH]; exact trivial) (.inl rfl) (fun b' u hb hu => (Heap.get?_update_other s.heap (Obj.mapSeq f) (Ne.symm hb)).trans hu) ⟨_, q⟩ ?_
 exact ⟨hz, its', _, hv, q⟩
theorem Inv.lstM (I : Inv X pins σ H s) (hH : H l = some (.lst xs)) : xs.length <= sizeLine /\ ∃ (its : List Value) (n : Nat), Vals xs its /\ xs.length = its.length /\ s.heap.get? l = some { cls := .type "list", data := .seq its.toArray n } := by
 obtain ⟨z, its, n, r, e⟩ := I.hok l _ hH
 exact ⟨z, its, n, r, r.length, e⟩
theorem u7 {n : Nat} (h : n <= sizeLine) : Builtin.List.listTooLong n = false := by
 unfold Builtin.List.listTooLong
 exact decide_eq_false (by omega)
end
section
variable {X : Cx}
def Bp : V -> List V -> Hp -> VK -> Prop := fun x vs H Q => ∃ l xs y, x = .ref l /\ vs = [y] /\ H l = some (.lst xs) /\ xs.length < sizeLine /\ Q .non (upd H l (.lst (xs ++ [y])))
theorem bF : MtM X "list.append" Bp := by
 intro pins s σ H x vs v us Q I rx rv h
 obtain ⟨l, xs, y, rfl, rfl, hH, hz, q⟩ := h
 cases rx
 obtain ⟨u, rfl, ru⟩ := rv.one
 obtain ⟨z, its, n, r, hl, e⟩ := I.lstM hH
 refine call_meets F.slot_list_append ⟨_, e, rfl⟩ F.entry_list_append (F.args_list_append_2 _ _) (PySem.list_append l its.toArray n u (by rw [List.size_toArray]; omega)) ⟨e, ?_⟩
 refine ⟨.non, _, I.lset (its' := its ++ [u]) hH e (by simp) (r.append (.cons ru .nil)) ?_, rfl, q⟩
 rw [List.length_append, List.length_singleton]
 omega
def xC : V -> List V -> Hp -> VK -> Prop := fun x vs H Q => ∃ l b xs zs, x = .ref l /\ vs = [.ref b] /\ H l = some (.lst xs) /\ H b = some (.lst zs) /\ xs.length + zs.length <= sizeLine /\ Q .non (upd H l (.lst (xs ++ zs)))
theorem sk : MtM X "list.extend" xC := by
 intro pins s σ H x vs v us Q I rx rv h
 obtain ⟨l, b, xs, zs, rfl, rfl, hH, hB, hz, q⟩ := h
 cases rx
 obtain ⟨u, rfl, ru⟩ := rv.one
 cases ru
 obtain ⟨z, its, n, r, hl, e⟩ := I.lstM hH
 obtain ⟨z2, its2, n2, r2, hl2, e2⟩ := I.lstM hB
 have hsz : its.toArray.size + its2.toArray.size <= sizeLine := by rw [List.size_toArray, List.size_toArray]; omega
 have hlong : ¬ (!its.toArray.isEmpty && Builtin.List.listTooLong (its.toArray.size + its2.toArray.size)) = true := by
  rw [u7 hsz, Bool.and_false]
  exact Bool.false_ne_true
 refine call_meets F.slot_list_extend ⟨_, e, rfl⟩ F.entry_list_extend (F.args_list_extend_2 _ _)
  (AutoSeq1.list_extend_list_list_0 l its.toArray n b its2.toArray n2 hlong (by rw [List.size_toArray]; omega) (by omega)) ⟨e, e2, ?_⟩
 refine ⟨.non, _, I.lset (its' := its ++ its2) hH e (by simp) (r.append r2) ?_, rfl, q⟩
 rw [List.length_append]
 omega
def Dm : V -> List V -> Hp -> VK -> Prop := fun x vs H Q => ∃ l xs y, x = .ref l /\ vs = [] /\ H l = some (.lst xs) /\ xs[xs.length - 1]? = some y /\ Q y (upd H l (.lst xs.dropLast))
theorem B9 : MtM X "list.pop" Dm := by
 intro pins s σ H x vs v us Q I rx rv h
 obtain ⟨l, xs, y, rfl, rfl, hH, hy, q⟩ := h
 cases rx
 have hus := rv.zero
 subst hus
 obtain ⟨z, its, n, r, hl, e⟩ := I.lstM hH
 obtain ⟨u, hu, ru⟩ := r.get hy
 have hy' : its.toArray[its.toArray.size - 1]? = some u := by
  show its.toArray[its.length - 1]? = some u
  rw [<- Array.getElem?_toList, <- hl]
  exact hu
 refine call_meets F.slot_list_pop ⟨_, e, rfl⟩ F.entry_list_pop (F.args_list_pop_1 _) (MeetsSeq.list_pop_last l its.toArray n u hy' (by rw [List.size_toArray]; omega)) ⟨e, ?_⟩
 refine ⟨y, _, I.lset (its' := its.dropLast) hH e ?_ r.dropLast ?_, ru, q⟩
 ·show its.toArray.eraseIdxIfInBounds (its.toArray.size - 1) = its.dropLast.toArray
  rw [List.size_toArray, List.eraseIdxIfInBounds_toArray, xc]
 ·rw [List.length_dropLast]
  omega
end
section
variable {prog : Program} {w : World} {A : Around} {E : Value -> Shared -> Prop} {s : Shared}
end
section
variable {X : Cx}
end
end L2
namespace Att
open PySem PySem.W PySem.Calls PyProof.Rows
theorem oM {P : Params} {h : Heap} : ∀ (ns : List Int) (vs : List Value), WellAll P h vs (ns.map WData.int) -> IntsAre vs ns := by
 intro ns
 induction ns with
 | nil =>
  intro vs w
  rw [List.map_nil] at w
  cases w
  exact .nil
 | cons n ns ih =>
  intro vs w
  rw [List.map_cons] at w
  cases w with
  | cons a b =>
   cases a
   exact .cons _ _ (ih _ b)
theorem y7 {l : OpenLaw} {n : Nat} (hn : l.most = some n) {P : Params} {h : Heap} {args : List WData} {vals : List Value}
  (hpre : l.row.toRowW.claim.pre args = true) (hwl : WellAll P h vals args) :
  ∃ a vs ns, vals = [Value.ref a] /\ args = [WData.list (ns.map WData.int)] /\ h.get? a = some { cls := .type "list", data := .seq vs.toArray } /\ IntsAre vs ns /\ ns.length <= n := by
 have hsh : WShape.hasAll [] args [.list .int] = true := (pre_splitW hpre).1
 have hc : l.pre.holds [] { args := args } = true := (pre_splitW hpre).2
 obtain ⟨d, r, rfl, h1, h2⟩ := hasAllW_cons hsh
 obtain rfl := hasAllW_nil h2
 obtain ⟨xs, rfl, h3⟩ := hasW_list h1
 obtain ⟨ns, rfl⟩ := items_int h3
 have hlen : ns.length <= n := by
  unfold OpenLaw.pre at hc
  have h4 : (WTm.not (.lt (.lit (.int (n : Int))) (.len (.arg 0)))).holds [] { args := [.list (ns.map .int)] } = true := by
   have h4 := (holds_andW hc).1
   rw [hn] at h4
   exact h4
  have h5 := condW_of h4 (w_not (w_lt w_lit (w_len_list (w_arg rfl))))
  rw [List.length_map] at h5
  refine Nat.le_of_not_lt fun q => ?_
  have q' : (n : Int) < ((ns.length : Nat) : Int) := by omega
  first
   | (rw [decide_eq_true q'] at h5; exact absurd h5 (by decide))
   | (simp at h5; omega)
 cases hwl with
 | cons w1 w2 =>
  cases w2
  cases w1 with
  | list ho hall => exact ⟨_, _, ns, rfl, rfl, ho, oM ns _ hall, hlen⟩
theorem yQ (l : OpenLaw) (args : List WData) : l.row.toRowW.claim.post args (.bool true) args = true :=
 postW_of (r := l.row.toRowW) (X := (true == true))
  (show WShape.has [] (.bool true) .bool = true by first | rfl | decide | simp [WShape.has, WShape.arms, WShape.armsAll])
  (show (WTm.eq .res (.lit (.bool true))).value [] { args := args, res := some (.bool true), after := args } = some (.bool (true == true)) from w_eq_bool (w_res rfl) w_lit) rfl
theorem attach_call {l : OpenLaw} {n : Nat} {q : Program} {loose : List Str} {XP : (Str -> Option Value) -> Heap -> Prop} {YP : World -> Heap -> Prop} {d : DefRec}
  (hn : l.most = some n) (hdf : d.params.defaults = [])
  (call : ∀ (w : World) (s₀ s₁ : Shared) (mg mb : Str -> Option Value) (fa : Addr) (o : Obj) (pm cd doc : Value) (a : Addr) (vs : List Value) (ns : List Int),
   Ground q loose [] XP w s₀ mg mb s₁.heap -> YP w s₁.heap ->
   s₁.heap.get? fa = some o -> o.data = .func (docDef d.name d.params d.body d.scope pm cd doc) -> s₁.heap.CodeRec cd d.name -> mg d.name = some (.ref fa) ->
   s₁.heap.get? a = some { cls := .type "list", data := .seq vs.toArray } -> IntsAre vs ns -> ns.length <= n -> s₁.gens = #[] ->
   codeAny (model l.prog w) callerA (.call (.ref fa) ⟨[.ref a], []⟩) (fun r s' => r = .ok (.ret (.bool true)) /\ OldK s₁.heap s'.heap /\ s'.os = s₁.os /\ AllBare s'.gens) s₁) :
  WalkO q loose XP YP l.row.toRowW d [] (fun f vs => PySem.call f vs) := by
 intro w s₀ s₁ mg mb G Y fa o pm cd doc dV kV ho hd hcd hD hmg hg args vals as hpre hlay hrd hwl hlo
 obtain rfl : dV = .none := Dflts.none hD hdf
 obtain rfl : kV = .none := Dflts.noKw hD
 obtain ⟨a, vs, ns, rfl, rfl, hobj, hints, hlen⟩ := y7 hn hpre hwl
 refine enter_call (codeAny_mono (call w s₀ s₁ mg mb fa o pm cd doc a vs ns G Y ho (fd_plain hd) hcd hmg hobj hints hlen hg) fun r s' hq => ?_)
 obtain ⟨rfl, h2, h3, h4⟩ := hq
 exact ⟨.inl ⟨.bool true, .bool true, [], rfl, fun _ => rfl, .bool true, yQ l _, fun _ => ⟨List.Pairwise.nil, fun _ hm => (nomatch hm)⟩⟩, h2, h3, h4⟩
section
variable {prog : Program} {w : World} {A : Around} {E : Value -> Shared -> Prop} {s : Shared} {K : Frag}
def ledger (h : Heap) (L d : Addr) : List (Addr × Obj) := (List.range h.objs.size).filterMap fun a => if a = L \/ a = d then none else (h.get? a).map fun o => (a, o)
end
end Att
namespace L2
open PySem PySem.Spec PyProof.Rows
theorem so : ∀ {vs : List Value} {ns : List Int}, IntsAre vs ns -> Vals (ns.map V.int) vs
 | _, _, .nil => .nil
 | _, _, .cons n t h => .cons ⟨t, rfl⟩ (so h)
def Ce (H : Hp) : Prop := ∀ b, H b = none \/ ∃ o xs, H b = some (.frz o (.lst xs))
theorem zZ {P : Program} {w : World} {K : PySem.W.Frag} {mg mb : Str -> Option Value} {CX : CXT} {k : Nat} {fa a : Addr} {fd : FuncData} {x : Str} {sp : Sp} {s₁ : Shared} {vs : List Value} {ns : List Int}
  (KX : K.In s₁.heap) (hns : s₁.heap.Ns mainGlobals mg) (hb : s₁.heap.Ns builtinsNs mb) (hbb : ∀ x : Str, x ≠ "__name__" -> mb x = bootBuiltins x) (hlim : s₁.heap.NoLimit) (hg : s₁.gens = #[])
  (ha : s₁.heap.get? a = some { cls := .type "list", data := .seq vs.toArray }) (hi : IntsAre vs ns) (hl : ns.length <= sizeLine) (hr : Room k callerA)
  (F : ∀ base : Heap, K.In base -> base.Ns mainGlobals mg -> FnOk P w K mg base CX k fa fd [x] sp) (hbind : ∀ (s : Shared) (u : Value), BindsTo s fd ⟨[u], []⟩ [(x, u)])
  (hsp : ∀ H : Hp, Ce H -> SqL K H a (ns.map V.int) -> sp [.ref a] H (fun v _ => v = .bl true) fun _ _ _ => False)
  (hCX : ∀ H e s', CX [] H s₁ (fun _ _ _ => False) e s' -> False) :
  codeAny (model P w) callerA (.call (.ref fa) ⟨[.ref a], []⟩) (fun r s' => r = .ok (.ret (.bool true)) /\ OldK s₁.heap s'.heap /\ s'.os = s₁.os /\ AllBare s'.gens) s₁ := by
 have rv := so hi
 have lenV := hi.length
 have core : ∀ H : Hp, Ce H -> SqL K H a (ns.map V.int) -> HOk P w H s₁.heap -> (∀ b, H b ≠ none -> b = a) -> (H a ≠ none -> K.lookup a = none) ->
   codeAny (model P w) callerA (.call (.ref fa) ⟨[.ref a], []⟩) (fun r s' => r = .ok (.ret (.bool true)) /\ OldK s₁.heap s'.heap /\ s'.os = s₁.os /\ AllBare s'.gens) s₁ := by
  intro H hO hS hok hA hK
  have base_of : ∀ {b : Addr} {o : Obj}, s₁.heap.get? b = some o -> H b = none -> (uo s₁.heap H).get? b = some o := fun e n => Ao e n
  have noA : ∀ {b : Addr} {o : Obj} {es : Array DictEntry} {ep : Nat}, s₁.heap.get? b = some o -> o.data = .dict es ep -> H b = none := fun {b o es ep} e d => by
   cases q : H b with
   | none => rfl
   | some u =>
    have e' : b = a := hA b (by rw [q]; simp)
    subst e'
    rw [ha] at e; cases e
    have d' : Data.seq vs.toArray _ = Data.dict es ep := d
    cases d'
  have nsK : ∀ {b : Addr} {m : Str -> Option Value}, s₁.heap.Ns b m -> (uo s₁.heap H).Ns b m := fun {b m} ⟨o, es, ep, e, d, r⟩ => ⟨o, es, ep, base_of e (noA e d), d, r⟩
  have hKb : K.In (uo s₁.heap H) := fun b o e => base_of (KX b o e) (by
   cases q : H b with
   | none => rfl
   | some u =>
    have e' : b = a := hA b (by rw [q]; simp)
    subst e'
    rw [hK (by rw [q]; simp)] at e; cases e)
  have hM : Mod K mg (uo s₁.heap H) := ⟨hKb, nsK hns, ⟨mb, nsK hb, hbb⟩, let ⟨mc, h1, h2⟩ := hlim; ⟨mc, nsK h1, h2⟩⟩
  have e0 : Env0 P w K mg (uo s₁.heap H) callerA [] s₁ H := ⟨rfl, hM, fun b o e => BF e, Nat.le_of_eq (yj _ _), trivial, fun b hb => absurd (show b ∈ ([] : List Addr) from hb) (by simp), hok, .of_eq hg⟩
  refine codeAny_mono ((F _ hKb (nsK hns)).run callerA [] s₁ H ⟨[.ref a], []⟩ [.ref a] [.ref a] _ _ hr e0 (hbind s₁ (.ref a)) (.cons rfl .nil) (hsp H hO hS)) fun r s' h => ?_
  cases r with
  | error e => exact (hCX H e s' h).elim
  | ok fl =>
   cases fl with
   | next => exact False.elim h
   | brk => exact False.elim h
   | cont => exact False.elim h
   | ret u =>
    obtain ⟨v, H', os, bare, un, hok', r', q⟩ := h
    have q' : v = .bl true := q
    subst q'
    obtain rfl : u = Value.bool true := r'
    refine ⟨rfl, OldK.of_keep fun b o e => ?_, os, bare⟩
    cases q : H b with
    | none => exact un.keep b o e q (by intro z; exact absurd (show b ∈ ([] : List Addr) from z) (by simp)) (by simp)
    | some u =>
     rcases hO b with z | ⟨ob, xs, z⟩
     ·rw [q] at z; cases z
     ·have z2 := un.frzs b ob _ z
      obtain ⟨e1, _⟩ := hok b _ z
      obtain ⟨e2, _⟩ := hok' b _ z2
      rw [e] at e1; cases e1
      exact e2
 cases hk : K.lookup a with
 | some o =>
  have e := KX a o hk
  rw [ha] at e
  cases e
  refine core (fun _ => none) (fun _ => .inl rfl) (.inr ⟨_, vs.toArray, _, hk, rfl, rfl, rfl, by rw [List.size_toArray, lenV]; exact hl, by simpa using rv⟩) (fun b u z => by have z' : (none : Option HO) = some u := z; cases z') (fun b z => absurd rfl z) fun z => absurd rfl z
 | none =>
  refine core (fun b => if b = a then some (.frz { cls := .type "list", data := .seq vs.toArray } (.lst (ns.map V.int))) else none) (fun b => ?_) (.inl (.inr ⟨{ cls := .type "list", data := .seq vs.toArray }, if_pos rfl⟩)) (fun b u z => ?_) (fun b z => ?_) fun _ => hk
  ·by_cases hb : b = a
   ·exact .inr ⟨_, _, if_pos hb⟩
   ·exact .inl (if_neg hb)
  ·by_cases hb : b = a
   ·have z' := (if_pos hb).symm.trans z
    cases z'
    subst hb
    exact ⟨ha, by rw [List.length_map]; exact hl, vs, _, rv, ha⟩
   ·have z' := (if_neg hb).symm.trans z
    cases z'
  ·by_cases hb : b = a
   ·exact hb
   ·exact absurd (if_neg hb) z
end L2
namespace L2
open PySem PySem.Spec PyProof.Rows
theorem walk_of {l : PySem.W.OpenLaw} {n k : Nat} {q : Program} {loose : List Str} {XP : (Str -> Option Value) -> Heap -> Prop} {YP : World -> Heap -> Prop} {d : DefRec} {K : Params -> PySem.W.Frag} {CX : World -> CXT} {sp : World -> Sp} {x : Str}
  (hn : l.most = some n) (hn2 : n <= sizeLine) (hdf : d.params.defaults = []) (hr : Room k callerA)
  (hY : ∀ (w : World) (h : Heap), YP w h -> (K w.params).In h)
  (F : ∀ (w : World) (mg : Str -> Option Value) (fa : Addr) (h : Heap), (K w.params).In h -> h.Ns mainGlobals mg -> mg d.name = some (.ref fa) ->
   ∃ fd : FuncData, (∀ (s : Shared) (u : Value), BindsTo s fd ⟨[u], []⟩ [(x, u)]) /\
    ∀ base : Heap, (K w.params).In base -> base.Ns mainGlobals mg -> FnOk l.prog w (K w.params) mg base (CX w) k fa fd [x] (sp w))
  (hsp : ∀ (w : World) (H : Hp) (a : Addr) (ns : List Int), ns.length <= n -> Ce H -> SqL (K w.params) H a (ns.map V.int) -> sp w [.ref a] H (fun v _ => v = .bl true) fun _ _ _ => False)
  (hCX : ∀ (w : World) (H : Hp) (s : Shared) (e : Value) (s' : Shared), CX w [] H s (fun _ _ _ => False) e s' -> False) :
  PySem.W.WalkO q loose XP YP l.row.toRowW d [] (fun f vs => PySem.call f vs) := by
 refine Att.attach_call hn hdf fun w s₀ s₁ mg mb fa o pm cd doc a vs ns G Y ho hd hcd hmg hobj hints hlen hg => ?_
 have KX := hY w _ Y
 obtain ⟨fd, hb, hF⟩ := F w mg fa _ KX G.T.g hmg
 exact zZ KX G.T.g G.T.b G.T.builtins G.T.nolimit hg hobj hints (Nat.le_trans hlen hn2) hr hF hb (fun H hO hS => hsp w H a ns hlen hO hS) fun H e s' => hCX w H s₁ e s'
end L2
namespace L2
open PySem PySem.Spec PyProof.Rows
def inClass (s : Stmt) (j : Nat) : Stmt := match s with
 | .ClassDef _ _ _ body _ _ _ _ _ _ _ => body.getD j (.Pass ⟨0, 0, 0, 0⟩)
 | _ => .Pass ⟨0, 0, 0, 0⟩
def aL (s : Stmt) : Arguments := match s with
 | .FunctionDef _ a _ _ _ _ _ _ _ _ => a
 | _ => { posonlyargs := [], args := [], vararg := none, kwonlyargs := [], kw_defaults := [], kwarg := none, defaults := [] }
def aK (s : Stmt) : List Stmt := match s with
 | .FunctionDef _ _ b _ _ _ _ _ _ _ => b
 | _ => []
def ak (s : Stmt) : Scope := match s with
 | .FunctionDef _ _ _ _ _ _ sc _ _ _ => sc
 | _ => { kind := .function, names := [], isGenerator := false, isCoroutine := false }
abbrev CX0 : CXT := fun _ _ _ _ _ _ => False
abbrev E0 : XK := fun _ _ _ => False
theorem AF {X : Cx} : Passes CX0 X E0 := fun _ _ _ _ _ _ _ h => h.elim
structure Fun (K : PySem.W.Frag) (x qual : Str) (st : Stmt) (f : Addr) (fd : FuncData) : Prop where
 ex : ∃ (oc : Value) (od : Option Addr) (kV doc pm : Value) (an : Option Addr) (cdv ct : Value) (osl : Array (Option Value)),
  fd = PySem.W.fnOf x qual (aL st) (aK st) (ak st) .none kV doc pm an cdv ct /\ K.lookup f = some ⟨oc, od, .func fd, osl⟩ /\ PySem.W.codeIn K cdv qual = true
 kp : PySem.W.keepIn K (.ref f) = true
section
variable {P : Program} {w : World} {K : PySem.W.Frag} {mg : Str -> Option Value} {base : Heap}
end
theorem gB {A : Around} {k : Nat} (hr : Room k A) : A.units + 1 < cLine := Nat.lt_of_le_of_lt (Nat.add_le_add_left (by decide : 1 <= 64) _) hr.units
theorem aw {n : Nat} (h : n <= 1000) : n < sizeLine := Nat.lt_of_le_of_lt h (by decide)
section
variable {X : Cx}
theorem pv (i : Nat) {x : Str} {pos : Pos} (hN : X.N[i]? = some x := by rfl) (hv : Vis X.env.scope x := by first | exact Or.inl rfl | exact Or.inr (Or.inl rfl) | exact Or.inr (Or.inr rfl)) (hd : (x == ("__debug__" : Str)) = false := by decide)
  (hcd : (x == ("__classdict__" : Str)) = false := by decide) : PE X (.Name x pos) (C4 i) := Cf hN hv hd hcd
end
theorem jt {A B : Prop} (h : B) : if false = true then A else B := by
 rw [if_neg Bool.false_ne_true]
 exact h
theorem uK {A B : Prop} (h : A) : if true = true then A else B := by
 rw [if_pos rfl]
 exact h
theorem Cj {c A B : Prop} [Decidable c] (h1 : c -> A) (h2 : ¬ c -> B) : if c then A else B := by
 by_cases h : c
 ·rw [if_pos h]
  exact h1 h
 ·rw [if_neg h]
  exact h2 h
def Same (H H' : Hp) : Prop := ∀ b o, H b = some o -> H' b = some o
theorem Same.refl (H : Hp) : Same H H := fun _ _ h => h
theorem Same.trans {H H1 H2 : Hp} (a : Same H H1) (b : Same H1 H2) : Same H H2 := fun c o h => b c o (a c o h)
theorem Same.free {H H' : Hp} (e : Same H H') {l : Addr} (h : H' l = Option.none) : H l = Option.none := by
 cases q : H l with
 | none => rfl
 | some o =>
  rw [e l o q] at h
  cases h
theorem Same.seq {K : PySem.W.Frag} {H H' : Hp} {a : Addr} {xs : List V} (e : Same H H') (h : SqL K H a xs) : SqL K H' a xs := by
 rcases h with (h | ⟨o, h⟩) | h
 ·exact .inl (.inl (e _ _ h))
 ·exact .inl (.inr ⟨o, e _ _ h⟩)
 ·exact .inr h
end L2
set_option Elab.async false
set_option linter.all false
set_option maxRecDepth 100000
namespace L2
open PySem PySem.Spec PyProof.Rows
def bA (cells : List (Str × Addr)) : List (Str × NameKind) -> List (Str × Addr) -> List (Str × Addr)
 | [], cs => cs
 | (n, k) :: r, cs => bA cells r (if k == .free then (n, (cells.lookup n).getD 0) :: cs else cs)
theorem gI {scope : Scope} {env : Env} (h : ∀ y ∈ scope.names, y.2 = .free -> ∃ c, env.cells.lookup y.1 = some c) :
  closureFor scope env = pure (bA env.cells scope.names []) := by
 have all : ∀ (ns : List (Str × NameKind)) (cs : List (Str × Addr)), (∀ y ∈ ns, y.2 = .free -> ∃ c, env.cells.lookup y.1 = some c) ->
   (forIn ns cs (fun (x : Str × NameKind) (r : List (Str × Addr)) => (match x with
    | (name, kind) => if (kind == NameKind.free) = true then (do let c <- cellOf env name; pure (ForInStep.yield ((name, c) :: r))) else pure (ForInStep.yield r) : Sem (ForInStep (List (Str × Addr))))) : Sem (List (Str × Addr)))
   = pure (bA env.cells ns cs) := by
  intro ns
  induction ns with
  | nil => intro cs _; rfl
  | cons y r ih =>
   intro cs hy
   obtain ⟨n, k⟩ := y
   rw [List.forIn_cons]
   by_cases hk : k = .free
   ·subst hk
    obtain ⟨c, e⟩ := hy (n, .free) List.mem_cons_self rfl
    have e' : env.cells.lookup n = some c := e
    have e1 : cellOf env n = pure c := by unfold cellOf; rw [e']
    simp only [beq_self_eq_true, if_true, e1, pure_bind]
    rw [ih _ fun z hz => hy z (List.mem_cons_of_mem _ hz)]
    simp only [bA, beq_self_eq_true, if_true, e', Option.getD_some]
   ·have hb : (k == NameKind.free) = false := by simpa using hk
    simp only [hb, Bool.false_eq_true, if_false, pure_bind]
    rw [ih _ fun z hz => hy z (List.mem_cons_of_mem _ hz)]
    simp only [bA, hb, Bool.false_eq_true, if_false]
 unfold closureFor
 have q := all scope.names [] h
 simp only [bind_pure]
 exact q
theorem gO (cells : List (Str × Addr)) {x : Str} {c : Addr} : ∀ (ns : List (Str × NameKind)) (cs : List (Str × Addr)), (bA cells ns cs).lookup x = some c ->
  ((x, NameKind.free) ∈ ns /\ (cells.lookup x).getD 0 = c) \/ cs.lookup x = some c
 | [], _, h => .inr h
 | (n, k) :: r, cs, h => by
  rcases gO cells r _ h with ⟨h1, h2⟩ | h1
  ·exact .inl ⟨List.mem_cons_of_mem _ h1, h2⟩
  ·by_cases hk : k = .free
   ·subst hk
    simp only [beq_self_eq_true, if_true] at h1
    by_cases hx : x = n
    ·subst hx
     simp only [List.lookup_cons, beq_self_eq_true] at h1
     exact .inl ⟨List.mem_cons_self, Option.some.inj h1⟩
    ·have hb : (x == n) = false := by simpa using hx
     simp only [List.lookup_cons, hb] at h1
     exact .inr h1
   ·have hb : (k == NameKind.free) = false := by simpa using hk
    simp only [hb, Bool.false_eq_true, if_false] at h1
    exact .inr h1
theorem eh (cells : List (Str × Addr)) {x : Str} {c : Addr} (e : cells.lookup x = some c) : ∀ (ns : List (Str × NameKind)) (cs : List (Str × Addr)), ((x, NameKind.free) ∈ ns \/ cs.lookup x = some c) ->
  (bA cells ns cs).lookup x = some c
 | [], _, h => by
  rcases h with h | h
  ·cases h
  ·exact h
 | (n, k) :: r, cs, h => by
  refine eh cells e r _ ?_
  rcases h with h | h
  ·rcases List.mem_cons.mp h with z | z
   ·cases z
    right
    simp only [beq_self_eq_true, if_true, List.lookup_cons, e, Option.getD_some]
   ·exact .inl z
  ·right
   by_cases hk : (k == NameKind.free) = true
   ·rw [if_pos hk]
    by_cases hx : x = n
    ·subst hx
     simp only [List.lookup_cons, beq_self_eq_true, e, Option.getD_some]
    ·have hb : (x == n) = false := by simpa using hx
     simp only [List.lookup_cons, hb]
     exact h
   ·rw [if_neg hk]
    exact h
theorem fK {env : Env} : ∀ {names : List (Str × NameKind)} {x : Str}, names.lookup x = some .free ->
  (names.map fun (n, k) => if (k == NameKind.free && env.scope.kind == .function && env.kindOf n == some .cell) then (n, NameKind.cell) else (n, k)).lookup x = some .cell \/
  (names.map fun (n, k) => if (k == NameKind.free && env.scope.kind == .function && env.kindOf n == some .cell) then (n, NameKind.cell) else (n, k)).lookup x = some .free
 | [], _, h => by simp at h
 | (n, k) :: r, x, h => by
  have ih := @fK env r x
  show List.lookup x ((if (k == NameKind.free && env.scope.kind == .function && env.kindOf n == some .cell) = true then (n, NameKind.cell) else (n, k)) :: _) = _ \/
   List.lookup x ((if (k == NameKind.free && env.scope.kind == .function && env.kindOf n == some .cell) = true then (n, NameKind.cell) else (n, k)) :: _) = _
  cases hx : x == n with
  | true =>
   simp only [List.lookup_cons, hx] at h
   cases h
   by_cases hc : (NameKind.free == NameKind.free && env.scope.kind == .function && env.kindOf n == some .cell) = true
   ·rw [if_pos hc]; simp only [List.lookup_cons, hx]; first | exact .inl trivial | exact .inl rfl
   ·rw [if_neg hc]; simp only [List.lookup_cons, hx]; first | exact .inr trivial | exact .inr rfl
  | false =>
   simp only [List.lookup_cons, hx] at h
   by_cases hc : (k == NameKind.free && env.scope.kind == .function && env.kindOf n == some .cell) = true
   ·rw [if_pos hc]; simp only [List.lookup_cons, hx]; exact ih h
   ·rw [if_neg hc]; simp only [List.lookup_cons, hx]; exact ih h
theorem iR {env : Env} : ∀ {names : List (Str × NameKind)} {x : Str} {k' : NameKind}, k' = .cell \/ k' = .free -> (∀ y ∈ names, y.2 ≠ .cell) ->
  (names.map fun (n, k) => if (k == NameKind.free && env.scope.kind == .function && env.kindOf n == some .cell) then (n, NameKind.cell) else (n, k)).lookup x = some k' -> (x, NameKind.free) ∈ names
 | [], _, _, _, _, h => by simp at h
 | (n, k) :: r, x, k', hk', hn, h => by
  have ih := @iR env r x k' hk' (fun y hy => hn y (List.mem_cons_of_mem _ hy))
  have h' : List.lookup x ((if (k == NameKind.free && env.scope.kind == .function && env.kindOf n == some .cell) = true then (n, NameKind.cell) else (n, k)) :: (r.map fun (n, k) => if (k == NameKind.free && env.scope.kind == .function && env.kindOf n == some .cell) then (n, NameKind.cell) else (n, k))) = some k' := h
  have hkc : k ≠ .cell := hn (n, k) List.mem_cons_self
  cases hx : x == n with
  | true =>
   have hxn : x = n := by simpa using hx
   subst hxn
   by_cases hc : (k == NameKind.free && env.scope.kind == .function && env.kindOf x == some .cell) = true
   ·have hk : k = .free := by
     simp only [Bool.and_eq_true, beq_iff_eq] at hc
     exact hc.1.1
    subst hk
    exact List.mem_cons_self
   ·rw [if_neg hc] at h'
    simp only [List.lookup_cons, beq_self_eq_true] at h'
    have hk : k = k' := Option.some.inj h'
    rcases hk' with z | z
    ·exact absurd (hk.trans z) hkc
    ·rw [hk, z]; exact List.mem_cons_self
  | false =>
   refine List.mem_cons_of_mem _ (ih ?_)
   by_cases hc : (k == NameKind.free && env.scope.kind == .function && env.kindOf n == some .cell) = true
   ·rw [if_pos hc] at h'
    simpa only [List.lookup_cons, hx] using h'
   ·rw [if_neg hc] at h'
    simpa only [List.lookup_cons, hx] using h'
def aJ (ix : List (Option Nat)) (σ : St) : St := ix.map fun o => match o with
 | none => none
 | some i => (σ[i]?).join
structure BlkScope (NX : List Str) (scX : Scope) (N : List Str) (ix : List (Option Nat)) (sc : Scope) : Prop where
 kind : sc.kind = .function
 nd : N.Nodup
 nocell : ∀ y ∈ sc.names, y.2 ≠ .cell
 locs : ∀ y ∈ sc.names, y.2 = .local -> sc.names.lookup y.1 = some .local
 free : ∀ y ∈ sc.names, y.2 = .free -> scX.names.lookup y.1 = some .cell \/ scX.names.lookup y.1 = some .free
 len : ix.length = N.length
 at_ : ∀ p ∈ N.zip ix, ∀ i, p.2 = some i -> NX[i]? = some p.1 /\ sc.names.lookup p.1 = some .free
def eR (X : Cx) (N : List Str) (scope : Scope) (fp : List Addr) (s : Shared) (H : Hp) (C : Addr) : Cx :=
 { prog := X.prog, w := X.w, K := X.K, mg := X.mg, base := X.base, A := X.A, N := N, s₀ := s, H₀ := H, env := compEnvC scope (bA X.env.cells scope.names []) C X.env, outer := X.stack, stack := X.stack, ex := fp, fn := fun _ => false, calm := X.calm, pn := X.pn, xe := fun _ _ => False }
theorem ji {names : List (Str × NameKind)} {x : Str} (h : names.lookup x = some .free) : (x, NameKind.free) ∈ names := PySem.mem_of_lookup h
section
variable {X : Cx} {pins : List (Addr × Obj)} {σ : St} {H : Hp} {s : Shared} {N : List Str} {ix : List (Option Nat)} {scope : Scope} {fp : List Addr}
theorem BlkScope.clos (S : BlkScope X.N X.env.scope N ix scope) (ok : X.Ok) : ∀ y ∈ scope.names, y.2 = .free -> ∃ c, X.env.cells.lookup y.1 = some c := fun y hy hf => ok.has y.1 (S.free y hy hf)
theorem yx {D C : Addr} {h' : Heap} {tk : Nat} {m : Str -> Option Value} (I : Inv X pins σ H s) (S : BlkScope X.N X.env.scope N ix scope) (hf : ∀ b ∈ fp, iE X pins H b)
  (hfo : ∀ b ∈ fp, ∃ o, s.heap.get? b = some o /\ ∀ v, o.data ≠ .cell v)
  (hD : s.heap.objs.size <= D) (hC : s.heap.objs.size <= C) (hDC : D ≠ C) (hk : ∀ b o, s.heap.get? b = some o -> h'.get? b = some o) (hns : h'.Ns C m)
  (hl : ∃ n, h'.get? D = some { cls := .type "list", data := .seq ([] : List Value).toArray n }) :
  Inv (eR X N scope fp s H C) pins (aJ ix σ) (upd H D (.lst [])) { s with heap := h', toks := tk } := by
 have fresh : ∀ {a : Addr}, s.heap.objs.size <= a -> H a = none := fun h => I.hok.fresh h
 have cl_of : ∀ x c, (bA X.env.cells scope.names []).lookup x = some c -> X.env.cells.lookup x = some c := fun x c e => by
  rcases gO _ _ _ e with ⟨h1, h2⟩ | h1
  ·obtain ⟨c', e'⟩ := S.clos I.ok _ h1 rfl
   have e'' : X.env.cells.lookup x = some c' := e'
   rw [e''] at h2
   rw [e'']
   exact congrArg some h2
  ·simp at h1
 have ltO : ∀ {b : Addr} {o : Obj}, s.heap.get? b = some o -> b < s.heap.objs.size := fun e => Heap.lt_size e
 have neC : ∀ {b : Addr} {o : Obj}, s.heap.get? b = some o -> b ≠ C := fun e => Nat.ne_of_lt (Nat.lt_of_lt_of_le (ltO e) hC)
 have neD : ∀ {b : Addr} {o : Obj}, s.heap.get? b = some o -> b ≠ D := fun e => Nat.ne_of_lt (Nat.lt_of_lt_of_le (ltO e) hD)
 have cellG : ∀ x c, X.env.cells.lookup x = some c -> ∃ o, s.heap.get? c = some o := fun x c e => by
  obtain ⟨v, o, ho, _⟩ := I.cell x c e
  exact ⟨o, ho⟩
 refine ⟨⟨I.ok.mod, ?_, I.ok.glob, I.ok.blt, hC, fun x y c e1 e2 => I.ok.inj x y c (cl_of x c e1) (cl_of y c e2), fun x hx => ?_, fun x c h _ => ?_, I.ok.hd, I.ok.frames, .inl rfl, fun b hb => ?_, I.bs, Nat.le_trans I.ok.bsz I.sz, fun b o e hb => ?_, fun b hb hb2 => ?_, I.stack, I.stkFree⟩,
  rfl, I.bare, Un.laid hk hD (fresh hD), ⟨m, hns, fun j x v e1 e2 e3 => ?_⟩, fun x c e => ?_, ?_, fun x c e => ?_, fun p hp => ?_, I.hok.laid hk hD ?_, ?_⟩
 ·exact S.kind
 ·have hx' : (x, NameKind.free) ∈ scope.names := by
   rcases hx with hx | hx
   ·exact iR (.inl rfl) S.nocell hx
   ·exact iR (.inr rfl) S.nocell hx
  obtain ⟨c, e⟩ := S.clos I.ok _ hx' rfl
  exact ⟨c, eh _ e _ _ (.inl hx')⟩
 ·exact absurd (show false = true from h) Bool.false_ne_true
 ·obtain ⟨f0, f1, f2, f3, f4, f5⟩ := hf b hb
  obtain ⟨o, e, _⟩ := hfo b hb
  exact ⟨neC e, fun x c ec => f4 x c (cl_of x c ec)⟩
 ·obtain ⟨f0, f1, f2, f3, f4, f5⟩ := hf b hb
  rcases f3 with z | z
  ·exact I.ok.noex b o e z
  ·exact absurd (Nat.lt_of_lt_of_le (Heap.lt_size (I.ok.bs b o e).1) z) (Nat.lt_irrefl _)
 ·obtain ⟨f0, f1, f2, f3, f4, f5⟩ := hf b hb
  rcases List.mem_cons.mp (I.stkSub b hb2) with z | z
  ·exact f1 z
  ·exact f2 z
 ·-- a name's value
  obtain ⟨mX, hnX, hlX⟩ := id I.loc
  have hj : (aJ ix σ)[j]? = some (some v) := e2
  unfold aJ at hj
  rw [List.getElem?_map] at hj
  cases ej : ix[j]? with
  | none => rw [ej] at hj; cases hj
  | some o =>
   rw [ej] at hj
   cases o with
   | none => cases hj
   | some i =>
    have hj' : (σ[i]?).join = some v := Option.some.inj hj
    have hz : (x, some i) ∈ N.zip ix := List.mem_iff_getElem?.mpr ⟨j, by rw [List.getElem?_zip_eq_some]; exact ⟨e1, ej⟩⟩
    obtain ⟨hNi, hfr⟩ := S.at_ _ hz i rfl
    have hmem := ji hfr
    have hσ : σ[i]? = some (some v) := by
     cases q : σ[i]? with
     | none => rw [q] at hj'; cases hj'
     | some w' =>
      rw [q] at hj'
      have q' : w' = some v := hj'
      rw [q']
    have hvx : X.env.scope.names.lookup x = some .cell \/ X.env.scope.names.lookup x = some .free := S.free _ hmem rfl
    obtain ⟨u, r, lk⟩ := hlX i x v hNi hσ (.inr hvx)
    refine ⟨u, r, .inr ⟨?_, ?_⟩⟩
    ·exact fK hfr
    ·rcases lk with ⟨k, _⟩ | ⟨k, c, ec, ci⟩
     ·have k' : X.env.scope.names.lookup x = some .local := k
      rcases hvx with z | z
      ·rw [z] at k'; cases k'
      ·rw [z] at k'; cases k'
     ·obtain ⟨oc, hoc, hocd⟩ := ci
      exact ⟨c, eh _ ec _ _ (.inl hmem), oc, hk c oc hoc, hocd⟩
 ·obtain ⟨v, o, ho, hd⟩ := I.cell x c (cl_of x c e)
  exact ⟨v, o, hk c o ho, hd⟩
 ·show upd H D (.lst []) C = none
  rw [ae (Ne.symm hDC)]
  exact fresh hC
 ·obtain ⟨o, ho⟩ := cellG x c (cl_of x c e)
  rw [ae (neD ho)]
  exact I.freeC x c (cl_of x c e)
 ·obtain ⟨e, n, ne, nf, d⟩ := I.pin p hp
  refine ⟨hk _ _ e, by rw [ae (neD e)]; exact n, neC e, fun z => ?_, d⟩
  rcases List.mem_cons.mp (I.stkSub p.1 z) with q | q
  ·exact ne q
  ·exact nf q
 ·obtain ⟨n, hl⟩ := hl
  exact ⟨Nat.zero_le _, [], n, .nil, hl⟩
 ·show (aJ ix σ).length = N.length
  unfold aJ
  rw [List.length_map]
  exact S.len
end
end L2
set_option Elab.async false
set_option linter.all false
set_option maxRecDepth 100000
namespace L2
open PySem PySem.Spec PyProof.Rows
theorem oB {prog : Program} {w : World} {A : Around} {R : Result -> Shared -> Prop} {s : Shared} {elt target iter : Expr} {scope : Scope} {pos : Pos} {it acc : Value} {env : Env} (I : Nat -> Shared -> Prop)
  (turn : ∀ n s, I n s -> wpAny (model prog w) A (pyNext it) (fun r s₁ => match r with
   | none => R (.ok .next) s₁
   | some v => wpAny (model prog w) A (letOwnedTupleGo target it v) (fun _ s₁' => wpAny (model prog w) A (assign target env v) (fun _ s₂ => wpAny (model prog w) A (eval elt env) (fun x s₃ =>
     wpAny (model prog w) A (call (.builtin "list.append") [acc, x]) (fun _ s₄ => ∃ m, m < n /\ I m s₄) (fun _ _ => False) s₃)
     (fun _ _ => False) s₂) (fun _ _ => False) s₁') (fun _ _ => False) s₁) (fun _ _ => False) s)
  (n : Nat) (h : I n s) :
  codeAny (model prog w) A (.compLoop (.ListComp elt [⟨target, iter, [], 0⟩] scope pos) 0 it acc env) R s := by
 refine codeAny_loop rfl I (fun n s hI => ?_) n h
 show wpAny _ _ ((compTurn (.ListComp elt [⟨target, iter, [], 0⟩] scope pos) 0 it acc env).onRaise (fun x => do noteFrame x env; theTreesLotGoes x)) _ _ s
 refine wpAny_noted ?_
 rw [compTurn_list1]
 refine wpAny_bind (wpAny_standAt (wpAny_bind (wpAny_mono (turn n s hI) (fun r s₁ h₁ => ?_) fun _ _ h' => h'.elim)))
 cases r with
 | none => exact wpAny_pure h₁
 | some v =>
  refine wpAny_bind (wpAny_mono h₁ (fun _ s₁' h₁' => ?_) fun _ _ h' => h'.elim)
  exact wpAny_bind (wpAny_mono h₁' (fun _ s₂ h₂ => wpAny_bind (wpAny_bind (wpAny_mono h₂ (fun x s₃ h₃ => wpAny_bind (wpAny_mono h₃
   (fun _ s₄ h₄ => wpAny_pure (wpAny_pure ⟨rfl, h₄⟩)) fun _ _ h' => h'.elim)) fun _ _ h' => h'.elim))) fun _ _ h' => h'.elim)
def mM (J : It) (ix : List (Option Nat)) (g : TG) (te : TE) (σ : St) (H : Hp) (Qd : Addr -> Hp -> Prop) : Prop :=
 ∀ D, H D = none -> ∃ W : Nat -> Nat -> St -> Hp -> Prop, (∃ m, W 0 m (aJ ix σ) (upd H D (.lst []))) /\ ∀ i m σ' H', W i m σ' H' ->
  (J.stop i H' /\ Qd D H') \/ (J.go i H' /\ ∀ x H2, J.yld i H' x H2 -> g x σ' H2 fun σ3 H3 => te σ3 H3 fun y H4 => ∃ ys, H4 D = some (.lst ys) /\ ys.length < sizeLine /\ ∃ m', m' < m /\ W (i + 1) m' σ3 (upd H4 D (.lst (ys ++ [y]))))
section
variable {X : Cx} {pins : List (Addr × Obj)} {σ : St} {H : Hp} {s : Shared} {N : List Str} {ix : List (Option Nat)} {scope : Scope} {fp : List Addr} {tg elt iter : Expr} {pos spos : Pos} {J : It} {it : Addr} {tn : Nat -> Heap -> Prop} {g : TG} {te : TE} {wi : TI}
theorem vk {Qd : Addr -> Hp -> Prop} {RR : Value -> Addr -> Result -> Shared -> Prop} {E : Value -> Shared -> Prop} (I : Inv X pins σ H s) (hc : X.calm = true) (S : BlkScope X.N X.env.scope N ix scope) (T : Turn X.prog X.w X.K tg J fp it tn) (st : tn 0 s.heap) (f2 : ∀ b ∈ fp, iE X pins H b)
  (hg : ∀ C, PG (eR X N scope fp s H C) tg g) (he : ∀ C, PE (eR X N scope fp s H C) elt te) (hW : mM J ix g te σ H Qd)
  (hR : ∀ D C s' H' m, Inv X pins σ H' s' -> s'.heap.Ns C m -> iE X pins H' C -> Qd D H' -> RR (.ref D) C (.ok .next) s') :
  wpAny (model X.prog X.w) X.A (newList []) (fun acc s₃ => wpAny (model X.prog X.w) X.A (newFunctionEnv scope X.env.globals (bA X.env.cells scope.names []) [] X.env.qual none .none (some X.env)) (fun cenv s₄ =>
   codeAny (model X.prog X.w) X.A (.compStart (.ListComp elt [⟨tg, iter, [], 0⟩] scope pos) 0 (.ref it) acc { cenv with scope := relabel scope X.env }) (RR acc cenv.locals) s₄) E s₃) E s := by
 refine wpAny_newObj_type (wpAny_newFunctionEnv S.nocell (by intro y hy; simp at hy) (fun h₁ hns₁ hsb₁ => ?_) S.kind)
 dsimp only at hns₁ hsb₁ ⊢
 generalize hH2 : s.heap.push { cls := .type "list", dict := none, data := .seq ([] : List Value).toArray } = H2 at hns₁ hsb₁ ⊢
 have hC : H2.objs.size = s.heap.objs.size + 1 := by rw [<- hH2, Heap.size_push]
 have hDC : s.heap.objs.size ≠ H2.objs.size := by rw [hC]; exact Nat.ne_of_lt (Nat.lt_succ_self _)
 have hCle : s.heap.objs.size <= H2.objs.size := by rw [hC]; exact Nat.le_succ _
 have below : ∀ b, b < s.heap.objs.size -> b ≠ H2.objs.size := fun b hb => by rw [hC]; exact Nat.ne_of_lt (Nat.lt_succ_of_lt hb)
 have old : ∀ b o, s.heap.get? b = some o -> h₁.get? b = some o := fun b o e => hsb₁.extBut b o (below b (Heap.lt_size e)) (Heap.get?_push_of_some _ (hH2 ▸ Heap.get?_push_of_some _ e))
 have hacc : ∃ n, h₁.get? s.heap.objs.size = some { cls := .type "list", data := .seq ([] : List Value).toArray n } := ⟨_, hsb₁.extBut _ _ hDC (Heap.get?_push_of_some _ (hH2 ▸ Heap.get?_push_size _ rfl))⟩
 have st1 : tn 0 h₁ := T.keep _ _ _ st fun b _ o e => old b o e
 have fo : ∀ b ∈ fp, ∃ o, s.heap.get? b = some o /\ ∀ v, o.data ≠ .cell v := T.obj _ _ st
 have I0 : Inv (eR X N scope fp s H H2.objs.size) pins (aJ ix σ) (upd H s.heap.objs.size (.lst [])) { s with heap := h₁, toks := s.toks + ([] : List (Str × Value)).length } :=
  yx I S f2 fo (Nat.le_refl _) hCle hDC old hns₁ hacc
 have freshD : H s.heap.objs.size = none := I.hok.fresh (Nat.le_refl _)
 obtain ⟨W, ⟨m0, w0⟩, turn⟩ := hW s.heap.objs.size freshD
 have cl_ne : ∀ b ∈ fp, b ≠ H2.objs.size := fun b hb => by
  obtain ⟨o, e, _⟩ := fo b hb
  exact below b (Heap.lt_size e)
 have stat : ∀ {H' : Hp}, (∀ b ∈ fp, H' b = none) -> ∀ b ∈ fp, iE (eR X N scope fp s H H2.objs.size) pins H' b := fun hn b hb => by
  obtain ⟨f0, f1, f3, f4, f5, f6⟩ := f2 b hb
  exact ⟨hn b hb, cl_ne b hb, I0.ok.exfs b hb, .inl hb, (I0.ok.exf b hb).2, f6⟩
 have fr0 : ∀ b ∈ fp, (upd H s.heap.objs.size (.lst [])) b = none := fun b hb => by
  obtain ⟨o, e, _⟩ := fo b hb
  rw [ae (Nat.ne_of_lt (Heap.lt_size e))]
  exact (f2 b hb).1
 have loop : codeAny (model X.prog X.w) X.A (.compLoop (.ListComp elt [⟨tg, iter, [], 0⟩] scope pos) 0 (.ref it) (.ref s.heap.objs.size) (compEnvC scope (bA X.env.cells scope.names []) H2.objs.size X.env))
   (RR (.ref s.heap.objs.size) H2.objs.size) { s with heap := h₁, toks := s.toks + ([] : List (Str × Value)).length } := by
  refine oB (fun n s' => ∃ i σ' H', Inv (eR X N scope fp s H H2.objs.size) pins σ' H' s' /\ tn i s'.heap /\ (∀ b ∈ fp, H' b = none) /\ W i n σ' H') ?_ m0 ⟨0, _, _, I0, st1, fr0, w0⟩
  rintro n s3 ⟨i, σ3, H3, I3, st3, fr3, w3⟩
  rcases turn i n σ3 H3 w3 with ⟨stop, qn⟩ | ⟨go, step⟩
  ·refine thn (T.done (eR X N scope fp s H H2.objs.size) rfl rfl rfl hc i pins s3 σ3 H3 _ I3 (stat fr3) st3 stop) fun r s4 ⟨hr, I4⟩ => ?_
   subst hr
   obtain ⟨m4, hn4, _⟩ := id I4.loc
   refine hR _ _ s4 H3 m4 ?_ hn4 (I.fpOk hCle I4.free) qn
   exact I.call' (ch := fp) I4.os I4.base I4.hok I4.bare fun b hb => by
    obtain ⟨f0, f1, f3, f4, f5, f6⟩ := f2 b hb
    exact ⟨f4, f1, f5, f6⟩
  ·refine thn (T.item (eR X N scope fp s H H2.objs.size) rfl rfl rfl hc i pins s3 σ3 H3 _ I3 (stat fr3) st3 go) fun r s4 ⟨u, hr, h4⟩ => ?_
   subst hr
   refine thn h4 fun _ s5 ⟨x, H5, I5, r5, y5, st5, fr5⟩ => ?_
   have I5' := I5.pinned (stat fr5) (T.obj _ _ st5)
   refine thn (hg _ _ s5 σ3 H5 x u _ I5' r5 (step x H5 y5)) fun _ s6 ⟨σ6, H6, I6, q6⟩ => ?_
   refine thn (he _ _ s6 σ6 H6 _ I6 q6) fun yv s7 ⟨y, H7, I7, r7, ys, hD7, hz7, m', hm, w7⟩ => ?_
   refine thn (bF (X := eR X N scope fp s H H2.objs.size) _ s7 σ6 H7 (.ref s.heap.objs.size) [y] (.ref s.heap.objs.size) [yv] (fun _ H8 => W (i + 1) m' σ6 H8) I7 rfl (.cons r7 .nil) ⟨_, ys, y, rfl, rfl, hD7, hz7, w7⟩) fun _ s8 ⟨_, H8, I8, _, w8⟩ => ?_
   refine ⟨m', hm, i + 1, σ6, H8, I8.unpinned, T.keep _ _ _ st5 fun b hb o e => (I8.pin (b, o) (List.mem_append_right _ (List.mem_append_right _ (eY hb e)))).1, fun b hb => ?_, w8⟩
   obtain ⟨o, e, d⟩ := T.obj _ _ st5 b hb
   exact (I8.pin (b, o) (List.mem_append_right _ (List.mem_append_right _ (eY hb e)))).2.1
 exact codeAny_compStart_list loop (T.self _ _ _ _ _ st1 loop)
def zC (ix : List (Option Nat)) (wi : TI) (g : TG) (te : TE) : TE := fun σ H Q => wi σ H fun J H1 => mM J ix g te σ H1 fun D H' => Q (.ref D) H'
theorem cq (hc : X.calm = true) (S : BlkScope X.N X.env.scope N ix scope) (hi : PI X tg iter wi) (hg : ∀ fp s H C, PG (eR X N scope fp s H C) tg g) (he : ∀ fp s H C, PE (eR X N scope fp s H C) elt te)
  (hs : ∀ x, foldedSetIterable iter X.env x = pure x := by intro _; rfl) : PE X (.ListComp elt [⟨tg, iter, [], 0⟩] scope pos) (zC ix wi g te) := by
 intro pins s σ H Q I h
 rw [eval_ListComp]
 refine wpAny_comprehension_free (use := none) rfl hs (gI (S.clos I.ok)) S.kind S.locs (thn (hi pins s σ H _ I h) fun v s1 h1 => thn h1 fun itv s2 h2 => ?_)
 obtain ⟨it, fp, tn, J, H2, e, I2, T, st2, f2, hW⟩ := h2
 subst e
 refine vk (RR := fun acc C => compPost (model X.prog X.w) X.A X.xe none (EP X pins σ Q) acc C) I2 hc S T st2 f2 (hg _ _ _) (he _ _ _) hW ?_
 intro D C s' H' m I' hn fC q
 exact ⟨m, hn, fun h' sb => ⟨.ref D, H', I'.turned (t' := s'.toks) (fun b o hb e => (sb.2 b hb).trans e) fC.1 fC.2.1 fC.2.2.2.1 fC.2.2.2.2.1 fC.2.2.2.2.2, rfl, q⟩⟩
theorem jb {i : Nat} {y : Str} {py : Pos} (hc : X.calm = true) (hN : X.N.Nodup) (hyi : X.N[i]? = some y) (hy : Loc X.env.scope y) (S : BlkScope X.N X.env.scope N ix scope) (hi : PI X tg iter wi) (hg : ∀ fp s H C, PG (eR X N scope fp s H C) tg g) (he : ∀ fp s H C, PE (eR X N scope fp s H C) elt te)
  (hsw : swapsWith (.ListComp elt [⟨tg, iter, [], 0⟩] scope pos) (some (.Name y py)) spos.line X.env = pure true := by rfl)
  (hf : X.fn y = true \/ X.env.scope.names.lookup y = some .local := by first | exact .inl rfl | exact .inr rfl | assumption)
  (hs : ∀ x, foldedSetIterable iter X.env x = pure x := by intro _; rfl) : PS X (.Assign [.Name y py] (.ListComp elt [⟨tg, iter, [], 0⟩] scope pos) spos) (oP (zC ix wi g te) (bR i)) := by
 intro pins s σ H D I h
 rw [exec_Assign_Name_used _ _ _ _ hsw]
 refine wpAny_bind (wpAny_standAt (wpAny_bind ?_))
 show wpAny _ X.A (do let _ <- comprehension (.ListComp elt [⟨tg, iter, [], 0⟩] scope pos) scope X.env _ (newList []) false (eval iter X.env) (some (assign (.Name y py) X.env))) _ _ s
 refine wpAny_bind (wpAny_mono (wpAny_comprehension_free (use := some (assign (.Name y py) X.env)) (Q := fun _ s' => SP X pins D .next s') rfl hs (gI (S.clos I.ok)) S.kind S.locs
  (thn (hi pins s σ H _ I h) fun v s1 h1 => thn h1 fun itv s2 h2 => ?_)) (fun _ s' hq => wpAny_pure (wpAny_pure hq)) fun _ _ e => e)
 obtain ⟨it, fp, tn, J, H2, e, I2, T, st2, f2, hW⟩ := h2
 subst e
 refine vk (RR := fun acc C => compPost (model X.prog X.w) X.A X.xe (some (assign (.Name y py) X.env)) (fun _ s' => SP X pins D .next s') acc C) I2 hc S T st2 f2 (hg _ _ _) (he _ _ _) hW ?_
 intro Dl C s' H' m I' hn fC q
 show wpAny _ X.A (assign (.Name y py) X.env (.ref Dl)) _ _ s'
 refine wpAny_assign_Name (nX I' hN hyi hy (v := .ref Dl) rfl (fun s2 I2' hsb => ?_) hf)
 obtain ⟨a, sb, ha⟩ := hsb
 refine ⟨m, hn.sameBut sb ?_, fun h3 sb3 => ⟨_, H', I2'.turned (t' := s2.toks) (fun b o hb e => (sb3.2 b hb).trans e) fC.1 fC.2.1 fC.2.2.2.1 fC.2.2.2.2.1 fC.2.2.2.2.2, q⟩⟩
 rcases ha with z | z
 ·rw [z]; exact fC.2.1
 ·exact Ne.symm (fC.2.2.2.2.1 _ _ z)
end
theorem eU {lo : Int} {n : Nat} {ix : List (Option Nat)} {te : TE} {σ : St} {H : Hp} {Qd : Addr -> Hp -> Prop} (Pv : Addr -> Nat -> List V -> Hp -> Prop)
  (h0 : ∀ D, H D = none -> Pv D 0 [] (upd H D (.lst [])))
  (hs : ∀ D i ys H' (Q' : VK), H D = none -> i < n -> H' D = some (.lst ys) -> Pv D i ys H' -> (∀ y H4, H4 D = some (.lst ys) -> ys.length < sizeLine -> Pv D (i + 1) (ys ++ [y]) (upd H4 D (.lst (ys ++ [y]))) -> Q' y H4) ->
   te ((aJ ix σ).set 0 (some (.int (lo + i)))) H' Q')
  (hd : ∀ D ys H', H D = none -> H' D = some (.lst ys) -> Pv D n ys H' -> Qd D H') : mM (Itr lo n) ix (bR 0) te σ H Qd := by
 intro D hD
 refine ⟨fun i m σ' H' => m = n - i /\ i <= n /\ (σ' = aJ ix σ \/ ∃ t, σ' = (aJ ix σ).set 0 t) /\ ∃ ys, H' D = some (.lst ys) /\ Pv D i ys H', ⟨n, by simp, Nat.zero_le _, .inl rfl, [], ab, h0 D hD⟩, ?_⟩
 rintro i m σ' H' ⟨rfl, hi, hσ, ys, hy, p⟩
 by_cases hlt : i < n
 ·refine .inr ⟨hlt, fun x H2 y => ?_⟩
  obtain ⟨e1, e2⟩ := y
  subst e1
  subst e2
  have es : σ'.set 0 (some (V.int (lo + i))) = (aJ ix σ).set 0 (some (V.int (lo + i))) := by
   rcases hσ with z | ⟨t, z⟩
   ·rw [z]
   ·rw [z, List.set_set]
  show te (σ'.set 0 (some (V.int (lo + i)))) _ _
  rw [es]
  refine hs D i ys _ _ hD hlt hy p fun y H4 h4 hz p4 => ⟨ys, h4, hz, n - (i + 1), by omega, rfl, hlt, .inr ⟨_, rfl⟩, ys ++ [y], ab, p4⟩
 ·have e : i = n := by omega
  subst e
  exact .inl ⟨Nat.le_refl _, hd D ys H' hD hy p⟩
theorem dM {K : PySem.W.Frag} {a : Addr} {xs : List V} {ix : List (Option Nat)} {te : TE} {σ : St} {H : Hp} {Qd : Addr -> Hp -> Prop} (Pv : Addr -> Nat -> List V -> Hp -> Prop)
  (h0 : ∀ D, H D = none -> Pv D 0 [] (upd H D (.lst [])))
  (hl : ∀ D i ys H', i <= xs.length -> Pv D i ys H' -> SqL K H' a xs)
  (hs : ∀ D i x ys H' (Q' : VK), H D = none -> xs[i]? = some x -> H' D = some (.lst ys) -> Pv D i ys H' -> (∀ y H4, H4 D = some (.lst ys) -> ys.length < sizeLine -> Pv D (i + 1) (ys ++ [y]) (upd H4 D (.lst (ys ++ [y]))) -> Q' y H4) ->
   te ((aJ ix σ).set 0 (some x)) H' Q')
  (hd : ∀ D ys H', H D = none -> H' D = some (.lst ys) -> Pv D xs.length ys H' -> Qd D H') : mM (Itl K a) ix (bR 0) te σ H Qd := by
 intro D hD
 refine ⟨fun i m σ' H' => m = xs.length - i /\ i <= xs.length /\ (σ' = aJ ix σ \/ ∃ t, σ' = (aJ ix σ).set 0 t) /\ ∃ ys, H' D = some (.lst ys) /\ Pv D i ys H', ⟨xs.length, by simp, Nat.zero_le _, .inl rfl, [], ab, h0 D hD⟩, ?_⟩
 rintro i m σ' H' ⟨rfl, hi, hσ, ys, hy, p⟩
 have q := hl D i ys H' hi p
 by_cases hlt : i < xs.length
 ·refine .inr ⟨⟨xs, xs[i], q, by simp [hlt]⟩, fun x H2 y => ?_⟩
  obtain ⟨e1, e2⟩ := y
  subst e1
  have ex := e2 xs q
  have es : σ'.set 0 (some x) = (aJ ix σ).set 0 (some x) := by
   rcases hσ with z | ⟨t, z⟩
   ·rw [z]
   ·rw [z, List.set_set]
  show te (σ'.set 0 (some x)) _ _
  rw [es]
  refine hs D i x ys _ _ hD ex hy p fun y H4 h4 hz p4 => ⟨ys, h4, hz, xs.length - (i + 1), by omega, rfl, hlt, .inr ⟨_, rfl⟩, ys ++ [y], ab, p4⟩
 ·have e : i = xs.length := by omega
  subst e
  exact .inl ⟨⟨xs, q, Nat.le_refl _⟩, hd D ys H' hD hy p⟩
section
variable {X : Cx}
def Dg (K : PySem.W.Frag) : List V -> Hp -> VK -> Prop := fun xs H Q => ∃ x n t b, xs = [x, .ty n] /\ TyOf K H x t /\ PySem.W.kitOne K t (.type n) = some b /\ Q (.bl b) H
theorem g4 : gU X (.builtin "isinstance") (Dg X.K) := by
 intro pins s σ H xs us Q I r h
 obtain ⟨x, n, t, b, rfl, ty, e, q⟩ := h
 obtain ⟨u, v, rfl, ru, rv⟩ := r.two
 cases (show v = Value.type n from rv)
 exact y6 I ru ty e fun tk => ⟨.bl b, H, I.tok tk, rfl, q⟩
end
section
variable {prog : Program} {w : World} {A : Around} {E : Value -> Shared -> Prop} {s : Shared}
end
section
variable {X : Cx} {pos : Pos}
end
end L2
set_option Elab.async false
set_option linter.all false
set_option maxRecDepth 100000
namespace HT
open PySem PySem.Spec PyProof.Rows
section
variable {prog : Program} {w : World} {A : Around} {E : Value -> Shared -> Prop} {s : Shared}
theorem getItem_tuple_whole {t sl : Addr} {items : Array Value} {vl vu : Value} {lo hi : Option Int} {Q : Value -> Shared -> Prop} (ht : IsTup s.heap t items) (hs : s.heap.IsSliceOf sl vl vu .none) (pl : IsPart vl lo) (pu : IsPart vu hi)
  (hw : sIx items.size 0 lo = 0 /\ sIx items.size items.size hi = items.size) (h : Q (.ref t) s) : wpAny (model prog w) A (getItem (.ref t) (.ref sl)) Q E s := by
 obtain ⟨os, hos, hcs, hds⟩ := id hs
 have hTs : s.TypeIs (.ref sl) "slice" := ⟨os, hos, hcs⟩
 unfold getItem
 try with_reducible refine wpAny_holding ?_
 first | refine wpAny_bind (wpAny_pure ?_) | skip
 refine wpAny_bind (wpAny_sequenceKey ht.typeIs (by decide) ?_)
 refine wpAny_bind (wpAny_callSpecial?_slot (name := Str.ofString "__getitem__") ht.typeIs PyProof.Rows.slot_tuple_getitem
  (wpAny_call_entry PyProof.Rows.slot_tuple_getitem ht.typeIs entry_tuple_getitem ?_ (args_tuple_getitem _ _)))
 show wpAny _ _ (Builtin.Tuple.tupleItemsOf (.ref t) >>= _) _ _ s
 refine wpAny_bind (tupleItemsOf_ ht ?_)
 refine wpAny_bind (wpAny_typeOf hTs ?_)
 rw [if_pos (by decide)]
 refine wpAny_bind (g9 hs pl pu ?_)
 have hyes : ((((sIx items.size 0 lo : Nat) : Int) == 0 && (1 : Int) == 1 && (sIx items.size items.size hi - sIx items.size 0 lo) == items.size) = true) := by
  rw [hw.1, hw.2]; simp
 show wpAny _ _ (if (((sIx items.size 0 lo : Nat) : Int) == 0 && (1 : Int) == 1 && (sIx items.size items.size hi - sIx items.size 0 lo) == items.size) = true then _ else _) _ _ s
 rw [if_pos hyes]
 unfold Builtin.Tuple.tupleIsExact
 refine wpAny_bind (wpAny_bind (wpAny_typeOf ht.typeIs (wpAny_pure ?_)))
 rw [if_pos (by decide)]
 first
  | exact wpAny_bind (wpAny_rule (wpAny_pure ⟨_, rfl, wpAny_pure h⟩))
  | exact wpAny_bind (wpAny_rule (wpAny_bind (wpAny_pure (wpAny_pure ⟨_, rfl, wpAny_pure h⟩))))
  | exact wpAny_bind (wpAny_bind (wpAny_rule (wpAny_pure ⟨_, rfl, wpAny_pure h⟩)))
end
end HT
namespace L2
open PySem PySem.Spec PyProof.Rows
section
variable {X : Cx}
def C9 (K : PySem.W.Frag) : V -> Option Int -> Option Int -> Hp -> VK -> Prop := fun x lo hi H Q => ∃ a xs, x = .ref a /\ SqT K H a xs /\
 (HT.sIx xs.length 0 lo = 0 /\ HT.sIx xs.length xs.length hi = xs.length) /\ Q (.ref a) H
theorem Bh : SlR X (C9 X.K) := by
 intro pins s σ H x v vl vu lo hi sl Q I rx hs pl pu h
 obtain ⟨a, xs, rfl, hx, hw, q⟩ := h
 cases rx
 obtain ⟨its, r, ht, hz⟩ := I.tuple hx
 have hlen : its.toArray.size = xs.length := by rw [List.size_toArray]; exact r.length.symm
 refine ⟨"tuple", _, PyProof.Rows.slot_tuple_getitem.lookup, ht.typeIs, ?_⟩
 exact HT.getItem_tuple_whole ht hs pl pu (by rw [hlen]; exact hw) ⟨.ref a, H, I, rfl, q⟩
def rSl (K : PySem.W.Frag) : V -> Option Int -> Option Int -> Hp -> VK -> Prop := fun x lo hi H Q => ∃ a xs, x = .ref a /\
 ((SqL K H a xs /\ ∀ p, H p = none -> Q (.ref p) (upd H p (.lst (pj xs lo hi)))) \/
  (SqT K H a xs /\ (pj xs lo hi = xs -> Q (.ref a) H) /\ ∀ p, H p = none -> Q (.ref p) (upd H p (.tup (pj xs lo hi)))))
theorem vQ {xs : List V} {lo hi : Option Int} (h : HT.sIx xs.length 0 lo = 0 /\ HT.sIx xs.length xs.length hi = xs.length) : pj xs lo hi = xs := by
 unfold pj
 rw [h.1, h.2]
 simp
theorem B5 : SlR X (rSl X.K) := by
 intro pins s σ H x v vl vu lo hi sl Q I rx hs pl pu h
 obtain ⟨a, xs, rfl, h⟩ := h
 rcases h with ⟨hx, q⟩ | ⟨hx, q1, q2⟩
 ·exact A6 pins s σ H _ v vl vu lo hi sl Q I rx hs pl pu ⟨a, xs, rfl, hx, q⟩
 ·by_cases hw : HT.sIx xs.length 0 lo = 0 /\ HT.sIx xs.length xs.length hi = xs.length
  ·exact Bh pins s σ H _ v vl vu lo hi sl Q I rx hs pl pu ⟨a, xs, rfl, hx, hw, q1 (vQ hw)⟩
  ·exact Cr pins s σ H _ v vl vu lo hi sl Q I rx hs pl pu ⟨a, xs, rfl, hx, hw, q2⟩
end
structure FunD (K : PySem.W.Frag) (x qual : Str) (st : Stmt) (dV : Value) (f : Addr) (fd : FuncData) : Prop where
 ex : ∃ (oc : Value) (od : Option Addr) (kV doc pm : Value) (an : Option Addr) (cdv ct : Value) (osl : Array (Option Value)),
  fd = PySem.W.fnOf x qual (aL st) (aK st) (ak st) dV kV doc pm an cdv ct /\ K.lookup f = some ⟨oc, od, .func fd, osl⟩ /\ PySem.W.codeIn K cdv qual = true
 kp : PySem.W.keepIn K (.ref f) = true
section
variable {P : Program} {w : World} {K : PySem.W.Frag} {mg : Str -> Option Value} {base : Heap}
theorem FunD.ok {x qual : Str} {st : Stmt} {dV : Value} {f : Addr} {fd : FuncData} {N ps : List Str} {k : Nat} {sp : Sp} (F : FunD K x qual st dV f fd) (S : FnScope N ps (ak st)) (len : ∀ vs H Q E, sp vs H Q E -> vs.length = ps.length)
  (hbody : ∀ (cdv : Value) (A : Around) (outer : List Env) (s : Shared) (H : Hp) (vs : List V) (Q : VK) (E : XK), Room k (A.deeper (envOfC qual (ak st) s.heap.objs.size f cdv)) -> sp vs H Q E ->
   ∃ t, PSs (yO CX0 P w K mg base N qual (ak st) f cdv A outer s H E).nox (aK st) t /\ t { nx := fun _ H' => Q .non H', rt := Q } (start N vs) H) : FnOk P w K mg base CX0 (k + 1) f fd ps sp := by
 obtain ⟨oc, od, kV, doc, pm, an, cdv, ct, osl, rfl, lk, hcd⟩ := F.ex
 refine CV lk hcd S len fun A outer s H vs Q E hr hsp => ?_
 obtain ⟨t, h, q⟩ := hbody cdv A outer s H vs Q E hr hsp
 exact ⟨t, h.nox, q⟩
theorem FunD.binds {x qual : Str} {st : Stmt} {f : Addr} {fd : FuncData} {ps : List Str} (F : FunD K x qual st .none f fd)
  (h : ∀ (kV doc pm : Value) (an : Option Addr) (cdv ct : Value) (us : List Value), us.length = ps.length -> bindArgs (PySem.W.fnOf x qual (aL st) (aK st) (ak st) .none kV doc pm an cdv ct) ⟨us, []⟩ = pure (ps.zip us)) : Binds K fd ps [] := by
 obtain ⟨oc, od, kV, doc, pm, an, cdv, ct, osl, rfl, lk, hcd⟩ := F.ex
 exact .all (h kV doc pm an cdv ct)
theorem FunD.bindsD {x qual : Str} {st : Stmt} {f T : Addr} {fd : FuncData} {ps : List Str} {ds : List Value} {o : Obj} {items : Array Value} {n : Nat} (F : FunD K x qual st (.ref T) f fd) (ho : K.lookup T = some o) (hs : o.data = .seq items n) (m : Nat) (hm : m + ds.length = ps.length)
  (h : ∀ (kV doc pm : Value) (an : Option Addr) (cdv ct : Value) (us : List Value), us.length = m -> ∃ k : Option (Array Value) -> Sem (List (Str × Value)),
   bindArgs (PySem.W.fnOf x qual (aL st) (aK st) (ak st) (.ref T) kV doc pm an cdv ct) ⟨us, []⟩ = seqItems? (.ref T) >>= k /\ k (some items) = pure (ps.zip (us ++ ds))) : Binds K fd ps ds := by
 obtain ⟨oc, od, kV, doc, pm, an, cdv, ct, osl, rfl, lk, hcd⟩ := F.ex
 intro s us X hl
 obtain ⟨k, h1, h2⟩ := h kV doc pm an cdv ct us (by rw [List.length_append] at hl; omega)
 exact BindsTo.of_defaults (fd := PySem.W.fnOf x qual (aL st) (aK st) (ak st) (.ref T) kV doc pm an cdv ct) rfl (X _ _ ho) hs h1 h2
theorem a9 {x qual : Str} {st : Stmt} {f : Addr} {oc : Value} {od an : Option Addr} {osl : Array (Option Value)} {dV kV doc pm cdv ct : Value} (l : K.lookup f = some ⟨oc, od, .func (PySem.W.fnOf x qual (aL st) (aK st) (ak st) dV kV doc pm an cdv ct), osl⟩)
  (c : PySem.W.codeIn K cdv qual = true) (k : PySem.W.keepIn K (.ref f) = true) : FunD K x qual st dV f (PySem.W.fnOf x qual (aL st) (aK st) (ak st) dV kV doc pm an cdv ct) := ⟨⟨oc, od, kV, doc, pm, an, cdv, ct, osl, rfl, l, c⟩, k⟩
structure DefOk (P : Program) (w : World) (K : PySem.W.Frag) (mg : Str -> Option Value) (base : Heap) (x : Str) (k : Nat) (ps : List Str) (dvs : List V) (sp : Sp) : Prop where
 ex : ∃ (f : Addr) (fd : FuncData) (ds : List Value), mg x = some (.ref f) /\ PySem.W.keepIn K (.ref f) = true /\ Vals dvs ds /\ Binds K fd ps ds /\ FnOk P w K mg base CX0 k f fd ps sp
end
section
variable {X : Cx} {x : Str} {j k : Nat} {ps : List Str} {dvs : List V} {sp : Sp} {p pos : Pos} {e : Expr} {es : List Expr} {t : TA}
theorem bM (G : DefOk X.prog X.w X.K X.mg X.base x k ps dvs sp) (hr : Room j X.A) (ha : PA X (e :: es) t) (hx : ∀ e s, X.xe e s = False := by intro _ _; rfl) (hkj : k <= j := by decide) (hg : Gl X x := by rfl) (hdb : (x == ("__debug__" : Str)) = false := by decide)
  (he : starEach (e :: es) X.env = (false, eval e X.env) :: starEach es X.env := by rfl) (hpl : (backTo pos (starEach es X.env)).any (·.1) = false := by rfl) :
  PE X (.Call (.Name x p) (e :: es) [] pos) (BJ sp dvs E0 t) := by
 obtain ⟨f, fd, ds, hm, hk, hd, hb, F⟩ := G.ex
 exact A5 F (hr.mono hkj) hg hm hk hb hd (fun _ _ _ _ _ _ _ h => h.elim) ha hdb he hpl
end
theorem ox (K : PySem.W.Frag) : PySem.W.kitOne K (.type "int") (.type "int") = some true := by with_unfolding_all rfl
theorem mG (K : PySem.W.Frag) : PySem.W.kitOne K (.type "int") (.type "bool") = some false := by with_unfolding_all rfl
theorem ah {H : Hp} {p : Addr} (h : H p = none) (o : HO) : Same H (upd H p o) := fun b u q => by rw [ae (aq q h)]; exact q
theorem small {n : Nat} (h : n <= 1000) : n <= sizeLine := Nat.le_of_lt (aw h)
theorem bB : bootBuiltins "len" = some (.builtin "len") := by decide +kernel
theorem cM : bootBuiltins "isinstance" = some (.builtin "isinstance") := by decide +kernel
theorem zt : bootBuiltins "sum" = some (.builtin "sum") := by decide +kernel
theorem vX : bootBuiltins "int" = some (.type "int") := by decide +kernel
theorem Ba : bootBuiltins "bool" = some (.type "bool") := by decide +kernel
theorem bE : bootBuiltins "tuple" = some (.type "tuple") := by decide +kernel
theorem oS : bootBuiltins "list" = some (.type "list") := by decide +kernel
theorem oT : bootBuiltins "dict" = some (.type "dict") := by decide +kernel
end L2
set_option Elab.async false
set_option linter.all false
set_option maxRecDepth 100000
namespace L2
open PySem PySem.Spec PyProof.Rows
section
variable {X : Cx}
end
section
variable {X : Cx} {tg : Expr}
end
theorem oX {c : TT} {tb : TS} {D : Ends} {σ : St} {H : Hp} (Pv : Nat -> St -> Hp -> Prop) (h0 : ∃ m, Pv m σ H)
  (hs : ∀ m σ H, Pv m σ H -> c σ H fun b H1 => if b = true then ∃ N : St -> Hp -> Prop, (∀ σ' H', N σ' H' -> ∃ m', m' < m /\ Pv m' σ' H') /\ tb { D with nx := N, ct := N, bk := D.nx } σ H1 else D.nx σ H1) : n9 c tb D σ H := ⟨Pv, h0, hs⟩
end L2
set_option Elab.async false
set_option linter.all false
set_option maxRecDepth 100000
namespace L2
open PySem PySem.Spec PyProof.Rows
section
variable {X : Cx} {pins : List (Addr × Obj)} {σ : St} {H : Hp} {s : Shared}
end
section
variable {X : Cx} {tg : Expr}
end
section
variable {X : Cx}
end
end L2
set_option Elab.async false
set_option linter.all false
set_option maxRecDepth 100000
namespace PySem
section
variable {prog : Program} {w : World} {A : Around} {R : Result -> Shared -> Prop} {I : Addr} {fp wr : List Addr} {n : Nat} {P : Nat -> Value -> Prop} {St : Nat -> Heap -> Prop}
end
section
variable {prog : Program} {w : World} {A : Around} {E : Value -> Shared -> Prop} {s : Shared}
end
end PySem
namespace L2
open PySem PySem.Spec PyProof.Rows
section
variable {X : Cx}
variable {p pos kpos : Pos} {e d : Expr} {ta : TA} {td : TE}
end
section
variable {prog : Program} {w : World} {A : Around} {E : Value -> Shared -> Prop} {s : Shared}
end
section
variable {X : Cx} {e : Expr} {te : TE} {lo hi : Option Expr} {st : Expr} {tl th ts : TO} {pos p2 : Pos}
end
section
variable {X : Cx} {tg : Expr}
end
theorem gX {K : PySem.W.Frag} {a : Addr} {xs : List V} {ix : List (Option Nat)} {te : TE} {σ : St} {H : Hp} {Qd : Addr -> Hp -> Prop} (Pv : Addr -> Nat -> List V -> Hp -> Prop)
  (h0 : ∀ D, H D = none -> Pv D 0 [] (upd H D (.lst [])))
  (hl : ∀ D i ys H', i <= xs.length -> Pv D i ys H' -> SqT K H' a xs)
  (hs : ∀ D i x ys H' (Q' : VK), H D = none -> xs[i]? = some x -> H' D = some (.lst ys) -> Pv D i ys H' -> (∀ y H4, H4 D = some (.lst ys) -> ys.length < sizeLine -> Pv D (i + 1) (ys ++ [y]) (upd H4 D (.lst (ys ++ [y]))) -> Q' y H4) ->
   te ((aJ ix σ).set 0 (some x)) H' Q')
  (hd : ∀ D ys H', H D = none -> H' D = some (.lst ys) -> Pv D xs.length ys H' -> Qd D H') : mM (Itt K a) ix (bR 0) te σ H Qd := by
 intro D hD
 refine ⟨fun i m σ' H' => m = xs.length - i /\ i <= xs.length /\ (σ' = aJ ix σ \/ ∃ t, σ' = (aJ ix σ).set 0 t) /\ ∃ ys, H' D = some (.lst ys) /\ Pv D i ys H', ⟨xs.length, by simp, Nat.zero_le _, .inl rfl, [], ab, h0 D hD⟩, ?_⟩
 rintro i m σ' H' ⟨rfl, hi, hσ, ys, hy, p⟩
 have q := hl D i ys H' hi p
 by_cases hlt : i < xs.length
 ·refine .inr ⟨⟨xs, xs[i], q, by simp [hlt]⟩, fun x H2 y => ?_⟩
  obtain ⟨e1, e2⟩ := y
  subst e1
  have ex := e2 xs q
  have es : σ'.set 0 (some x) = (aJ ix σ).set 0 (some x) := by
   rcases hσ with z | ⟨t, z⟩
   ·rw [z]
   ·rw [z, List.set_set]
  show te (σ'.set 0 (some x)) _ _
  rw [es]
  refine hs D i x ys _ _ hD ex hy p fun y H4 h4 hz p4 => ⟨ys, h4, hz, xs.length - (i + 1), by omega, rfl, hlt, .inr ⟨_, rfl⟩, ys ++ [y], ab, p4⟩
 ·have e : i = xs.length := by omega
  subst e
  exact .inl ⟨⟨xs, q, Nat.le_refl _⟩, hd D ys H' hD hy p⟩
section
variable {X : Cx}
theorem js (K : PySem.W.Frag) (h : X.K = K := by rfl) : IxR X (CF K) := by subst h; exact b9
theorem tH (K : PySem.W.Frag) (h : X.K = K := by rfl) : IxR X (C5 K) := by subst h; exact bz
end
end L2
set_option Elab.async false
set_option linter.all false
set_option maxRecDepth 100000
namespace L2
open PySem PySem.Spec PyProof.Rows
section
variable {κ : Type} [DecidableEq κ]
def dk (kvs : List (κ × V)) (k : κ) : Option V := (kvs.find? fun kv => decide (kv.1 = k)).map (·.2)
def putK (kvs : List (κ × V)) (k : κ) (v : V) : List (κ × V) :=
 if (kvs.any fun kv => decide (kv.1 = k)) = true then kvs.map (fun kv => if kv.1 = k then (kv.1, v) else kv) else kvs ++ [(k, v)]
def pB (kvs : List (κ × V)) (k : κ) : List (κ × V) := kvs.filter fun kv => decide (kv.1 ≠ k)
theorem g6 {p : κ × V} {r : List (κ × V)} {k : κ} (e : p.1 = k) : dk (p :: r) k = some p.2 := by simp [dk, List.find?_cons, e]
theorem gf {p : κ × V} {r : List (κ × V)} {k : κ} (e : ¬ p.1 = k) : dk (p :: r) k = dk r k := by simp [dk, List.find?_cons, e]
theorem u4 (k : κ) : ∀ kvs : List (κ × V), (kvs.any fun kv => decide (kv.1 = k)) = (dk kvs k).isSome
 | [] => rfl
 | p :: r => by
  rw [List.any_cons]
  by_cases e : p.1 = k
  ·simp only [g6 e, decide_eq_true e, Bool.true_or, Option.isSome_some]
  ·rw [gf e, decide_eq_false e, Bool.false_or]; exact u4 k r
theorem fb (kvs : List (κ × V)) (k : κ) (v : V) : (putK kvs k v).length <= kvs.length + 1 := by
 unfold putK
 split
 ·rw [List.length_map]; omega
 ·rw [List.length_append, List.length_cons, List.length_nil]; omega
theorem RelO.isSome_eq {o : Option V} {u : Option Value} (r : RelO o u) : o.isSome = u.isSome := by
 cases o with
 | none => cases u with
  | none => rfl
  | some _ => exact (show False from r).elim
 | some _ => cases u with
  | none => exact (show False from r).elim
  | some _ => rfl
theorem RelO.getD {o : Option V} {u : Option Value} {d : V} {d' : Value} (r : RelO o u) (rd : RelV d d') : RelV (o.getD d) (u.getD d') := by
 cases o with
 | none => cases u with
  | none => exact rd
  | some _ => exact (show False from r).elim
 | some _ => cases u with
  | none => exact (show False from r).elim
  | some _ => exact r
theorem KV.val {kvs : List (κ × V)} {vs : List (κ × Value)} (r : KV kvs vs) (k : κ) : RelO (dk kvs k) (valueAt vs k) := by
 unfold KV at r
 induction r with
 | nil => exact True.intro
 | @cons p q ps qs h t ih =>
  obtain ⟨h1, h2⟩ := h
  by_cases e : p.1 = k
  ·have e' : q.1 = k := h1.symm.trans e
   have b : valueAt (q :: qs) k = some q.2 := by simp [valueAt, List.find?_cons, e']
   rw [g6 e, b]; exact h2
  ·have e' : ¬ q.1 = k := fun z => e (h1.trans z)
   have b : valueAt (q :: qs) k = valueAt qs k := by simp [valueAt, List.find?_cons, e']
   rw [gf e, b]; exact ih
theorem KV.any {kvs : List (κ × V)} {vs : List (κ × Value)} (r : KV kvs vs) (k : κ) : (kvs.any fun kv => decide (kv.1 = k)) = vs.any fun kv => decide (kv.1 = k) := by
 unfold KV at r
 induction r with
 | nil => rfl
 | cons h t ih => rw [List.any_cons, List.any_cons, ih, h.1]
theorem KV.repl {kvs : List (κ × V)} {vs : List (κ × Value)} (r : KV kvs vs) (k : κ) {y : V} {u : Value} (ry : RelV y u) :
  KV (kvs.map fun kv => if kv.1 = k then (kv.1, y) else kv) (vs.map fun kv => if kv.1 = k then (kv.1, u) else kv) := by
 unfold KV at r ⊢
 induction r with
 | nil => exact .nil
 | @cons p q ps qs h t ih =>
  rw [List.map_cons, List.map_cons]
  refine .cons ?_ ih
  obtain ⟨h1, h2⟩ := h
  by_cases e : p.1 = k
  ·rw [if_pos e, if_pos (h1.symm.trans e)]; exact ⟨h1, ry⟩
  ·rw [if_neg e, if_neg (fun z => e (h1.trans z))]; exact ⟨h1, h2⟩
theorem KV.put {kvs : List (κ × V)} {vs : List (κ × Value)} (r : KV kvs vs) (k : κ) {y : V} {u : Value} (ry : RelV y u) : KV (putK kvs k y) (stored vs k u) := by
 unfold putK stored
 rw [r.any k]
 by_cases e : (vs.any fun kv => decide (kv.1 = k)) = true
 ·rw [if_pos e, if_pos e]; exact r.repl k ry
 ·rw [if_neg e, if_neg e]; exact Paired.snoc r ⟨rfl, ry⟩
theorem KV.drop {kvs : List (κ × V)} {vs : List (κ × Value)} (r : KV kvs vs) (k : κ) : KV (pB kvs k) (without vs k) := by
 unfold KV at r ⊢
 unfold pB without
 induction r with
 | nil => exact .nil
 | @cons p q ps qs h t ih =>
  obtain ⟨h1, h2⟩ := h
  rw [List.filter_cons, List.filter_cons]
  by_cases e : p.1 = k
  ·have a : ¬ decide (p.1 ≠ k) = true := by simp [e]
   have b : ¬ decide (q.1 ≠ k) = true := by simp [h1.symm.trans e]
   rw [if_neg a, if_neg b]; exact ih
  ·have e' : ¬ q.1 = k := fun z => e (h1.trans z)
   have a : decide (p.1 ≠ k) = true := by simp [e]
   have b : decide (q.1 ≠ k) = true := by simp [e']
   rw [if_pos a, if_pos b]; exact .cons ⟨h1, h2⟩ ih
theorem KV.length {kvs : List (κ × V)} {vs : List (κ × Value)} (r : KV kvs vs) : kvs.length = vs.length := Paired.length r
theorem zA (kvs : List (κ × V)) (k : κ) : (pB kvs k).length <= kvs.length := List.length_filter_le _ _
end
theorem jO {P : Program} {w : World} {k : Key} {u : Value} (r : RelV (kV k) u) : (aQ P w).is k u = true := by
 cases k with
 | inl i => obtain ⟨t, e⟩ := (show ∃ t, u = Value.int i t from r); subst e; exact vh P w i t
 | inr x => obtain ⟨t, e⟩ := (show ∃ t, u = Value.str x t from r); subst e; exact vp P w x t
theorem sU {P : Program} {w : World} : ∀ {ks : List Key} {us : List Value}, Vals (ks.map kV) us -> ItemsAre (aQ P w) ks us
 | [], _, r => by rw [List.map_nil] at r; cases r; exact .nil
 | k :: ks, _, r => by
  rw [List.map_cons] at r
  cases r with
  | cons h t => exact .cons (jO h) (sU t)
abbrev KT (H : Hp) : List (List Key × V) -> List (List Key × Addr × Value) -> Prop := Paired fun p q => p.1 = q.1 /\ H q.2.1 = some (.tup (p.1.map kV)) /\ RelV p.2 q.2.2
theorem KT.val {H : Hp} {kvs : List (List Key × V)} {xs : List (List Key × Addr × Value)} (r : KT H kvs xs) (k : List Key) : RelO (dk kvs k) ((atKey xs k).map (·.2)) := by
 induction r with
 | nil => exact True.intro
 | @cons p q ps qs h t ih =>
  obtain ⟨h1, _, h2⟩ := h
  by_cases e : p.1 = k
  ·have e' : q.1 = k := h1.symm.trans e
   have b : atKey (q :: qs) k = some q.2 := by simp [atKey, List.find?_cons, e']
   rw [g6 e, b]; exact h2
  ·have e' : ¬ q.1 = k := fun z => e (h1.trans z)
   have b : atKey (q :: qs) k = atKey qs k := by simp [atKey, List.find?_cons, e']
   rw [gf e, b]; exact ih
theorem KT.repl {H : Hp} {kvs : List (List Key × V)} {xs : List (List Key × Addr × Value)} (r : KT H kvs xs) (k : List Key) {y : V} {u : Value} (ry : RelV y u) :
  KT H (kvs.map fun kv => if kv.1 = k then (kv.1, y) else kv) (xs.map (putAt k u)) := by
 induction r with
 | nil => exact .nil
 | @cons p q ps qs h t ih =>
  rw [List.map_cons, List.map_cons]
  refine .cons ?_ ih
  obtain ⟨h1, h2, h3⟩ := h
  unfold putAt
  by_cases e : p.1 = k
  ·rw [if_pos e, if_pos (h1.symm.trans e)]; exact ⟨h1, h2, ry⟩
  ·rw [if_neg e, if_neg (fun z => e (h1.trans z))]; exact ⟨h1, h2, h3⟩
theorem KT.put {H : Hp} {kvs : List (List Key × V)} {xs : List (List Key × Addr × Value)} (r : KT H kvs xs) (k : List Key) {b : Addr} {y : V} {u : Value} (hb : H b = some (.tup (k.map kV))) (ry : RelV y u) :
  KT H (putK kvs k y) (storedH xs k b u) := by
 have e : (kvs.any fun kv => decide (kv.1 = k)) = (atKey xs k).isSome := by
  rw [u4, (r.val k).isSome_eq, Option.isSome_map]
 unfold putK storedH
 rw [e]
 by_cases q : (atKey xs k).isSome = true
 ·rw [if_pos q, if_pos q]; exact r.repl k ry
 ·rw [if_neg q, if_neg q]; exact Paired.snoc r ⟨rfl, hb, ry⟩
theorem KT.keeps {H H' : Hp} {kvs : List (List Key × V)} {xs : List (List Key × Addr × Value)} (r : KT H kvs xs) (ht : ∀ b ys, H b = some (.tup ys) -> H' b = some (.tup ys)) : KT H' kvs xs :=
 Paired.mapP r fun _ _ z => ⟨z.1, ht _ _ z.2.1, z.2.2⟩
section
variable {P : Program} {w : World} {H : Hp} {h : Heap} {a : Addr}
theorem BN {u : HO} (ok : HOk P w H h) (e : Rd H a u) : ObjOk P w H h a u := e.ok ok
theorem lR {kvs : List (Key × V)} (ok : HOk P w H h) (e : Rd H a (.dK kvs)) : kvs.length <= sizeLine /\ (a == sysModules) = false /\ ∃ vs, KV kvs vs /\ h.DictOf (aQ P w) a vs :=
 show ObjOk P w H h a (.dK kvs) from BN ok e
theorem xY {kvs : List (Key × V)} (ok : HOk P w H h) (e : H a = some (.dK kvs)) : kvs.length <= sizeLine /\ (a == sysModules) = false /\ ∃ vs, KV kvs vs /\ h.DictOf (aQ P w) a vs := lR ok (.inl e)
theorem jI {ks : List Key} (ok : HOk P w H h) (e : H a = some (.tup (ks.map kV))) : (tupleKind (aQ P w)).is h ks a := by
 obtain ⟨_, its, r, o, h1, h2, n, h3⟩ := (show ObjOk P w H h a (.tup (ks.map kV)) from ok a _ e)
 exact ⟨o, its.toArray, n, h1, h2, h3, by simpa using sU r⟩
theorem oG {kvs : List (List Key × V)} (ok : HOk P w H h) (e : Rd H a (.dT kvs)) : kvs.length <= sizeLine /\ (a == sysModules) = false /\
  ∃ xs, KT H kvs xs /\ h.DictOfH (tupleKind (aQ P w)) a xs := by
 obtain ⟨z, y, xs, r, o, es, ep, h1, h2, h3, h4, h5⟩ := (show ObjOk P w H h a (.dT kvs) from BN ok e)
 refine ⟨z, y, xs, r, o, es, ep, h1, h2, h3, h4, fun x hx => ?_, h5⟩
 have all : ∀ {l : List (List Key × V)} {m : List (List Key × Addr × Value)}, KT H l m -> ∀ x ∈ m, (tupleKind (aQ P w)).is h x.1 x.2.1 := by
  intro l m q
  induction q with
  | nil => intro x hx; exact nomatch hx
  | @cons p q ps qs hq t ih =>
   intro x hx
   rcases List.mem_cons.mp hx with e | hx
   ·subst e
    exact jI ok (by rw [<- hq.1]; exact hq.2.1)
   ·exact ih x hx
 exact all r x hx
theorem Dc {kvs : List (List Key × V)} (ok : HOk P w H h) (e : H a = some (.dT kvs)) : kvs.length <= sizeLine /\ (a == sysModules) = false /\
  ∃ xs, KT H kvs xs /\ h.DictOfH (tupleKind (aQ P w)) a xs := oG ok (.inl e)
end
def DGet (H : Hp) (a : Addr) (y : V) (r : Option V) : Prop :=
 (∃ kvs k, Rd H a (.dK kvs) /\ y = kV k /\ r = dk kvs k) \/ ∃ kvs k b, Rd H a (.dT kvs) /\ y = .ref b /\ H b = some (.tup (k.map kV)) /\ r = dk kvs k
def DPut (H : Hp) (a : Addr) (y v : V) (H' : Hp) : Prop :=
 (∃ kvs k, H a = some (.dK kvs) /\ y = kV k /\ kvs.length < sizeLine /\ H' = upd H a (.dK (putK kvs k v))) \/
 ∃ kvs k b, H a = some (.dT kvs) /\ y = .ref b /\ H b = some (.tup (k.map kV)) /\ kvs.length < sizeLine /\ H' = upd H a (.dT (putK kvs k v))
theorem DGet.k {H : Hp} {a : Addr} {kvs : List (Key × V)} {k : Key} (e : H a = some (.dK kvs)) : DGet H a (kV k) (dk kvs k) := .inl ⟨kvs, k, .inl e, rfl, rfl⟩
theorem DPut.k {H : Hp} {a : Addr} {kvs : List (Key × V)} {k : Key} {v : V} (e : H a = some (.dK kvs)) (hl : kvs.length < sizeLine) : DPut H a (kV k) v (upd H a (.dK (putK kvs k v))) := .inl ⟨kvs, k, e, rfl, hl, rfl⟩
section
variable {X : Cx} {pins : List (Addr × Obj)} {σ : St} {H : Hp} {s : Shared} {a : Addr} {y v : V} {u r : Value} {o : Option V} {A : Around} {E : Value -> Shared -> Prop}
theorem Inv.big (I : Inv X pins σ H s) : sysModules < s.heap.objs.size := by
 have h : mainGlobals < s.heap.objs.size := (I.mod.glob.keeps I.bk).lt
 exact Nat.lt_trans (by decide) h
theorem yA {Q : Value -> Shared -> Prop} (hu : A.units + 1 < cLine) (I : Inv X pins σ H s) (g : DGet H a y (some v)) (ry : RelV y u) (h : ∀ w' s', Inv X pins σ H s' -> RelV v w' -> Q w' s') :
  wpAny (model X.prog X.w) A (getItem (.ref a) u) Q E s := by
 rcases g with ⟨kvs, k, e, ey, l⟩ | ⟨kvs, k, b, e, ey, eb, l⟩
 ·subst ey
  obtain ⟨z, hd, vs, rel, dd⟩ := lR I.hok e
  obtain ⟨w', hw, rw'⟩ := RelO.some_of (v := v) (o := valueAt vs k) (by rw [l]; exact rel.val k)
  exact wpAny_getItem_of (jO ry) dd.mapOf hw (h w' _ (I.tok _) rw')
 ·subst ey
  cases (show u = Value.ref b from ry)
  obtain ⟨z, hd, xs, rel, dd⟩ := oG I.hok e
  obtain ⟨w', hw, rw'⟩ := RelO.some_of (v := v) (o := (atKey xs k).map (·.2)) (by rw [l]; exact rel.val k)
  obtain ⟨p, hp, hp2⟩ := Option.map_eq_some_iff.mp hw
  refine wpAny_getItem_heap (tupleKind_room_in1 hu) (jI I.hok eb) dd hp ?_
  rw [hp2]
  exact h w' _ (I.tok _) rw'
theorem Dt {Q : Value -> Shared -> Prop} (hu : A.units + 1 < cLine) (I : Inv X pins σ H s) (g : DGet H a y o) (ry : RelV y u) (h : ∀ s', Inv X pins σ H s' -> Q (.bool o.isSome) s') :
  wpAny (model X.prog X.w) A (compareOp .In u (.ref a)) Q E s := by
 rcases g with ⟨kvs, k, e, ey, l⟩ | ⟨kvs, k, b, e, ey, eb, l⟩
 ·subst ey
  obtain ⟨z, hd, vs, rel, dd⟩ := lR I.hok e
  refine wpAny_in_of (jO ry) hd dd.mapOf ?_
  rw [<- (rel.val k).isSome_eq, <- l]
  exact h _ (I.tok _)
 ·subst ey
  cases (show u = Value.ref b from ry)
  obtain ⟨z, hd, xs, rel, dd⟩ := oG I.hok e
  refine wpAny_in_heap (tupleKind_room_in1 hu) (jI I.hok eb) hd dd ?_
  have q := (rel.val k).isSome_eq
  rw [Option.isSome_map] at q
  rw [<- q, <- l]
  exact h _ (I.tok _)
theorem Bt {Q : Value -> Shared -> Prop} (hu : A.units + 1 < cLine) (I : Inv X pins σ H s) (g : DGet H a y o) (ry : RelV y u) (h : ∀ s', Inv X pins σ H s' -> Q (.bool (!o.isSome)) s') :
  wpAny (model X.prog X.w) A (compareOp .NotIn u (.ref a)) Q E s := by
 rcases g with ⟨kvs, k, e, ey, l⟩ | ⟨kvs, k, b, e, ey, eb, l⟩
 ·subst ey
  obtain ⟨z, hd, vs, rel, dd⟩ := lR I.hok e
  refine wpAny_notIn_of (jO ry) hd dd.mapOf ?_
  rw [<- (rel.val k).isSome_eq, <- l]
  exact h _ (I.tok _)
 ·subst ey
  cases (show u = Value.ref b from ry)
  obtain ⟨z, hd, xs, rel, dd⟩ := oG I.hok e
  refine wpAny_notIn_heap (tupleKind_room_in1 hu) (jI I.hok eb) hd dd ?_
  have q := (rel.val k).isSome_eq
  rw [Option.isSome_map] at q
  rw [<- q, <- l]
  exact h _ (I.tok _)
theorem lW {h' : Heap} {t' : Nat} {ob : HO} (I : Inv X pins σ H s) (mu : Mut (H a)) (hs : Heap.SameBut a s.heap h') (he : ∃ q, h'.get? a = some q) (new : ObjOk X.prog X.w (upd H a ob) h' a ob) :
  Inv X pins σ (upd H a ob) { s with heap := h', toks := t' } :=
 I.write (x := a) (e := a) mu (.inl rfl) (fun b q hb z => (hs.2 b hb).trans z) he new
theorem p6 {P : Program} {w : World} {H' : Hp} {h' : Heap} {kvs : List (Key × V)} {vs : List (Key × Value)} (z : kvs.length <= sizeLine) (hd : (a == sysModules) = false) (rel : KV kvs vs) (dd : h'.DictOf (aQ P w) a vs) :
  ObjOk P w H' h' a (.dK kvs) := ⟨z, hd, vs, rel, dd⟩
theorem yw {H' : Hp} {Q : Unit -> Shared -> Prop} (hu : A.units + 1 < cLine) (I : Inv X pins σ H s) (g : DPut H a y v H') (ry : RelV y u) (rv : RelV v r) (h : ∀ s', Inv X pins σ H' s' -> Q () s') :
  wpAny (model X.prog X.w) A (setItem (.ref a) u r) Q E s := by
 rcases g with ⟨kvs, k, e, ey, l, eH⟩ | ⟨kvs, k, b, e, ey, eb, l, eH⟩
 ·subst ey eH
  obtain ⟨z, hd, vs, rel, dd⟩ := xY I.hok e
  have hz : vs.length <= sizeLine := by rw [<- rel.length]; exact z
  have hl : (putK kvs k v).length <= sizeLine := by have := fb kvs k v; omega
  refine wpAny_setItem_pairs (hsz := hz) (jO ry) dd fun h' dd' hs => h _ ?_
  have he : ∃ q, h'.get? a = some q := let ⟨q, _, _, hq, _⟩ := dd'; ⟨q, hq⟩
  exact lW I (by rw [e]; exact True.intro) hs he (p6 hl hd (rel.put k rv) dd')
 ·subst ey eH
  cases (show u = Value.ref b from ry)
  obtain ⟨z, hd, xs, rel, dd⟩ := Dc I.hok e
  have hz : xs.length <= sizeLine := by rw [<- Paired.length rel]; exact z
  have hl : (putK kvs k v).length <= sizeLine := by have := fb kvs k v; omega
  refine wpAny_setItem_heap (hsz := hz) (tupleKind_room_in1 hu) (jI I.hok eb) dd fun h' dd' hs => h _ ?_
  obtain ⟨q, es, ep, hq, h2, h3, h4, _, h5⟩ := dd'
  refine lW I (by rw [e]; exact True.intro) hs ⟨q, hq⟩ ⟨hl, hd, _, (rel.put k eb rv).keeps fun c ys ec => ?_, q, es, ep, hq, h2, h3, h4, h5⟩
  rw [ae (aB ec e (fun z => nomatch z))]
  exact ec
end
section
variable {X : Cx} {pins : List (Addr × Obj)} {σ : St} {H : Hp} {s : Shared} {a : Addr} {kvs : List (Key × V)} {k : Key} {u : Value} {A : Around} {E : Value -> Shared -> Prop}
theorem CK {v : V} {more : List Value} {Q : Value -> Shared -> Prop} (I : Inv X pins σ H s) (e : H a = some (.dK kvs)) (ry : RelV (kV k) u) (l : dk kvs k = some v) (hm : more = [] \/ ∃ x, more = [x])
  (h : ∀ w' s', Inv X pins σ (upd H a (.dK (pB kvs k))) s' -> RelV v w' -> Q w' s') : wpAny (model X.prog X.w) A (call (.builtin "dict.pop") (.ref a :: u :: more)) Q E s := by
 obtain ⟨z, hd, vs, rel, dd⟩ := xY I.hok e
 obtain ⟨w', hw, rw'⟩ := RelO.some_of (v := v) (o := valueAt vs k) (by rw [<- l]; exact rel.val k)
 have hp : (keyPart u).isSome = true := by
  cases k with
  | inl i => obtain ⟨t, q⟩ := (show ∃ t, u = Value.int i t from ry); subst q; rfl
  | inr x => obtain ⟨t, q⟩ := (show ∃ t, u = Value.str x t from ry); subst q; rfl
 have ha : argsOk "dict.pop" ⟨.ref a :: u :: more, []⟩ := by
  rcases hm with q | ⟨x, q⟩
  ·subst q; exact PySem.F.args_dict_pop_2 _ _
  ·subst q; exact PySem.F.args_dict_pop_3 _ _ _
 refine call_meetsIn PySem.F.slot_dict_pop dd.typeIs PySem.F.entry_dict_pop ha (meets_dict_pop_there (aQ X.prog X.w) a (jO ry) more hm hp)
  ⟨vs, w', dd, by rw [<- rel.length]; exact z, hw, fun h' dd' hs => h w' _ ?_ rw'⟩
 have he : ∃ q, h'.get? a = some q := let ⟨q, _, _, hq, _⟩ := dd'; ⟨q, hq⟩
 exact lW I (by rw [e]; exact True.intro) hs he (p6 (Nat.le_trans (zA kvs k) z) hd (rel.drop k) dd')
theorem CW {Q : Value -> Shared -> Prop} (I : Inv X pins σ H s) (e : Rd H a (.dK kvs)) (h : ∀ t s', Inv X pins σ H s' -> Q (.int kvs.length t) s') : wpAny (model X.prog X.w) A (call (.builtin "len") [.ref a]) Q E s := by
 obtain ⟨z, hd, vs, rel, dd⟩ := lR I.hok e
 refine call_len_dict hd dd (by rw [<- rel.length]; rw [sizeLine_eq] at z; omega) ?_
 rw [<- rel.length]
 exact h _ _ (I.tok _)
end
def CD (i : Expr) : Prop := ∀ ov iv, subscripted i false ov iv = operate [ov, iv] (getItem ov iv)
theorem A7 {prog : Program} {w : World} {A : Around} {E : Value -> Shared -> Prop} {s : Shared} {env : Env} {value slice : Expr} {pos : Pos} {T id : String} {Q : Value -> Shared -> Prop}
  (hl : typeLookup (.type T) "__getitem__" = pure (some (.builtin id))) (hs : CD slice)
  (h : wpAny (model prog w) A (eval value env) (fun o s₁ => wpAny (model prog w) A (eval slice env) (fun i s₂ => s₂.TypeIs o T /\ wpAny (model prog w) A (getItem o i) Q E s₂) E s₁) E s) :
  wpAny (model prog w) A (eval (.Subscript value slice pos) env) Q E s := by
 refine Subscript_ (wpAny_mono h (fun o s₁ h₁ => wpAny_mono h₁ (fun i s₂ h₂ => ?_) fun _ _ x => x) fun _ _ x => x)
 obtain ⟨hT, h₂⟩ := h₂
 unfold subscriptTail
 refine wpAny_bind ?_
 rw [getitemInPython_of_ne hT.not_modules]
 refine wpAny_bind (wpAny_specialOf hT hl ?_)
 have fin : wpAny (model prog w) A (subscripted slice false o i) (fun r s₃ => wpAny (model prog w) A (letTemporaryGo value o r >>= fun _ => pure r) Q E s₃) E s₂ := by
  rw [hs o i]
  exact wpAny_operating (wpAny_mono h₂ (fun r s₃ h₃ => wpAny_bind (wpAny_letTemporaryGo (wpAny_pure h₃))) fun _ _ x => x)
 first
  | exact wpAny_pure (wpAny_bind fin)
  | exact wpAny_bind (wpAny_pure (wpAny_bind fin))
  | exact wpAny_bind fin
theorem vg {X : Cx} {pins : List (Addr × Obj)} {σ : St} {H : Hp} {s : Shared} {a : Addr} {y : V} {o : Option V} (I : Inv X pins σ H s) (g : DGet H a y o) : s.TypeIs (.ref a) "dict" := by
 rcases g with ⟨kvs, k, e, _, _⟩ | ⟨kvs, k, b, e, _, _, _⟩
 ·obtain ⟨_, _, vs, _, dd⟩ := lR I.hok e
  exact dd.typeIs
 ·obtain ⟨_, _, xs, _, dd⟩ := oG I.hok e
  exact dd.typeIs
def CB (td ty : TE) : TE := fun σ H Q => td σ H fun x H1 => ty σ H1 fun y H2 => ∃ a v, x = .ref a /\ DGet H2 a y (some v) /\ Q v H2
def Dr (ty td : TE) : TE := fun σ H Q => ty σ H fun y H1 => td σ H1 fun x H2 => ∃ a o, x = .ref a /\ DGet H2 a y o /\ Q (.bl o.isSome) H2
def Bn (ty td : TE) : TE := fun σ H Q => ty σ H fun y H1 => td σ H1 fun x H2 => ∃ a o, x = .ref a /\ DGet H2 a y o /\ Q (.bl (!o.isSome)) H2
def C7 (td ty tv : TE) : TS := fun D σ H => tv σ H fun v H1 => td σ H1 fun x H2 => ty σ H2 fun y H3 => ∃ a H4, x = .ref a /\ DPut H3 a y v H4 /\ D.nx σ H4
section
variable {X : Cx} {o i e value : Expr} {pos pos' tpos : Pos} {td ty tv : TE}
theorem tI (hu : X.A.units + 1 < cLine) (ho : PE X o td) (hi : PE X i ty) (hs : CD i) : PE X (.Subscript o i pos) (CB td ty) := by
 intro pins s σ H Q I h
 refine A7 PySem.F.slot_dict_getitem.lookup hs (thn (ho pins s σ H _ I h) fun u s1 ⟨x, H1, I1, rx, q1⟩ => thn (hi pins s1 σ H1 _ I1 q1) fun iv s2 ⟨y, H2, I2, ry, a, v, ex, g, q2⟩ => ?_)
 subst ex
 obtain rfl : u = Value.ref a := rx
 exact ⟨vg I2 g, yA hu I2 g ry fun w' s3 I3 rw' => ⟨v, H2, I3, rw', q2⟩⟩
theorem B1 (hu : X.A.units + 1 < cLine) (hi : PE X i ty) (ho : PE X o td) : PC X .In i o (Dr ty td) := by
 intro pins s σ H Q I h
 refine thn (hi pins s σ H _ I h) fun iv s1 ⟨y, H1, I1, ry, q1⟩ => thn (ho pins s1 σ H1 _ I1 q1) fun u s2 ⟨x, H2, I2, rx, a, ov, ex, g, q2⟩ => ?_
 subst ex
 obtain rfl : u = Value.ref a := rx
 exact Dt hu I2 g ry fun s3 I3 => ⟨.bl ov.isSome, H2, I3, rfl, q2⟩
theorem n8 (hu : X.A.units + 1 < cLine) (hi : PE X i ty) (ho : PE X o td) : PC X .NotIn i o (Bn ty td) := by
 intro pins s σ H Q I h
 refine thn (hi pins s σ H _ I h) fun iv s1 ⟨y, H1, I1, ry, q1⟩ => thn (ho pins s1 σ H1 _ I1 q1) fun u s2 ⟨x, H2, I2, rx, a, ov, ex, g, q2⟩ => ?_
 subst ex
 obtain rfl : u = Value.ref a := rx
 exact Bt hu I2 g ry fun s3 I3 => ⟨.bl (!ov.isSome), H2, I3, rfl, q2⟩
theorem lV (hu : X.A.units + 1 < cLine) (ho : PE X o td) (hi : PE X i ty) (hv : PE X value tv) (hs : swapsWith value (some (.Subscript o i pos')) pos.line X.env = pure false) :
  PS X (.Assign [.Subscript o i pos'] value pos) (C7 td ty tv) := by
 intro pins s σ H D I h
 refine wpAny_Assign_Subscript (thn (hv pins s σ H _ I h) fun r s1 ⟨v, H1, I1, rv, q1⟩ => thn (ho pins s1 σ H1 _ I1 q1) fun u s2 ⟨x, H2, I2, rx, q2⟩ => thn (hi pins s2 σ H2 _ I2 q2) fun iv s3 ⟨y, H3, I3, ry, a, H4, ex, g, q3⟩ => ?_) hs
 subst ex
 obtain rfl : u = Value.ref a := rx
 exact yw hu I3 g ry rv fun s4 I4 => ⟨σ, H4, I4, q3⟩
end
theorem vt {P : Program} {w : World} {H : Hp} (h : Heap) (hb : sysModules < h.objs.size) : ObjOk P w H (h.push { cls := .type "dict", data := .dict #[] }) h.objs.size (.dK []) :=
 ⟨Nat.zero_le _, beq_eq_false_iff_ne.mpr (Ne.symm (Nat.ne_of_lt hb)), [], .nil, Heap.DictOf.new h⟩
def Cd : TE := fun _ H Q => ∀ p, H p = none -> Q (.ref p) (upd H p (.dK []))
section
variable {X : Cx} {pos : Pos}
theorem jC : PE X (.Dict [] [] pos) Cd := fun pins s σ H Q I h =>
 wpAny_Dict_empty ⟨.ref s.heap.objs.size, _, I.laid (a := s.heap.objs.size) (o := .dK []) (t' := s.toks) (fun _ _ q => Heap.get?_push_of_some _ q) (Nat.le_refl _) (vt s.heap I.big), rfl, h _ (I.hok.fresh (Nat.le_refl _))⟩
end
def we : List (TE × TE) -> St -> Hp -> (List (V × V) -> Hp -> Prop) -> Prop
 | [], _, H, Q => Q [] H
 | (tk, tv) :: r, σ, H, Q => tk σ H fun x H1 => tv σ H1 fun y H2 => we r σ H2 fun ps H3 => Q ((x, y) :: ps) H3
abbrev VV : List (V × V) -> List (Value × Value) -> Prop := Paired fun p q => RelV p.1 q.1 /\ RelV p.2 q.2
def PPs (X : Cx) (pos : Pos) (keys : List (Option Expr)) (values : List Expr) (trs : List (TE × TE)) : Prop :=
 ∀ (pins : List (Addr × Obj)) (s : Shared) (σ : St) (H : Hp) (Q : List (V × V) -> Hp -> Prop), Inv X pins σ H s -> we trs σ H Q ->
  wpAny (model X.prog X.w) X.A (evalPairs (pairTrees keys values X.env pos)) (fun vs s' => ∃ ps H', Inv X pins σ H' s' /\ VV ps vs /\ Q ps H') X.xe s
theorem xM {X : Cx} {pos : Pos} : PPs X pos [] [] [] := fun pins s σ H Q I h => pairTrees_nil_walk ⟨[], H, I, .nil, h⟩
theorem vq {X : Cx} {pos : Pos} {k v : Expr} {ks : List (Option Expr)} {vs : List Expr} {tk tv : TE} {trs : List (TE × TE)} (hk : PE X k tk) (hv : PE X v tv) (hr : PPs X pos ks vs trs) :
  PPs X pos (some k :: ks) (v :: vs) ((tk, tv) :: trs) := fun pins s σ H Q I h =>
 pairTrees_cons_walk (thn (hk pins s σ H _ I h) fun u s1 ⟨x, H1, I1, rx, q1⟩ => thn (hv pins s1 σ H1 _ I1 q1) fun w2 s2 ⟨y, H2, I2, ry, q2⟩ =>
  thn (hr pins s2 σ H2 _ I2 q2) fun ws s3 ⟨ps, H3, I3, rel, q3⟩ => ⟨(x, y) :: ps, H3, I3, .cons ⟨rx, ry⟩ rel, q3⟩)
def cQ (kvs more : List (Key × V)) : List (Key × V) := more.foldl (fun acc kv => putK acc kv.1 kv.2) kvs
theorem KV.merge : ∀ {more : List (Key × V)} {rs : List (Key × Value)} {kvs : List (Key × V)} {vs : List (Key × Value)}, KV more rs -> KV kvs vs -> KV (cQ kvs more) (merged vs rs) := by
 intro more rs kvs vs r
 unfold KV at r
 induction r generalizing kvs vs with
 | nil => intro q; exact q
 | @cons p q ps qs h t ih =>
  intro r0
  have e : KV (putK kvs p.1 p.2) (stored vs q.1 q.2) := by
   have := r0.put p.1 h.2
   rw [<- h.1]; exact this
  exact ih e
theorem gJ : ∀ (more kvs : List (Key × V)), (cQ kvs more).length <= kvs.length + more.length
 | [], kvs => by show kvs.length <= kvs.length + 0; omega
 | p :: r, kvs => by
  have h1 := gJ r (putK kvs p.1 p.2)
  have h2 := fb kvs p.1 p.2
  show (cQ (putK kvs p.1 p.2) r).length <= _
  rw [List.length_cons]; omega
theorem pk {P : Program} {w : World} : ∀ {kvs : List (Key × V)} {ws : List (Value × Value)}, VV (kvs.map fun kv => (kV kv.1, kv.2)) ws -> ∃ rs, Carries (aQ P w) ws rs /\ KV kvs rs
 | [], _, r => by rw [List.map_nil] at r; cases r; exact ⟨[], True.intro, .nil⟩
 | p :: kvs, _, r => by
  rw [List.map_cons] at r
  cases r with
  | @cons a b as bs h t =>
   obtain ⟨rs, c, q⟩ := pk (P := P) (w := w) t
   obtain ⟨b1, b2⟩ := b
   exact ⟨(p.1, b2) :: rs, ⟨jO h.1, rfl, c⟩, .cons ⟨rfl, h.2⟩ q⟩
def CP (trs : List (TE × TE)) : TE := fun σ H Q => ∀ p, H p = none -> we trs σ (upd H p (.dK [])) fun ps H2 => H2 p = some (.dK []) /\ ∃ kvs : List (Key × V), ps = kvs.map (fun kv => (kV kv.1, kv.2)) /\ kvs.length <= 15 /\ Q (.ref p) (upd H2 p (.dK (cQ [] kvs)))
theorem x6 {X : Cx} {pos : Pos} {keys : List (Option Expr)} {values : List Expr} {trs : List (TE × TE)} (h : PPs X pos keys values trs) (hall : keys.all (·.isSome) = true) (hl : keys.length = values.length) (h0 : keys ≠ [])
  (h15 : keys.length <= 15) : PE X (.Dict keys values pos) (CP trs) := by
 intro pins s σ H Q I q
 have hn := I.hok.fresh (Nat.le_refl s.heap.objs.size)
 have I1 := I.laid (a := s.heap.objs.size) (o := .dK []) (h' := s.heap.push { cls := .type "dict", data := .dict #[] }) (t' := s.toks) (fun _ _ q => Heap.get?_push_of_some _ q) (Nat.le_refl _) (vt s.heap I.big)
 refine wpAny_Dict_walk (knd := aQ X.prog X.w) hall hl h0 h15 (thn (h pins _ σ _ _ I1 (q _ hn)) fun ws s2 ⟨ps, H2, I2, rel, e, kvs, ep, lk, q2⟩ => ?_)
 subst ep
 obtain ⟨rs, c, rk⟩ := pk (P := X.prog) (w := X.w) rel
 obtain ⟨z, hd, vs0, r0, dd⟩ := xY I2.hok e
 cases r0
 refine ⟨rs, c, dd, fun h' dd' hs => ⟨.ref s.heap.objs.size, _, ?_, rfl, q2⟩⟩
 have hz : (cQ [] kvs).length <= sizeLine := by
  have h1 := gJ kvs []
  rw [List.length_nil] at h1
  rw [sizeLine_eq]; omega
 have he : ∃ q, h'.get? s.heap.objs.size = some q := let ⟨q, _, _, hq, _⟩ := dd'; ⟨q, hq⟩
 exact lW I2 (by rw [e]; exact True.intro) hs he (p6 hz hd (rk.merge .nil) dd')
structure M1 (X : Cx) (o : Expr) (m : Str) (apos : Pos) (e : Expr) (cpos : Pos) : Prop where
 base : attributeBase o m X.env (eval o X.env) = eval o X.env
 few : ((backTo cpos (starEach [e] X.env)).all (fun x => !x.1) && (backToKw cpos (keywordEach [] X.env)).all (fun x => x.1.isSome)
  && decide (([e] : List Expr).length + ([] : List Keyword).length + (if ([] : List Keyword).isEmpty then 0 else 1) < 30)) = true
 line : (apos.endLine == cpos.line) = true
 trees : backTo cpos (starEach [e] X.env) = [(false, eval e X.env)]
structure M2 (X : Cx) (o : Expr) (m : Str) (apos : Pos) (e f : Expr) (cpos : Pos) : Prop where
 base : attributeBase o m X.env (eval o X.env) = eval o X.env
 few : ((backTo cpos (starEach [e, f] X.env)).all (fun x => !x.1) && (backToKw cpos (keywordEach [] X.env)).all (fun x => x.1.isSome)
  && decide (([e, f] : List Expr).length + ([] : List Keyword).length + (if ([] : List Keyword).isEmpty then 0 else 1) < 30)) = true
 line : (apos.endLine == cpos.line) = true
 trees : backTo cpos (starEach [e, f] X.env) = [(false, eval e X.env), (false, eval f X.env)]
def IsD (H : Hp) (a : Addr) : Prop := (∃ kvs, Rd H a (.dK kvs)) \/ ∃ kvs, Rd H a (.dT kvs)
theorem uj {X : Cx} {pins : List (Addr × Obj)} {σ : St} {H : Hp} {s : Shared} {a : Addr} (I : Inv X pins σ H s) (d : IsD H a) :
  s.TypeIs (.ref a) "dict" /\ (∀ b, Value.ref a = .ref b -> ∃ ob, s.heap.get? b = some ob /\ ob.dict = none) /\ (a == sysModules) = false := by
 rcases d with ⟨kvs, e⟩ | ⟨kvs, e⟩
 ·obtain ⟨_, hd, vs, _, dd⟩ := lR I.hok e
  refine ⟨dd.typeIs, fun b q => ?_, hd⟩
  cases q
  obtain ⟨ob, _, _, h1, h2, _⟩ := dd
  exact ⟨ob, h1, h2.2.1⟩
 ·obtain ⟨_, hd, xs, _, dd⟩ := oG I.hok e
  refine ⟨dd.typeIs, fun b q => ?_, hd⟩
  cases q
  obtain ⟨ob, _, _, h1, h2, _⟩ := dd
  exact ⟨ob, h1, h2.2.1⟩
section
variable {X : Cx} {pins : List (Addr × Obj)} {σ : St} {H : Hp} {s : Shared} {a : Addr} {y d : V} {u r : Value} {o : Option V} {A : Around} {E : Value -> Shared -> Prop}
theorem Ca {Q : Value -> Shared -> Prop} (hu : A.units + 1 < cLine) (I : Inv X pins σ H s) (g : DGet H a y o) (ry : RelV y u) (h : ∀ w' s', Inv X pins σ H s' -> RelV (o.getD .non) w' -> Q w' s') :
  wpAny (model X.prog X.w) A (call (.builtin "dict.get") [.ref a, u]) Q E s := by
 rcases g with ⟨kvs, k, e, ey, l⟩ | ⟨kvs, k, b, e, ey, eb, l⟩
 ·subst ey
  obtain ⟨z, hd, vs, rel, dd⟩ := lR I.hok e
  refine call_meetsIn PySem.F.slot_dict_get dd.typeIs PySem.F.entry_dict_get (PySem.F.args_dict_get_2 _ _) (meets_dict_get (aQ X.prog X.w) a (jO ry) hd) ⟨_, dd.mapOf, h _ _ (I.tok _) ?_⟩
  rw [l]
  exact (rel.val k).getD rfl
 ·subst ey
  cases (show u = Value.ref b from ry)
  obtain ⟨z, hd, xs, rel, dd⟩ := oG I.hok e
  refine call_meetsIn PySem.F.slot_dict_get dd.typeIs PySem.F.entry_dict_get (PySem.F.args_dict_get_2 _ _) (meetsH_dict_get (tupleKind (aQ X.prog X.w)) a b hd) ⟨tupleKind_room_in1 hu, k, xs, jI I.hok eb, dd, h _ _ (I.tok _) ?_⟩
  rw [l]
  exact (rel.val k).getD rfl
theorem Cz {Q : Value -> Shared -> Prop} (hu : A.units + 1 < cLine) (I : Inv X pins σ H s) (g : DGet H a y o) (ry : RelV y u) (rd : RelV d r) (h : ∀ w' s', Inv X pins σ H s' -> RelV (o.getD d) w' -> Q w' s') :
  wpAny (model X.prog X.w) A (call (.builtin "dict.get") [.ref a, u, r]) Q E s := by
 rcases g with ⟨kvs, k, e, ey, l⟩ | ⟨kvs, k, b, e, ey, eb, l⟩
 ·subst ey
  obtain ⟨z, hd, vs, rel, dd⟩ := lR I.hok e
  refine call_meetsIn PySem.F.slot_dict_get dd.typeIs PySem.F.entry_dict_get (PySem.F.args_dict_get_3 _ _ _) (meets_dict_get_default (aQ X.prog X.w) a (jO ry) hd r) ⟨_, dd.mapOf, h _ _ (I.tok _) ?_⟩
  rw [l]
  exact (rel.val k).getD rd
 ·subst ey
  cases (show u = Value.ref b from ry)
  obtain ⟨z, hd, xs, rel, dd⟩ := oG I.hok e
  refine call_meetsIn PySem.F.slot_dict_get dd.typeIs PySem.F.entry_dict_get (PySem.F.args_dict_get_3 _ _ _) (meetsH_dict_get_default (tupleKind (aQ X.prog X.w)) a b hd r) ⟨tupleKind_room_in1 hu, k, xs, jI I.hok eb, dd, h _ _ (I.tok _) ?_⟩
  rw [l]
  exact (rel.val k).getD rd
end
def Cw (td ty : TE) : TE := fun σ H Q => td σ H fun x H1 => ∃ a, x = .ref a /\ IsD H1 a /\ ty σ H1 fun y H2 => ∃ o, DGet H2 a y o /\ Q (o.getD .non) H2
def BZ (td ty tx : TE) : TE := fun σ H Q => td σ H fun x H1 => ∃ a, x = .ref a /\ IsD H1 a /\ ty σ H1 fun y H2 => tx σ H2 fun z H3 => ∃ o, DGet H3 a y o /\ Q (o.getD z) H3
def B6 (td ty : TE) : TE := fun σ H Q => td σ H fun x H1 => ∃ a, x = .ref a /\ IsD H1 a /\ ty σ H1 fun y H2 => ∃ kvs k v, H2 a = some (.dK kvs) /\ y = kV k /\ dk kvs k = some v /\ Q v (upd H2 a (.dK (pB kvs k)))
section
variable {X : Cx} {o e f : Expr} {apos cpos : Pos} {td ty tx : TE}
theorem zo (hu : X.A.units + 1 < cLine) (ho : PE X o td) (he : PE X e ty) (m : M1 X o "get" apos e cpos) : PE X (.Call (.Attribute o "get" apos) [e] [] cpos) (Cw td ty) := by
 intro pins s σ H Q I h
 refine wpAny_Call_method m.base m.few m.line PySem.F.plainAttrs_dict PySem.F.slot_dict_get PySem.F.type_dict_get (thn (ho pins s σ H _ I h) fun u s1 ⟨x, H1, I1, rx, a, ex, d, q1⟩ => ?_)
 subst ex
 obtain rfl : u = Value.ref a := rx
 obtain ⟨t1, t2, _⟩ := uj I1 d
 refine ⟨t1, t2, ?_⟩
 rw [m.trees]
 refine Calls.callWith_builtin rfl (Calls.evalArgs_plain (Calls.spliced_cons (thn (he pins s1 σ H1 _ I1 q1) fun iv s2 ⟨y, H2, I2, ry, ov, g, q2⟩ => Calls.spliced_nil ?_)))
 exact Ca hu I2 g ry fun w' s3 I3 rw' => ⟨_, H2, I3, rw', q2⟩
theorem zx (hu : X.A.units + 1 < cLine) (ho : PE X o td) (he : PE X e ty) (hf : PE X f tx) (m : M2 X o "get" apos e f cpos) : PE X (.Call (.Attribute o "get" apos) [e, f] [] cpos) (BZ td ty tx) := by
 intro pins s σ H Q I h
 refine wpAny_Call_method m.base m.few m.line PySem.F.plainAttrs_dict PySem.F.slot_dict_get PySem.F.type_dict_get (thn (ho pins s σ H _ I h) fun u s1 ⟨x, H1, I1, rx, a, ex, d, q1⟩ => ?_)
 subst ex
 obtain rfl : u = Value.ref a := rx
 obtain ⟨t1, t2, _⟩ := uj I1 d
 refine ⟨t1, t2, ?_⟩
 rw [m.trees]
 refine Calls.callWith_builtin rfl (Calls.evalArgs_plain (Calls.spliced_cons (thn (he pins s1 σ H1 _ I1 q1) fun iv s2 ⟨y, H2, I2, ry, q2⟩ =>
  Calls.spliced_cons (thn (hf pins s2 σ H2 _ I2 q2) fun fv s3 ⟨z, H3, I3, rz, ov, g, q3⟩ => Calls.spliced_nil ?_))))
 exact Cz hu I3 g ry rz fun w' s4 I4 rw' => ⟨_, H3, I4, rw', q3⟩
theorem u6 (ho : PE X o td) (he : PE X e ty) (m : M1 X o "pop" apos e cpos) : PE X (.Call (.Attribute o "pop" apos) [e] [] cpos) (B6 td ty) := by
 intro pins s σ H Q I h
 refine wpAny_Call_method m.base m.few m.line PySem.F.plainAttrs_dict PySem.F.slot_dict_pop PySem.F.type_dict_pop (thn (ho pins s σ H _ I h) fun u s1 ⟨x, H1, I1, rx, a, ex, d, q1⟩ => ?_)
 subst ex
 obtain rfl : u = Value.ref a := rx
 obtain ⟨t1, t2, _⟩ := uj I1 d
 refine ⟨t1, t2, ?_⟩
 rw [m.trees]
 refine Calls.callWith_builtin rfl (Calls.evalArgs_plain (Calls.spliced_cons (thn (he pins s1 σ H1 _ I1 q1) fun iv s2 ⟨y, H2, I2, ry, kvs, k, v, ea, ey, l, q2⟩ => Calls.spliced_nil ?_)))
 subst ey
 exact CK I2 ea ry l (.inl rfl) fun w' s3 I3 rw' => ⟨v, _, I3, rw', q2⟩
end
section
variable {X : Cx} {pins : List (Addr × Obj)} {σ : St} {H : Hp} {s : Shared} {a : Addr} {kvs : List (Key × V)} {A : Around} {E : Value -> Shared -> Prop}
end
section
variable {X : Cx} {pins : List (Addr × Obj)} {σ : St} {H : Hp} {s : Shared} {a : Addr} {y : V} {u : Value} {A : Around} {E : Value -> Shared -> Prop}
end
end L2
namespace L2
open PySem PySem.Spec PyProof.Rows
section
variable {κ : Type} [DecidableEq κ]
theorem lO : ∀ {l : List κ} {k : κ}, l.Nodup -> ¬ k ∈ l -> (l ++ [k]).Nodup
 | [], k, _, _ => by simp
 | a :: r, k, h, hk => by
  obtain ⟨h1, h2⟩ := List.nodup_cons.mp h
  show (a :: (r ++ [k])).Nodup
  refine List.nodup_cons.mpr ⟨fun m => ?_, lO h2 fun m => hk (List.mem_cons.mpr (Or.inr m))⟩
  rcases List.mem_append.mp m with q | q
  ·exact h1 q
  ·exact hk (List.mem_cons.mpr (Or.inl (List.mem_singleton.mp q).symm))
end
end L2
set_option Elab.async false
set_option linter.all false
set_option maxRecDepth 100000
namespace PySem
open Sem (wp)
open Builtin
end PySem
namespace L2
open PySem PySem.Spec PyProof.Rows
section
variable {X : Cx}
def C3 (K : PySem.W.Frag) : R2 := fun x y H Q => ∃ a b xs ys, x = .ref a /\ y = .ref b /\ SqT K H a xs /\ SqT K H b ys /\ xs.length + ys.length <= sizeLine /\
 (xs = [] -> Q (.ref b) H) /\ (xs ≠ [] -> ys = [] -> Q (.ref a) H) /\ (xs ≠ [] -> ys ≠ [] -> ∀ p, H p = none -> Q (.ref p) (upd H p (.tup (xs ++ ys))))
theorem yb : OpR X (binaryOp .Add) (C3 X.K) := by
 intro pins s σ H x y v u Q I rx ry h
 obtain ⟨a, b, xs, ys, rfl, rfl, ha, hb, hz, q0, q1, q2⟩ := h
 by_cases hx : xs = []
 ·cases rx
  cases ry
  obtain ⟨its, r1, p1, _⟩ := I.tuple ha
  obtain ⟨its2, r2, p2, _⟩ := I.tuple hb
  obtain ⟨⟨cls, dd, data, sl⟩, ho, hc, n, hd⟩ := id p1
  obtain ⟨⟨cls2, dd2, data2, sl2⟩, ho2, hc2, n2, hd2⟩ := id p2
  simp only at hc hd hc2 hd2
  subst hc hd hc2 hd2
  have e : its = [] := r1.nil_iff.mpr hx
  exact concat_meets ⟨_, ho, rfl⟩ ⟨_, ho2, rfl⟩ noFill_tuple_add seq_tuple_add PySem.F.slot_tuple_add PySem.F.entry_tuple_add (PySem.F.args_tuple_add_2 _ _)
   (tuple_addW0 a b its.toArray its2.toArray n n2 dd dd2 sl sl2 (by simp [e])) ⟨ho, ho2, ⟨.ref b, H, I, rfl, q0 hx⟩⟩
 ·exact AY pins s σ H _ _ v u Q I rx ry ⟨a, b, xs, ys, rfl, rfl, ha, hb, hx, hz, q1 hx, q2 hx⟩
end
inductive Pl (H : Hp) : V -> Prop where
 | non : Pl H .non
 | bl (b : Bool) : Pl H (.bl b)
 | int (i : Int) : Pl H (.int i)
 | str (x : Str) : Pl H (.str x)
 | lst {a : Addr} {xs : List V} (e : H a = some (.lst xs)) : Pl H (.ref a)
 | tup {a : Addr} {xs : List V} (e : H a = some (.tup xs)) : Pl H (.ref a)
 | dK {a : Addr} {kvs : List (Key × V)} (e : H a = some (.dK kvs)) : Pl H (.ref a)
structure PEW (X : Cx) (e : Expr) (t : TE) : Prop where
 out : PE X e t
structure PAW (X : Cx) (es : List Expr) (t : TA) : Prop where
 out : PA X es t
structure PTW (X : Cx) (e : Expr) (t : TT) : Prop where
 out : PT X e t
structure PSW (X : Cx) (s : Stmt) (t : TS) : Prop where
 out : PS X s t
structure PSsW (X : Cx) (s : List Stmt) (t : TS) : Prop where
 out : PSs X s t
section
variable {X : Cx} {a b e : Expr} {es : List Expr} {ta tb te : TE} {t : TA} {pos : Pos}
theorem BV : PAW X [] BC := ⟨af⟩
theorem x9 (ha : PEW X e te) (hr : PAW X es t) (hs : starEach (e :: es) X.env = (false, eval e X.env) :: starEach es X.env := by rfl) : PAW X (e :: es) (BP te t) := ⟨aa ha.out hr.out hs⟩
theorem CQ (h : PAW X es t) : PEW X (.List es pos) (CN t) := ⟨cW h.out⟩
variable {st : Stmt} {rest : List Stmt} {ts us : TS}
theorem BU : PSsW X [] dZ := ⟨bP⟩
theorem aS (h1 : PSW X st ts) (h2 : PSsW X rest us) : PSsW X (st :: rest) (yW ts us) := ⟨aj h1.out h2.out⟩
theorem iZ (h1 : PSW X st ts) : PSsW X [st] ts := ⟨av h1.out⟩
theorem BR (he : PEW X e te) (hs : swapsWith e none pos.line X.env = pure false := by rfl) : PSW X (.Expr e pos) (BO te) := ⟨bD he.out hs⟩
theorem CM {i : Nat} {x : Str} {pos' : Pos} (hN : X.N.Nodup) (hi : X.N[i]? = some x) (hx : Loc X.env.scope x) (he : PEW X e te) (hs : swapsWith e (some (.Name x pos')) pos.line X.env = pure false := by rfl) (hf : X.fn x = true \/ X.env.scope.names.lookup x = some .local := by first | exact .inl rfl | exact .inr rfl | assumption) :
  PSW X (.Assign [.Name x pos'] e pos) (oP te (bR i)) := ⟨az hN hi hx he.out hs hf⟩
theorem DB {c : Expr} {a b : List Stmt} {tc : TT} {u : TS} (hc : PTW X c tc) (ha : PSsW X a ts) (hb : PSsW X b u) : PSW X (.If c a b pos) (zu tc ts u) := ⟨dr hc.out ha.out hb.out⟩
theorem BM {tg iter : Expr} {body : List Stmt} {wi : TI} {g : TG} {tb : TS} (hp : PassesOwn (model X.prog X.w) X.A X.env X.xe) (hc : X.calm = true) (hi : PI X tg iter wi) (hg : PG X tg g) (hb : PSsW X body tb)
  (hs : ∀ x, foldedSetIterable iter X.env x = pure x := by intro _; rfl) : PSW X (.For tg iter body [] pos) (oQ wi g tb) := ⟨cf hp hc hi hg hb.out hs⟩
theorem oe {b : List Stmt} {R : TS -> Prop} (h : PSsW X b ts) (r : R ts) : ∃ t, PSs X b t /\ R t := ⟨ts, h.out, r⟩
end
end L2
set_option Elab.async false
set_option linter.all false
set_option maxRecDepth 100000
namespace L2
open PySem PySem.Spec PyProof.Rows
def CX1 (P : Program) (w : World) : CXT := fun outer H s E e s' => ∃ (ea t C : Addr) (B : Heap) (H' : Hp), e = .ref ea /\ s'.os = s.os /\ AllBare s'.gens /\ Un (frs outer) [] H H' s.heap s'.heap /\ HOk P w H' B /\
 Heap.FlyingW B outer ea (.ref C) (.ref t) s'.heap /\ (∀ b o, s.heap.get? b = some o -> b ∉ frs outer -> ∃ o', B.get? b = some o') /\ H' ea = none /\ E (.ref C) none H'
section
variable {P : Program} {w : World} {K : PySem.W.Frag} {mg : Str -> Option Value} {base : Heap} {N : List Str} {qual : Str} {scope : Scope} {f : Addr} {cd : Value} {A : Around} {outer : List Env} {s : Shared} {H : Hp} {E : XK}
end
end L2
set_option Elab.async false
set_option linter.all false
set_option maxRecDepth 100000
namespace L2
open PySem PySem.Spec PyProof.Rows
section
variable {X : Cx} {x : Str} {j k : Nat} {ps : List Str} {dvs : List V} {sp : Sp} {p pos cpos : Pos} {e : Expr} {es : List Expr} {t : TA} {C : Addr} {E : XK}
end
structure DefX (P : Program) (w : World) (K : PySem.W.Frag) (mg : Str -> Option Value) (base : Heap) (x : Str) (k : Nat) (ps : List Str) (dvs : List V) (sp : Sp) : Prop where
 ex : ∃ (f : Addr) (fd : FuncData) (ds : List Value), mg x = some (.ref f) /\ PySem.W.keepIn K (.ref f) = true /\ Vals dvs ds /\ Binds K fd ps ds /\ FnOk P w K mg base (CX1 P w) k f fd ps sp
section
variable {X : Cx} {x : Str} {j k : Nat} {ps : List Str} {dvs : List V} {sp : Sp} {p pos : Pos} {e : Expr} {es : List Expr} {t : TA} {E : XK}
end
section
variable {P : Program} {w : World} {K : PySem.W.Frag} {mg : Str -> Option Value} {base : Heap}
end
section
variable {X : Cx} {e v1 v2 : Expr} {es rest : List Expr} {pos : Pos} {te : TE} {n : Nat}
end
end L2
set_option Elab.async false
set_option linter.all false
set_option maxRecDepth 100000
namespace L2
open PySem PySem.Spec PySem.W PySem.Builtin PySem.Builtin.Getset_descriptor
structure XCls (K : PySem.W.Frag) (C : Addr) : Prop where
 ga : findIn K (.ref C) "__getattribute__" = some (some (.builtin "BaseException.__getattribute__"))
 gt : findIn K (.ref C) "__getattr__" = some none
 cl : findIn K (.ref C) "__class__" = some (some (.builtin "object.__class__"))
 gg : specialIn K (.builtin "object.__class__") "__get__" = some (some (.builtin "getset_descriptor.__get__"))
 tk : takesIn K (.builtin "object.__class__") = some true
 ob : mroIn K C (.type "object") = some true
 be : mroIn K C (.type "BaseException") = some true
 ci : (clsIn K C).isSome = true
section
variable {prog : Program} {w : World} {A : Around} {E : Value -> Shared -> Prop} {s : Shared} {K : PySem.W.Frag} {ea C : Addr} {ob : Obj}
end
end L2
set_option Elab.async false
set_option linter.all false
set_option maxRecDepth 100000
namespace L2
open PySem PySem.Spec PyProof.Rows
section
variable {X : Cx} {pins : List (Addr × Obj)} {σ : St} {H : Hp} {s : Shared} {E : XK} {ea : Addr}
abbrev TX := Ends -> XK -> St -> Hp -> Prop
end
section
variable {X : Cx} {x : Str} {j k : Nat} {ps : List Str} {dvs : List V} {sp : Sp} {p pos : Pos} {e : Expr} {es : List Expr} {t : TA} {E : XK}
end
section
variable {P : Program} {w : World} {fs : List Addr} {H H1 : Hp} {h h1 : Heap} {ea C : Addr} {o : HO}
end
section
variable {X : Cx} {pins : List (Addr × Obj)} {σ : St} {H : Hp} {s : Shared} {E : XK}
end
section
variable {X : Cx} {pins : List (Addr × Obj)} {σ : St} {H : Hp} {s s' : Shared} {E : XK} {C F : Addr} {i : Nat} {x n : Str} {np pos hpos : Pos} {body : List Stmt} {b₀ : Stmt} {suite : List Stmt} {tb : TX} {ts : TS}
end
end L2
set_option Elab.async false
set_option linter.all false
set_option maxRecDepth 100000
namespace L2
open PySem PySem.Spec PyProof.Rows
structure RoomH (k : Nat) (A : Around) : Prop where
 dp : A.depth + 3 * k + 5 < recursionLimit
 un : A.units + 16 * k + 200 < cLine
structure FnOkH (P : Program) (w : World) (K : PySem.W.Frag) (mg : Str -> Option Value) (base : Heap) (CX : CXT) (k : Nat) (f : Addr) (fd : FuncData) (ps : List Str) (sp : Sp) : Prop where
 len : ∀ vs H Q E, sp vs H Q E -> vs.length = ps.length
 run : ∀ (A : Around) (outer : List Env) (s : Shared) (H : Hp) (args : Args) (us : List Value) (vs : List V) (Q : VK) (E : XK), RoomH k A -> Env0 P w K mg base A outer s H -> BindsTo s fd args (ps.zip us) -> Vals vs us -> sp vs H Q E ->
  codeAny (model P w) A (.call (.ref f) args) (CR CX outer P w H s Q E) s
structure DefH (P : Program) (w : World) (K : PySem.W.Frag) (mg : Str -> Option Value) (base : Heap) (x : Str) (k : Nat) (ps : List Str) (dvs : List V) (sp : Sp) : Prop where
 ex : ∃ (f : Addr) (fd : FuncData) (ds : List Value), mg x = some (.ref f) /\ PySem.W.keepIn K (.ref f) = true /\ Vals dvs ds /\ Binds K fd ps ds /\ FnOkH P w K mg base CX0 k f fd ps sp
section
variable {P : Program} {w : World} {K : PySem.W.Frag} {mg : Str -> Option Value} {base : Heap}
end
section
variable {X : Cx} {x : Str} {j k : Nat} {ps : List Str} {dvs : List V} {sp : Sp} {p pos : Pos} {e : Expr} {es : List Expr} {t : TA}
end
section
variable {X : Cx}
end
end L2
set_option Elab.async false
set_option linter.all false
set_option maxRecDepth 100000
namespace L2
open PySem PySem.Spec PyProof.Rows
section
variable {X : Cx}
end
end L2
set_option Elab.async false
set_option linter.all false
set_option maxRecDepth 100000
namespace L2
open PySem PySem.Spec PyProof.Rows
section
variable {prog : Program} {w : World} {A : Around} {E : Value -> Shared -> Prop} {s : Shared} {it l S : Addr} {items : Array Value}
end
section
variable {X : Cx} {a : Expr} {ta : TA} {p p2 pos pos2 : Pos}
end
end L2
set_option Elab.async false
set_option linter.all false
set_option maxRecDepth 100000
namespace L2
open PySem PySem.Spec PyProof.Rows
theorem e7 {α β : Type} {F : α -> β -> Prop} : ∀ {l₁ : List α} {l₂ : List β} {j : Nat} {q : β}, Paired F l₁ l₂ -> l₂[j]? = some q -> ∃ p, l₁[j]? = some p /\ F p q
 | _, _, _, _, .nil, e => by simp at e
 | _, _, 0, _, .cons r _, e => by simp at e; subst e; exact ⟨_, rfl, r⟩
 | _, _, j + 1, _, .cons _ t, e => by
  obtain ⟨p, h1, h2⟩ := e7 (j := j) t (by simpa using e)
  exact ⟨p, by simpa using h1, h2⟩
section
variable {X : Cx}
theorem rZ : ∀ {ks : List Key} {us : List Value}, us.length = ks.length -> (∀ (j : Nat) (v : Value), us[j]? = some v -> ∃ k, ks[j]? = some k /\ oJ k v = true) -> Vals (ks.map kV) us
 | [], [], _, _ => .nil
 | [], _ :: _, h, _ => by simp at h
 | _ :: _, [], h, _ => by simp at h
 | k :: ks, u :: us, h, q => by
  obtain ⟨k', e, i⟩ := q 0 u rfl
  cases (show k = k' from by simpa using e)
  refine .cons ?_ (rZ (by simpa using h) fun j v e => by simpa using q (j + 1) v (by simpa using e))
  rcases bK i with ⟨n, t, rfl, rfl⟩ | ⟨x, t, rfl, rfl⟩
  ·exact ⟨t, rfl⟩
  ·exact ⟨t, rfl⟩
def Cb : List V -> Hp -> VK -> Prop := fun xs H Q => ∃ p kvs, xs = [.ref p] /\ H p = some (.dK kvs) /\ ∀ l, H l = none -> Q (.ref l) (upd H l (.lst (kvs.map fun q => kV q.1)))
theorem qr (hc : X.calm = true) : gU X (.type "list") Cb := by
 intro pins s σ H xs us Q I r h
 obtain ⟨p, kvs, rfl, hp, q⟩ := h
 obtain ⟨u, rfl, rx⟩ := vals1 r
 cases rx
 obtain ⟨hz, lo, vs, kv, dof⟩ := (show ObjOk X.prog X.w H s.heap p (.dK kvs) from I.hok p _ hp)
 obtain ⟨ep, hat⟩ := dof.dictAt
 have hlen : kvs.length = vs.length := Paired.length kv
 refine PySem.W.kdl_call (PySem.W.kdl_dict (knd := aQ X.prog X.w) (kvs := vs) (ep := ep) lo) (I.ok.hd hc) hat (by rw [<- hlen]; exact hz) fun h' tk acc c' kp e hacc => ?_
 have rv : Vals ((kvs.map (·.1)).map kV) acc.toList := rZ (by rw [Array.length_toList, hacc.1, List.length_map, hlen]) fun j v ej => by
  obtain ⟨k, x, e1, e2⟩ := hacc.2 j v (by rw [<- Array.getElem?_toList]; exact ej)
  refine ⟨k, ?_, e2⟩
  obtain ⟨pv, f1, f2⟩ := e7 kv e1
  rw [List.getElem?_map, f1]
  exact congrArg some f2.1
 rw [List.map_map] at rv
 have ob : ObjOk X.prog X.w (upd H s.heap.objs.size (.lst (kvs.map fun q => kV q.1))) h' s.heap.objs.size (.lst (kvs.map fun q => kV q.1)) := by
  refine ⟨by rw [List.length_map]; exact hz, acc.toList, c', rv, ?_⟩
  rw [Array.toArray_toList]
  exact e
 exact ⟨.ref _, _, I.laid (t' := tk) kp (Nat.le_refl _) ob, rfl, q _ (I.hok.fresh (Nat.le_refl _))⟩
end
end L2
set_option Elab.async false
set_option linter.all false
set_option maxRecDepth 100000
namespace L2
open PySem PySem.Spec PyProof.Rows
section
variable {X : Cx} {pins : List (Addr × Obj)} {σ : St} {H : Hp} {s : Shared} {N : List Str} {ix : List (Option Nat)} {scope : Scope} {fp : List Addr} {tg elt iter cond : Expr} {tc : TT} {pos spos : Pos} {J : It} {it : Addr} {tn : Nat -> Heap -> Prop} {g : TG} {te : TE} {wi : TI}
end
end L2
set_option Elab.async false
set_option linter.all false
set_option maxRecDepth 100000
set_option maxHeartbeats 4000000
namespace L2
open PySem PySem.Spec PyProof.Rows
open AutoSeq1 (wpAny_loadPart')
section
variable {prog : Program} {w : World} {A : Around} {E : Value -> Shared -> Prop} {s : Shared}
theorem lL {it t : Addr} {i : Nat} {items : Array Value} {x : Value} {Q : Value -> Shared -> Prop} (hit : s.heap.IsTupleIter it t i) (ht : s.heap.IsTuple t items) (hx : items[i]? = some x)
  (hQ : ∀ h', h'.IsTupleIter it t (i + 1) -> Heap.SameBut it s.heap h' -> Q x { s with heap := h' }) : wpAny (model prog w) A (Builtin.SmallTypes.nextOf (.ref it)) Q E s := by
 obtain ⟨o, ho, hc, hd⟩ := id hit
 obtain ⟨ol, hol, _, nl, hdl⟩ := ht
 unfold Builtin.SmallTypes.nextOf
 refine wpAny_bind (wpAny_callSpecial?_slot (name := Str.ofString "__next__") hit.typeIs F.slot_tuple_iterator_next
  (wpAny_call_entry F.slot_tuple_iterator_next hit.typeIs F.entry_tuple_iterator_next ?_ (F.args_tuple_iterator_next_1 _)))
 show wpAny _ _ (field (.ref it) 0 >>= _) _ _ s
 refine wpAny_bind (wpAny_field ho hd (x := .ref t) rfl ?_)
 show wpAny _ _ (if (Value.ref t == Value.none) = true then _ else _) _ _ s
 rw [if_neg (show ¬ ((Value.ref t == Value.none) = true) from Bool.false_ne_true)]
 show wpAny _ _ (field (.ref it) 1 >>= _) _ _ s
 refine wpAny_bind (wpAny_field ho hd (x := .int i 0) rfl ?_)
 show wpAny _ _ (seqItems? (.ref t) >>= _) _ _ s
 refine wpAny_bind (wpAny_seqItems hol hdl ?_)
 simp only [Int.toNat_natCast, hx]
 refine wpAny_bind (wpAny_setField ho hd (by simp) (wpAny_pure ⟨x, rfl, wpAny_pure (hQ _ ?_ (Heap.SameBut.update ..))⟩))
 exact ⟨_, Heap.get?_update_self _ ho (Obj.isFreed_of_fields (Obj.data_mapFields hd _)), (Obj.cls_mapFields ..).trans hc, by
  rw [Obj.data_mapFields hd]; simp [rawInt]⟩
theorem g7 {it t : Addr} {i : Nat} {items : Array Value} {Q : Value -> Shared -> Prop} (hh : A.handled = none) (hit : s.heap.IsTupleIter it t i) (ht : s.heap.IsTuple t items) (hx : items[i]? = none)
  (hE : ∀ h' e, Heap.ExtBut it s.heap h' -> (∃ o, h'.get? e = some o /\ o.cls = .type "StopIteration") -> E (.ref e) { s with heap := h' }) : wpAny (model prog w) A (Builtin.SmallTypes.nextOf (.ref it)) Q E s := by
 obtain ⟨o, ho, hc, hd⟩ := id hit
 obtain ⟨ol, hol, _, nl, hdl⟩ := ht
 unfold Builtin.SmallTypes.nextOf
 refine wpAny_bind (wpAny_callSpecial?_slot (name := Str.ofString "__next__") hit.typeIs F.slot_tuple_iterator_next
  (wpAny_call_entry F.slot_tuple_iterator_next hit.typeIs F.entry_tuple_iterator_next ?_ (F.args_tuple_iterator_next_1 _)))
 show wpAny _ _ (field (.ref it) 0 >>= _) _ _ s
 refine wpAny_bind (wpAny_field ho hd (x := .ref t) rfl ?_)
 show wpAny _ _ (if (Value.ref t == Value.none) = true then _ else _) _ _ s
 rw [if_neg (show ¬ ((Value.ref t == Value.none) = true) from Bool.false_ne_true)]
 show wpAny _ _ (field (.ref it) 1 >>= _) _ _ s
 refine wpAny_bind (wpAny_field ho hd (x := .int i 0) rfl ?_)
 show wpAny _ _ (seqItems? (.ref t) >>= _) _ _ s
 refine wpAny_bind (wpAny_seqItems hol hdl ?_)
 simp only [Int.toNat_natCast, hx]
 refine wpAny_bind (wpAny_rule (wpAny_bind (wpAny_setField ho hd (by simp) ?_)))
 show wpAny _ _ (newExc (.type "StopIteration") [] >>= _) _ _ _
 refine wpAny_bind ?_
 simp only [newExc, newTuple]
 refine wpAny_bind (wpAny_newObj_type ?_ (by size_fits))
 refine wpAny_bind (m := firstArgMember _ _) (wpAny_of_eq (a := Value.none) (by first | rfl | (simp only [firstArgMember]; rfl)) ?_)
 refine wpAny_newObj_type ?_ (by size_fits)
 simp only [raiseNew]
 refine wpAny_bind (wpAny_handled ?_)
 first | rw [show A.in1.handled = none from hh] | rw [hh]
 refine wpAny_bind (wpAny_pure (wpAny_throw ?_))
 exact hE _ _ (((Heap.SameBut.update ..).extBut.push _).push _) ⟨_, Heap.get?_push_size _ rfl, rfl⟩
end
theorem wB {prog : Program} {w : World} {A : Around} (hh : A.handled = none) (it t : Addr) (hne : t ≠ it) (items : Array Value) :
  Draws prog w A it [it, t] items.size (fun i v => items[i]? = some v) (fun i h => h.IsTupleIter it t i /\ h.IsTuple t items) where
 live := fun _ _ st => let ⟨o, ho, _⟩ := st.1; ⟨o, ho⟩
 frame := fun _ _ _ st hk => ⟨st.1.at fun o e => hk it (by simp) o e, st.2.at fun o e => hk t (by simp) o e⟩
 item := fun i s Q E hi st hQ => by
  refine lL st.1 st.2 (x := items[i]) (by simp [hi]) fun h' hit' hs' => ?_
  exact hQ _ h' s.toks (by simp [hi]) ⟨hit', st.2.at fun o e => (hs'.2 t hne).trans e⟩ hs'
 done := fun s Q E st hE => g7 hh st.1 st.2 (by simp) hE
theorem jD (l : Addr) (items : Array Value) (n : Nat) (dct : Option Addr) (sl : Array (Option Value)) :
  Meets (Builtin.«enumerate.__new__» ⟨[.type "enumerate", .ref l], []⟩) (fun _ R s => s.heap.get? l = some { cls := .type "tuple", dict := dct, data := .seq items n, slots := sl } /\
   R (.ok (.ret (.ref (s.heap.push { cls := .type "tuple_iterator", data := .fields #[.ref l, .int 0 0] }).objs.size)))
    { s with heap := (s.heap.push { cls := .type "tuple_iterator", data := .fields #[.ref l, .int 0 0] }).push { cls := .type "enumerate", data := .fields #[.none, .bool false, .ref s.heap.objs.size, rawInt 0, .none, .none] } }) :=
 .of_wp fun prog w A R s h => by
  obtain ⟨hp, g, d, tk, os⟩ := s; obtain ⟨hl, h⟩ := h
  have hsub := sub_enumerate
  have hL : Heap.IsTuple (Shared.heap ⟨hp, g, d, tk, os⟩) l items := ⟨_, hl, rfl, n, rfl⟩
  wp_walk using wpAny_loadPart' hl
  refine wpAny_stack_any fun st => wpAny_pure ?_
  split
  ·rename_i c _ _ _ _ _
   cases (c == Value.type "enumerate")
   ·wp_walk using wpAny_loadPart' hl, wpAny_pyIter_tuple hL
    exact ⟨_, rfl, h⟩
   ·wp_walk using wpAny_loadPart' hl, wpAny_pyIter_tuple hL
    exact ⟨_, rfl, h⟩
  ·wp_walk using wpAny_loadPart' hl, wpAny_pyIter_tuple hL
   exact ⟨_, rfl, h⟩
theorem jN {prog : Program} {w : World} {A : Around} {E : Value -> Shared -> Prop} {s : Shared} {l : Addr} {items : Array Value} {Q : Value -> Shared -> Prop} (hL : s.heap.IsTuple l items)
  (h : ∀ h', IsEnum h' (s.heap.objs.size + 1) s.heap.objs.size 0 .none -> h'.IsTupleIter s.heap.objs.size l 0 -> h'.objs.size = s.heap.objs.size + 2 ->
   (∀ b o, s.heap.get? b = some o -> h'.get? b = some o) -> Q (.ref (s.heap.objs.size + 1)) { s with heap := h' }) :
  wpAny (model prog w) A (call (.type "enumerate") [.ref l]) Q E s := by
 obtain ⟨⟨c, dct, dt, sl⟩, hl, hc, n, hd⟩ := hL
 replace hc : c = .type "tuple" := hc
 replace hd : dt = .seq items n := hd
 subst hc hd
 refine callType_new F.called_enumerate (by decide) (F.typeCall_enumerate_1 _) (F.newCall_enumerate_1 _) (fun obj => F.args_object_init_2 obj _) F.entry_enumerate_new
  (jD l items n dct sl) ⟨hl, ?_⟩
 have hz : (s.heap.push { cls := .type "tuple_iterator", data := .fields #[.ref l, .int 0 0] }).objs.size = s.heap.objs.size + 1 := Heap.size_push ..
 show _ /\ _
 rw [hz]
 have he : IsEnum ((s.heap.push { cls := .type "tuple_iterator", data := .fields #[.ref l, .int 0 0] }).push
   { cls := .type "enumerate", data := .fields #[.none, .bool false, .ref s.heap.objs.size, rawInt 0, .none, .none] }) (s.heap.objs.size + 1) s.heap.objs.size 0 .none := by
  have := Heap.get?_push_size (s.heap.push { cls := .type "tuple_iterator", data := .fields #[.ref l, .int 0 0] })
   (o := { cls := .type "enumerate", data := .fields #[.none, .bool false, .ref s.heap.objs.size, rawInt 0, .none, .none] }) rfl
  rw [hz] at this; exact this
 refine ⟨⟨_, he, rfl⟩, h _ he ⟨_, Heap.get?_push_of_some _ (Heap.get?_push_size _ rfl), rfl, rfl⟩ (by rw [Heap.size_push, hz]) fun b o x => Heap.get?_push_of_some _ (Heap.get?_push_of_some _ x)⟩
end L2
set_option Elab.async false
set_option linter.all false
set_option maxRecDepth 100000
set_option maxHeartbeats 4000000
namespace L2
open PySem PySem.Spec PyProof.Rows
section
variable {X : Cx} {pins : List (Addr × Obj)} {σ : St} {H : Hp} {s : Shared} {h' : Heap}
theorem Inv.turned2 {t' : Nat} {e it : Addr} (I : Inv X pins σ H s) (k : ∀ b o, b ≠ e -> b ≠ it -> s.heap.get? b = some o -> h'.get? b = some o) (fe : iE X pins H e) (fi : iE X pins H it) : Inv X pins σ H { s with heap := h', toks := t' } := by
 have nn : ∀ b u, H b = some u -> b ≠ e /\ b ≠ it := fun b u q => ⟨fun z => (by rw [z, fe.1] at q; cases q), fun z => (by rw [z, fi.1] at q; cases q)⟩
 have kk : ∀ b o, b ∉ [e, it] -> s.heap.get? b = some o -> h'.get? b = some o := fun b o hc q => k b o (fun z => hc (by simp [z])) (fun z => hc (by simp [z])) q
 refine I.step (g' := s.gens) (d' := s.drawn) (ch := [e, it]) (fun b hb => ?_) (fun b o _ _ hc q _ => kk b o hc q) (fun b o _ _ hc q _ => ⟨o.slots, kk b o hc q⟩) (fun _ _ _ _ n => n)
  (fun b o hc q => ⟨o, kk b o hc q⟩) (fun _ _ q => q) (fun _ _ _ q => q) (fun b ps q => ⟨#[], by rw [q]; simp⟩) (fun m hm => ?_) (fun b u q => ?_) I.bare
 ·have q : b = e \/ b = it := by simpa using hb
  rcases q with rfl | rfl
  ·exact ⟨fe.2.2.2.1, fe.2.1, fe.2.2.2.2.1, fe.2.2.2.2.2⟩
  ·exact ⟨fi.2.2.2.1, fi.2.1, fi.2.2.2.2.1, fi.2.2.2.2.2⟩
 ·obtain ⟨o, es, ep, ho, r⟩ := hm
  exact ⟨o, es, ep, k _ o (Ne.symm fe.2.1) (Ne.symm fi.2.1) ho, r⟩
 ·refine (I.hok b u q).stay (fun c v hc z => k c v ?_ ?_ z) (fun _ z => z) fun _ _ z => z
  ·rcases hc with z | z
   ·rw [z]; exact (nn b u q).1
   ·exact (nn c _ z).1
  ·rcases hc with z | z
   ·rw [z]; exact (nn b u q).2
   ·exact (nn c _ z).2
end
def Ite (K : PySem.W.Frag) (a : Addr) : It :=
 ⟨fun i H => ∃ xs x, SqT K H a xs /\ xs[i]? = some x, fun i H v H' => ∃ T x, v = .ref T /\ H T = none /\ H' = upd H T (.tup [.int i, x]) /\ ∀ xs, SqT K H a xs -> xs[i]? = some x, fun i H => ∃ xs, SqT K H a xs /\ xs.length <= i⟩
theorem xf {P : Program} {w : World} {K : PySem.W.Frag} {elts : List Expr} {x1 : _} {pos : Pos} (a e it : Addr) : Turn P w K (.Tuple elts x1 pos) (Ite K a) [e, it] e (fun i h => (∃ old, IsEnum h e it i old) /\ h.IsTupleIter it a i) where
 mem := by simp
 obj := fun i h st b hb => by
  have q : b = e \/ b = it := by simpa using hb
  rcases q with rfl | rfl
  ·obtain ⟨⟨old, st⟩, _⟩ := st
   exact ⟨_, st, fun v z => by
    have z' : Data.fields _ = Data.cell v := z
    cases z'⟩
  ·obtain ⟨_, o, e, c, d⟩ := st
   exact ⟨o, e, fun v z => by rw [d] at z; cases z⟩
 keep := fun i h h' st k => ⟨let ⟨old, z⟩ := st.1; ⟨old, k e (by simp) _ z⟩, st.2.at fun o z => k it (by simp) o z⟩
 item := by
  intro X hP hw hK hc i pins s σ H E I hf st hg
  subst hP hw hK
  obtain ⟨xs, x, hq, hx⟩ := hg
  obtain ⟨its, rv, p, hz⟩ := I.tuple hq
  obtain ⟨u, hu, ru⟩ := rv.get hx
  obtain ⟨⟨old, he⟩, hit⟩ := st
  have p' : s.heap.IsTuple a its.toArray := p
  have fe := hf e (by simp)
  have fi := hf it (by simp)
  have ne : e ≠ it := fun z => by
   subst z
   obtain ⟨o, e1, c, d⟩ := hit
   rw [he] at e1
   cases e1
   have c' : Value.type "enumerate" = Value.type "tuple_iterator" := c
   injection c' with c'
   exact absurd c' (by decide)
  have nae : a ≠ e := fun z => by
   subst z
   obtain ⟨o, e1, c, d⟩ := p'
   rw [he] at e1
   cases e1
   have c' : Value.type "enumerate" = Value.type "tuple" := c
   injection c' with c'
   exact absurd c' (by decide)
  have nai : a ≠ it := fun z => by
   subst z
   obtain ⟨o, e1, c, d⟩ := p'
   obtain ⟨o2, e2, c2, d2⟩ := hit
   rw [e1] at e2
   cases e2
   rw [c] at c2
   injection c2 with c'
   exact absurd c' (by decide)
  have hi : i < its.toArray.size := by
   have : i < its.length := (List.getElem?_eq_some_iff.mp hu).1
   simpa using this
  have D := wB (prog := X.prog) (w := X.w) (A := X.A.in1) (show X.A.in1.handled = none from I.ok.hd hc) it a nai its.toArray
  refine wpAny_pyNext_enum_itemD D he ⟨hit, p'⟩ hi ne (by simp [ne, Ne.symm nae]) fun y h1 tk hy ho st1 hT hsz hk => ?_
  have ey : y = u := by
   have : its.toArray[i]? = some u := by simpa using hu
   rw [this] at hy
   exact (Option.some.inj hy).symm
  subst ey
  refine ⟨_, rfl, wpAny_letOwnedTupleGo_enum ho fun h2 he2 hs2 => ?_⟩
  have fr : H s.heap.objs.size = none := I.hok.fresh (Nat.le_refl _)
  have I1 : Inv X pins σ (upd H s.heap.objs.size (.tup [.int i, x])) { s with heap := s.heap.push { cls := .type "tuple", data := .seq #[.int i tk, y] }, toks := tk + 1 } :=
   I.laid (o := .tup [.int i, x]) (fun b ob q => Heap.get?_push_of_some _ q) (Nat.le_refl _) ⟨by show 2 <= sizeLine; decide, [.int i tk, y], .cons ⟨tk, rfl⟩ (.cons ru .nil), ⟨_, Heap.get?_push_size _ rfl, rfl, _, rfl⟩⟩
  have lt : ∀ b ∈ [e, it], b < s.heap.objs.size := fun b hb => by
   have q : b = e \/ b = it := by simpa using hb
   rcases q with rfl | rfl
   ·exact Heap.lt_size he
   ·obtain ⟨o, e1, _⟩ := hit
    exact Heap.lt_size e1
  have f2 : ∀ b ∈ [e, it], iE X pins (upd H s.heap.objs.size (.tup [.int i, x])) b := fun b hb => by
   refine ⟨?_, (hf b hb).2⟩
   rw [ae (Nat.ne_of_lt (lt b hb))]
   exact (hf b hb).1
  have I2 : Inv X pins σ (upd H s.heap.objs.size (.tup [.int i, x])) { s with heap := h2, toks := tk + 1 } := by
   refine I1.turned2 (t' := tk + 1) (h' := h2) (fun b o b1 b2 q => ?_) (f2 e (by simp)) (f2 it (by simp))
   refine (hs2.2 b b1).trans ?_
   rcases Heap.get?_push_cases (show (s.heap.push { cls := .type "tuple", data := .seq #[.int i tk, y] }).get? b = some o from q) with ⟨rfl, rfl⟩ | z
   ·exact hT
   ·exact hk b o b1 b2 z
  refine ⟨.ref s.heap.objs.size, _, I2, rfl, ⟨s.heap.objs.size, x, rfl, fr, rfl, fun ys hy => by rw [I.tuple_inj hy hq]; exact hx⟩, ⟨⟨y, ?_⟩, ?_⟩, fun b hb => (f2 b hb).1⟩
  ·have : ((i + 1 : Nat) : Int) = (i : Int) + 1 := by push_cast; rfl
   rw [this]
   exact he2
  ·exact st1.1.at fun o z => (hs2.2 it (Ne.symm ne)).trans z
 done := by
  intro X hP hw hK hc i pins s σ H E I hf st hg
  subst hP hw hK
  obtain ⟨xs, hq, hx⟩ := hg
  obtain ⟨its, rv, p, hz⟩ := I.tuple hq
  obtain ⟨⟨old, he⟩, hit⟩ := st
  obtain ⟨f0, f1, f2, f3, f4, f5⟩ := hf it (by simp)
  have p' : s.heap.IsTuple a its.toArray := p
  have hl := rv.length
  have hT : s.TypeIs (.ref e) "enumerate" := ⟨_, he, rfl⟩
  unfold pyNext
  refine wpAny_bind (wpAny_attempt (wpAny_callSpecial?_slot (name := Str.ofString "__next__") hT F.slot_enumerate_next
   (wpAny_call_entry F.slot_enumerate_next hT F.entry_enumerate_next ?_ (F.args_enumerate_next_1 _))))
  show wpAny _ _ (field (.ref e) 2 >>= _) _ _ _
  refine wpAny_bind (wpAny_field he rfl (x := .ref it) rfl ?_)
  refine wpAny_bind (g7 (show X.A.in1.handled = none from I.ok.hd hc) hit p' (by simp; omega) fun h' x he' hx' => ?_)
  obtain ⟨o, ho, hcl⟩ := hx'
  refine wpAny_bind (wpAny_isInstance (T := "StopIteration") (b := true) ⟨o, ho, hcl⟩ isSubtype_stop ?_)
  exact wpAny_pure ⟨rfl, I.turned (t' := s.toks) (fun b o hb z => he' b o hb z) f0 f1 f3 f4 f5⟩
 self := fun _ _ _ _ _ st h => let ⟨_, z⟩ := st.1; wpAny_pyIter_enum z h
section
variable {X : Cx}
def BW (K : PySem.W.Frag) (tl : TA) : TI := fun σ H R => tl σ H fun vs H1 => ∃ a, vs = [.ref a] /\ (∃ xs, SqT K H1 a xs) /\ R (Ite K a) H1
theorem mC : bootBuiltins "enumerate" = some (.type "enumerate") := by decide +kernel
theorem p9 {elts : List Expr} {x1 : _} {tpos : Pos} {l : Expr} {tl : TA} {p pos : Pos} (hg : Gl X "enumerate") (hm : X.mg "enumerate" = none) (hl : PA X [l] tl) (hs : starEach [l] X.env = [(false, eval l X.env)] := by rfl) :
  PI X (.Tuple elts x1 tpos) (.Call (.Name "enumerate" p) [l] [] pos) (BW X.K tl) := by
 intro pins s σ H R I h
 refine Call_ (jA I hg hm mC (PyProof.Rows.callWith_type1 (thn (hl pos pins s σ H _ I h) fun us s1 ⟨vs, H1, I1, r1, q1⟩ => ?_) hs rfl))
 obtain ⟨a, e, ⟨xs, hq⟩, q⟩ := q1
 subst e
 cases r1 with
 | cons r rr =>
  cases rr
  cases r
  obtain ⟨its, rv, p, hz⟩ := I1.tuple hq
  refine jN (show s1.heap.IsTuple a its.toArray from p) fun h' he hit hsz hk => ?_
  refine wpAny_pyIter_enum he ?_
  refine ⟨s1.heap.objs.size + 1, [s1.heap.objs.size + 1, s1.heap.objs.size], _, _, H1, rfl, I1.kept (t' := s1.toks) hk, xf a _ s1.heap.objs.size, ⟨⟨_, he⟩, hit⟩, fun b hb => ?_, q⟩
  have e : b = s1.heap.objs.size + 1 \/ b = s1.heap.objs.size := by simpa using hb
  rcases e with rfl | rfl
  ·exact I1.fpOk (Nat.le_succ _) (I1.hok.fresh (Nat.le_succ _))
  ·exact I1.fpOk (Nat.le_refl _) (I1.hok.fresh (Nat.le_refl _))
end
theorem nC {K : PySem.W.Frag} {a : Addr} {xs : List V} {g : TG} {tb : TS} {D : Ends} {σ : St} {H : Hp} (Pv : Nat -> St -> Hp -> Prop) (h0 : Pv 0 σ H) (hl : ∀ i σ H, i <= xs.length -> Pv i σ H -> SqT K H a xs)
  (hs : ∀ i x σ H T, xs[i]? = some x -> Pv i σ H -> H T = none -> g (.ref T) σ (upd H T (.tup [.int i, x])) fun σ2 H2 => tb { D with nx := Pv (i + 1), ct := Pv (i + 1), bk := D.nx } σ2 H2) (hd : ∀ σ H, Pv xs.length σ H -> D.nx σ H) :
  ∃ W : Nat -> Nat -> St -> Hp -> Prop, (∃ m, W 0 m σ H) /\ ∀ i m σ H, W i m σ H ->
   ((Ite K a).stop i H /\ D.nx σ H) \/ ((Ite K a).go i H /\ ∃ N : St -> Hp -> Prop, (∀ σ' H', N σ' H' -> ∃ m', m' < m /\ W (i + 1) m' σ' H') /\ ∀ x H', (Ite K a).yld i H x H' -> g x σ H' fun σ2 H2 => tb { D with nx := N, ct := N, bk := D.nx } σ2 H2) := by
 refine ⟨fun i m σ H => m = xs.length - i /\ i <= xs.length /\ Pv i σ H, ⟨xs.length, by simp, Nat.zero_le _, h0⟩, ?_⟩
 rintro i m σ H ⟨rfl, hi, p⟩
 have q := hl i σ H hi p
 by_cases hlt : i < xs.length
 ·refine .inr ⟨⟨xs, xs[i], q, by simp [hlt]⟩, Pv (i + 1), fun σ' H' p' => ⟨xs.length - (i + 1), by omega, rfl, hlt, p'⟩, fun x H' y => ?_⟩
  obtain ⟨T, x0, rfl, hT, rfl, y⟩ := y
  exact hs i x0 σ _ T (y xs q) p hT
 ·have e : i = xs.length := by omega
  subst e
  exact .inl ⟨⟨xs, q, Nat.le_refl _⟩, hd σ H p⟩
end L2
set_option Elab.async false
set_option linter.all false
set_option maxRecDepth 100000
set_option maxHeartbeats 4000000
namespace L2
open PySem PySem.Spec PyProof.Rows
theorem wc {acc : Array Value} {n : Nat} (h : ItemsOf (fun i v => ∃ t, v = .int (0 + (i : Int) * 1) t) acc n) : Vals ((List.range n).map fun i : Nat => V.int i) acc.toList := by
 have go : ∀ (n : Nat) (us : List Value), us.length = n -> (∀ (j : Nat) (v : Value), us[j]? = some v -> ∃ t, v = Value.int (0 + (j : Int) * 1) t) -> Vals ((List.range n).map fun i : Nat => V.int i) us := by
  intro n
  induction n with
  | zero =>
   intro us hl _
   cases us with
   | nil => exact .nil
   | cons a r => cases hl
  | succ n ih =>
   intro us hl hv
   have ne : us ≠ [] := fun z => by rw [z] at hl; cases hl
   have e := List.dropLast_concat_getLast ne
   rw [<- e, List.range_succ, List.map_append]
   have hd : us.dropLast.length = n := by rw [List.length_dropLast, hl]; rfl
   refine (ih us.dropLast hd fun j v hj => ?_).append (.cons ?_ .nil)
   ·refine hv j v ?_
    have lt := (List.getElem?_eq_some_iff.mp hj).1
    rw [<- e, List.getElem?_append_left lt]
    exact hj
   ·obtain ⟨t, ht⟩ := hv n (us.getLast ne) (by rw [List.getLast_eq_getElem, List.getElem?_eq_getElem (by omega)]; simp [hl])
    rw [ht]
    exact ⟨t, by rw [Int.zero_add, Int.mul_one]⟩
 exact go n acc.toList (by rw [Array.length_toList, h.1]) fun j v hj => h.2 j v (by rw [<- Array.getElem?_toList]; exact hj)
section
variable {X : Cx} {a : Expr} {ta : TA} {p p2 pos pos2 : Pos}
def AE (ta : TA) : TE := fun σ H Q => ta σ H fun vs H1 => ∃ n : Nat, vs = [.int n] /\ n <= sizeLine /\ ∀ l, H1 l = none -> Q (.ref l) (upd H1 l (.lst ((List.range n).map fun i : Nat => V.int i)))
theorem pN (hc : X.calm = true) (hgl : Gl X "list") (hml : X.mg "list" = none) (hg : Gl X "range") (hm : X.mg "range" = none) (ha : PA X [a] ta)
  (hs : starEach [a] X.env = [(false, eval a X.env)] := by rfl) (hs2 : starEach [.Call (.Name "range" p2) [a] [] pos2] X.env = [(false, eval (.Call (.Name "range" p2) [a] [] pos2) X.env)] := by rfl) :
  PE X (.Call (.Name "list" p) [.Call (.Name "range" p2) [a] [] pos2] [] pos) (AE ta) := by
 intro pins s σ H Q I h
 refine wpAny_Call_Name_kw (jA I hgl hml oS ?_)
 refine PyProof.Rows.callWith_type1 ?_ hs2 rfl
 rw [hs2]
 refine Calls.spliced_cons ?_
 refine Call_ (jA I hg hm boot_range (PyProof.Rows.callWith_type1 (thn (ha pos2 pins s σ H _ I h) fun us s1 ⟨vs, H1, I1, r1, q1⟩ => ?_) hs rfl))
 obtain ⟨n, e, hn, q⟩ := q1
 subst e
 cases r1 with
 | cons r rr =>
  cases rr
  obtain ⟨t, rfl⟩ := r
  have big : sizeLine <= 2 ^ 24 := by decide
  have big2 : ((sizeLine : Nat) : Int) < 2 ^ 62 := by decide
  have hn62 : (n : Int) < 2 ^ 62 := by omega
  refine call_range_1 ?_
  refine Calls.spliced_nil ?_
  have sz : (s1.heap.push { cls := .type "range", data := .fields #[.int 0 s1.toks, .int n t, .int 1 (s1.toks + 1)] }).objs.size = s1.heap.objs.size + 1 := Heap.size_push _ _
  refine PySem.call_list_range (s := { s1 with heap := s1.heap.push { cls := .type "range", data := .fields #[.int 0 s1.toks, .int n t, .int 1 (s1.toks + 1)] }, toks := s1.toks + 1 + 1 }) (n := n) (I1.ok.hd hc) (IsRange.new ..) (small_one (by omega) (by omega) (by omega) hn62)
   (by rw [rangeSize_one]; split <;> omega) (by omega) fun h' tk acc' c' kp e hacc => ?_
  have kp1 : ∀ b o, s1.heap.get? b = some o -> h'.get? b = some o := fun b o f => kp b o (Heap.get?_push_of_some _ f)
  have ob : ObjOk X.prog X.w (upd H1 (s1.heap.push { cls := .type "range", data := .fields #[.int 0 s1.toks, .int n t, .int 1 (s1.toks + 1)] }).objs.size (.lst ((List.range n).map fun i : Nat => V.int i))) h' (s1.heap.push { cls := .type "range", data := .fields #[.int 0 s1.toks, .int n t, .int 1 (s1.toks + 1)] }).objs.size (.lst ((List.range n).map fun i : Nat => V.int i)) := by
   refine ⟨by rw [List.length_map, List.length_range]; exact hn, acc'.toList, c', wc hacc, ?_⟩
   exact e
  exact ⟨.ref _, _, I1.laid (t' := tk) kp1 (by rw [sz]; exact Nat.le_succ _) ob, rfl, q _ (I1.hok.fresh (by rw [sz]; exact Nat.le_succ _))⟩
end
structure DefMk (P : Program) (w : World) (K : PySem.W.Frag) (mg : Str -> Option Value) (base : Heap) (x : Str) (C : Addr) (k : Nat) (ps : List Str) (sp : Sp) : Prop where
 m : mg x = some (.ref C)
 cl : Cls K C
 ex : ∃ (f : Addr) (fd : FuncData), Mk K C f /\ Binds K fd ps [] /\ FnOk P w K mg base CX0 k f fd ps sp
theorem zT {X : Cx} {x : Str} {C : Addr} {j k : Nat} {ps : List Str} {sp : Sp} {p pos : Pos} {e : Expr} {es : List Expr} {t : TA} (G : DefMk X.prog X.w X.K X.mg X.base x C k ps sp) (hr : Room j X.A) (ha : PA X (e :: es) t) (hkj : k + 1 <= j := by decide) (hg : Gl X x := by rfl) (hdb : (x == ("__debug__" : Str)) = false := by decide)
  (he : starEach (e :: es) X.env = (false, eval e X.env) :: starEach es X.env := by rfl) (hpl : (backTo pos (starEach es X.env)).any (·.1) = false := by rfl) : PE X (.Call (.Name x p) (e :: es) [] pos) (BL C sp [] E0 t) := by
 obtain ⟨f, fd, M, hb, F⟩ := G.ex
 exact Bc M F (hr.mono hkj) hg G.m hb .nil AF ha hdb he hpl
structure DefMe (P : Program) (w : World) (K : PySem.W.Frag) (mg : Str -> Option Value) (base : Heap) (C : Addr) (m : Str) (k : Nat) (ps : List Str) (sp : Sp) : Prop where
 cl : Cls K C
 ex : ∃ (f : Addr) (fd : FuncData), Meth K C m f /\ Binds K fd ps [] /\ FnOk P w K mg base CX0 k f fd ps sp
theorem vM {X : Cx} {m : Str} {C : Addr} {j k : Nat} {ps : List Str} {sp : Sp} {apos pos : Pos} {o e : Expr} {es : List Expr} {ta : TE} {t : TA} {pl : Sem Bool} (G : DefMe X.prog X.w X.K X.mg X.base C m k ps sp) (hr : Room j X.A) (ho : PE X o ta) (ha : PA X (e :: es) t) (hkj : k <= j := by decide)
  (hst : starEach (e :: es) X.env = (false, eval e X.env) :: starEach es X.env := by rfl) (hpl : (backTo pos (starEach es X.env)).any (·.1) = false := by rfl)
  (ht : eval (.Call (.Attribute o m apos) (e :: es) [] pos) X.env = (do
   let ov <- eval o X.env
   standAt apos.atName
   let (f, first) <- holding [ov] (getMethod ov m pl)
   callWith pos f first (backTo pos (starEach (e :: es) X.env)) (backToKw pos (keywordEach [] X.env))) := by rfl) :
  PE X (.Call (.Attribute o m apos) (e :: es) [] pos) (xU C m sp [] E0 ta t) := by
 obtain ⟨f, fd, hm, hb, F⟩ := G.ex
 exact Bf ho G.cl hm F (hr.mono hkj) hb .nil AF ha hst hpl ht
end L2
set_option Elab.async false
set_option linter.all false
set_option maxRecDepth 100000
set_option maxHeartbeats 4000000
namespace L2
open PySem PySem.Spec PyProof.Rows
section
variable {prog : Program} {w : World} {A : Around} {E : Value -> Shared -> Prop} {s : Shared}
structure ZipFar (z TI TO i1 i2 : Addr) (fp1 fp2 : List Addr) : Prop where
 TIz : TI ≠ z
 TOz : TO ≠ z
 TITO : TI ≠ TO
 i1z : i1 ≠ z
 i2z : i2 ≠ z
 TIi1 : TI ≠ i1
 TIi2 : TI ≠ i2
 TOi1 : TO ≠ i1
 TOi2 : TO ≠ i2
 i12 : i1 ≠ i2
 z1 : z ∉ fp1
 TO1 : TO ∉ fp1
 i21 : i2 ∉ fp1
 z2 : z ∉ fp2
 TO2 : TO ∉ fp2
 i12' : i1 ∉ fp2
variable {z TI TO i1 i2 : Addr} {fp1 fp2 : List Addr} {n1 n2 k : Nat} {P1 P2 : Nat -> Value -> Prop} {St1 St2 : Nat -> Heap -> Prop} {a b : Value}
end
end L2
set_option Elab.async false
set_option linter.all false
set_option maxRecDepth 100000
set_option maxHeartbeats 4000000
namespace L2
open PySem PySem.Spec PyProof.Rows
section
variable {X : Cx} {pins : List (Addr × Obj)} {σ : St} {H : Hp} {s : Shared} {h' : Heap}
end
section
variable {X : Cx}
end
end L2
set_option Elab.async false
set_option linter.all false
set_option maxRecDepth 100000
set_option maxHeartbeats 4000000
namespace L2
open PySem PySem.Spec PyProof.Rows
inductive EqN (K : PySem.W.Frag) (H : Hp) : V -> V -> Prop where
 | non : EqN K H .non .non
 | tup {a b : Addr} {ns : List Int} (ha : SqT K H a (ns.map V.int)) (hb : SqT K H b (ns.map V.int)) : EqN K H (.ref a) (.ref b)
section
variable {X : Cx} {pins : List (Addr × Obj)} {σ : St} {H : Hp} {s : Shared}
theorem vj {ns : List Int} {us : List Value} (r : Vals (ns.map V.int) us) : ∀ (j : Nat) (u : Value), us[j]? = some u -> ∃ n t, ns[j]? = some n /\ u = Value.int n t := by
 intro j u hu
 have hj : j < us.length := (List.getElem?_eq_some_iff.mp hu).1
 have hl := r.length
 rw [List.length_map] at hl
 obtain ⟨v, hv, rv⟩ := r.get (i := j) (x := V.int (ns[j]'(by omega))) (by rw [List.getElem?_map, List.getElem?_eq_getElem (by omega)]; rfl)
 rw [hu] at hv
 cases hv
 obtain ⟨t, rfl⟩ := (show ∃ t, u = Value.int _ t from rv)
 exact ⟨_, t, List.getElem?_eq_getElem (by omega), rfl⟩
end
end L2
set_option Elab.async false
set_option linter.all false
set_option maxRecDepth 100000
set_option maxHeartbeats 4000000
namespace L2
open PySem PySem.Spec PyProof.Rows
def yJ (K : PySem.W.Frag) (a : Addr) : It :=
 ⟨fun i H => ∃ xs x, SqL K H a xs /\ xs[i]? = some x, fun i H v H' => ∃ T x, v = .ref T /\ H T = none /\ H' = upd H T (.tup [.int i, x]) /\ ∀ xs, SqL K H a xs -> xs[i]? = some x, fun i H => ∃ xs, SqL K H a xs /\ xs.length <= i⟩
theorem wq {P : Program} {w : World} {K : PySem.W.Frag} {elts : List Expr} {x1 : _} {pos : Pos} (a e it : Addr) : Turn P w K (.Tuple elts x1 pos) (yJ K a) [e, it] e (fun i h => (∃ old, IsEnum h e it i old) /\ h.IsListIter it a i) where
 mem := by simp
 obj := fun i h st b hb => by
  have q : b = e \/ b = it := by simpa using hb
  rcases q with rfl | rfl
  ·obtain ⟨⟨old, st⟩, _⟩ := st
   exact ⟨_, st, fun v z => by
    have z' : Data.fields _ = Data.cell v := z
    cases z'⟩
  ·obtain ⟨_, o, e, c, d⟩ := st
   exact ⟨o, e, fun v z => by rw [d] at z; cases z⟩
 keep := fun i h h' st k => ⟨let ⟨old, z⟩ := st.1; ⟨old, k e (by simp) _ z⟩, st.2.at fun o z => k it (by simp) o z⟩
 item := by
  intro X hP hw hK hc i pins s σ H E I hf st hg
  subst hP hw hK
  obtain ⟨xs, x, hq, hx⟩ := hg
  obtain ⟨its, rv, p, hz⟩ := I.list hq
  obtain ⟨u, hu, ru⟩ := rv.get hx
  obtain ⟨⟨old, he⟩, hit⟩ := st
  have p' : s.heap.IsList a its.toArray := p.isList
  have fe := hf e (by simp)
  have fi := hf it (by simp)
  have ne : e ≠ it := fun z => by
   subst z
   obtain ⟨o, e1, c, d⟩ := hit
   rw [he] at e1
   cases e1
   have c' : Value.type "enumerate" = Value.type "list_iterator" := c
   injection c' with c'
   exact absurd c' (by decide)
  have nae : a ≠ e := fun z => by
   subst z
   obtain ⟨o, e1, c, d⟩ := p'
   rw [he] at e1
   cases e1
   have c' : Value.type "enumerate" = Value.type "list" := c
   injection c' with c'
   exact absurd c' (by decide)
  have nai : a ≠ it := fun z => by
   subst z
   obtain ⟨o, e1, c, d⟩ := p'
   obtain ⟨o2, e2, c2, d2⟩ := hit
   rw [e1] at e2
   cases e2
   rw [c] at c2
   injection c2 with c'
   exact absurd c' (by decide)
  have hi : i < its.toArray.size := by
   have : i < its.length := (List.getElem?_eq_some_iff.mp hu).1
   simpa using this
  have D := Draws.list (prog := X.prog) (w := X.w) (A := X.A.in1) (show X.A.in1.handled = none from I.ok.hd hc) it a nai its.toArray
  refine wpAny_pyNext_enum_itemD D he ⟨hit, p'⟩ hi ne (by simp [ne, Ne.symm nae]) fun y h1 tk hy ho st1 hT hsz hk => ?_
  have ey : y = u := by
   have : its.toArray[i]? = some u := by simpa using hu
   rw [this] at hy
   exact (Option.some.inj hy).symm
  subst ey
  refine ⟨_, rfl, wpAny_letOwnedTupleGo_enum ho fun h2 he2 hs2 => ?_⟩
  have fr : H s.heap.objs.size = none := I.hok.fresh (Nat.le_refl _)
  have I1 : Inv X pins σ (upd H s.heap.objs.size (.tup [.int i, x])) { s with heap := s.heap.push { cls := .type "tuple", data := .seq #[.int i tk, y] }, toks := tk + 1 } :=
   I.laid (o := .tup [.int i, x]) (fun b ob q => Heap.get?_push_of_some _ q) (Nat.le_refl _) ⟨by show 2 <= sizeLine; decide, [.int i tk, y], .cons ⟨tk, rfl⟩ (.cons ru .nil), ⟨_, Heap.get?_push_size _ rfl, rfl, _, rfl⟩⟩
  have lt : ∀ b ∈ [e, it], b < s.heap.objs.size := fun b hb => by
   have q : b = e \/ b = it := by simpa using hb
   rcases q with rfl | rfl
   ·exact Heap.lt_size he
   ·obtain ⟨o, e1, _⟩ := hit
    exact Heap.lt_size e1
  have f2 : ∀ b ∈ [e, it], iE X pins (upd H s.heap.objs.size (.tup [.int i, x])) b := fun b hb => by
   refine ⟨?_, (hf b hb).2⟩
   rw [ae (Nat.ne_of_lt (lt b hb))]
   exact (hf b hb).1
  have I2 : Inv X pins σ (upd H s.heap.objs.size (.tup [.int i, x])) { s with heap := h2, toks := tk + 1 } := by
   refine I1.turned2 (t' := tk + 1) (h' := h2) (fun b o b1 b2 q => ?_) (f2 e (by simp)) (f2 it (by simp))
   refine (hs2.2 b b1).trans ?_
   rcases Heap.get?_push_cases (show (s.heap.push { cls := .type "tuple", data := .seq #[.int i tk, y] }).get? b = some o from q) with ⟨rfl, rfl⟩ | z
   ·exact hT
   ·exact hk b o b1 b2 z
  refine ⟨.ref s.heap.objs.size, _, I2, rfl, ⟨s.heap.objs.size, x, rfl, fr, rfl, fun ys hy => by rw [I.list_inj hy hq]; exact hx⟩, ⟨⟨y, ?_⟩, ?_⟩, fun b hb => (f2 b hb).1⟩
  ·have : ((i + 1 : Nat) : Int) = (i : Int) + 1 := by push_cast; rfl
   rw [this]
   exact he2
  ·exact st1.1.at fun o z => (hs2.2 it (Ne.symm ne)).trans z
 done := by
  intro X hP hw hK hc i pins s σ H E I hf st hg
  subst hP hw hK
  obtain ⟨xs, hq, hx⟩ := hg
  obtain ⟨its, rv, p, hz⟩ := I.list hq
  obtain ⟨⟨old, he⟩, hit⟩ := st
  obtain ⟨f0, f1, f2, f3, f4, f5⟩ := hf it (by simp)
  have p' : s.heap.IsList a its.toArray := p.isList
  have hl := rv.length
  have hT : s.TypeIs (.ref e) "enumerate" := ⟨_, he, rfl⟩
  unfold pyNext
  refine wpAny_bind (wpAny_attempt (wpAny_callSpecial?_slot (name := Str.ofString "__next__") hT F.slot_enumerate_next
   (wpAny_call_entry F.slot_enumerate_next hT F.entry_enumerate_next ?_ (F.args_enumerate_next_1 _))))
  show wpAny _ _ (field (.ref e) 2 >>= _) _ _ _
  refine wpAny_bind (wpAny_field he rfl (x := .ref it) rfl ?_)
  refine wpAny_bind (wpAny_nextOf_list_end (show X.A.in1.handled = none from I.ok.hd hc) hit p' (by simp; omega) fun h' x he' hx' => ?_)
  obtain ⟨o, ho, hcl⟩ := hx'
  refine wpAny_bind (wpAny_isInstance (T := "StopIteration") (b := true) ⟨o, ho, hcl⟩ isSubtype_stop ?_)
  exact wpAny_pure ⟨rfl, I.turned (t' := s.toks) (fun b o hb z => he' b o hb z) f0 f1 f3 f4 f5⟩
 self := fun _ _ _ _ _ st h => let ⟨_, z⟩ := st.1; wpAny_pyIter_enum z h
section
variable {X : Cx}
def Cy (K : PySem.W.Frag) (tl : TA) : TI := fun σ H R => tl σ H fun vs H1 => ∃ a, vs = [.ref a] /\ (∃ xs, SqL K H1 a xs) /\ R (yJ K a) H1
theorem pD {elts : List Expr} {x1 : _} {tpos : Pos} {l : Expr} {tl : TA} {p pos : Pos} (hg : Gl X "enumerate") (hm : X.mg "enumerate" = none) (hl : PA X [l] tl) (hs : starEach [l] X.env = [(false, eval l X.env)] := by rfl) :
  PI X (.Tuple elts x1 tpos) (.Call (.Name "enumerate" p) [l] [] pos) (Cy X.K tl) := by
 intro pins s σ H R I h
 refine Call_ (jA I hg hm mC (PyProof.Rows.callWith_type1 (thn (hl pos pins s σ H _ I h) fun us s1 ⟨vs, H1, I1, r1, q1⟩ => ?_) hs rfl))
 obtain ⟨a, e, ⟨xs, hq⟩, q⟩ := q1
 subst e
 cases r1 with
 | cons r rr =>
  cases rr
  cases r
  obtain ⟨its, rv, p, hz⟩ := I1.list hq
  refine call_enumerate_list (show s1.heap.IsList a its.toArray from p.isList) fun h' he hit hsz hk => ?_
  refine wpAny_pyIter_enum he ?_
  refine ⟨s1.heap.objs.size + 1, [s1.heap.objs.size + 1, s1.heap.objs.size], _, _, H1, rfl, I1.kept (t' := s1.toks) hk, wq a _ s1.heap.objs.size, ⟨⟨_, he⟩, hit⟩, fun b hb => ?_, q⟩
  have e : b = s1.heap.objs.size + 1 \/ b = s1.heap.objs.size := by simpa using hb
  rcases e with rfl | rfl
  ·exact I1.fpOk (Nat.le_succ _) (I1.hok.fresh (Nat.le_succ _))
  ·exact I1.fpOk (Nat.le_refl _) (I1.hok.fresh (Nat.le_refl _))
end
theorem sJ {K : PySem.W.Frag} {a : Addr} {xs : List V} {g : TG} {tb : TS} {D : Ends} {σ : St} {H : Hp} (Pv : Nat -> St -> Hp -> Prop) (h0 : Pv 0 σ H) (hl : ∀ i σ H, i <= xs.length -> Pv i σ H -> SqL K H a xs)
  (hs : ∀ i x σ H T, xs[i]? = some x -> Pv i σ H -> H T = none -> g (.ref T) σ (upd H T (.tup [.int i, x])) fun σ2 H2 => tb { D with nx := Pv (i + 1), ct := Pv (i + 1), bk := D.nx } σ2 H2) (hd : ∀ σ H, Pv xs.length σ H -> D.nx σ H) :
  ∃ W : Nat -> Nat -> St -> Hp -> Prop, (∃ m, W 0 m σ H) /\ ∀ i m σ H, W i m σ H ->
   ((yJ K a).stop i H /\ D.nx σ H) \/ ((yJ K a).go i H /\ ∃ N : St -> Hp -> Prop, (∀ σ' H', N σ' H' -> ∃ m', m' < m /\ W (i + 1) m' σ' H') /\ ∀ x H', (yJ K a).yld i H x H' -> g x σ H' fun σ2 H2 => tb { D with nx := N, ct := N, bk := D.nx } σ2 H2) := by
 refine ⟨fun i m σ H => m = xs.length - i /\ i <= xs.length /\ Pv i σ H, ⟨xs.length, by simp, Nat.zero_le _, h0⟩, ?_⟩
 rintro i m σ H ⟨rfl, hi, p⟩
 have q := hl i σ H hi p
 by_cases hlt : i < xs.length
 ·refine .inr ⟨⟨xs, xs[i], q, by simp [hlt]⟩, Pv (i + 1), fun σ' H' p' => ⟨xs.length - (i + 1), by omega, rfl, hlt, p'⟩, fun x H' y => ?_⟩
  obtain ⟨T, x0, rfl, hT, rfl, y⟩ := y
  exact hs i x0 σ _ T (y xs q) p hT
 ·have e : i = xs.length := by omega
  subst e
  exact .inl ⟨⟨xs, q, Nat.le_refl _⟩, hd σ H p⟩
end L2
set_option Elab.async false
set_option linter.all false
set_option maxRecDepth 100000
set_option maxHeartbeats 4000000
namespace L2
open PySem PySem.Spec PyProof.Rows
theorem Aq {B : St} {t u a b : Option V} : ((((B.set 0 t).set 1 u).set 0 a).set 1 b) = (B.set 0 a).set 1 b := by
 rw [List.set_comm u a (l := B.set 0 t) (by decide : (1 : Nat) ≠ 0), List.set_set, List.set_set]
theorem xv {J : It} {n : Nat} {item : Nat -> V} {ix : List (Option Nat)} {g : TG} {te : TE} {σ : St} {H : Hp} {Qd : Addr -> Hp -> Prop} (Pv : Addr -> Nat -> List V -> Hp -> Prop)
  (hg : ∀ (T : Addr) (σ : St) (H : Hp) (Q : St -> Hp -> Prop) (i : Int) (x : V), H T = some (.tup [.int i, x]) -> Q ((σ.set 0 (some (.int i))).set 1 (some x)) H -> g (.ref T) σ H Q)
  (h0 : ∀ D, H D = none -> Pv D 0 [] (upd H D (.lst [])))
  (hgo : ∀ D i ys H', i < n -> Pv D i ys H' -> J.go i H' /\ ∀ x H2, J.yld i H' x H2 -> ∃ T, x = .ref T /\ H' T = none /\ H2 = upd H' T (.tup [.int i, item i]))
  (hst : ∀ D ys H', Pv D n ys H' -> J.stop n H')
  (hs : ∀ D i ys H' T (Q' : VK), H D = none -> i < n -> H' D = some (.lst ys) -> Pv D i ys H' -> H' T = none -> (∀ y H4, H4 D = some (.lst ys) -> ys.length < sizeLine -> Pv D (i + 1) (ys ++ [y]) (upd H4 D (.lst (ys ++ [y]))) -> Q' y H4) ->
   te (((aJ ix σ).set 0 (some (.int i))).set 1 (some (item i))) (upd H' T (.tup [.int i, item i])) Q')
  (hd : ∀ D ys H', H D = none -> H' D = some (.lst ys) -> Pv D n ys H' -> Qd D H') : mM J ix g te σ H Qd := by
 intro D hD
 refine ⟨fun i m σ' H' => m = n - i /\ i <= n /\ (σ' = aJ ix σ \/ ∃ t u, σ' = ((aJ ix σ).set 0 t).set 1 u) /\ ∃ ys, H' D = some (.lst ys) /\ Pv D i ys H', ⟨n, by simp, Nat.zero_le _, .inl rfl, [], ab, h0 D hD⟩, ?_⟩
 rintro i m σ' H' ⟨rfl, hi, hσ, ys, hy, p⟩
 by_cases hlt : i < n
 ·obtain ⟨g1, g2⟩ := hgo D i ys H' hlt p
  refine .inr ⟨g1, fun x H2 y => ?_⟩
  obtain ⟨T, rfl, hT, rfl⟩ := g2 x H2 y
  refine hg T σ' _ _ i (item i) ab ?_
  have es : ((σ'.set 0 (some (V.int i))).set 1 (some (item i))) = ((aJ ix σ).set 0 (some (V.int i))).set 1 (some (item i)) := by
   rcases hσ with z | ⟨t, u, z⟩
   ·rw [z]
   ·rw [z, Aq]
  show te ((σ'.set 0 (some (V.int i))).set 1 (some (item i))) _ _
  rw [es]
  refine hs D i ys _ T _ hD hlt hy p hT fun y H4 h4 hz p4 => ⟨ys, h4, hz, n - (i + 1), by omega, rfl, hlt, .inr ⟨_, _, rfl⟩, ys ++ [y], ab, p4⟩
 ·have e : i = n := by omega
  subst e
  exact .inl ⟨hst D ys H' p, hd D ys H' hD hy p⟩
end L2
set_option Elab.async false
set_option linter.all false
set_option maxRecDepth 100000
namespace L2
open PySem PySem.Spec PyProof.Rows
section
variable {X : Cx} {pins : List (Addr × Obj)} {σ : St} {H H' : Hp} {s : Shared} {h' : Heap}
end
theorem xH {k : Key} {v : Value} (h : oJ k v = true) : RelV (kV k) v := by
 rcases bK h with ⟨n, t, rfl, rfl⟩ | ⟨x, t, rfl, rfl⟩
 ·exact ⟨t, rfl⟩
 ·exact ⟨t, rfl⟩
section
variable {X : Cx}
abbrev l9 (v d : Addr) : HO := .ext fun h => h.IsItemsView v d
def Cg : V -> List V -> Hp -> VK -> Prop := fun x vs H Q => ∃ d kvs, x = .ref d /\ vs = [] /\ H d = some (.dK kvs) /\ ∀ v, H v = none -> Q (.ref v) (upd H v (l9 v d))
theorem Ah : MtM X "dict.items" Cg := by
 intro pins s σ H x vs v us Q I rx rv h
 obtain ⟨d, kvs, rfl, rfl, hd, q⟩ := h
 cases rx
 have hus := rv.zero
 subst hus
 obtain ⟨z, lo, vs, kv, dof⟩ := (show ObjOk X.prog X.w H s.heap d (.dK kvs) from I.hok d _ hd)
 refine call_meetsIn PySem.F.slot_dict_items dof.typeIs PySem.F.entry_dict_items (PySem.F.args_dict_items_1 _) (meets_dict_items (aQ X.prog X.w) d lo) ⟨⟨vs, dof⟩, ?_⟩
 refine ⟨.ref _, _, I.laid (o := l9 s.heap.objs.size d) (t' := s.toks) (fun b o e => Heap.get?_push_of_some _ e) (Nat.le_refl _) ?_, rfl, q _ (I.hok.fresh (Nat.le_refl _))⟩
 exact ⟨⟨_, Heap.get?_push_size _ rfl, rfl, rfl⟩, ⟨_, Heap.get?_push_size _ rfl⟩, fun h1 h2 ⟨o, ho, x⟩ kp => ⟨o, kp o ho, x⟩⟩
def AZ (ns : List Int) : Int := ns.foldl (· + ·) 0
theorem mI (ns : List Int) : ∀ n, n <= ns.length -> preSum (fun i => ns.getD i 0) n = (ns.take n).foldl (· + ·) 0
 | 0, _ => rfl
 | n + 1, h => by
  have hn : n < ns.length := h
  show preSum _ n + ns.getD n 0 = _
  rw [mI ns n (Nat.le_of_lt hn), List.take_add_one, List.getElem?_eq_getElem hn, List.foldl_append]
  simp [hn]
end
end L2
set_option Elab.async false
set_option linter.all false
set_option maxRecDepth 100000
namespace L2
open PySem PySem.Spec PyProof.Rows
section
variable {X : Cx}
end
end L2
set_option Elab.async false
set_option linter.all false
set_option maxRecDepth 100000
namespace L2
open PySem PySem.Spec PyProof.Rows
section
variable {X : Cx}
end
end L2
namespace PySem
open PyProof.Rows
namespace F
end F
section
variable {prog : Program} {w : World} {A : Around} {E : Value -> Shared -> Prop} {s : Shared}
end
end PySem
namespace L2
open PySem PySem.Spec PyProof.Rows
section
variable {X : Cx} {tg : Expr}
end
end L2
set_option Elab.async false
set_option linter.all false
set_option maxRecDepth 100000
set_option maxHeartbeats 4000000
namespace L2
open PySem PySem.Spec PyProof.Rows
section
variable {X : Cx}
end
section
variable {X : Cx}
theorem Be (K : PySem.W.Frag) {es : List Expr} {k : Nat} {pos : Pos} {t : TGs} {n : Nat} (hc : X.calm = true) (h : PGs X es t) (hK : X.K = K := by rfl)
  (hn : (assignEach es X.env).length = n := by rfl) (hst : (assignEach es X.env).findIdx? (·.1) = none := by rfl) : PG X (.Tuple es k pos) (CJ K n t) := by
 subst hK
 exact ic hc h hn hst
theorem zb {m : Str} {C : Addr} {j k : Nat} {ps : List Str} {sp : Sp} {apos pos : Pos} {o : Expr} {ta : TE} {pl : Sem Bool} (G : DefMe X.prog X.w X.K X.mg X.base C m k ps sp) (hr : Room j X.A) (ho : PE X o ta) (hkj : k <= j := by decide)
  (ht : eval (.Call (.Attribute o m apos) [] [] pos) X.env = (do
   let ov <- eval o X.env
   standAt apos.atName
   let (f, first) <- holding [ov] (getMethod ov m pl)
   callWith pos f first (backTo pos (starEach [] X.env)) (backToKw pos (keywordEach [] X.env))) := by rfl) :
  PE X (.Call (.Attribute o m apos) [] [] pos) (xU C m sp [] E0 ta BC) := by
 obtain ⟨f, fd, hm, hb, F⟩ := G.ex
 exact Ay ho G.cl hm F (hr.mono hkj) hb .nil AF ht
def CI (K : PySem.W.Frag) : List V -> Hp -> VK -> Prop := fun xs H Q => ∃ (a : Addr) (ns : List Int), xs = [.ref a] /\ SqL K H a (ns.map V.int) /\ Q (.int (AZ ns)) H
theorem sm (hc : X.calm = true) : gU X (.builtin "sum") (CI X.K) := by
 intro pins s σ H xs us Q I r h
 obtain ⟨a, ns, rfl, hS, q⟩ := h
 obtain ⟨u, rfl, ru⟩ := r.one
 cases (show u = Value.ref a from ru)
 obtain ⟨its, rv, ht', hz⟩ := I.list hS
 have ht : s.heap.IsList a its.toArray := ht'.isList
 have hlen := rv.length
 rw [List.length_map] at hlen
 have hlt : a < s.heap.objs.size := by obtain ⟨_, e, _⟩ := ht; exact Heap.lt_size e
 refine call_sum_walkG (wpAny_pyIter_list ht ?_)
 have W := Walks.list (prog := X.prog) (w := X.w) (A := X.A.in1) (I.ok.hd hc) s.heap.objs.size a (Nat.ne_of_lt hlt) its.toArray
 refine ⟨_, _, _, _, _, _, fun i => ns.getD i 0, rfl, W, ⟨⟨_, Heap.get?_push_size _ rfl, rfl, rfl⟩, ht.at fun o e => Heap.get?_push_of_some _ e⟩, fun b hb => ?_, fun i v hv => ?_, fun h' tk t' hk => ?_⟩
 ·rcases List.mem_cons.mp hb with z | z
  ·rw [z]; show _ < (Heap.push _ _).objs.size; rw [Heap.size_push]; exact Nat.lt_succ_self _
  ·rw [List.mem_singleton.mp z]; show _ < (Heap.push _ _).objs.size; rw [Heap.size_push]; exact Nat.lt_succ_of_lt hlt
 ·have e' : its[i]? = some v := by simpa using hv
  obtain ⟨n, t, e1, e2⟩ := vj rv i v e'
  exact ⟨t, by rw [e2]; show Value.int n t = Value.int (ns.getD i 0) t; rw [List.getD_eq_getElem?_getD, e1]; rfl⟩
 ·have I1 : Inv X pins σ H { s with heap := h', toks := tk } := I.kept (t' := tk) fun b o e => hk b o (fun hm => by
   rw [List.mem_singleton.mp hm] at e
   exact Nat.lt_irrefl _ (Heap.lt_size e)) (Heap.get?_push_of_some _ e)
  refine ⟨.int (AZ ns), H, I1, ⟨t', ?_⟩, q⟩
  show Value.int _ _ = Value.int _ _
  rw [List.size_toArray, <- hlen, mI ns _ (Nat.le_refl _), List.take_length]
  rfl
end
end L2
set_option Elab.async false
set_option linter.all false
set_option maxRecDepth 100000
set_option maxHeartbeats 4000000
namespace L2
open PySem PySem.Spec PyProof.Rows
section
variable {prog : Program} {w : World} {A : Around} {E : Value -> Shared -> Prop} {s : Shared}
structure ZipFar3 (z TI TO i1 i2 i3 : Addr) (fp1 fp2 fp3 : List Addr) : Prop where
 TIz : TI ≠ z
 TOz : TO ≠ z
 TITO : TI ≠ TO
 i1z : i1 ≠ z
 i2z : i2 ≠ z
 i3z : i3 ≠ z
 TIi1 : TI ≠ i1
 TIi2 : TI ≠ i2
 TIi3 : TI ≠ i3
 TOi1 : TO ≠ i1
 TOi2 : TO ≠ i2
 TOi3 : TO ≠ i3
 z1 : z ∉ fp1
 TO1 : TO ∉ fp1
 i21 : i2 ∉ fp1
 i31 : i3 ∉ fp1
 z2 : z ∉ fp2
 TO2 : TO ∉ fp2
 i12 : i1 ∉ fp2
 i32 : i3 ∉ fp2
 z3 : z ∉ fp3
 TO3 : TO ∉ fp3
 i13 : i1 ∉ fp3
 i23 : i2 ∉ fp3
variable {z TI TO i1 i2 i3 : Addr} {fp1 fp2 fp3 : List Addr} {n1 n2 n3 k : Nat} {P1 P2 P3 : Nat -> Value -> Prop} {St1 St2 St3 : Nat -> Heap -> Prop} {a b c : Value}
end
section
variable {X : Cx}
end
section
variable {X : Cx}
end
theorem dN {t u : TS} {D : Ends} {σ : St} {H : Hp} (R : St -> Hp -> Prop) (h1 : ∀ σ' H', R σ' H' -> u D σ' H') (h2 : ∀ D' : Ends, (∀ σ' H', R σ' H' -> D'.nx σ' H') -> t D' σ H) : yW t u D σ H :=
 h2 { D with nx := u D } h1
theorem jS {X : Cx} : gU X (.builtin "len") (fun xs H Q => ∃ a kvs, xs = [.ref a] /\ H a = some (.dK kvs) /\ Q (.int kvs.length) H) := by
 intro pins s σ H xs us Q I r h
 obtain ⟨a, kvs, rfl, ha, q⟩ := h
 obtain ⟨u, rfl, rx⟩ := vals1 r
 cases rx
 exact CW I (.inl ha) fun t s' I' => ⟨.int kvs.length, H, I', ⟨t, rfl⟩, q⟩
end L2
set_option Elab.async false
set_option linter.all false
set_option maxRecDepth 100000
set_option maxHeartbeats 4000000
namespace L2
open PySem PySem.Spec PyProof.Rows
theorem iy {env : Env} : ∀ {names : List (Str × NameKind)} {x : Str}, names.lookup x = some .cell ->
  (names.map fun (n, k) => if (k == NameKind.free && env.scope.kind == .function && env.kindOf n == some .cell) then (n, NameKind.cell) else (n, k)).lookup x = some .cell
 | [], _, h => by simp at h
 | (n, k) :: r, x, h => by
  have ih := @iy env r x
  show List.lookup x ((if (k == NameKind.free && env.scope.kind == .function && env.kindOf n == some .cell) = true then (n, NameKind.cell) else (n, k)) :: _) = _
  cases hx : x == n with
  | true =>
   simp only [List.lookup_cons, hx] at h
   cases h
   rw [if_neg (by simp)]
   simp [List.lookup_cons, hx]
  | false =>
   simp only [List.lookup_cons, hx] at h
   by_cases hc : (k == NameKind.free && env.scope.kind == .function && env.kindOf n == some .cell) = true
   ·rw [if_pos hc]; simp only [List.lookup_cons, hx]; exact ih h
   ·rw [if_neg hc]; simp only [List.lookup_cons, hx]; exact ih h
theorem gE {env : Env} : ∀ {names : List (Str × NameKind)} {x : Str} {k' : NameKind}, k' = .cell \/ k' = .free ->
  (names.map fun (n, k) => if (k == NameKind.free && env.scope.kind == .function && env.kindOf n == some .cell) then (n, NameKind.cell) else (n, k)).lookup x = some k' -> (x, NameKind.free) ∈ names \/ (x, NameKind.cell) ∈ names
 | [], _, _, _, h => by simp at h
 | (n, k) :: r, x, k', hk', h => by
  have ih := @gE env r x k' hk'
  have h' : List.lookup x ((if (k == NameKind.free && env.scope.kind == .function && env.kindOf n == some .cell) = true then (n, NameKind.cell) else (n, k)) :: (r.map fun (n, k) => if (k == NameKind.free && env.scope.kind == .function && env.kindOf n == some .cell) then (n, NameKind.cell) else (n, k))) = some k' := h
  cases hx : x == n with
  | true =>
   have hxn : x = n := by simpa using hx
   subst hxn
   by_cases hc : (k == NameKind.free && env.scope.kind == .function && env.kindOf x == some .cell) = true
   ·have hk : k = .free := by
     simp only [Bool.and_eq_true, beq_iff_eq] at hc
     exact hc.1.1
    subst hk
    exact .inl List.mem_cons_self
   ·rw [if_neg hc] at h'
    simp only [List.lookup_cons, beq_self_eq_true] at h'
    have hk : k = k' := Option.some.inj h'
    rcases hk' with z | z
    ·rw [hk, z]; exact .inr List.mem_cons_self
    ·rw [hk, z]; exact .inl List.mem_cons_self
  | false =>
   have up : (x, NameKind.free) ∈ r \/ (x, NameKind.cell) ∈ r := by
    refine ih ?_
    by_cases hc : (k == NameKind.free && env.scope.kind == .function && env.kindOf n == some .cell) = true
    ·rw [if_pos hc] at h'
     simpa only [List.lookup_cons, hx] using h'
    ·rw [if_neg hc] at h'
     simpa only [List.lookup_cons, hx] using h'
   rcases up with z | z
   ·exact .inl (List.mem_cons_of_mem _ z)
   ·exact .inr (List.mem_cons_of_mem _ z)
theorem BlkScope.rel {NX : List Str} {scX : Scope} {N : List Str} {ix : List (Option Nat)} {sc : Scope} {env : Env} (S : BlkScope NX scX N ix sc) : BlkScope NX (relabel scX env) N ix sc :=
 ⟨S.kind, S.nd, S.nocell, S.locs, fun y hy hf => by
  rcases S.free y hy hf with z | z
  ·exact .inl (iy z)
  ·exact fK z, S.len, S.at_⟩
structure BlkScope1 (NX : List Str) (scX : Scope) (N : List Str) (ix : List (Option Nat)) (sc : Scope) (x : Str) : Prop where
 kind : sc.kind = .function
 nd : N.Nodup
 cell : sc.names.lookup x = some .cell
 only : ∀ y ∈ sc.names, y.2 = .cell -> y.1 = x
 lay : ∀ n cl, cellsFrom n sc.names cl = (x, n) :: cl
 lays : ∀ h, pushCells h sc.names = h.push { cls := .type "cell", data := .cell none }
 locs : ∀ y ∈ sc.names, y.2 = .local -> sc.names.lookup y.1 = some .local
 free : ∀ y ∈ sc.names, y.2 = .free -> scX.names.lookup y.1 = some .cell \/ scX.names.lookup y.1 = some .free
 nofree : ∀ y ∈ sc.names, y.2 = .free -> y.1 ≠ x
 len : ix.length = N.length
 at_ : ∀ p ∈ N.zip ix, ∀ i, p.2 = some i -> NX[i]? = some p.1 /\ sc.names.lookup p.1 = some .free
def c9 (X : Cx) (N : List Str) (scope : Scope) (x : Str) (fp : List Addr) (s : Shared) (H : Hp) (C c : Addr) : Cx :=
 { prog := X.prog, w := X.w, K := X.K, mg := X.mg, base := X.base, A := X.A, N := N, s₀ := s, H₀ := H, env := compEnvC scope ((x, c) :: bA X.env.cells scope.names []) C X.env, outer := X.stack, stack := X.stack, ex := fp, fn := fun y => y == x, calm := X.calm, pn := X.pn, xe := fun _ _ => False }
section
variable {X : Cx} {pins : List (Addr × Obj)} {σ : St} {H : Hp} {s : Shared} {N : List Str} {ix : List (Option Nat)} {scope : Scope} {fp : List Addr} {x : Str}
theorem BlkScope1.clos (S : BlkScope1 X.N X.env.scope N ix scope x) (ok : X.Ok) : ∀ y ∈ scope.names, y.2 = .free -> ∃ c, X.env.cells.lookup y.1 = some c := fun y hy hf => ok.has y.1 (S.free y hy hf)
theorem wQ {D C c : Addr} {h' : Heap} {tk : Nat} {m : Str -> Option Value} (I : Inv X pins σ H s) (S : BlkScope1 X.N X.env.scope N ix scope x) (hf : ∀ b ∈ fp, iE X pins H b)
  (hfo : ∀ b ∈ fp, ∃ o, s.heap.get? b = some o /\ ∀ v, o.data ≠ .cell v)
  (hD : s.heap.objs.size <= D) (hC : s.heap.objs.size <= C) (hc : s.heap.objs.size <= c) (hDC : D ≠ C) (hcD : c ≠ D) (hcC : c ≠ C) (hk : ∀ b o, s.heap.get? b = some o -> h'.get? b = some o) (hns : h'.Ns C m)
  (hl : ∃ n, h'.get? D = some { cls := .type "list", data := .seq ([] : List Value).toArray n }) (hce : h'.get? c = some { cls := .type "cell", data := .cell none }) :
  Inv (c9 X N scope x fp s H C c) pins (aJ ix σ) (upd H D (.lst [])) { s with heap := h', toks := tk } := by
 have fresh : ∀ {a : Addr}, s.heap.objs.size <= a -> H a = none := fun h => I.hok.fresh h
 have cl_of : ∀ y d, (bA X.env.cells scope.names []).lookup y = some d -> X.env.cells.lookup y = some d := fun y d e => by
  rcases gO _ _ _ e with ⟨h1, h2⟩ | h1
  ·obtain ⟨c', e'⟩ := S.clos I.ok _ h1 rfl
   have e'' : X.env.cells.lookup y = some c' := e'
   rw [e''] at h2
   rw [e'']
   exact congrArg some h2
  ·simp at h1
 have lk : ∀ y d, ((x, c) :: bA X.env.cells scope.names []).lookup y = some d -> (y = x /\ d = c) \/ (y ≠ x /\ X.env.cells.lookup y = some d) := fun y d e => by
  cases hy : y == x with
  | true =>
   simp only [List.lookup_cons, hy] at e
   exact .inl ⟨by simpa using hy, (Option.some.inj e).symm⟩
  | false =>
   simp only [List.lookup_cons, hy] at e
   exact .inr ⟨by simpa using hy, cl_of y d e⟩
 have lkx : ((x, c) :: bA X.env.cells scope.names []).lookup x = some c := by simp
 have lky : ∀ {y d}, y ≠ x -> (bA X.env.cells scope.names []).lookup y = some d -> ((x, c) :: bA X.env.cells scope.names []).lookup y = some d := fun {y d} hy e => by
  have : (y == x) = false := by simpa using hy
  simp only [List.lookup_cons, this]; exact e
 have ltO : ∀ {b : Addr} {o : Obj}, s.heap.get? b = some o -> b < s.heap.objs.size := fun e => Heap.lt_size e
 have neC : ∀ {b : Addr} {o : Obj}, s.heap.get? b = some o -> b ≠ C := fun e => Nat.ne_of_lt (Nat.lt_of_lt_of_le (ltO e) hC)
 have neD : ∀ {b : Addr} {o : Obj}, s.heap.get? b = some o -> b ≠ D := fun e => Nat.ne_of_lt (Nat.lt_of_lt_of_le (ltO e) hD)
 have nec : ∀ {b : Addr} {o : Obj}, s.heap.get? b = some o -> b ≠ c := fun e => Nat.ne_of_lt (Nat.lt_of_lt_of_le (ltO e) hc)
 have cellG : ∀ y d, X.env.cells.lookup y = some d -> ∃ o, s.heap.get? d = some o := fun y d e => by
  obtain ⟨v, o, ho, _⟩ := I.cell y d e
  exact ⟨o, ho⟩
 refine ⟨⟨I.ok.mod, ?_, I.ok.glob, I.ok.blt, hC, fun y z d e1 e2 => ?_, fun y hy => ?_, fun y d h e => ?_, I.ok.hd, I.ok.frames, .inl rfl, fun b hb => ?_, I.bs, Nat.le_trans I.ok.bsz I.sz, fun b o e hb => ?_, fun b hb hb2 => ?_, I.stack, I.stkFree⟩,
  rfl, I.bare, Un.laid hk hD (fresh hD), ⟨m, hns, fun j y v e1 e2 e3 => ?_⟩, fun y d e => ?_, ?_, fun y d e => ?_, fun p hp => ?_, I.hok.laid hk hD ?_, ?_⟩
 ·exact S.kind
 ·rcases lk y d e1 with ⟨a1, a2⟩ | ⟨a1, a2⟩
  ·rcases lk z d e2 with ⟨b1, b2⟩ | ⟨b1, b2⟩
   ·rw [a1, b1]
   ·obtain ⟨o, ho⟩ := cellG z d b2
    exact absurd a2 (nec ho)
  ·rcases lk z d e2 with ⟨b1, b2⟩ | ⟨b1, b2⟩
   ·obtain ⟨o, ho⟩ := cellG y d a2
    exact absurd b2 (nec ho)
   ·exact I.ok.inj y z d a2 b2
 ·have hy' : (y, NameKind.free) ∈ scope.names \/ (y, NameKind.cell) ∈ scope.names := by
   rcases hy with hy | hy
   ·exact gE (.inl rfl) hy
   ·exact gE (.inr rfl) hy
  rcases hy' with z | z
  ·obtain ⟨d, e⟩ := S.clos I.ok _ z rfl
   exact ⟨d, lky (S.nofree _ z rfl) (eh _ e _ _ (.inl z))⟩
  ·have : y = x := S.only _ z rfl
   rw [this]
   exact ⟨c, lkx⟩
 ·have hx : y = x := by
   have h' : (y == x) = true := h
   simpa using h'
  rcases lk y d e with ⟨a1, a2⟩ | ⟨a1, a2⟩
  ·rw [a2]; exact hc
  ·exact absurd hx a1
 ·obtain ⟨f0, f1, f2, f3, f4, f5⟩ := hf b hb
  obtain ⟨o, e, _⟩ := hfo b hb
  refine ⟨neC e, fun y d ec => ?_⟩
  rcases lk y d ec with ⟨a1, a2⟩ | ⟨a1, a2⟩
  ·rw [a2]; exact Ne.symm (nec e)
  ·exact f4 y d a2
 ·obtain ⟨f0, f1, f2, f3, f4, f5⟩ := hf b hb
  rcases f3 with z | z
  ·exact I.ok.noex b o e z
  ·exact absurd (Nat.lt_of_lt_of_le (Heap.lt_size (I.ok.bs b o e).1) z) (Nat.lt_irrefl _)
 ·obtain ⟨f0, f1, f2, f3, f4, f5⟩ := hf b hb
  rcases List.mem_cons.mp (I.stkSub b hb2) with z | z
  ·exact f1 z
  ·exact f2 z
 ·-- a name's value
  obtain ⟨mX, hnX, hlX⟩ := id I.loc
  have hj : (aJ ix σ)[j]? = some (some v) := e2
  unfold aJ at hj
  rw [List.getElem?_map] at hj
  cases ej : ix[j]? with
  | none => rw [ej] at hj; cases hj
  | some o =>
   rw [ej] at hj
   cases o with
   | none => cases hj
   | some i =>
    have hj' : (σ[i]?).join = some v := Option.some.inj hj
    have hz : (y, some i) ∈ N.zip ix := List.mem_iff_getElem?.mpr ⟨j, by rw [List.getElem?_zip_eq_some]; exact ⟨e1, ej⟩⟩
    obtain ⟨hNi, hfr⟩ := S.at_ _ hz i rfl
    have hmem := ji hfr
    have hσ : σ[i]? = some (some v) := by
     cases q : σ[i]? with
     | none => rw [q] at hj'; cases hj'
     | some w' =>
      rw [q] at hj'
      have q' : w' = some v := hj'
      rw [q']
    have hvx : X.env.scope.names.lookup y = some .cell \/ X.env.scope.names.lookup y = some .free := S.free _ hmem rfl
    obtain ⟨u, r, lk'⟩ := hlX i y v hNi hσ (.inr hvx)
    refine ⟨u, r, .inr ⟨?_, ?_⟩⟩
    ·exact fK hfr
    ·rcases lk' with ⟨k, _⟩ | ⟨k, d, ec, ci⟩
     ·have k' : X.env.scope.names.lookup y = some .local := k
      rcases hvx with z | z
      ·rw [z] at k'; cases k'
      ·rw [z] at k'; cases k'
     ·obtain ⟨oc, hoc, hocd⟩ := ci
      exact ⟨d, lky (S.nofree _ hmem rfl) (eh _ ec _ _ (.inl hmem)), oc, hk d oc hoc, hocd⟩
 ·rcases lk y d e with ⟨a1, a2⟩ | ⟨a1, a2⟩
  ·rw [a2]; exact ⟨none, _, hce, rfl⟩
  ·obtain ⟨v, o, ho, hd⟩ := I.cell y d a2
   exact ⟨v, o, hk d o ho, hd⟩
 ·show upd H D (.lst []) C = none
  rw [ae (Ne.symm hDC)]
  exact fresh hC
 ·rcases lk y d e with ⟨a1, a2⟩ | ⟨a1, a2⟩
  ·rw [a2, ae hcD]; exact fresh hc
  ·obtain ⟨o, ho⟩ := cellG y d a2
   rw [ae (neD ho)]
   exact I.freeC y d a2
 ·obtain ⟨e, n, ne, nf, d⟩ := I.pin p hp
  refine ⟨hk _ _ e, by rw [ae (neD e)]; exact n, neC e, fun z => ?_, d⟩
  rcases List.mem_cons.mp (I.stkSub p.1 z) with q | q
  ·exact ne q
  ·exact nf q
 ·obtain ⟨n, hl⟩ := hl
  exact ⟨Nat.zero_le _, [], n, .nil, hl⟩
 ·show (aJ ix σ).length = N.length
  unfold aJ
  rw [List.length_map]
  exact S.len
theorem A4 {M : Model} {A : Around} {E : Value -> Shared -> Prop} {s : Shared} {globals : Addr} {cl : List (Str × Addr)} {qual : Str} {env : Env} {Q : Env -> Shared -> Prop} (hlay : ∀ n cl, cellsFrom n scope.names cl = (x, n) :: cl)
  (hlays : ∀ h, pushCells h scope.names = h.push { cls := .type "cell", data := .cell none })
  (h : Q { scope, locals := s.heap.objs.size, globals, cells := (x, s.heap.objs.size + 1) :: cl, qual, func := none, code := env.code, frame := env.frame, builtins := env.builtins }
   { s with heap := (s.heap.push { cls := .type "dict", data := .dict #[] }).push { cls := .type "cell", data := .cell none } }) :
  wpAny M A (newFunctionEnv scope globals cl [] qual none .none (some env)) Q E s := by
 simp only [newFunctionEnv, Option.isSome_some, if_true]
 refine wpAny_bind (wpAny_alloc ?_)
 refine wpAny_bind (wpAny_layCells _ (fun name kind cells => by cases hkc : kind == NameKind.cell <;> simp [hkc]) _ _ _ _ ?_)
 rw [hlay, hlays, show ({ s with heap := s.heap.push { cls := .type "dict", data := .dict #[] } } : Shared).heap.objs.size = s.heap.objs.size + 1 from Heap.size_push ..]
 exact wpAny_bind (wpAny_pure (wpAny_pure h))
variable {tg elt iter : Expr} {pos spos : Pos} {J : It} {it : Addr} {tn : Nat -> Heap -> Prop} {g : TG} {te : TE} {wi : TI}
theorem yK {Qd : Addr -> Hp -> Prop} {RR : Value -> Addr -> Result -> Shared -> Prop} {E : Value -> Shared -> Prop} (I : Inv X pins σ H s) (hc : X.calm = true) (S : BlkScope1 X.N X.env.scope N ix scope x) (T : Turn X.prog X.w X.K tg J fp it tn) (st : tn 0 s.heap) (f2 : ∀ b ∈ fp, iE X pins H b)
  (hg : ∀ C c, PG (c9 X N scope x fp s H C c) tg g) (he : ∀ C c, PE (c9 X N scope x fp s H C c) elt te) (hW : mM J ix g te σ H Qd)
  (hR : ∀ D C s' H' m, Inv X pins σ H' s' -> s'.heap.Ns C m -> iE X pins H' C -> Qd D H' -> RR (.ref D) C (.ok .next) s') :
  wpAny (model X.prog X.w) X.A (newList []) (fun acc s₃ => wpAny (model X.prog X.w) X.A (newFunctionEnv scope X.env.globals (bA X.env.cells scope.names []) [] X.env.qual none .none (some X.env)) (fun cenv s₄ =>
   codeAny (model X.prog X.w) X.A (.compStart (.ListComp elt [⟨tg, iter, [], 0⟩] scope pos) 0 (.ref it) acc { cenv with scope := relabel scope X.env }) (RR acc cenv.locals) s₄) E s₃) E s := by
 refine wpAny_newObj_type (A4 S.lay S.lays ?_)
 dsimp only
 generalize hH2 : s.heap.push { cls := .type "list", dict := none, data := .seq ([] : List Value).toArray } = H2
 have hC : H2.objs.size = s.heap.objs.size + 1 := by rw [<- hH2, Heap.size_push]
 generalize hH3 : H2.push { cls := .type "dict", data := .dict #[] } = H3
 have hC3 : H3.objs.size = H2.objs.size + 1 := by rw [<- hH3, Heap.size_push]
 generalize hh₁ : H3.push { cls := .type "cell", data := .cell none } = h₁
 have hDC : s.heap.objs.size ≠ H2.objs.size := by rw [hC]; exact Nat.ne_of_lt (Nat.lt_succ_self _)
 have hCle : s.heap.objs.size <= H2.objs.size := by rw [hC]; exact Nat.le_succ _
 have hcle : s.heap.objs.size <= H2.objs.size + 1 := Nat.le_succ_of_le hCle
 have below : ∀ b, b < s.heap.objs.size -> b ≠ H2.objs.size := fun b hb => by rw [hC]; exact Nat.ne_of_lt (Nat.lt_succ_of_lt hb)
 have up : ∀ b o, H2.get? b = some o -> h₁.get? b = some o := fun b o e => by rw [<- hh₁, <- hH3]; exact Heap.get?_push_of_some _ (Heap.get?_push_of_some _ e)
 have old : ∀ b o, s.heap.get? b = some o -> h₁.get? b = some o := fun b o e => up b o (hH2 ▸ Heap.get?_push_of_some _ e)
 have hacc : ∃ n, h₁.get? s.heap.objs.size = some { cls := .type "list", data := .seq ([] : List Value).toArray n } := ⟨_, up _ _ (hH2 ▸ Heap.get?_push_size _ rfl)⟩
 have hns₁ : h₁.Ns H2.objs.size (fun _ => none) := by
  rw [<- hh₁, <- hH3]
  exact (Heap.Ns.new H2 (.type "dict")).keeps fun b o e => Heap.get?_push_of_some _ e
 have hce : h₁.get? (H2.objs.size + 1) = some { cls := .type "cell", data := .cell none } := by
  rw [<- hh₁, <- hC3]
  exact Heap.get?_push_size _ rfl
 have st1 : tn 0 h₁ := T.keep _ _ _ st fun b _ o e => old b o e
 have fo : ∀ b ∈ fp, ∃ o, s.heap.get? b = some o /\ ∀ v, o.data ≠ .cell v := T.obj _ _ st
 have hcD : H2.objs.size + 1 ≠ s.heap.objs.size := by rw [hC]; exact Nat.ne_of_gt (Nat.lt_succ_of_lt (Nat.lt_succ_self _))
 have hcC : H2.objs.size + 1 ≠ H2.objs.size := Nat.succ_ne_self _
 have I0 : Inv (c9 X N scope x fp s H H2.objs.size (H2.objs.size + 1)) pins (aJ ix σ) (upd H s.heap.objs.size (.lst [])) { s with heap := h₁ } :=
  wQ (tk := s.toks) I S f2 fo (Nat.le_refl _) hCle hcle hDC hcD hcC old hns₁ hacc hce
 have freshD : H s.heap.objs.size = none := I.hok.fresh (Nat.le_refl _)
 obtain ⟨W, ⟨m0, w0⟩, turn⟩ := hW s.heap.objs.size freshD
 have cl_ne : ∀ b ∈ fp, b ≠ H2.objs.size := fun b hb => by
  obtain ⟨o, e, _⟩ := fo b hb
  exact below b (Heap.lt_size e)
 have stat : ∀ {H' : Hp}, (∀ b ∈ fp, H' b = none) -> ∀ b ∈ fp, iE (c9 X N scope x fp s H H2.objs.size (H2.objs.size + 1)) pins H' b := fun hn b hb => by
  obtain ⟨f0, f1, f3, f4, f5, f6⟩ := f2 b hb
  exact ⟨hn b hb, cl_ne b hb, I0.ok.exfs b hb, .inl hb, (I0.ok.exf b hb).2, f6⟩
 have fr0 : ∀ b ∈ fp, (upd H s.heap.objs.size (.lst [])) b = none := fun b hb => by
  obtain ⟨o, e, _⟩ := fo b hb
  rw [ae (Nat.ne_of_lt (Heap.lt_size e))]
  exact (f2 b hb).1
 have loop : codeAny (model X.prog X.w) X.A (.compLoop (.ListComp elt [⟨tg, iter, [], 0⟩] scope pos) 0 (.ref it) (.ref s.heap.objs.size) (compEnvC scope ((x, H2.objs.size + 1) :: bA X.env.cells scope.names []) H2.objs.size X.env))
   (RR (.ref s.heap.objs.size) H2.objs.size) { s with heap := h₁ } := by
  refine oB (fun n s' => ∃ i σ' H', Inv (c9 X N scope x fp s H H2.objs.size (H2.objs.size + 1)) pins σ' H' s' /\ tn i s'.heap /\ (∀ b ∈ fp, H' b = none) /\ W i n σ' H') ?_ m0 ⟨0, _, _, I0, st1, fr0, w0⟩
  rintro n s3 ⟨i, σ3, H3, I3, st3, fr3, w3⟩
  rcases turn i n σ3 H3 w3 with ⟨stop, qn⟩ | ⟨go, step⟩
  ·refine thn (T.done (c9 X N scope x fp s H H2.objs.size (H2.objs.size + 1)) rfl rfl rfl hc i pins s3 σ3 H3 _ I3 (stat fr3) st3 stop) fun r s4 ⟨hr, I4⟩ => ?_
   subst hr
   obtain ⟨m4, hn4, _⟩ := id I4.loc
   refine hR _ _ s4 H3 m4 ?_ hn4 (I.fpOk hCle I4.free) qn
   exact I.call' (ch := fp) I4.os I4.base I4.hok I4.bare fun b hb => by
    obtain ⟨f0, f1, f3, f4, f5, f6⟩ := f2 b hb
    exact ⟨f4, f1, f5, f6⟩
  ·refine thn (T.item (c9 X N scope x fp s H H2.objs.size (H2.objs.size + 1)) rfl rfl rfl hc i pins s3 σ3 H3 _ I3 (stat fr3) st3 go) fun r s4 ⟨u, hr, h4⟩ => ?_
   subst hr
   refine thn h4 fun _ s5 ⟨y, H5, I5, r5, y5, st5, fr5⟩ => ?_
   have I5' := I5.pinned (stat fr5) (T.obj _ _ st5)
   refine thn (hg _ _ _ s5 σ3 H5 y u _ I5' r5 (step y H5 y5)) fun _ s6 ⟨σ6, H6, I6, q6⟩ => ?_
   refine thn (he _ _ _ s6 σ6 H6 _ I6 q6) fun yv s7 ⟨y, H7, I7, r7, ys, hD7, hz7, m', hm, w7⟩ => ?_
   refine thn (bF (X := c9 X N scope x fp s H H2.objs.size (H2.objs.size + 1)) _ s7 σ6 H7 (.ref s.heap.objs.size) [y] (.ref s.heap.objs.size) [yv] (fun _ H8 => W (i + 1) m' σ6 H8) I7 rfl (.cons r7 .nil) ⟨_, ys, y, rfl, rfl, hD7, hz7, w7⟩) fun _ s8 ⟨_, H8, I8, _, w8⟩ => ?_
   refine ⟨m', hm, i + 1, σ6, H8, I8.unpinned, T.keep _ _ _ st5 fun b hb o e => (I8.pin (b, o) (List.mem_append_right _ (List.mem_append_right _ (eY hb e)))).1, fun b hb => ?_, w8⟩
   obtain ⟨o, e, d⟩ := T.obj _ _ st5 b hb
   exact (I8.pin (b, o) (List.mem_append_right _ (List.mem_append_right _ (eY hb e)))).2.1
 exact codeAny_compStart_list loop (T.self _ _ _ _ _ st1 loop)
theorem u9 {i : Nat} {y : Str} {py : Pos} (hc : X.calm = true) (hN : X.N.Nodup) (hyi : X.N[i]? = some y) (hy : Loc X.env.scope y) (S : BlkScope1 X.N X.env.scope N ix scope x) (hi : PI X tg iter wi) (hg : ∀ fp s H C c, PG (c9 X N scope x fp s H C c) tg g) (he : ∀ fp s H C c, PE (c9 X N scope x fp s H C c) elt te)
  (hsw : swapsWith (.ListComp elt [⟨tg, iter, [], 0⟩] scope pos) (some (.Name y py)) spos.line X.env = pure true := by rfl)
  (hf : X.fn y = true \/ X.env.scope.names.lookup y = some .local := by first | exact .inl rfl | exact .inr rfl | assumption)
  (hs : ∀ x, foldedSetIterable iter X.env x = pure x := by intro _; rfl) : PS X (.Assign [.Name y py] (.ListComp elt [⟨tg, iter, [], 0⟩] scope pos) spos) (oP (zC ix wi g te) (bR i)) := by
 intro pins s σ H D I h
 rw [exec_Assign_Name_used _ _ _ _ hsw]
 refine wpAny_bind (wpAny_standAt (wpAny_bind ?_))
 show wpAny _ X.A (do let _ <- comprehension (.ListComp elt [⟨tg, iter, [], 0⟩] scope pos) scope X.env _ (newList []) false (eval iter X.env) (some (assign (.Name y py) X.env))) _ _ s
 refine wpAny_bind (wpAny_mono (wpAny_comprehension_free (use := some (assign (.Name y py) X.env)) (Q := fun _ s' => SP X pins D .next s') rfl hs (gI (S.clos I.ok)) S.kind S.locs
  (thn (hi pins s σ H _ I h) fun v s1 h1 => thn h1 fun itv s2 h2 => ?_)) (fun _ s' hq => wpAny_pure (wpAny_pure hq)) fun _ _ e => e)
 obtain ⟨it, fp, tn, J, H2, e, I2, T, st2, f2, hW⟩ := h2
 subst e
 refine yK (RR := fun acc C => compPost (model X.prog X.w) X.A X.xe (some (assign (.Name y py) X.env)) (fun _ s' => SP X pins D .next s') acc C) I2 hc S T st2 f2 (hg _ _ _) (he _ _ _) hW ?_
 intro Dl C s' H' m I' hn fC q
 show wpAny _ X.A (assign (.Name y py) X.env (.ref Dl)) _ _ s'
 refine wpAny_assign_Name (nX I' hN hyi hy (v := .ref Dl) rfl (fun s2 I2' hsb => ?_) hf)
 obtain ⟨a, sb, ha⟩ := hsb
 refine ⟨m, hn.sameBut sb ?_, fun h3 sb3 => ⟨_, H', I2'.turned (t' := s2.toks) (fun b o hb e => (sb3.2 b hb).trans e) fC.1 fC.2.1 fC.2.2.2.1 fC.2.2.2.2.1 fC.2.2.2.2.2, q⟩⟩
 rcases ha with z | z
 ·rw [z]; exact fC.2.1
 ·exact Ne.symm (fC.2.2.2.2.1 _ _ z)
theorem pE (K : PySem.W.Frag) (h : X.K = K := by rfl) : gU X (.type "tuple") (fun xs H Q => ∃ p ys, xs = [.ref p] /\ ((SqL K H p ys /\ ∀ l, H l = none -> Q (.ref l) (upd H l (.tup ys))) \/ (SqT K H p ys /\ Q (.ref p) H))) := by subst h; exact aP
theorem z4 {i : Nat} {fp : List Addr} {s : Shared} {H : Hp} {C c : Addr} {pos : Pos} (hN : N.Nodup) (hi : N[i]? = some x) (hx : scope.names.lookup x = some .cell) : PG (c9 X N scope x fp s H C c) (.Name x pos) (bR i) :=
 ax (X := c9 X N scope x fp s H C c) hN hi (.inr (iy hx)) (.inl (by show (x == x) = true; simp))
end
end L2
set_option Elab.async false
set_option linter.all false
set_option maxRecDepth 100000
namespace L2
open PySem PySem.Spec PyProof.Rows
abbrev Dj (xs : Array Nat) : Prop := xs.toList.Pairwise (· < ·)
structure TabOk (t : SetTable) (led : Bool) : Prop where
 rise : Dj t.place
 nod : t.dummies = #[]
 led : t.led = led
abbrev byT (w : World) : Bool := w.params.followText "set-order"
section
variable {P : Program} {w : World} {A : Around} {E : Value -> Shared -> Prop} {s : Shared}
end
end L2
set_option Elab.async false
set_option linter.all false
set_option maxRecDepth 100000
namespace L2
open PySem PySem.Spec PyProof.Rows
section
variable {P : Program} {w : World} {A : Around} {E : Value -> Shared -> Prop} {R : Result -> Shared -> Prop} {I : Addr} {fp wr : List Addr} {G : Array GenState -> Array GenState -> Prop} {n : Nat} {Pz : Nat -> Value -> Prop} {St : Nat -> Shared -> Prop}
end
section
variable {P : Program} {w : World} {A : Around} {E : Value -> Shared -> Prop} {s : Shared}
end
end L2
set_option Elab.async false
set_option linter.all false
set_option maxRecDepth 100000
namespace L2
open PySem PySem.Spec PyProof.Rows
namespace SF
end SF
def yS (h : Heap) (I S : Addr) (first : Value) (i n ep : Nat) : Prop := ∃ o, h.get? I = some o /\ o.cls = .type "set_iterator" /\ o.data = .fields #[first, .int i 0, .ref S, .int n 0, .int ep 0]
def B7 (w : World) (es : Array (Int × Value)) (ep : Nat) (t : SetTable) (S T : Addr) (L : List Value) (h : Heap) (i : Nat) (first : Value) : Prop :=
 (byT w = true /\ (∃ z : Nat, first = .int z 0) /\ L = (pickOrder (w.params.setOrder S ep) es).toList.map (·.2)) \/
 (byT w = false /\ (t.plain = true \/ es.size <= 1) /\ (∃ z : Nat, first = .int z 0 /\ SetTable.below t.place z = i) /\ L = es.toList.map (·.2)) \/
 (byT w = false /\ first = .ref T /\ ∃ pl : List Nat, pl.Perm (List.range es.size) /\ (∃ o e, h.get? T = some o /\ o.data = .seq (pl.map fun p : Nat => Value.int (p : Int) 0).toArray e) /\ L = pl.map fun p => (es.getD p (0, .none)).2)
structure SetSt (w : World) (es : Array (Int × Value)) (ep : Nat) (t : SetTable) (S T I : Addr) (L : List Value) (i : Nat) (h : Heap) : Prop where
 set : ∃ o, h.get? S = some o /\ o.data = .set es ep t
 it : ∃ first, yS h I S first i es.size ep /\ B7 w es ep t S T L h i first
section
variable {P : Program} {w : World} {A : Around} {E : Value -> Shared -> Prop} {s : Shared} {es : Array (Int × Value)} {ep : Nat} {t : SetTable} {S T I : Addr} {L : List Value} {i : Nat}
end
end L2
set_option Elab.async false
set_option linter.all false
set_option maxRecDepth 100000
namespace L2
open PySem PySem.Spec PyProof.Rows
namespace SF
end SF
section
variable {P : Program} {w : World} {A : Around} {E : Value -> Shared -> Prop} {s : Shared} {es : Array (Int × Value)} {ep : Nat} {t : SetTable} {S T I : Addr} {L : List Value}
end
end L2
set_option Elab.async false
set_option linter.all false
set_option maxRecDepth 100000
namespace L2
open PySem PySem.Spec PyProof.Rows
section
variable {P : Program} {w : World} {A : Around} {E : Value -> Shared -> Prop} {s : Shared} {S : Addr} {ns : List Int}
end
end L2
set_option Elab.async false
set_option linter.all false
set_option maxRecDepth 100000
namespace L2
open PySem PySem.Spec PyProof.Rows
def a7 (ns : List Int) : List Int := ns.foldl step_dedup []
theorem y4 {s : List Int} {v k : Int} : k ∈ step_dedup s v ↔ k ∈ s \/ k = v := by
 unfold step_dedup
 split
 ·rename_i h
  have hv : v ∈ s := by simpa using h
  exact ⟨.inl, fun z => z.elim id fun e => e ▸ hv⟩
 ·simp
theorem oH : ∀ (ns s : List Int) (k : Int), k ∈ ns.foldl step_dedup s ↔ k ∈ s \/ k ∈ ns
 | [], s, k => by simp
 | n :: r, s, k => by
  rw [List.foldl_cons, oH r, y4, List.mem_cons]
  constructor
  ·rintro ((h | h) | h)
   ·exact .inl h
   ·exact .inr (.inl h)
   ·exact .inr (.inr h)
  ·rintro (h | h | h)
   ·exact .inl (.inl h)
   ·exact .inl (.inr h)
   ·exact .inr h
theorem once_mem {ns : List Int} {k : Int} : k ∈ a7 ns ↔ k ∈ ns := by
 unfold a7
 rw [oH]
 simp
theorem dJ : ∀ (ns s : List Int), (ns.foldl step_dedup s).length <= s.length + ns.length
 | [], s => Nat.le_refl _
 | n :: r, s => by
  refine Nat.le_trans (dJ r _) ?_
  have : (step_dedup s n).length <= s.length + 1 := by
   unfold step_dedup
   split
   ·exact Nat.le_succ _
   ·rw [List.length_append]; exact Nat.le_refl _
  rw [List.length_cons]
  omega
theorem mq (ns : List Int) : (a7 ns).length <= ns.length := by
 have q := dJ ns []
 unfold a7
 simpa using q
section
variable {X : Cx}
end
end L2
set_option Elab.async false
set_option linter.all false
set_option maxRecDepth 100000
namespace PySem
open PyProof.Rows
theorem qk : typeLookup (.type "list") "keys" = pure none := by rw [typeLookup_type, builtinLookup_eq_fast]; kernel_rfl
theorem jM {prog : Program} {w : World} {A : Around} {E : Value -> Shared -> Prop} {s : Shared} {a : Addr} {xs : Array Value} {k : Nat} {sl : Array (Option Value)} {Q : Option Value -> Shared -> Prop}
  (hx : s.heap.get? a = some { cls := .type "list", dict := none, data := .seq xs k, slots := sl }) (hA : A.handled = none)
  (h : ∀ h' tk, (∀ b o, s.heap.get? b = some o -> h'.get? b = some o) -> Q none { s with heap := h', toks := tk }) : wpAny (model prog w) A (getAttr? (.ref a) "keys") Q E s := by
 obtain ⟨hp, g, d, tk, os⟩ := s
 have hT : ∀ tk', (⟨hp, g, d, tk', os⟩ : Shared).TypeIs (.ref a) "list" := fun _ => ⟨_, hx, rfl⟩
 have f1 := sub_AttributeError
 have f3 := F.slot_list_getattribute.lookup
 have f4 := F.slot_list_getattribute.bind (.ref a)
 have f5 := am_list_getattr_none
 have hmiss := qk
 have hname : (["__module__", "__name__", "__qualname__", "__doc__", "__annotations__"] : List Str).contains (Str.ofString "keys") = false := by decide +kernel
 unfold getAttr? getAttrBy? getAttrBy
 repeat (any_goals (first | assumption | exact hT _ | ((with_reducible show wpAny _ _ (call (Value.builtin "list.__getattribute__") _ _) _ _ _); refine call_meets F.slot_list_getattribute (hT _) am_entry_list_getattribute (F.args_list_getattribute_2 _ _) (meets_getattribute_miss_list a xs k sl (Str.ofString "keys") _ hmiss hname (by decide)) ⟨hx, hA, fun h' tk' e hx' => ?_⟩) | wp_step))
 obtain ⟨t', u', he⟩ := hx'.there
 show wpAny _ _ (getattributeRaised _ _ _ _ _ _ _) _ _ _
 unfold getattributeRaised
 repeat (any_goals (first | assumption | wp_step))
 exact h h' tk' hx'.keeps
section
variable {prog : Program} {w : World} {K : Type} [DecidableEq K] {knd : KeyKind prog w K} {A : Around} {E : Value -> Shared -> Prop} {s : Shared} {R : Result -> Shared -> Prop}
theorem cV : entryFor table "dict.update.loop" = some Builtin.«dict.update.loop» := entryFor_of_tree (by kernel_rfl)
theorem ba : plainId "dict.update.loop" = true := by decide +kernel
def qg (knd : KeyKind prog w K) (h : Heap) (ts : List Addr) (ps : List (K × Value)) : Prop := ∀ (j : Nat) (t : Addr) (p : K × Value), ts[j]? = some t -> ps[j]? = some p -> ∃ key, knd.is p.1 key = true /\ IsTup h t #[key, p.2]
theorem uX {D I l : Addr} {ts : List Addr} {ps : List (K × Value)} (W : Walks prog w A.in1 I [I, l] [I] ts.length (fun i v => (ts.map Value.ref).toArray[i]? = some v) (fun i h => h.IsListIter I l i /\ h.IsList l (ts.map Value.ref).toArray))
  (hl : ts.length = ps.length) (hDI : D ≠ I) (hDl : D ≠ l) (hDt : ∀ t ∈ ts, t ≠ D /\ t ≠ I) (hz : ps.length <= sizeLine) :
  ∀ (k i : Nat) (s : Shared) (acc : List (K × Value)), ts.length - i = k -> i <= ts.length -> (s.heap.IsListIter I l i /\ s.heap.IsList l (ts.map Value.ref).toArray) -> s.heap.DictOf knd D acc -> acc.length <= i -> qg knd s.heap ts ps ->
  (∀ h' tk, (∀ b o, b ≠ D -> b ≠ I -> s.heap.get? b = some o -> h'.get? b = some o) -> h'.DictOf knd D (merged acc (ps.drop i)) -> R (.ok (.ret .none)) { s with heap := h', toks := tk }) ->
  codeAny (model prog w) A (.builtin "dict.update.loop" ⟨[.ref D, .ref I, rawInt (i : Int), .none], []⟩) R s := by
 intro k
 induction k with
 | zero =>
  intro i s acc hk hi hst hD hacc hP hR
  have hin : i = ts.length := by omega
  subst hin
  refine codeAny_builtin cV ?_
  rw [Around.under_plainId ba _]
  show wpAny _ A.in1 (pyNext (.ref I) >>= _) _ _ s
  refine wpAny_bind (W.done s _ _ hst fun h' tk hm => ?_)
  show wpAny _ _ (Builtin.Dict.addKeywords D [] >>= _) _ _ _
  refine wpAny_bind (wpAny_of_eq (a := ()) rfl ?_)
  have e : ps.drop ts.length = [] := by rw [hl, List.drop_length]
  refine wpAny_pure (hR h' tk (fun b o _ hb q => hm b o (by simpa using hb) q) ?_)
  rw [e]
  exact hD.extBut (b := I) (fun b o hb q => hm b o (by simpa using hb) q) hDI
 | succ k ih =>
  intro i s acc hk hi hst hD hacc hP hR
  have hlt : i < ts.length := by omega
  have hlt2 : i < ps.length := by omega
  refine codeAny_builtin cV ?_
  rw [Around.under_plainId ba _]
  show wpAny _ A.in1 (pyNext (.ref I) >>= _) _ _ s
  refine wpAny_bind (W.item i s _ _ hlt hst fun v h' tk hv hst' hm => ?_)
  have ev : v = .ref ts[i] := by
   have : (ts.map Value.ref).toArray[i]? = some (.ref ts[i]) := by simp [hlt]
   rw [this] at hv
   exact (Option.some.inj hv).symm
  subst ev
  have keep : ∀ b o, b ≠ I -> s.heap.get? b = some o -> h'.get? b = some o := fun b o hb q => hm b o (by simpa using hb) q
  obtain ⟨key, hkey, ht⟩ := hP i ts[i] ps[i] (List.getElem?_eq_getElem hlt) (List.getElem?_eq_getElem hlt2)
  have tn := hDt ts[i] (List.getElem_mem hlt)
  have ht' : IsTup h' ts[i] #[key, (ps[i]).2] := ht.extBut (b := I) keep tn.2
  have hD' : h'.DictOf knd D acc := hD.extBut (b := I) keep hDI
  obtain ⟨ot, hot, hct, nt, hdt⟩ := id ht'
  try dsimp only
  refine wpAny_bind (wpAny_holding ?_)
  refine wpAny_bind (wpAny_tryCatch ?_)
  unfold Builtin.Dict.pairItems
  refine wpAny_bind (wpAny_typeOf (s := { s with heap := h', toks := tk }) ht'.typeIs ?_)
  rw [if_pos (by decide)]
  refine wpAny_bind (wpAny_seqItems (s := { s with heap := h', toks := tk }) hot hdt ?_)
  refine wpAny_pure ?_
  show wpAny _ _ (holding [key, (ps[i]).2] (dictSet D key (ps[i]).2)) _ _ _
  refine wpAny_holding (wpAny_dictSet_pairs (knd := knd) (s := { s with heap := h', toks := tk }) hkey hD' (fun h2 hD2 sb2 => ?_) (by omega))
  have keep2 : ∀ b o, b ≠ D -> h'.get? b = some o -> h2.get? b = some o := fun b o hb q => sb2.extBut b o hb q
  refine wpAny_pure ⟨plainId_quiet ba _, ?_⟩
  have ri : rawInt ((i : Int) + 1) = rawInt (((i + 1 : Nat)) : Int) := by push_cast; rfl
  rw [ri]
  refine ih (i + 1) { s with heap := h2, toks := tk + 1 } (stored acc (ps[i]).1 (ps[i]).2) (by omega) hlt ⟨hst'.1.at fun o q => keep2 I o (Ne.symm hDI) q, hst'.2.at fun o q => keep2 l o (Ne.symm hDl) q⟩ hD2 (by
   have := stored_length_le acc (ps[i]).1 (ps[i]).2
   omega) (fun j t p h1 h2' => ?_) (fun h3 tk3 kp3 hD3 => ?_)
  ·obtain ⟨key', hk', ht''⟩ := hP j t p h1 h2'
   have tn' := hDt t (List.mem_of_getElem? h1)
   exact ⟨key', hk', (ht''.extBut (b := I) keep tn'.2).extBut (b := D) keep2 tn'.1⟩
  ·refine hR h3 tk3 (fun b o hb hb2 q => kp3 b o hb hb2 (keep2 b o hb (keep b o hb2 q))) ?_
   rw [List.drop_eq_getElem_cons hlt2]
   exact hD3
theorem oN {l : Addr} {ts : List Addr} {ps : List (K × Value)} {c : Nat} {Q : Value -> Shared -> Prop} (hh : A.handled = none) (hL : s.heap.get? l = some { cls := .type "list", dict := none, data := .seq (ts.map Value.ref).toArray c, slots := #[] })
  (hl : ts.length = ps.length) (hP : qg knd s.heap ts ps) (hz : ps.length <= sizeLine)
  (hQ : ∀ h' tk, (∀ b o, s.heap.get? b = some o -> h'.get? b = some o) -> h'.DictOf knd s.heap.objs.size (merged [] ps) -> Q (.ref s.heap.objs.size) { s with heap := h', toks := tk }) :
  wpAny (model prog w) A (call (.type "dict") [.ref l]) Q E s := by
 refine callType_codes (Q₁ := fun obj s₁ => obj = .ref s.heap.objs.size /\ s₁ = { s with heap := s.heap.push { cls := .type "dict", data := .dict #[] } }) F.kt_called_dict (F.kt_typeCall_dict_1 _) F.entry_dict_init (kt_code_dict_new _ ⟨rfl, rfl⟩) ?_
 rintro obj s₁ ⟨rfl, rfl⟩
 have hnew : (s.heap.push { cls := .type "dict", data := .dict #[] }).DictOf knd s.heap.objs.size [] := Heap.DictOf.new s.heap
 have hlt : l < s.heap.objs.size := Heap.lt_size hL
 have hL' : (s.heap.push { cls := .type "dict", data := .dict #[] }).get? l = some { cls := .type "list", dict := none, data := .seq (ts.map Value.ref).toArray c, slots := #[] } := Heap.get?_push_of_some _ hL
 refine ⟨hnew.typeIs, F.args_dict_init_2 _ _, ?_⟩
 unfold Builtin.«dict.__init__»
 refine wpAny_bind ?_
 unfold Builtin.Dict.selfAndRest
 refine wpAny_bind (wpAny_notOrdered_dict hnew.typeIs ?_)
 show wpAny _ _ (pure (s.heap.objs.size, [Value.ref l])) _ _ _
 refine wpAny_pure ?_
 show wpAny _ _ (Builtin.Dict.updateFrom "dict.__init__" s.heap.objs.size (.ref l) [] .none) _ _ _
 unfold Builtin.Dict.updateFrom
 refine wpAny_bind (wpAny_typeOf (T := "list") ⟨_, hL', rfl⟩ ?_)
 rw [if_pos (by decide)]
 refine wpAny_bind (jM hL' hh fun h1 tk1 kp1 => ?_)
 rw [if_pos (by rfl)]
 refine wpAny_bind (wpAny_rule ?_)
 have hL1 := kp1 _ _ hL'
 have il1 : Heap.IsList h1 l (ts.map Value.ref).toArray := ⟨_, hL1, rfl, c, rfl⟩
 refine wpAny_bind (wpAny_pyIter_list (s := { s with heap := h1, toks := tk1 }) il1 ?_)
 refine wpAny_pure ⟨plainId_quiet ba _, ?_⟩
 have oI : (h1.push { cls := .type "list_iterator", data := .fields #[.ref l, .int 0 0] }).get? h1.objs.size = some { cls := .type "list_iterator", data := .fields #[.ref l, .int 0 0] } := Heap.get?_push_size _ rfl
 have l1 : l < h1.objs.size := Heap.lt_size hL1
 have d1 : s.heap.objs.size < h1.objs.size := Heap.lt_size (kp1 _ _ (Heap.get?_push_size s.heap rfl))
 have W := Walks.list (prog := prog) (w := w) (A := A.in1.in1) hh h1.objs.size l (Nat.ne_of_lt l1) (ts.map Value.ref).toArray
 have sz : (ts.map Value.ref).toArray.size = ts.length := by simp
 rw [sz] at W
 have kp2 : ∀ b o, s.heap.get? b = some o -> (h1.push { cls := .type "list_iterator", data := .fields #[.ref l, .int 0 0] }).get? b = some o := fun b o q => Heap.get?_push_of_some _ (kp1 _ _ (Heap.get?_push_of_some _ q))
 refine uX (A := A.in1) (knd := knd) (D := s.heap.objs.size) (ps := ps) W hl (Nat.ne_of_lt d1) (Nat.ne_of_gt hlt) (fun t ht => ?_) hz ts.length 0 { s with heap := h1.push { cls := .type "list_iterator", data := .fields #[.ref l, .int 0 0] }, toks := tk1 } [] rfl (Nat.zero_le _) ⟨⟨_, oI, rfl, rfl⟩, il1.at fun o q => Heap.get?_push_of_some _ q⟩ ?_ (Nat.zero_le _) (fun j t p a1 a2 => ?_) (fun h3 tk3 kp3 hD3 => ?_)
 ·obtain ⟨j, hj⟩ := List.mem_iff_getElem?.mp ht
  have jl : j < ps.length := by
   rw [<- hl]
   exact (List.getElem?_eq_some_iff.mp hj).1
  obtain ⟨key, _, o, ho, _⟩ := hP j t ps[j] hj (List.getElem?_eq_getElem jl)
  have tl := Heap.lt_size ho
  exact ⟨Nat.ne_of_lt tl, Nat.ne_of_lt (Nat.lt_trans tl d1)⟩
 ·exact hnew.extBut (b := h1.objs.size) (fun b o _ q => Heap.get?_push_of_some _ (kp1 _ _ q)) (Nat.ne_of_lt d1)
 ·obtain ⟨key, hk, ht⟩ := hP j t p a1 a2
  exact ⟨key, hk, ht.keeps kp2⟩
 ·exact ⟨rfl, hQ h3 tk3 (fun b o q => kp3 b o (Nat.ne_of_lt (Heap.lt_size q)) (Nat.ne_of_lt (Nat.lt_trans (Heap.lt_size q) d1)) (kp2 b o q)) hD3⟩
end
end PySem
namespace L2
open PySem PySem.Spec PyProof.Rows
section
variable {X : Cx}
def PairsV (H : Hp) : List Addr -> List (Key × V) -> Prop := Paired fun a p => H a = some (.tup [kV p.1, p.2])
theorem o8 {P : Program} {w : World} : ∀ {kvs : List (Key × V)} {ts : List Addr} {H : Hp} {h : Heap}, PairsV H ts kvs -> HOk P w H h -> ∃ ps : List (Key × Value), KV kvs ps /\ ps.length = ts.length /\ qg (aQ P w) h ts ps
 | [], [], _, _, .nil, _ => ⟨[], .nil, rfl, fun j t p h => by simp at h⟩
 | _, _, _, _, .cons (a := a) (b := p) (l₁ := ts) (l₂ := kvs) q t, ok => by
  obtain ⟨ps, r1, r2, r3⟩ := o8 t ok
  obtain ⟨z, its, rv, ht⟩ := ok a _ q
  obtain ⟨u, v, rfl, ru, rv'⟩ := Vals.two rv
  refine ⟨(p.1, v) :: ps, .cons ⟨rfl, rv'⟩ r1, by simp [r2], fun j t' p' h1 h2 => ?_⟩
  cases j with
  | zero =>
   simp at h1 h2
   subst h1 h2
   exact ⟨u, jO ru, by simpa using ht⟩
  | succ j => exact r3 j t' p' (by simpa using h1) (by simpa using h2)
def Bo : List V -> Hp -> VK -> Prop := fun xs H Q => ∃ l ts kvs, xs = [.ref l] /\ H l = some (.lst (ts.map V.ref)) /\ PairsV H ts kvs /\ ∀ D, H D = none -> Q (.ref D) (upd H D (.dK (cQ [] kvs)))
theorem nR : ∀ {ts : List Addr} {us : List Value}, Vals (ts.map V.ref) us -> us = ts.map Value.ref
 | [], _, .nil => rfl
 | t :: ts, _, .cons r q => by
  cases r
  rw [List.map_cons, nR q]
theorem jm (hc : X.calm = true) : gU X (.type "dict") Bo := by
 intro pins s σ H xs us Q I r h
 obtain ⟨l, ts, kvs, rfl, hl, hp, q⟩ := h
 obtain ⟨u, rfl, rx⟩ := vals1 r
 cases rx
 obtain ⟨z, its, n, rv, hln, e⟩ := I.lstM hl
 have ei := nR rv
 subst ei
 obtain ⟨ps, r1, r2, r3⟩ := o8 hp I.hok
 have hlen : kvs.length = ps.length := Paired.length r1
 have zl : ps.length <= sizeLine := by
  rw [r2]
  rw [List.length_map] at z
  exact z
 refine oN (knd := aQ X.prog X.w) (I.ok.hd hc) e r2.symm r3 zl fun h' tk kp dd => ?_
 have ob : ObjOk X.prog X.w (upd H s.heap.objs.size (.dK (cQ [] kvs))) h' s.heap.objs.size (.dK (cQ [] kvs)) := by
  refine p6 ?_ (beq_eq_false_iff_ne.mpr (Ne.symm (Nat.ne_of_lt I.big))) (KV.merge r1 .nil) dd
  have := gJ kvs []
  simp only [List.length_nil] at this
  omega
 exact ⟨.ref _, _, I.laid (t' := tk) kp (Nat.le_refl _) ob, rfl, q _ (I.hok.fresh (Nat.le_refl _))⟩
end
section
variable {X : Cx} {pins : List (Addr × Obj)} {σ : St} {H : Hp} {s : Shared} {a : Addr} {z : V} {u r : Value} {A : Around} {E : Value -> Shared -> Prop} {kvs : List (Key × V)} {k : Key}
theorem uv {Q : Value -> Shared -> Prop} (I : Inv X pins σ H s) (e : H a = some (.dK kvs)) (hz : kvs.length < sizeLine) (ry : RelV (kV k) u) (rz : RelV z r)
  (h1 : ∀ v w' s', dk kvs k = some v -> Inv X pins σ H s' -> RelV v w' -> Q w' s') (h2 : ∀ s', dk kvs k = none -> Inv X pins σ (upd H a (.dK (putK kvs k z))) s' -> Q r s') :
  wpAny (model X.prog X.w) A (call (.builtin "dict.setdefault") [.ref a, u, r]) Q E s := by
 obtain ⟨zl, hd, vs, rel, dd⟩ := xY I.hok e
 have rv := rel.val k
 refine call_meetsIn PySem.F.slot_dict_setdefault dd.typeIs PySem.F.entry_dict_setdefault (PySem.F.args_dict_setdefault_3 _ _ _) (kt_meets_setdefault (aQ X.prog X.w) a (jO ry) hd r) ⟨vs, dd, by rw [<- rel.length]; exact zl, fun v hv => ?_, fun hn h' dd' sb => ?_⟩
 ·cases hk : dk kvs k with
  | none => rw [hk, hv] at rv; exact rv.elim
  | some x =>
   rw [hk, hv] at rv
   exact h1 x v _ hk (I.tok _) rv
 ·have hk : dk kvs k = none := by
   cases hk : dk kvs k with
   | none => rfl
   | some x => rw [hk, hn] at rv; exact rv.elim
  refine h2 _ hk (lW (t' := s.toks + 1) I (by rw [e]; trivial) sb ?_ (p6 (kvs := putK kvs k z) (by have := fb kvs k z; omega) hd (rel.put k rz) dd'))
  obtain ⟨ob, _, _, g, _⟩ := dd'
  exact ⟨ob, g⟩
end
def CU (td ty tx : TE) : TE := fun σ H Q => td σ H fun x H1 => ∃ a, x = .ref a /\ IsD H1 a /\ ty σ H1 fun y H2 => tx σ H2 fun z H3 => ∃ kvs k, H3 a = some (.dK kvs) /\ y = kV k /\ kvs.length < sizeLine /\
 (∀ v, dk kvs k = some v -> Q v H3) /\ (dk kvs k = none -> Q z (upd H3 a (.dK (putK kvs k z))))
section
variable {X : Cx} {o e f : Expr} {apos cpos : Pos} {td ty tx : TE}
theorem uh (ho : PE X o td) (he : PE X e ty) (hf : PE X f tx) (m : M2 X o "setdefault" apos e f cpos) : PE X (.Call (.Attribute o "setdefault" apos) [e, f] [] cpos) (CU td ty tx) := by
 intro pins s σ H Q I h
 refine wpAny_Call_method m.base m.few m.line PySem.F.plainAttrs_dict PySem.F.slot_dict_setdefault PySem.F.type_dict_setdefault (thn (ho pins s σ H _ I h) fun u s1 ⟨x, H1, I1, rx, a, ex, d, q1⟩ => ?_)
 subst ex
 obtain rfl : u = Value.ref a := rx
 obtain ⟨t1, t2, _⟩ := uj I1 d
 refine ⟨t1, t2, ?_⟩
 rw [m.trees]
 refine Calls.callWith_builtin rfl (Calls.evalArgs_plain (Calls.spliced_cons (thn (he pins s1 σ H1 _ I1 q1) fun iv s2 ⟨y, H2, I2, ry, q2⟩ =>
  Calls.spliced_cons (thn (hf pins s2 σ H2 _ I2 q2) fun fv s3 ⟨z, H3, I3, rz, kvs, k, ea, ey, hz, q3, q4⟩ => Calls.spliced_nil ?_))))
 subst ey
 exact uv I3 ea hz ry rz (fun v w' s' hv I4 rv => ⟨v, H3, I4, rv, q3 v hv⟩) fun s' hn I4 => ⟨z, _, I4, rz, q4 hn⟩
end
end L2
set_option Elab.async false
set_option linter.all false
set_option maxRecDepth 100000
namespace L2
open PySem PySem.Spec PyProof.Rows
section
variable {X : Cx} {pins : List (Addr × Obj)} {σ : St} {H : Hp} {s : Shared} {a : Addr} {o : Obj} {kvs : List (Key × V)}
theorem Inv.freeze (I : Inv X pins σ H s) (e : H a = some (.dK kvs)) (ho : s.heap.get? a = some o) : Inv X pins σ (upd H a (.frz o (.dK kvs))) s := by
 have nt : ∀ b u, H b = some u -> (u = .dK kvs -> False) -> b ≠ a := fun b u q d => aB q e d
 refine I.un (t' := s.toks) ⟨fun b u q _ _ _ => q, fun b u q _ _ _ => ⟨u.slots, q⟩, fun b u q n _ => ?_, fun b u q _ => ⟨u, q⟩, fun b xs q => ?_, fun b u xs q => ?_, fun b ps q => ⟨#[], ?_⟩⟩ (fun b u q => ?_)
 ·rw [ae (fun z => by rw [z, e] at n; cases n)]; exact n
 ·rw [ae (nt b _ q (by intro z; cases z))]; exact q
 ·rw [ae (nt b _ q (by intro z; cases z))]; exact q
 ·rw [ae (nt b _ q (by intro z; cases z)), q]; simp
 ·by_cases hb : b = a
  ·subst hb
   rw [ab] at q
   cases q
   exact ⟨ho, (I.hok b _ e)⟩
  ·rw [ae hb] at q
   exact (I.hok b u q).stay (fun c v _ z => z) (fun c z => by rw [ae (nt c _ z (by intro y; cases y))]; exact z) fun c xs z => by rw [ae (nt c _ z (by intro y; cases y))]; exact z
end
def lZ (o : Obj) : Nat := match o.data with
 | .dict _ ep => ep
 | _ => 0
def Itd (a : Addr) (o : Obj) (kvs : List (Key × V)) : It :=
 ⟨fun i H => i < kvs.length /\ H a = some (.frz o (.dK kvs)), fun i H x H' => H' = H /\ ∀ p, kvs[i]? = some p -> x = kV p.1, fun i H => kvs.length <= i /\ H a = some (.frz o (.dK kvs))⟩
def Iti (a : Addr) (o : Obj) (kvs : List (Key × V)) : It :=
 ⟨fun i H => i < kvs.length /\ H a = some (.frz o (.dK kvs)), fun i H x H' => ∃ T p, x = .ref T /\ H T = none /\ H' = upd H T (.tup [kV p.1, p.2]) /\ kvs[i]? = some p, fun i H => kvs.length <= i /\ H a = some (.frz o (.dK kvs))⟩
theorem hZ {P : Program} {w : World} {H : Hp} {h : Heap} {a : Addr} {o : Obj} {kvs : List (Key × V)} (ok : HOk P w H h) (e : H a = some (.frz o (.dK kvs))) : ∃ vs, KV kvs vs /\ h.DictAt (aQ P w) a vs (lZ o) /\ (a == sysModules) = false /\ h.get? a = some o := by
 obtain ⟨ho, z, lo, vs, rel, ob, es, ep, hg, hx, hd, rest⟩ := ok a _ e
 rw [ho] at hg
 cases hg
 have ee : lZ o = ep := by unfold lZ; rw [hd]
 exact ⟨vs, rel, ⟨o, es, ho, hx, by rw [ee]; exact hd, rest⟩, lo, ho⟩
theorem yF {P : Program} {w : World} {K : PySem.W.Frag} {tg : Expr} (a it : Addr) (o : Obj) (kvs : List (Key × V)) : Turn P w K tg (Itd a o kvs) [it] it (fun i h => h.IsKeyIter it a i kvs.length (lZ o)) where
 mem := by simp
 obj := fun i h st b hb => by
  have e : b = it := by simpa using hb
  subst e
  obtain ⟨o, e, c, d⟩ := st
  exact ⟨o, e, fun v z => by rw [d] at z; cases z⟩
 keep := fun i h h' st k => by
  obtain ⟨ob, e, r⟩ := st
  exact ⟨ob, k it (by simp) ob e, r⟩
 item := by
  intro X hP hw hK hc i pins s σ H E I hf st hg
  subst hP hw hK
  obtain ⟨hi, hfz⟩ := hg
  obtain ⟨vs, rel, dat, lo, ho⟩ := hZ I.hok hfz
  have hlen : kvs.length = vs.length := Paired.length rel
  have hv : i < vs.length := by omega
  obtain ⟨f0, f1, f2, f3, f4, f5⟩ := hf it (by simp)
  rw [hlen] at st
  refine wpAny_pyNext_dict_item (knd := aQ X.prog X.w) st dat (k := (vs[i]).1) (v := (vs[i]).2) (List.getElem?_eq_getElem hv) fun key h' hk st' sb => ?_
  have I1 : Inv X pins σ H { s with heap := h' } := I.turned (t' := s.toks) (fun b o hb e => (sb.2 b hb).trans e) f0 f1 f3 f4 f5
  obtain ⟨p, e1, e2⟩ := e7 rel (List.getElem?_eq_getElem hv)
  rw [<- hlen] at st'
  obtain ⟨ob, e, c, d⟩ := id st'
  refine ⟨key, rfl, xK (s := { s with heap := h' }) e c d (by decide) ⟨kV p.1, H, I1, ?_, ⟨rfl, fun p' hp' => by rw [e1] at hp'; cases hp'; rfl⟩, st', fun b hb => (hf b hb).1⟩⟩
  rw [e2.1]
  exact xH hk
 done := by
  intro X hP hw hK hc i pins s σ H E I hf st hg
  subst hP hw hK
  obtain ⟨hi, hfz⟩ := hg
  obtain ⟨vs, rel, dat, lo, ho⟩ := hZ I.hok hfz
  have hlen : kvs.length = vs.length := Paired.length rel
  obtain ⟨f0, f1, f2, f3, f4, f5⟩ := hf it (by simp)
  rw [hlen] at st
  exact wpAny_pyNext_dict_end (I.ok.hd hc) st dat (List.getElem?_eq_none (by omega)) fun h' eb => ⟨rfl, I.turned (t' := s.toks) (fun b o hb e => eb b o hb e) f0 f1 f3 f4 f5⟩
 self := fun A i s Q E st h => by
  refine wpAny_pyIter_slot st.typeIs PySem.F.slot_dict_keyiterator_iter (wpAny_call_entry PySem.F.slot_dict_keyiterator_iter st.typeIs PySem.F.entry_dict_keyiterator_iter ?_ (PySem.F.args_dict_keyiterator_iter_1 _))
  show wpAny _ _ (ret (.ref it)) _ _ s
  exact wpAny_pure ⟨_, rfl, "dict_keyiterator", _, st.typeIs, PySem.F.slot_dict_keyiterator_next.lookup, h⟩
section
variable {X : Cx} {tg : Expr}
def CZ (tl : TE) : TI := fun σ H R => tl σ H fun x H1 => ∃ a kvs, x = .ref a /\ ((H1 a = some (.dK kvs) /\ ∀ o, R (Itd a o kvs) (upd H1 a (.frz o (.dK kvs)))) \/ ∃ o, H1 a = some (.frz o (.dK kvs)) /\ R (Itd a o kvs) H1)
theorem Bx {l : Expr} {tl : TE} (hl : PE X l tl) : PI X tg l (CZ tl) := by
 intro pins s σ H R I h
 refine thn (hl pins s σ H _ I h) fun v s1 ⟨x, H1, I1, r1, q1⟩ => ?_
 obtain ⟨a, kvs, e, q⟩ := q1
 subst e
 cases r1
 have main : ∀ (o : Obj) (H2 : Hp), Inv X pins σ H2 s1 -> H2 a = some (.frz o (.dK kvs)) -> R (Itd a o kvs) H2 -> wpAny (model X.prog X.w) X.A (pyIter (.ref a)) (PIE X pins σ tg R) X.xe s1 := fun o H2 I2 e2 q2 => by
  obtain ⟨vs, rel, dat, lo, ho⟩ := hZ I2.hok e2
  have hlen : kvs.length = vs.length := Paired.length rel
  refine wpAny_pyIter_dict lo dat ?_
  refine ⟨s1.heap.objs.size, [s1.heap.objs.size], _, _, H2, rfl, I2.kept (t' := s1.toks) fun b o e => Heap.get?_push_of_some _ e, yF a _ o kvs, ⟨_, Heap.get?_push_size _ rfl, rfl, by rw [hlen]; rfl⟩, fun b hb => ?_, q2⟩
  have e : b = s1.heap.objs.size := by simpa using hb
  subst e
  exact I2.fpOk (Nat.le_refl _) (I2.hok.fresh (Nat.le_refl _))
 rcases q with ⟨hd, q⟩ | ⟨o, hd, q⟩
 ·obtain ⟨z, lo, vs, rel, ob, es, ep, hg, rest⟩ := I1.hok a _ hd
  exact main ob _ (I1.freeze hd hg) ab (q ob)
 ·exact main o H1 I1 hd q
end
theorem oO : entryFor table "dict_itemiterator.__iter__" = some Builtin.«dict_keyiterator.__iter__» :=
 entryFor_alias (id' := "dict_keyiterator.__iter__") (by kernel_rfl) (by first | rfl | decide +kernel | (unfold String.splitOn; simp +decide [String.splitOnAux])) (by decide +kernel) (by kernel_rfl)
theorem wW {P : Program} {w : World} {K : PySem.W.Frag} {elts : List Expr} {x1 : _} {pos : Pos} (a it : Addr) (o : Obj) (kvs : List (Key × V)) : Turn P w K (.Tuple elts x1 pos) (Iti a o kvs) [it] it (fun i h => ∃ ok ov, IsItemIter h it a i kvs.length (lZ o) ok ov) where
 mem := by simp
 obj := fun i h st b hb => by
  have e : b = it := by simpa using hb
  subst e
  obtain ⟨ok, ov, st⟩ := st
  exact ⟨_, st, fun v z => by
   have z' : Data.fields _ = Data.cell v := z
   cases z'⟩
 keep := fun i h h' st k => by
  obtain ⟨ok, ov, st⟩ := st
  exact ⟨ok, ov, k it (by simp) _ st⟩
 item := by
  intro X hP hw hK hc i pins s σ H E I hf st hg
  subst hP hw hK
  obtain ⟨hi, hfz⟩ := hg
  obtain ⟨ok, ov, st⟩ := st
  obtain ⟨vs, rel, dat, lo, ho⟩ := hZ I.hok hfz
  have hlen : kvs.length = vs.length := Paired.length rel
  have hv : i < vs.length := by omega
  obtain ⟨f0, f1, f2, f3, f4, f5⟩ := hf it (by simp)
  rw [hlen] at st
  have itl : it < s.heap.objs.size := Heap.lt_size st
  refine wpAny_pyNext_items_item (knd := aQ X.prog X.w) st dat (k := (vs[i]).1) (v := (vs[i]).2) (List.getElem?_eq_getElem hv) fun key h' hk st' ht hsz kp => ?_
  obtain ⟨p, e1, e2⟩ := e7 rel (List.getElem?_eq_getElem hv)
  refine ⟨.ref s.heap.objs.size, rfl, wpAny_letOwnedTupleGo_items (s := { s with heap := h' }) st' fun h2 st2 sb2 => ?_⟩
  have kp2 : ∀ b u, s.heap.get? b = some u -> b ≠ it -> h2.get? b = some u := fun b u e hb => (sb2.2 b hb).trans (kp b u hb e)
  have nT : s.heap.objs.size ≠ it := Nat.ne_of_gt itl
  have ht2 : h2.get? s.heap.objs.size = some { cls := .type "tuple", data := .seq #[key, (vs[i]).2] } := (sb2.2 _ nT).trans ht
  have fr : H s.heap.objs.size = none := I.hok.fresh (Nat.le_refl _)
  have fit : iE X pins (upd H s.heap.objs.size (.tup [kV p.1, p.2])) it := ⟨by rw [ae (Ne.symm nT)]; exact f0, f1, f2, f3, f4, f5⟩
  have I0 : Inv X pins σ (upd H s.heap.objs.size (.tup [kV p.1, p.2])) { s with heap := s.heap.push { cls := .type "tuple", data := .seq #[key, (vs[i]).2] } } :=
   I.laid (t' := s.toks) (o := .tup [kV p.1, p.2]) (fun b ob q => Heap.get?_push_of_some _ q) (Nat.le_refl _) ⟨by show 2 <= sizeLine; decide, [key, (vs[i]).2], .cons (by rw [e2.1]; exact xH hk) (.cons e2.2 .nil), ⟨_, Heap.get?_push_size _ rfl, rfl, _, rfl⟩⟩
  have I2 : Inv X pins σ (upd H s.heap.objs.size (.tup [kV p.1, p.2])) { s with heap := h2 } := by
   refine I0.turned (t' := s.toks) (h' := h2) (fun b ob hb q => ?_) fit.1 fit.2.1 fit.2.2.2.1 fit.2.2.2.2.1 fit.2.2.2.2.2
   rcases Heap.get?_push_cases (show (s.heap.push { cls := .type "tuple", data := .seq #[key, (vs[i]).2] }).get? b = some ob from q) with ⟨rfl, rfl⟩ | z
   ·exact ht2
   ·exact kp2 b ob z hb
  refine ⟨.ref s.heap.objs.size, _, I2, rfl, ⟨s.heap.objs.size, p, rfl, fr, rfl, e1⟩, ⟨_, _, by rw [hlen]; exact st2⟩, fun b hb => ?_⟩
  have e : b = it := by simpa using hb
  subst e
  exact fit.1
 done := by
  intro X hP hw hK hc i pins s σ H E I hf st hg
  subst hP hw hK
  obtain ⟨hi, hfz⟩ := hg
  obtain ⟨ok, ov, st⟩ := st
  obtain ⟨vs, rel, dat, lo, ho⟩ := hZ I.hok hfz
  have hlen : kvs.length = vs.length := Paired.length rel
  obtain ⟨f0, f1, f2, f3, f4, f5⟩ := hf it (by simp)
  rw [hlen] at st
  exact wpAny_pyNext_items_end (I.ok.hd hc) st dat (List.getElem?_eq_none (by omega)) fun h' eb => ⟨rfl, I.turned (t' := s.toks) (fun b o hb e => eb b o hb e) f0 f1 f3 f4 f5⟩
 self := fun A i s Q E st h => by
  obtain ⟨ok, ov, st⟩ := st
  have hT : s.TypeIs (.ref it) "dict_itemiterator" := ⟨_, st, rfl⟩
  refine wpAny_pyIter_slot hT PySem.F.slot_dict_itemiterator_iter (wpAny_call_entry PySem.F.slot_dict_itemiterator_iter hT oO ?_ (PySem.F.args_dict_itemiterator_iter_1 _))
  show wpAny _ _ (ret (.ref it)) _ _ s
  exact wpAny_pure ⟨_, rfl, "dict_itemiterator", _, hT, PySem.F.slot_dict_itemiterator_next.lookup, h⟩
section
variable {X : Cx}
def Cs (tl : TE) : TI := fun σ H R => tl σ H fun x H1 => ∃ v d kvs, x = .ref v /\ H1 v = some (l9 v d) /\ H1 d = some (.dK kvs) /\ ∀ o, R (Iti d o kvs) (upd H1 d (.frz o (.dK kvs)))
theorem Aa {elts : List Expr} {x1 : _} {tpos : Pos} {l : Expr} {tl : TE} (hl : PE X l tl) : PI X (.Tuple elts x1 tpos) l (Cs tl) := by
 intro pins s σ H R I h
 refine thn (hl pins s σ H _ I h) fun v s1 ⟨x, H1, I1, r1, q1⟩ => ?_
 obtain ⟨v, a, kvs, e, hv, hd, q⟩ := q1
 subst e
 cases r1
 obtain ⟨hview, _, _⟩ := (show ObjOk X.prog X.w H1 s1.heap v (l9 v a) from I1.hok v _ hv)
 obtain ⟨z, lo, vs0, rel0, ob, es, ep, hg, rest⟩ := I1.hok a _ hd
 have I2 := I1.freeze hd hg
 obtain ⟨vs, rel, dat, lo2, ho⟩ := hZ I2.hok ab
 have hlen : kvs.length = vs.length := Paired.length rel
 refine wpAny_pyIter_items hview dat ?_
 refine ⟨s1.heap.objs.size, [s1.heap.objs.size], _, _, _, rfl, I2.kept (t' := s1.toks) fun b o e => Heap.get?_push_of_some _ e, wW a _ ob kvs, ⟨_, _, by rw [hlen]; exact Heap.get?_push_size _ rfl⟩, fun b hb => ?_, q ob⟩
 have e : b = s1.heap.objs.size := by simpa using hb
 subst e
 exact I2.fpOk (Nat.le_refl _) (I2.hok.fresh (Nat.le_refl _))
end
theorem yZ {a : Addr} {o : Obj} {kvs : List (Key × V)} {g : TG} {tb : TS} {D : Ends} {σ : St} {H : Hp} (Pv : Nat -> St -> Hp -> Prop) (h0 : Pv 0 σ H) (hl : ∀ i σ H, i <= kvs.length -> Pv i σ H -> H a = some (.frz o (.dK kvs)))
  (hs : ∀ i p σ H T, kvs[i]? = some p -> Pv i σ H -> H T = none -> g (.ref T) σ (upd H T (.tup [kV p.1, p.2])) fun σ2 H2 => tb { D with nx := Pv (i + 1), ct := Pv (i + 1), bk := D.nx } σ2 H2) (hd : ∀ σ H, Pv kvs.length σ H -> D.nx σ H) :
  ∃ W : Nat -> Nat -> St -> Hp -> Prop, (∃ m, W 0 m σ H) /\ ∀ i m σ H, W i m σ H ->
   ((Iti a o kvs).stop i H /\ D.nx σ H) \/ ((Iti a o kvs).go i H /\ ∃ N : St -> Hp -> Prop, (∀ σ' H', N σ' H' -> ∃ m', m' < m /\ W (i + 1) m' σ' H') /\ ∀ x H', (Iti a o kvs).yld i H x H' -> g x σ H' fun σ2 H2 => tb { D with nx := N, ct := N, bk := D.nx } σ2 H2) := by
 refine ⟨fun i m σ H => m = kvs.length - i /\ i <= kvs.length /\ Pv i σ H, ⟨kvs.length, by simp, Nat.zero_le _, h0⟩, ?_⟩
 rintro i m σ H ⟨rfl, hi, p⟩
 have q := hl i σ H hi p
 by_cases hlt : i < kvs.length
 ·refine .inr ⟨⟨hlt, q⟩, Pv (i + 1), fun σ' H' p' => ⟨kvs.length - (i + 1), by omega, rfl, hlt, p'⟩, fun x H' y => ?_⟩
  obtain ⟨T, pr, rfl, hT, rfl, y⟩ := y
  exact hs i pr σ _ T y p hT
 ·have e : i = kvs.length := by omega
  subst e
  exact .inl ⟨⟨Nat.le_refl _, q⟩, hd σ H p⟩
end L2
set_option Elab.async false
set_option linter.all false
set_option maxRecDepth 100000
namespace L2
open PySem PySem.Spec PyProof.Rows
section
variable {P : Program} {w : World} {A : Around} {E : Value -> Shared -> Prop} {s : Shared}
end
end L2
set_option Elab.async false
set_option linter.all false
set_option maxRecDepth 100000
namespace L2
open PySem PySem.Spec PyProof.Rows
section
variable {X : Cx}
end
end L2
set_option Elab.async false
set_option linter.all false
set_option maxRecDepth 100000
namespace PySem
open PyProof.Rows
section
variable {prog : Program} {w : World} {A : Around} {E : Value -> Shared -> Prop} {s : Shared}
end
end PySem
namespace L2
open PySem PySem.Spec PyProof.Rows
section
variable {X : Cx} {a : Expr} {ta : TA} {p p2 pos pos2 : Pos}
end
end L2
namespace L2
open PySem PySem.Spec PyProof.Rows
section
variable {X : Cx} {N : List Str} {scope : Scope} {ix : List (Option Nat)} {elt iter cond tg : Expr} {pos spos : Pos} {te : TE} {g : TG} {wi : TI} {tc : TT}
end
end L2
set_option Elab.async false
set_option linter.all false
set_option maxRecDepth 100000
namespace L2
open PySem PySem.Spec PyProof.Rows
section
variable {X : Cx} {tg : Expr}
end
section
variable {X : Cx} {a b c : Expr} {ta : TA} {p p2 pos pos2 : Pos}
end
end L2
set_option Elab.async false
set_option linter.all false
set_option maxRecDepth 100000
set_option maxHeartbeats 4000000
namespace L2
open PySem PySem.Spec PyProof.Rows
end L2
set_option Elab.async false
set_option linter.all false
set_option maxRecDepth 100000
set_option maxHeartbeats 4000000
namespace L2
open PySem PySem.Spec PyProof.Rows
theorem qM (l b : Addr) (items items2 : Array Value) (n n2 : Nat) (dc : Option Addr) (sl : Array (Option Value)) (h0 : ¬(!items.isEmpty && Builtin.List.listTooLong (items.size + items2.size)) = true) (h1 : items.size <= sizeLine) (h2 : items.size + items2.size <= sizeLine + 1) :
  Meets (Builtin.«list.extend» ⟨[.ref l, .ref b], []⟩) (fun _ R s => s.heap.get? l = some { cls := .type "list", dict := none, data := .seq items n, slots := #[] } /\ s.heap.get? b = some { cls := .type "tuple", dict := dc, data := .seq items2 n2, slots := sl } /\ R (.ok (.ret Value.none)) { s with heap := s.heap.update l (Obj.mapSeq (· ++ items2)) }) :=
 .of_wp fun prog w A R s h => by
  obtain ⟨hp, g, d, tk, os⟩ := s
  obtain ⟨hl, hb, h⟩ := h
  have f1 := AutoSeq1.idx_int
  have f2 := AutoSeq1.sub_tuple_tuple
  have f3 := AutoSeq1.sub_list_list
  have f4 := AutoSeq1.sub_tuple_list
  have f5 := AutoSeq1.sub_list_tuple
  have hz' : (items ++ items2).size <= sizeLine + 1 := by rw [Array.size_append]; exact h2
  wp_walk using (wpAny_updateSeq hl rfl (hz := h1) (_hz' := hz')), wpAny_loadPart' hl, wpAny_loadPart' hb
  exact ⟨_, rfl, h⟩
section
variable {X : Cx}
def uV : V -> List V -> Hp -> VK -> Prop := fun x vs H Q => ∃ l b xs zs, x = .ref l /\ vs = [.ref b] /\ H l = some (.lst xs) /\ H b = some (.tup zs) /\ xs.length + zs.length <= sizeLine /\ Q .non (upd H l (.lst (xs ++ zs)))
theorem wG : MtM X "list.extend" uV := by
 intro pins s σ H x vs v us Q I rx rv h
 obtain ⟨l, b, xs, zs, rfl, rfl, hH, hB, hz, q⟩ := h
 cases rx
 obtain ⟨u, rfl, ru⟩ := rv.one
 cases ru
 obtain ⟨z, its, n, r, hl, e⟩ := I.lstM hH
 obtain ⟨its2, r2, ht, hz2⟩ := I.tuple (SqT.of (K := X.K) hB)
 have hl2 := r2.length
 obtain ⟨⟨c, dc, da, sl⟩, e2, c2, n2, d2⟩ := ht
 cases c2
 cases d2
 have hsz : its.toArray.size + its2.toArray.size <= sizeLine := by rw [List.size_toArray, List.size_toArray]; omega
 have hlong : ¬ (!its.toArray.isEmpty && Builtin.List.listTooLong (its.toArray.size + its2.toArray.size)) = true := by
  rw [u7 hsz, Bool.and_false]
  exact Bool.false_ne_true
 refine call_meets F.slot_list_extend ⟨_, e, rfl⟩ F.entry_list_extend (F.args_list_extend_2 _ _)
  (qM l b its.toArray its2.toArray n n2 dc sl hlong (by rw [List.size_toArray]; omega) (by omega)) ⟨e, e2, ?_⟩
 refine ⟨.non, _, I.lset (its' := its ++ its2) hH e (by simp) (r.append r2) ?_, rfl, q⟩
 rw [List.length_append]
 omega
def zw : V -> List V -> Hp -> VK -> Prop := fun x vs H Q => xC x vs H Q \/ uV x vs H Q
theorem xt : MtM X "list.extend" zw := by
 intro pins s σ H x vs v us Q I rx rv h
 rcases h with h | h
 ·exact sk pins s σ H x vs v us Q I rx rv h
 ·exact wG pins s σ H x vs v us Q I rx rv h
end
end L2
set_option Elab.async false
set_option linter.all false
set_option maxRecDepth 100000
set_option maxHeartbeats 4000000
namespace L2
open PySem PySem.Spec PyProof.Rows
theorem yP {a : Addr} {o : Obj} {kvs : List (Key × V)} {ix : List (Option Nat)} {te : TE} {σ : St} {H : Hp} {Qd : Addr -> Hp -> Prop} (Pv : Addr -> Nat -> List V -> Hp -> Prop)
  (h0 : ∀ D, H D = none -> Pv D 0 [] (upd H D (.lst [])))
  (hl : ∀ D i ys H', i <= kvs.length -> Pv D i ys H' -> H' a = some (.frz o (.dK kvs)))
  (hs : ∀ D i p ys H' (Q' : VK), H D = none -> kvs[i]? = some p -> H' D = some (.lst ys) -> Pv D i ys H' -> (∀ y H4, H4 D = some (.lst ys) -> ys.length < sizeLine -> Pv D (i + 1) (ys ++ [y]) (upd H4 D (.lst (ys ++ [y]))) -> Q' y H4) ->
   te ((aJ ix σ).set 0 (some (kV p.1))) H' Q')
  (hd : ∀ D ys H', H D = none -> H' D = some (.lst ys) -> Pv D kvs.length ys H' -> Qd D H') : mM (Itd a o kvs) ix (bR 0) te σ H Qd := by
 intro D hD
 refine ⟨fun i m σ' H' => m = kvs.length - i /\ i <= kvs.length /\ (σ' = aJ ix σ \/ ∃ t, σ' = (aJ ix σ).set 0 t) /\ ∃ ys, H' D = some (.lst ys) /\ Pv D i ys H', ⟨kvs.length, by simp, Nat.zero_le _, .inl rfl, [], ab, h0 D hD⟩, ?_⟩
 rintro i m σ' H' ⟨rfl, hi, hσ, ys, hy, p⟩
 have q := hl D i ys H' hi p
 by_cases hlt : i < kvs.length
 ·refine .inr ⟨⟨hlt, q⟩, fun x H2 y => ?_⟩
  obtain ⟨e1, e2⟩ := y
  subst e1
  have ex := e2 kvs[i] (List.getElem?_eq_getElem hlt)
  subst ex
  have es : σ'.set 0 (some (kV (kvs[i]).1)) = (aJ ix σ).set 0 (some (kV (kvs[i]).1)) := by
   rcases hσ with z | ⟨t, z⟩
   ·rw [z]
   ·rw [z, List.set_set]
  show te (σ'.set 0 (some (kV (kvs[i]).1))) _ _
  rw [es]
  refine hs D i kvs[i] ys _ _ hD (List.getElem?_eq_getElem hlt) hy p fun y H4 h4 hz p4 => ⟨ys, h4, hz, kvs.length - (i + 1), by omega, rfl, hlt, .inr ⟨_, rfl⟩, ys ++ [y], ab, p4⟩
 ·have e : i = kvs.length := by omega
  subst e
  exact .inl ⟨⟨Nat.le_refl _, q⟩, hd D ys H' hD hy p⟩
end L2
set_option Elab.async false
set_option linter.all false
set_option maxRecDepth 100000
set_option maxHeartbeats 4000000
namespace PySem
open PyProof.Rows
section
variable {prog : Program} {w : World} {K : Type} [DecidableEq K] {knd : KeyKind prog w K} {A : Around} {E : Value -> Shared -> Prop} {s : Shared} {R : Result -> Shared -> Prop}
theorem IsTupleKey.there {h h' : Heap} {ks : List K} {a : Addr} (x : IsTupleKey knd h ks a) (k : ∀ o, h.get? a = some o -> h'.get? a = some o) : IsTupleKey knd h' ks a := let ⟨o, it, n, ho, r⟩ := x; ⟨o, it, n, k _ ho, r⟩
def nQ (knd : KeyKind prog w K) (h : Heap) (ts : List Addr) (ps : List (List K × Addr × Value)) : Prop := ∀ (j : Nat) (t : Addr) (p : List K × Addr × Value), ts[j]? = some t -> ps[j]? = some p -> IsTupleKey knd h p.1 p.2.1 /\ IsTup h t #[.ref p.2.1, p.2.2]
def o3 (xs ps : List (List K × Addr × Value)) : List (List K × Addr × Value) := ps.foldl (fun acc p => storedH acc p.1 p.2.1 p.2.2) xs
theorem p8 {h h' : Heap} {D : Addr} {xs : List (List K × Addr × Value)} (x : h.DictOfH (tupleKind knd) D xs) (hD : ∀ o, h.get? D = some o -> h'.get? D = some o) (hk : ∀ p ∈ xs, ∀ o, h.get? p.2.1 = some o -> h'.get? p.2.1 = some o) : h'.DictOfH (tupleKind knd) D xs := by
 obtain ⟨o, es, ep, ho, hc, hd, he, his, hn⟩ := x
 exact ⟨o, es, ep, hD _ ho, hc, hd, he, fun p hp => IsTupleKey.there (his p hp) (hk p hp), hn⟩
theorem vD (xs : List (List K × Addr × Value)) (k : List K) (a : Addr) (v : Value) : (storedH xs k a v).length <= xs.length + 1 := by
 unfold storedH
 split
 ·rw [List.length_map]; omega
 ·rw [List.length_append]; exact Nat.le_refl _
theorem iz {h : Heap} {ks : List K} {a I l : Addr} {i : Nat} (x : IsTupleKey knd h ks a) (y : h.IsListIter I l i) : a ≠ I := by
 rintro rfl
 obtain ⟨o, _, _, ho, hc, _⟩ := x
 obtain ⟨o', ho', hc', _⟩ := y
 rw [ho] at ho'
 cases ho'
 rw [hc] at hc'
 exact absurd (Value.type.inj hc') (by decide)
theorem t9 {D I l : Addr} {ts : List Addr} {ps : List (List K × Addr × Value)} (hu : A.units + 1 < cLine) (W : Walks prog w A.in1 I [I, l] [I] ts.length (fun i v => (ts.map Value.ref).toArray[i]? = some v) (fun i h => h.IsListIter I l i /\ h.IsList l (ts.map Value.ref).toArray))
  (hl : ts.length = ps.length) (hDI : D ≠ I) (hDl : D ≠ l) (hDt : ∀ t ∈ ts, t ≠ D /\ t ≠ I) (hz : ps.length <= sizeLine) :
  ∀ (k i : Nat) (s : Shared) (acc : List (List K × Addr × Value)), ts.length - i = k -> i <= ts.length -> (s.heap.IsListIter I l i /\ s.heap.IsList l (ts.map Value.ref).toArray) -> s.heap.DictOfH (tupleKind knd) D acc -> acc.length <= i -> nQ knd s.heap ts ps ->
  (∀ h' tk, (∀ b o, b ≠ D -> b ≠ I -> s.heap.get? b = some o -> h'.get? b = some o) -> h'.DictOfH (tupleKind knd) D (o3 acc (ps.drop i)) -> R (.ok (.ret .none)) { s with heap := h', toks := tk }) ->
  codeAny (model prog w) A (.builtin "dict.update.loop" ⟨[.ref D, .ref I, rawInt (i : Int), .none], []⟩) R s := by
 intro k
 induction k with
 | zero =>
  intro i s acc hk hi hst hD hacc hP hR
  have hin : i = ts.length := by omega
  subst hin
  refine codeAny_builtin cV ?_
  rw [Around.under_plainId ba _]
  show wpAny _ A.in1 (pyNext (.ref I) >>= _) _ _ s
  refine wpAny_bind (W.done s _ _ hst fun h' tk hm => ?_)
  show wpAny _ _ (Builtin.Dict.addKeywords D [] >>= _) _ _ _
  refine wpAny_bind (wpAny_of_eq (a := ()) rfl ?_)
  have e : ps.drop ts.length = [] := by rw [hl, List.drop_length]
  refine wpAny_pure (hR h' tk (fun b o _ hb q => hm b o (by simpa using hb) q) ?_)
  rw [e]
  obtain ⟨_, _, _, _, _, _, _, his, _⟩ := id hD
  exact p8 hD (fun o q => hm D o (by simpa using hDI) q) fun p hp o q => hm _ o (by simpa using iz (his p hp) hst.1) q
 | succ k ih =>
  intro i s acc hk hi hst hD hacc hP hR
  have hlt : i < ts.length := by omega
  have hlt2 : i < ps.length := by omega
  refine codeAny_builtin cV ?_
  rw [Around.under_plainId ba _]
  show wpAny _ A.in1 (pyNext (.ref I) >>= _) _ _ s
  refine wpAny_bind (W.item i s _ _ hlt hst fun v h' tk hv hst' hm => ?_)
  have ev : v = .ref ts[i] := by
   have : (ts.map Value.ref).toArray[i]? = some (.ref ts[i]) := by simp [hlt]
   rw [this] at hv
   exact (Option.some.inj hv).symm
  subst ev
  have keep : ∀ b o, b ≠ I -> s.heap.get? b = some o -> h'.get? b = some o := fun b o hb q => hm b o (by simpa using hb) q
  have keyN : ∀ {ks : List K} {a : Addr}, IsTupleKey knd s.heap ks a -> IsTupleKey knd h' ks a := fun x => x.there fun o q => keep _ o (iz x hst.1) q
  obtain ⟨hkey, ht⟩ := hP i ts[i] ps[i] (List.getElem?_eq_getElem hlt) (List.getElem?_eq_getElem hlt2)
  have tn := hDt ts[i] (List.getElem_mem hlt)
  have ht' : IsTup h' ts[i] #[.ref (ps[i]).2.1, (ps[i]).2.2] := ht.extBut (b := I) keep tn.2
  have hD' : h'.DictOfH (tupleKind knd) D acc := by
   obtain ⟨_, _, _, _, _, _, _, his, _⟩ := id hD
   exact p8 hD (fun o q => keep D o hDI q) fun p hp o q => keep _ o (iz (his p hp) hst.1) q
  obtain ⟨ot, hot, hct, nt, hdt⟩ := id ht'
  try dsimp only
  refine wpAny_bind (wpAny_holding ?_)
  refine wpAny_bind (wpAny_tryCatch ?_)
  unfold Builtin.Dict.pairItems
  refine wpAny_bind (wpAny_typeOf (s := { s with heap := h', toks := tk }) ht'.typeIs ?_)
  rw [if_pos (by decide)]
  refine wpAny_bind (wpAny_seqItems (s := { s with heap := h', toks := tk }) hot hdt ?_)
  refine wpAny_pure ?_
  show wpAny _ _ (holding [.ref (ps[i]).2.1, (ps[i]).2.2] (dictSet D (.ref (ps[i]).2.1) (ps[i]).2.2)) _ _ _
  refine wpAny_holding (wpAny_dictSet_heap (knd := tupleKind knd) (k := (ps[i]).1) (s := { s with heap := h', toks := tk }) hu (keyN hkey) hD' (fun h2 hD2 sb2 => ?_) (by omega))
  have keep2 : ∀ b o, b ≠ D -> h'.get? b = some o -> h2.get? b = some o := fun b o hb q => sb2.extBut b o hb q
  refine wpAny_pure ⟨plainId_quiet ba _, ?_⟩
  have ri : rawInt ((i : Int) + 1) = rawInt (((i + 1 : Nat)) : Int) := by push_cast; rfl
  rw [ri]
  have keyD : ∀ {ks : List K} {a : Addr}, IsTupleKey knd s.heap ks a -> a ≠ D := fun x z => by
   obtain ⟨o, _, _, ho, _, hd, _⟩ := x
   obtain ⟨o', _, _, ho', _, hd', _⟩ := hD
   rw [z, ho'] at ho
   cases ho
   rw [hd'] at hd
   cases hd
  refine ih (i + 1) { s with heap := h2, toks := _ } (storedH acc (ps[i]).1 (ps[i]).2.1 (ps[i]).2.2) (by omega) hlt ⟨hst'.1.at fun o q => keep2 I o (Ne.symm hDI) q, hst'.2.at fun o q => keep2 l o (Ne.symm hDl) q⟩ hD2 (by
   have := vD acc (ps[i]).1 (ps[i]).2.1 (ps[i]).2.2
   omega) (fun j t p h1 h2' => ?_) (fun h3 tk3 kp3 hD3 => ?_)
  ·obtain ⟨hk', ht''⟩ := hP j t p h1 h2'
   have tn' := hDt t (List.mem_of_getElem? h1)
   exact ⟨(keyN hk').there fun o q => keep2 _ o (keyD hk') q, (ht''.extBut (b := I) keep tn'.2).extBut (b := D) keep2 tn'.1⟩
  ·refine hR h3 tk3 (fun b o hb hb2 q => kp3 b o hb hb2 (keep2 b o hb (keep b o hb2 q))) ?_
   rw [List.drop_eq_getElem_cons hlt2]
   exact hD3
theorem nJ {l : Addr} {ts : List Addr} {ps : List (List K × Addr × Value)} {c : Nat} {Q : Value -> Shared -> Prop} (hu : A.units + 2 < cLine) (hh : A.handled = none) (hL : s.heap.get? l = some { cls := .type "list", dict := none, data := .seq (ts.map Value.ref).toArray c, slots := #[] })
  (hl : ts.length = ps.length) (hP : nQ knd s.heap ts ps) (hz : ps.length <= sizeLine)
  (hQ : ∀ h' tk, (∀ b o, s.heap.get? b = some o -> h'.get? b = some o) -> h'.DictOfH (tupleKind knd) s.heap.objs.size (o3 [] ps) -> Q (.ref s.heap.objs.size) { s with heap := h', toks := tk }) :
  wpAny (model prog w) A (call (.type "dict") [.ref l]) Q E s := by
 refine callType_codes (Q₁ := fun obj s₁ => obj = .ref s.heap.objs.size /\ s₁ = { s with heap := s.heap.push { cls := .type "dict", data := .dict #[] } }) F.kt_called_dict (F.kt_typeCall_dict_1 _) F.entry_dict_init (kt_code_dict_new _ ⟨rfl, rfl⟩) ?_
 rintro obj s₁ ⟨rfl, rfl⟩
 have hnew : (s.heap.push { cls := .type "dict", data := .dict #[] }).DictOfH (tupleKind knd) s.heap.objs.size [] := Heap.DictOfH.new s.heap
 have hnewT : ({ s with heap := s.heap.push { cls := .type "dict", data := .dict #[] } } : Shared).TypeIs (.ref s.heap.objs.size) "dict" := ⟨_, Heap.get?_push_size s.heap rfl, rfl⟩
 have hlt : l < s.heap.objs.size := Heap.lt_size hL
 have hL' : (s.heap.push { cls := .type "dict", data := .dict #[] }).get? l = some { cls := .type "list", dict := none, data := .seq (ts.map Value.ref).toArray c, slots := #[] } := Heap.get?_push_of_some _ hL
 refine ⟨hnewT, F.args_dict_init_2 _ _, ?_⟩
 unfold Builtin.«dict.__init__»
 refine wpAny_bind ?_
 unfold Builtin.Dict.selfAndRest
 refine wpAny_bind (wpAny_notOrdered_dict hnewT ?_)
 show wpAny _ _ (pure (s.heap.objs.size, [Value.ref l])) _ _ _
 refine wpAny_pure ?_
 show wpAny _ _ (Builtin.Dict.updateFrom "dict.__init__" s.heap.objs.size (.ref l) [] .none) _ _ _
 unfold Builtin.Dict.updateFrom
 refine wpAny_bind (wpAny_typeOf (T := "list") ⟨_, hL', rfl⟩ ?_)
 rw [if_pos (by decide)]
 refine wpAny_bind (jM hL' hh fun h1 tk1 kp1 => ?_)
 rw [if_pos (by rfl)]
 refine wpAny_bind (wpAny_rule ?_)
 have hL1 := kp1 _ _ hL'
 have il1 : Heap.IsList h1 l (ts.map Value.ref).toArray := ⟨_, hL1, rfl, c, rfl⟩
 refine wpAny_bind (wpAny_pyIter_list (s := { s with heap := h1, toks := tk1 }) il1 ?_)
 refine wpAny_pure ⟨plainId_quiet ba _, ?_⟩
 have oI : (h1.push { cls := .type "list_iterator", data := .fields #[.ref l, .int 0 0] }).get? h1.objs.size = some { cls := .type "list_iterator", data := .fields #[.ref l, .int 0 0] } := Heap.get?_push_size _ rfl
 have l1 : l < h1.objs.size := Heap.lt_size hL1
 have d1 : s.heap.objs.size < h1.objs.size := Heap.lt_size (kp1 _ _ (Heap.get?_push_size s.heap rfl))
 have W := Walks.list (prog := prog) (w := w) (A := A.in1.in1) hh h1.objs.size l (Nat.ne_of_lt l1) (ts.map Value.ref).toArray
 have sz : (ts.map Value.ref).toArray.size = ts.length := by simp
 rw [sz] at W
 have kp2 : ∀ b o, s.heap.get? b = some o -> (h1.push { cls := .type "list_iterator", data := .fields #[.ref l, .int 0 0] }).get? b = some o := fun b o q => Heap.get?_push_of_some _ (kp1 _ _ (Heap.get?_push_of_some _ q))
 refine t9 (A := A.in1) (knd := knd) (D := s.heap.objs.size) (ps := ps) (by show A.units + 1 + 1 < cLine; exact hu) W hl (Nat.ne_of_lt d1) (Nat.ne_of_gt hlt) (fun t ht => ?_) hz ts.length 0 { s with heap := h1.push { cls := .type "list_iterator", data := .fields #[.ref l, .int 0 0] }, toks := tk1 } [] rfl (Nat.zero_le _) ⟨⟨_, oI, rfl, rfl⟩, il1.at fun o q => Heap.get?_push_of_some _ q⟩ ?_ (Nat.zero_le _) (fun j t p a1 a2 => ?_) fun h3 tk3 kp3 hD3 => ?_
 ·obtain ⟨j, hj⟩ := List.mem_iff_getElem?.mp ht
  have jl : j < ps.length := by
   rw [<- hl]
   exact (List.getElem?_eq_some_iff.mp hj).1
  obtain ⟨_, o, ho, _⟩ := hP j t ps[j] hj (List.getElem?_eq_getElem jl)
  have tl := Heap.lt_size ho
  exact ⟨Nat.ne_of_lt tl, Nat.ne_of_lt (Nat.lt_trans tl d1)⟩
 ·exact p8 hnew (fun o q => Heap.get?_push_of_some _ (kp1 _ _ q)) fun p hp => by cases hp
 ·obtain ⟨hk, ht⟩ := hP j t p a1 a2
  exact ⟨hk.there fun o q => kp2 _ o q, ht.keeps kp2⟩
 ·exact ⟨rfl, hQ h3 tk3 (fun b o q => kp3 b o (Nat.ne_of_lt (Heap.lt_size q)) (Nat.ne_of_lt (Nat.lt_trans (Heap.lt_size q) d1)) (kp2 b o q)) hD3⟩
end
end PySem
namespace L2
open PySem PySem.Spec PyProof.Rows
section
variable {X : Cx}
def xh (H : Hp) : List Addr -> List (List Key × V) -> Prop := Paired fun t p => ∃ b, H t = some (.tup [.ref b, p.2]) /\ H b = some (.tup (p.1.map kV))
theorem oq {P : Program} {w : World} : ∀ {kvs : List (List Key × V)} {ts : List Addr} {H : Hp} {h : Heap}, xh H ts kvs -> HOk P w H h -> ∃ ps : List (List Key × Addr × Value), KT H kvs ps /\ ps.length = ts.length /\ nQ (aQ P w) h ts ps
 | [], [], _, _, .nil, _ => ⟨[], .nil, rfl, fun j t p h => by simp at h⟩
 | _, _, _, _, .cons (a := a) (b := p) (l₁ := ts) (l₂ := kvs) q t, ok => by
  obtain ⟨ps, r1, r2, r3⟩ := oq t ok
  obtain ⟨b, qa, qb⟩ := q
  obtain ⟨z, its, rv, ht⟩ := ok a _ qa
  obtain ⟨u, v, rfl, ru, rv'⟩ := Vals.two rv
  cases (show u = Value.ref b from ru)
  refine ⟨(p.1, b, v) :: ps, .cons ⟨rfl, qb, rv'⟩ r1, by simp [r2], fun j t' p' h1 h2 => ?_⟩
  cases j with
  | zero =>
   simp at h1 h2
   subst h1 h2
   exact ⟨jI ok qb, by simpa using ht⟩
  | succ j => exact r3 j t' p' (by simpa using h1) (by simpa using h2)
def fk (acc kvs : List (List Key × V)) : List (List Key × V) := kvs.foldl (fun a p => putK a p.1 p.2) acc
theorem gC : ∀ (kvs acc : List (List Key × V)), (fk acc kvs).length <= acc.length + kvs.length
 | [], acc => Nat.le_refl _
 | p :: kvs, acc => by
  have h1 := gC kvs (putK acc p.1 p.2)
  have h2 := fb acc p.1 p.2
  show (fk (putK acc p.1 p.2) kvs).length <= _
  rw [List.length_cons]
  omega
theorem KT.merge {H : Hp} : ∀ {kvs : List (List Key × V)} {ps : List (List Key × Addr × Value)} {acc : List (List Key × V)} {xs : List (List Key × Addr × Value)}, KT H kvs ps -> KT H acc xs -> KT H (fk acc kvs) (o3 xs ps)
 | [], [], _, _, .nil, r => r
 | p :: kvs, q :: ps, acc, xs, .cons h t, r => by
  obtain ⟨e, hb, rv⟩ := h
  have s := r.put p.1 hb rv
  rw [e] at s
  have i := KT.merge t s
  show KT H (fk (putK acc p.1 p.2) kvs) (o3 (storedH xs q.1 q.2.1 q.2.2) ps)
  rw [e]
  exact i
def z7 : List V -> Hp -> VK -> Prop := fun xs H Q => ∃ l ts kvs, xs = [.ref l] /\ H l = some (.lst (ts.map V.ref)) /\ xh H ts kvs /\ ∀ D, H D = none -> Q (.ref D) (upd H D (.dT (fk [] kvs)))
theorem tM (hc : X.calm = true) (hu : X.A.units + 2 < cLine) : gU X (.type "dict") z7 := by
 intro pins s σ H xs us Q I r h
 obtain ⟨l, ts, kvs, rfl, hl, hp, q⟩ := h
 obtain ⟨u, rfl, rx⟩ := vals1 r
 cases rx
 obtain ⟨z, its, n, rv, hln, e⟩ := I.lstM hl
 have ei := nR rv
 subst ei
 obtain ⟨ps, r1, r2, r3⟩ := oq hp I.hok
 have hlen : kvs.length = ps.length := Paired.length r1
 have zl : ps.length <= sizeLine := by
  rw [r2]
  rw [List.length_map] at z
  exact z
 refine nJ (knd := aQ X.prog X.w) hu (I.ok.hd hc) e r2.symm r3 zl fun h' tk kp dd => ?_
 have ob : ObjOk X.prog X.w (upd H s.heap.objs.size (.dT (fk [] kvs))) h' s.heap.objs.size (.dT (fk [] kvs)) := by
  obtain ⟨o, es, ep, h1, h2, h3, h4, _, h5⟩ := dd
  refine ⟨?_, beq_eq_false_iff_ne.mpr (Ne.symm (Nat.ne_of_lt I.big)), _, (KT.merge r1 .nil).keeps fun c ys ec => ?_, o, es, ep, h1, h2, h3, h4, h5⟩
  ·have := gC kvs []
   simp only [List.length_nil] at this
   omega
  ·rw [ae (aq ec (I.hok.fresh (Nat.le_refl _)))]
   exact ec
 exact ⟨.ref _, _, I.laid (t' := tk) kp (Nat.le_refl _) ob, rfl, q _ (I.hok.fresh (Nat.le_refl _))⟩
end
theorem Ct {A : Around} {k : Nat} (hr : Room k A) : A.units + 2 < cLine := by
 have := hr.un
 omega
end L2
set_option Elab.async false
set_option linter.all false
set_option maxRecDepth 100000
set_option maxHeartbeats 4000000
namespace PySem
section
variable {prog : Program} {w : World} {A : Around} {E : Value -> Shared -> Prop} {s : Shared}
def RawD (h : Heap) (d : Addr) (es : Array DictEntry) (ep : Nat) : Prop := ∃ o, h.get? d = some o /\ o.ExactDict /\ o.data = .dict es ep
theorem RawD.ty {d : Addr} {es : Array DictEntry} {ep : Nat} (x : RawD s.heap d es ep) : s.TypeIs (.ref d) "dict" := let ⟨o, h1, h2, _⟩ := x; ⟨o, h1, h2.1⟩
theorem RawD.to {h h' : Heap} {d : Addr} {es : Array DictEntry} {ep : Nat} (x : RawD h d es ep) (k : ∀ o, h.get? d = some o -> h'.get? d = some o) : RawD h' d es ep := let ⟨o, h1, r⟩ := x; ⟨o, k _ h1, r⟩
theorem z5 {d : Addr} {es : Array DictEntry} {ep : Nat} {Q : Value -> Shared -> Prop} (lo : (d == sysModules) = false) (x : RawD s.heap d es ep)
  (q : Q (.ref s.heap.objs.size) { s with heap := s.heap.push { cls := .type "dict_keyiterator", data := .fields #[.ref d, .int 0 0, .int es.size 0, .int ep 0] } }) : wpAny (model prog w) A (pyIter (.ref d)) Q E s := by
 have ty := x.ty
 obtain ⟨ob, g1, g2, g3⟩ := x
 refine wpAny_pyIter_slot ty F.slot_dict_iter (wpAny_call_entry F.slot_dict_iter ty F.entry_dict_iter ?_ (F.args_dict_iter_1 _))
 unfold Builtin.«dict.__iter__» Builtin.Dict.dictSlotNone
 refine wpAny_bind (wpAny_bind (wpAny_notOrdered_dict ty ?_))
 show wpAny _ _ (pure (Value.ref d)) _ _ s
 refine wpAny_pure ?_
 show wpAny _ _ (Builtin.Dict.showsAll d >>= _) _ _ s
 unfold Builtin.Dict.showsAll
 rw [if_neg (fun z => by rw [lo] at z; cases z)]
 refine wpAny_bind (wpAny_pure (wpAny_bind (wpAny_dictEntries g1 g3 (wpAny_bind (wpAny_dictEpoch g1 g3 ?_)))))
 refine wpAny_bind (wpAny_newObj_type (wpAny_pure ⟨_, rfl, "dict_keyiterator", _, ⟨_, Heap.get?_push_size _ rfl, rfl⟩, F.slot_dict_keyiterator_next.lookup, ?_⟩))
 simpa [rawInt] using q
theorem zH {it d : Addr} {i ep : Nat} {es : Array DictEntry} {Q : Option Value -> Shared -> Prop} (y : s.heap.IsKeyIter it d i es.size ep) (x : RawD s.heap d es ep) (hi : i < es.size)
  (q : ∀ h', h'.IsKeyIter it d (i + 1) es.size ep -> Heap.SameBut it s.heap h' -> Q (some es[i].key) { s with heap := h' }) : wpAny (model prog w) A (pyNext (.ref it)) Q E s := by
 have ty := y.typeIs
 obtain ⟨oi, i1, i2, i3⟩ := id y
 obtain ⟨ob, g1, g2, g3⟩ := x
 unfold pyNext
 refine wpAny_bind (wpAny_attempt (wpAny_callSpecial?_slot (name := Str.ofString "__next__") ty F.slot_dict_keyiterator_next (wpAny_call_entry F.slot_dict_keyiterator_next ty F.entry_dict_keyiterator_next ?_ (F.args_dict_keyiterator_next_1 _))))
 refine wpAny_bind (wpAny_pure (wpAny_bind (wpAny_bind ?_)))
 first | refine wpAny_bind (wpAny_typeNameOfWhole_keyiter ty (wpAny_pure ?_)) | refine wpAny_bind (wpAny_typeNameOf_keyiter ty (wpAny_pure ?_))
 refine wpAny_bind (wpAny_fieldsOf i1 i3 ?_)
 have own : Builtin.Dict_items.ownsTuple "dict_keyiterator" = false := by decide
 simp only [own, Bool.false_eq_true, if_false]
 show wpAny _ _ (if (Value.ref d == Value.none) = true then _ else _) _ _ s
 rw [if_neg (by intro z; cases z)]
 refine wpAny_bind (wpAny_pure (wpAny_bind (wpAny_dictEntries g1 g3 ?_)))
 rw [if_neg (by simp)]
 refine wpAny_bind (wpAny_pure (wpAny_bind (wpAny_dictEpoch g1 g3 ?_)))
 rw [if_neg (by simp)]
 refine wpAny_pure ?_
 simp only [show ¬ ((i : Int) < 0) from by omega, if_false, Int.toNat_natCast, Array.getElem?_eq_getElem hi]
 refine wpAny_bind ?_
 first | refine wpAny_bind (wpAny_typeNameOfWhole_keyiter ty (wpAny_pure ?_)) | refine wpAny_bind (wpAny_typeNameOf_keyiter ty (wpAny_pure ?_))
 refine wpAny_bind (wpAny_isOneOf_keyiter ty ?_)
 show wpAny _ _ (setField (.ref it) 1 (rawInt ((i : Int) + 1)) >>= _) _ _ s
 refine wpAny_bind (wpAny_setField i1 i3 (by simp) ?_)
 have y2 : (s.heap.update it (Obj.mapFields (·.setIfInBounds 1 (rawInt ((i : Int) + 1))))).IsKeyIter it d (i + 1) es.size ep := ⟨_, Heap.get?_update_self _ i1 (Obj.isFreed_of_fields (Obj.data_mapFields i3 _)), (Obj.cls_mapFields ..).trans i2, by rw [Obj.data_mapFields i3]; simp [rawInt]⟩
 refine wpAny_bind (wpAny_holding (wpAny_bind (wpAny_isOneOf_keyiter (s := { s with heap := s.heap.update it (Obj.mapFields (·.setIfInBounds 1 (rawInt ((i : Int) + 1)))) }) y2.typeIs ?_)))
 show wpAny _ _ (pure es[i].key) _ _ _
 exact wpAny_pure (wpAny_pure ⟨_, rfl, wpAny_pure (q _ y2 (Heap.SameBut.update ..))⟩)
theorem Bd {it d : Addr} {ep : Nat} {es : Array DictEntry} {Q : Option Value -> Shared -> Prop} (hh : A.handled = none) (y : s.heap.IsKeyIter it d es.size es.size ep) (x : RawD s.heap d es ep)
  (q : ∀ h', Heap.ExtBut it s.heap h' -> Q none { s with heap := h' }) : wpAny (model prog w) A (pyNext (.ref it)) Q E s := by
 have ty := y.typeIs
 obtain ⟨oi, i1, i2, i3⟩ := id y
 obtain ⟨ob, g1, g2, g3⟩ := x
 unfold pyNext
 refine wpAny_bind (wpAny_attempt (wpAny_callSpecial?_slot (name := Str.ofString "__next__") ty F.slot_dict_keyiterator_next (wpAny_call_entry F.slot_dict_keyiterator_next ty F.entry_dict_keyiterator_next ?_ (F.args_dict_keyiterator_next_1 _))))
 refine wpAny_bind (wpAny_pure (wpAny_bind (wpAny_bind ?_)))
 first | refine wpAny_bind (wpAny_typeNameOfWhole_keyiter ty (wpAny_pure ?_)) | refine wpAny_bind (wpAny_typeNameOf_keyiter ty (wpAny_pure ?_))
 refine wpAny_bind (wpAny_fieldsOf i1 i3 ?_)
 have own : Builtin.Dict_items.ownsTuple "dict_keyiterator" = false := by decide
 simp only [own, Bool.false_eq_true, if_false]
 show wpAny _ _ (if (Value.ref d == Value.none) = true then _ else _) _ _ s
 rw [if_neg (by intro z; cases z)]
 refine wpAny_bind (wpAny_pure (wpAny_bind (wpAny_dictEntries g1 g3 ?_)))
 rw [if_neg (by simp)]
 refine wpAny_bind (wpAny_pure (wpAny_bind (wpAny_dictEpoch g1 g3 ?_)))
 rw [if_neg (by simp)]
 refine wpAny_pure ?_
 simp only [show ¬ ((es.size : Int) < 0) from by omega, if_false, Int.toNat_natCast, Array.getElem?_eq_none (Nat.le_refl es.size)]
 refine wpAny_bind ?_
 first | refine wpAny_bind (wpAny_typeNameOfWhole_keyiter ty (wpAny_pure ?_)) | refine wpAny_bind (wpAny_typeNameOf_keyiter ty (wpAny_pure ?_))
 show wpAny _ _ (setField (.ref it) 0 .none >>= _) _ _ s
 refine wpAny_bind (wpAny_setField i1 i3 (by simp) ?_)
 show wpAny _ _ (newExc (.type "StopIteration") [] >>= _) _ _ _
 refine wpAny_bind ?_
 simp only [newExc, newTuple]
 refine wpAny_bind (wpAny_newObj_type (wpAny_bind (m := firstArgMember _ _) (wpAny_of_eq (a := Value.none) (by first | rfl | (simp only [firstArgMember]; rfl)) (wpAny_newObj_type ?_ (by size_fits)))) (by size_fits))
 simp only [raiseNew]
 refine wpAny_bind (wpAny_handled ?_)
 rw [show A.in1.handled = none from hh]
 refine (wpAny_bind (wpAny_pure (wpAny_throw ?fin)))
 refine (wpAny_bind (wpAny_isInstance (T := "StopIteration") (b := true) ⟨_, (Heap.get?_push_size _ rfl), rfl⟩ isSubtype_stop ?_))
 exact wpAny_pure (q _ (((Heap.SameBut.update ..).extBut.push _).push _))
theorem yG (hh : A.handled = none) (I d : Addr) (ne : d ≠ I) (es : Array DictEntry) (ep : Nat) :
  Walks prog w A I [I, d] [I] es.size (fun i v => ∃ hi : i < es.size, v = es[i].key) (fun i h => h.IsKeyIter I d i es.size ep /\ RawD h d es ep) where
 sub := fun b hb => by simp at hb; simp [hb]
 frame := fun _ _ _ st hk => ⟨st.1.at fun o e => hk I (by simp) o e, st.2.to fun o e => hk d (by simp) o e⟩
 item := fun i s Q E hi st hQ => zH st.1 st.2 hi fun h' y2 sb => hQ _ h' s.toks ⟨hi, rfl⟩ ⟨y2, st.2.to fun o e => sb.extBut d o ne e⟩ fun b o hb e => sb.extBut b o (fun h => hb (by simp [h])) e
 done := fun s Q E st hQ => Bd hh st.1 st.2 fun h' he => hQ h' s.toks fun b o hb e => he b o (fun h => hb (by simp [h])) e
 self := fun _ _ _ _ st hQ => wpAny_pyIter_keyiter st.1 hQ
end
theorem PySem.W.kdl_raw {prog : Program} {w : World} {d : Addr} {es : Array DictEntry} {ep : Nat} (lo : (d == sysModules) = false) : PySem.W.KdlSrc prog w "dict" d d es.size (fun i v => ∃ hi : i < es.size, v = es[i].key) (fun h => RawD h d es ep) where
 type := fun _ x => x.ty
 there := fun _ x => let ⟨_, h1, _⟩ := x; ⟨Heap.lt_size h1, Heap.lt_size h1⟩
 keep := fun _ _ x hk => x.to fun o e => hk d (.inl rfl) o e
 notList := by decide
 notTuple := by decide
 hint := fun _ _ _ _ x hq => PySem.W.kdl_hint_dict x.ty hq
 iter := fun _ s hh x => ⟨_, _, (fun _ _ q => z5 lo x q), yG hh _ d (let ⟨_, h1, _⟩ := x; Nat.ne_of_lt (Heap.lt_size h1)) es ep, ⟨⟨_, Heap.get?_push_size _ rfl, rfl, rfl⟩, x.to fun o e => Heap.get?_push_of_some _ e⟩⟩
end PySem
namespace L2
open PySem PySem.Spec PyProof.Rows
section
variable {X : Cx}
def xX (H : Hp) : List Addr -> List (List Key × V) -> Prop := Paired fun b p => H b = some (.tup (p.1.map kV))
theorem KT.keys {H : Hp} : ∀ {kvs : List (List Key × V)} {xs : List (List Key × Addr × Value)}, KT H kvs xs -> xX H (xs.map fun q => q.2.1) kvs
 | [], [], .nil => .nil
 | _ :: _, _ :: _, .cons h t => .cons h.2.1 (KT.keys t)
def Cp : List V -> Hp -> VK -> Prop := fun xs H Q => ∃ p kvs, xs = [.ref p] /\ H p = some (.dT kvs) /\ ∀ l bs, H l = none -> xX H bs kvs -> Q (.ref l) (upd H l (.lst (bs.map V.ref)))
theorem wD (hc : X.calm = true) : gU X (.type "list") Cp := by
 intro pins s σ H xs us Q I r h
 obtain ⟨p, kvs, rfl, hp, q⟩ := h
 obtain ⟨u, rfl, rx⟩ := vals1 r
 cases rx
 obtain ⟨hz, lo, xs, kt, o, es, ep, h1, h2, h3, h4, h5⟩ := (show ObjOk X.prog X.w H s.heap p (.dT kvs) from I.hok p _ hp)
 have hlen : kvs.length = xs.length := Paired.length kt
 have sz : es.size = xs.length := by
  have := congrArg List.length h4
  rw [List.length_map] at this
  simpa using this
 refine PySem.W.kdl_call (PySem.W.kdl_raw (es := es) (ep := ep) lo) (I.ok.hd hc) ⟨o, h1, h2, h3⟩ (by rw [sz, <- hlen]; exact hz) fun h' tk acc c' kp e hacc => ?_
 have ea : acc.toList = (xs.map fun q => q.2.1).map Value.ref := by
  refine List.ext_getElem? fun j => ?_
  rcases Nat.lt_or_ge j es.size with hj | hj
  ·have hja : j < acc.size := by rw [hacc.1]; exact hj
   obtain ⟨hi, ev⟩ := hacc.2 j acc[j] (Array.getElem?_eq_getElem hja)
   have ek : es[j] = entryOfKey (tupleKind (aQ X.prog X.w)) (xs[j]'(by rw [<- sz]; exact hj)) := by
    have := congrArg (fun l => l[j]?) h4
    simp only [Array.getElem?_toList, List.getElem?_map] at this
    rw [Array.getElem?_eq_getElem hj, List.getElem?_eq_getElem (by rw [<- sz]; exact hj)] at this
    exact Option.some.inj this
   rw [Array.getElem?_toList, Array.getElem?_eq_getElem hja, ev, ek, List.getElem?_map, List.getElem?_map, List.getElem?_eq_getElem (by rw [<- sz]; exact hj)]
   rfl
  ·rw [List.getElem?_eq_none (by rw [Array.length_toList, hacc.1]; exact hj), List.getElem?_eq_none (by rw [List.length_map, List.length_map, <- sz]; exact hj)]
 have rv : ∀ bs : List Addr, Vals (bs.map V.ref) (bs.map Value.ref) := fun bs => by
  induction bs with
  | nil => exact .nil
  | cons b bs ih => exact .cons rfl ih
 have ob : ObjOk X.prog X.w (upd H s.heap.objs.size (.lst ((xs.map fun q => q.2.1).map V.ref))) h' s.heap.objs.size (.lst ((xs.map fun q => q.2.1).map V.ref)) := by
  refine ⟨by rw [List.length_map, List.length_map, <- hlen]; exact hz, acc.toList, c', by rw [ea]; exact rv _, ?_⟩
  rw [Array.toArray_toList]
  exact e
 exact ⟨.ref _, _, I.laid (t' := tk) kp (Nat.le_refl _) ob, rfl, q _ _ (I.hok.fresh (Nat.le_refl _)) (KT.keys kt)⟩
end
end L2
set_option Elab.async false
set_option linter.all false
set_option maxRecDepth 100000
set_option maxHeartbeats 4000000
namespace L2
open PySem PySem.Spec PyProof.Rows
theorem xm {K : PySem.W.Frag} {a : Addr} {xs : List V} {ix : List (Option Nat)} {g : TG} {te : TE} {σ : St} {H : Hp} {Qd : Addr -> Hp -> Prop} (Pv : Addr -> Nat -> List V -> Hp -> Prop)
  (hg : ∀ (T : Addr) (σ : St) (H : Hp) (Q : St -> Hp -> Prop) (i : Int) (x : V), H T = some (.tup [.int i, x]) -> Q ((σ.set 0 (some (.int i))).set 1 (some x)) H -> g (.ref T) σ H Q)
  (h0 : ∀ D, H D = none -> Pv D 0 [] (upd H D (.lst [])))
  (hl : ∀ D i ys H', i <= xs.length -> Pv D i ys H' -> SqL K H' a xs)
  (hs : ∀ D i x ys H' T (Q' : VK), H D = none -> xs[i]? = some x -> H' D = some (.lst ys) -> Pv D i ys H' -> H' T = none -> (∀ y H4, H4 D = some (.lst ys) -> ys.length < sizeLine -> Pv D (i + 1) (ys ++ [y]) (upd H4 D (.lst (ys ++ [y]))) -> Q' y H4) ->
   te (((aJ ix σ).set 0 (some (.int i))).set 1 (some x)) (upd H' T (.tup [.int i, x])) Q')
  (hd : ∀ D ys H', H D = none -> H' D = some (.lst ys) -> Pv D xs.length ys H' -> Qd D H') : mM (yJ K a) ix g te σ H Qd := by
 refine xv (n := xs.length) (item := fun i => xs.getD i .non) Pv hg h0 (fun D i ys H' hi p => ?_) (fun D ys H' p => ⟨xs, hl D _ ys H' (Nat.le_refl _) p, Nat.le_refl _⟩) (fun D i ys H' T Q' hD hi hy p hT k => ?_) hd
 ·have q := hl D i ys H' (Nat.le_of_lt hi) p
  refine ⟨⟨xs, xs[i], q, List.getElem?_eq_getElem hi⟩, fun x H2 y => ?_⟩
  obtain ⟨T, x0, rfl, hT, rfl, y⟩ := y
  have e := y xs q
  refine ⟨T, rfl, hT, ?_⟩
  show _ = upd H' T (.tup [.int i, xs.getD i .non])
  rw [List.getD_eq_getElem?_getD, e]
  rfl
 ·have e : xs.getD i .non = xs[i] := by rw [List.getD_eq_getElem?_getD, List.getElem?_eq_getElem hi]; rfl
  show te (((aJ ix σ).set 0 (some (.int i))).set 1 (some (xs.getD i .non))) (upd H' T (.tup [.int i, xs.getD i .non])) Q'
  rw [e]
  exact hs D i xs[i] ys H' T Q' hD (List.getElem?_eq_getElem hi) hy p hT k
theorem FnOk.or {P : Program} {w : World} {K : PySem.W.Frag} {mg : Str -> Option Value} {base : Heap} {CX : CXT} {k : Nat} {f : Addr} {fd : FuncData} {ps : List Str} {sp sp' : Sp} (F : FnOk P w K mg base CX k f fd ps sp) (F' : FnOk P w K mg base CX k f fd ps sp') :
  FnOk P w K mg base CX k f fd ps (fun vs H Q E => sp vs H Q E \/ sp' vs H Q E) :=
 ⟨fun vs H Q E q => q.elim (F.len vs H Q E) (F'.len vs H Q E), fun A outer s H args us vs Q E hr he hb hv hs => hs.elim (F.run A outer s H args us vs Q E hr he hb hv) (F'.run A outer s H args us vs Q E hr he hb hv)⟩
end L2
set_option Elab.async false
set_option linter.all false
set_option maxRecDepth 100000
set_option maxHeartbeats 4000000
namespace L2
open PySem PySem.Spec PyProof.Rows
def EqD (K : PySem.W.Frag) (H : Hp) : Nat -> V -> V -> Prop
 | 0, x, y => ∃ i : Int, x = .int i /\ y = .int i
 | n + 1, x, y => (∃ i : Int, x = .int i /\ y = .int i) \/ ∃ a b xs ys, x = .ref a /\ y = .ref b /\ SqT K H a xs /\ SqT K H b ys /\ Paired (EqD K H n) xs ys
theorem rV {α β : Type} {F : α -> β -> Prop} : ∀ {xs : List α} {ys : List β} {j : Nat} (h1 : j < xs.length) (h2 : j < ys.length), Paired F xs ys -> F xs[j] ys[j]
 | _, _, j, h1, _, .nil => absurd h1 (Nat.not_lt_zero _)
 | _, _, 0, _, _, .cons a _ => a
 | _, _, j + 1, h1, h2, .cons _ t => rV (j := j) (by simpa using h1) (by simpa using h2) t
section
variable {X : Cx} {pins : List (Addr × Obj)} {σ : St} {H : Hp} {s : Shared}
theorem ya {A : Around} {i : Int} {u v : Value} (ru : RelV (.int i) u) (rv : RelV (.int i) v) : SeqAt.EqAt A s u v true := by
 obtain ⟨t, rfl⟩ := (show ∃ t, u = Value.int i t from ru)
 obtain ⟨t', rfl⟩ := (show ∃ t, v = Value.int i t from rv)
 have z := SeqAt.EqAt.int_int (A := A) (s := s) i t i t'
 rw [beq_self_eq_true] at z
 exact z
theorem xJ {n : Nat} (ih : ∀ {A : Around} {x y : V} {u v : Value}, A.units + n < cLine -> EqD X.K H n x y -> RelV x u -> RelV y v -> SeqAt.EqAt A s u v true) {A : Around} {a b : Addr} {xs ys : List V} (I : Inv X pins σ H s) (hu : A.units + (n + 1) < cLine) (ha : SqT X.K H a xs) (hb : SqT X.K H b ys) (p : Paired (EqD X.K H n) xs ys) : SeqAt.RcAt A s (.ref a) (.ref b) true := by
 obtain ⟨its, r1, p1, _⟩ := I.tuple ha
 obtain ⟨jts, r2, p2, _⟩ := I.tuple hb
 have l1 := r1.length
 have l2 := r2.length
 have l3 := p.length
 have q := SeqAt.RcAt.tuples (A := A) (e := fun _ => true) p1 p2 (by omega) fun j h1 h2 => by
  have j1 : j < xs.length := by simp at h1; omega
  have j2 : j < ys.length := by omega
  obtain ⟨u1, e1, q1⟩ := r1.get (i := j) (x := xs[j]) (by simp [j1])
  obtain ⟨u2, e2, q2⟩ := r2.get (i := j) (x := ys[j]) (by simp [j2])
  have g1 : its.toArray[j] = u1 := by
   have := (List.getElem?_eq_some_iff.mp e1).2
   simpa using this
  have g2 : jts.toArray[j] = u2 := by
   have := (List.getElem?_eq_some_iff.mp e2).2
   simpa using this
  rw [g1, g2]
  exact ih (show A.units + 1 + n < cLine by omega) (rV j1 j2 p) q1 q2
 have e : ((List.range (min its.toArray.size jts.toArray.size)).all (fun _ => true) && its.toArray.size == jts.toArray.size) = true := by
  simp
  omega
 rw [e] at q
 exact q
theorem EqD.at (I : Inv X pins σ H s) : ∀ (n : Nat) {A : Around} {x y : V} {u v : Value}, A.units + n < cLine -> EqD X.K H n x y -> RelV x u -> RelV y v -> SeqAt.EqAt A s u v true
 | 0, A, x, y, u, v, _, h, ru, rv => by
  obtain ⟨i, rfl, rfl⟩ := h
  exact ya ru rv
 | n + 1, A, x, y, u, v, hu, h, ru, rv => by
  rcases h with ⟨i, rfl, rfl⟩ | ⟨a, b, xs, ys, rfl, rfl, ha, hb, p⟩
  ·exact ya ru rv
  ·cases ru
   cases rv
   by_cases e : a = b
   ·subst e; exact SeqAt.EqAt.same _
   ·exact SeqAt.EqAt.of_refs e (xJ (fun {A x y u v} h1 h2 h3 h4 => EqD.at I n h1 h2 h3 h4) I hu ha hb p)
theorem As (n : Nat) (hu : X.A.units + (n + 1) < cLine) : OpR X (compareOp .Eq) (fun x y H Q => ∃ a b xs ys, x = .ref a /\ y = .ref b /\ SqT X.K H a xs /\ SqT X.K H b ys /\ Paired (EqD X.K H n) xs ys /\ Q (.bl true) H) := by
 intro pins s σ H x y v u Q I r1 r2 h
 obtain ⟨a, b, xs, ys, rfl, rfl, ha, hb, e, q⟩ := h
 cases r1
 cases r2
 exact xJ (fun {A x y u v} h1 h2 h3 h4 => EqD.at I n h1 h2 h3 h4) I hu ha hb e X.prog X.w X.xe _ ⟨.bl true, H, I, rfl, q⟩
end
def CY (i : Int) : Value -> Bool
 | .int z _ => z == i
 | _ => false
def Bz : V -> List V -> Hp -> VK -> Prop := fun x vs H Q => ∃ (l : Addr) (ns : List Int) (i : Int), x = .ref l /\ vs = [.int i] /\ H l = some (.lst (ns.map V.int)) /\ i ∈ ns /\ Q (.int ((ns.idxOf i : Nat) : Int)) H
theorem yU {X : Cx} : MtM X "list.index" Bz := by
 intro pins s σ H x vs v us Q I rx rv h
 obtain ⟨l, ns, i, rfl, rfl, hH, hi, q⟩ := h
 cases rx
 obtain ⟨u, rfl, ru⟩ := rv.one
 obtain ⟨t0, rfl⟩ := (show ∃ t, u = Value.int i t from ru)
 obtain ⟨z, its, n, r, hl, e⟩ := I.lstM hH
 have ll := r.length
 rw [List.length_map] at ll z
 have jl : ns.idxOf i < ns.length := List.idxOf_lt_length_of_mem hi
 have at' : ∀ (m : Nat) (hm : m < its.toArray.size), ∃ t, its.toArray[m] = Value.int (ns[m]'(by simp at hm; omega)) t := fun m hm => by
  have hm' : m < its.length := by simpa using hm
  obtain ⟨w, t, h1, h2⟩ := vj r m its[m] (List.getElem?_eq_getElem hm')
  have e1 := (List.getElem?_eq_some_iff.mp h1).2
  refine ⟨t, ?_⟩
  rw [e1]
  simpa using h2
 have small : ((ns.idxOf i : Nat) : Int) < 2 ^ 63 - 1 := by
  have : (sizeLine : Int) < 2 ^ 63 - 1 := by decide
  omega
 refine call_meets F.slot_list_index ⟨_, e, rfl⟩ F.entry_list_index (F.args_list_index_2 _ _) (SeqAt.list_indexAt l its.toArray n none #[] (.int i t0) (CY i) (ns.idxOf i) (by simp; omega) small ?_ ?_) ⟨e, fun y hy => ?_, ⟨.int _, H, I.tok _, ⟨_, rfl⟩, q⟩⟩
 ·obtain ⟨t, h⟩ := at' (ns.idxOf i) (by simp; omega)
  rw [h]
  show (ns[ns.idxOf i] == i) = true
  rw [List.getElem_idxOf jl]
  exact beq_self_eq_true _
 ·intro m hm hmj
  obtain ⟨t, h⟩ := at' m hm
  rw [h]
  show (_ == i) = false
  exact List.not_of_lt_findIdx hmj
 ·obtain ⟨m, hm, rfl⟩ := List.getElem_of_mem (show y ∈ its by simpa using hy)
  obtain ⟨t, h⟩ := at' m (by simpa using hm)
  have h' : its[m] = Value.int (ns[m]'(by omega)) t := by simpa using h
  rw [h']
  exact SeqAt.EqAt.int_int (A := X.A.in1) (s := s) _ t i t0
theorem zE (K : PySem.W.Frag) {X : Cx} {tg l : Expr} {tl : TE} (hl : PE X l tl) (h : X.K = K := by rfl) : PI X tg l (BQ K tl) := by subst h; exact bO hl
theorem zd {A : Around} {k : Nat} (hr : Room k A) : A.units + 3 < cLine := by
 have := hr.un
 omega
end L2
set_option Elab.async false
set_option linter.all false
set_option maxRecDepth 100000
set_option maxHeartbeats 8000000
namespace My
open PySem L2
abbrev LL := List (List Int)
abbrev LI := List Int
abbrev OV := Option V
theorem gi_ {α : Type} {l : List α} {i : Nat} {a : α} (h : l[i]? = some a) : ∃ h : i < l.length, l[i] = a := List.getElem?_eq_some_iff.mp h
theorem mq_ {α : Type} {l : List α} {i : Nat} {a : α} (h : l[i]? = some a) : a ∈ l := List.mem_of_getElem? h
theorem ma_ {α : Type} {a : α} {s t : List α} : a ∈ s ++ t ↔ a ∈ s \/ a ∈ t := List.mem_append
theorem lm_ {α β : Type} {f : α -> β} {l : List α} : (l.map f).length = l.length := List.length_map f
theorem qT_ {K : PySem.W.Frag} {H : Hp} {a : Addr} {xs : List V} (h : H a = some (.tup xs)) : SqT K H a xs := SqT.of h
theorem qL_ {K : PySem.W.Frag} {H : Hp} {a : Addr} {xs : List V} (h : H a = some (.lst xs)) : SqL K H a xs := SqL.of h
def top (i : Nat) : Stmt := PySem.Challenge.pw_figuretell_k17_rings_of_rooms.main.body.getD i (.Pass ⟨0, 0, 0, 0⟩)
abbrev cj : Stmt := top 1
abbrev iT : Stmt := top 3
abbrev cZ : Stmt := top 4
abbrev fZ : Stmt := top 5
abbrev gZ : Stmt := top 6
abbrev gz : Stmt := top 8
abbrev bI : Stmt := top 9
abbrev cI : Stmt := top 10
abbrev bb : Stmt := top 11
abbrev fY : Stmt := top 12
abbrev dP : Stmt := top 15
abbrev cN : Stmt := top 16
abbrev cA : Stmt := top 17
abbrev cJ : Stmt := top 18
abbrev de : Stmt := top 19
abbrev cv : Stmt := top 20
abbrev dF : Stmt := top 21
abbrev ki : Stmt := top 22
abbrev bG : Stmt := inClass (top 7) 0
abbrev bc : Stmt := inClass (top 7) 1
abbrev aW : Stmt := inClass (top 13) 0
abbrev bV : Stmt := inClass (top 13) 1
abbrev a8 : Stmt := inClass (top 13) 2
abbrev bW : Stmt := inClass (top 13) 3
abbrev br : Stmt := inClass (top 13) 4
abbrev bL : Stmt := inClass (top 13) 5
theorem qV {c A B : Prop} [Decidable c] (h1 : c -> A) (h2 : ¬ c -> B) : if decide c = true then A else B := Cj (fun h => h1 (of_decide_eq_true h)) fun h => h2 fun z => h (decide_eq_true z)
theorem oy {c A B : Prop} [Decidable c] (h1 : ¬ c -> A) (h2 : c -> B) : if (!decide c) = true then A else B := Cj (fun h => h1 fun z => by rw [decide_eq_true z] at h; cases h) fun h => h2 (Decidable.byContradiction fun z => h (by rw [decide_eq_false z]; rfl))
theorem B2 {a b : Int} {A B : Prop} (h1 : a = b -> A) (h2 : a ≠ b -> B) : if decide (V.int a = V.int b) = true then A else B := qV (fun h => h1 (V.int.inj h)) fun h => h2 fun z => h (congrArg V.int z)
theorem bX {a b : Int} (h : 0 < b) : 0 <= a % b /\ a % b < b := ⟨Int.emod_nonneg a (by omega), Int.emod_lt_of_pos a h⟩
theorem mO {t u : TS} {D : Ends} {σ : St} {H : Hp} (R : St -> Hp -> Prop) (h2 : ∀ σ' H', R σ' H' -> u D σ' H') (h1 : (∀ σ' H', R σ' H' -> u D σ' H') -> yW t u D σ H) : yW t u D σ H := h1 h2
theorem dN {t u : TS} {D : Ends} {σ : St} {H : Hp} (R : St -> Hp -> Prop) (h1 : ∀ σ' H', R σ' H' -> u D σ' H') (h2 : ∀ D' : Ends, (∀ σ' H', R σ' H' -> D'.nx σ' H') -> t D' σ H) : yW t u D σ H := h2 { D with nx := u D } h1
theorem au {H H' : Hp} {p : Addr} {o : HO} (h : Same H H') (hp : H p = none) : Same H (upd H' p o) := fun b u e => by rw [ae (aq e hp)]; exact h b u e
theorem pS {x : Int} (h : 0 <= x) : ∃ n : Nat, x = (n : Int) := ⟨x.toNat, by omega⟩
theorem getD_at {α : Type} {xs : List α} {i : Nat} {d : α} (h : i < xs.length) : xs.getD i d = xs[i] := by simp [h]
theorem cx {ns : LI} {k : Int} (h0 : 0 <= k) (h : k < (ns.length : Int)) : atI (ns.map V.int) k = some (.int (ns.getD k.toNat 0)) := by
 have hk : k.toNat < ns.length := by omega
 have ek : k = ((k.toNat : Nat) : Int) := by omega
 have q : atI (ns.map V.int) ((k.toNat : Nat) : Int) = some (.int ns[k.toNat]) := jW (by rw [List.getElem?_map, List.getElem?_eq_getElem hk] <;> rfl)
 rw [<- ek] at q
 rw [q, getD_at hk]
theorem gh {ras : List Addr} {k : Int} {ra : Addr} (h0 : 0 <= k) (h : ras[k.toNat]? = some ra) : atI (ras.map V.ref) k = some (.ref ra) := by
 have ek : k = ((k.toNat : Nat) : Int) := by omega
 have q : atI (ras.map V.ref) ((k.toNat : Nat) : Int) = some (.ref ra) := jW (by rw [List.getElem?_map, h] <;> rfl)
 rw [<- ek] at q
 exact q
theorem aY {ns : LI} {i : Nat} {y : V} (h : (ns.map V.int)[i]? = some y) : ∃ z, y = V.int z /\ ns[i]? = some z := by
 rw [List.getElem?_map] at h
 cases e : ns[i]? with
 | none => rw [e] at h; cases h
 | some z => rw [e] at h; exact ⟨z, (Option.some.inj h).symm, rfl⟩
theorem du (K : PySem.W.Frag) : PySem.W.kitOne K (.type "tuple") (.type "tuple") = some true := by with_unfolding_all rfl
theorem yL (ns : LI) : (ns.map V.int).all mz = true := by
 rw [List.all_map]
 exact List.all_eq_true.mpr fun _ _ => rfl
def stepI (rows : LL) (h f : Int) : Int := (rows.getD h.toNat []).getD f.toNat 0
def aZ (rows : LL) (row : LI) (h : Int) : Int := row.foldl (stepI rows) h
structure RowsOk (many wide : Nat) (rows : LL) : Prop where
 len : rows.length = many
 row : ∀ r ∈ rows, r.length = wide
 val : ∀ r ∈ rows, ∀ v ∈ r, 0 <= v /\ v < (many : Int)
theorem dq {many wide : Nat} {rows : LL} {h f : Int} (R : RowsOk many wide rows) (h0 : 0 <= h) (h1 : h < many) (f0 : 0 <= f) (f1 : f < wide) : 0 <= stepI rows h f /\ stepI rows h f < many := by
 have l1 : h.toNat < rows.length := by rw [R.len]; omega
 have l2 : f.toNat < rows[h.toNat].length := by rw [R.row _ (List.getElem_mem l1)]; omega
 unfold stepI
 rw [getD_at l1, getD_at l2]
 exact R.val _ (List.getElem_mem l1) _ (List.getElem_mem l2)
theorem uQ {many wide : Nat} {rows : LL} (R : RowsOk many wide rows) : ∀ {ns : LI} {h : Int}, (∀ f ∈ ns, 0 <= f /\ f < (wide : Int)) -> 0 <= h -> h < many -> 0 <= aZ rows ns h /\ aZ rows ns h < many
 | [], h, _, h0, h1 => ⟨h0, h1⟩
 | f :: r, h, hf, h0, h1 => by
  obtain ⟨a, b⟩ := dq R h0 h1 (hf f List.mem_cons_self).1 (hf f List.mem_cons_self).2
  exact uQ (ns := r) R (fun g hg => hf g (List.mem_cons_of_mem _ hg)) a b
theorem fM (rows : LL) (xs ys : LI) (h : Int) : aZ rows (xs ++ ys) h = aZ rows ys (aZ rows xs h) := by
 unfold aZ
 rw [List.foldl_append]
def RowsAt (H : Hp) : List Addr -> LL -> Prop := Paired fun a r => H a = some (.tup (r.map V.int))
theorem RowsAt.length {H : Hp} {ras : List Addr} {rows : LL} (h : RowsAt H ras rows) : ras.length = rows.length := Paired.length h
theorem RowsAt.get : ∀ {H : Hp} {ras : List Addr} {rows : LL} {i : Nat}, RowsAt H ras rows -> (h : i < rows.length) -> ∃ ra, ras[i]? = some ra /\ H ra = some (.tup (rows[i].map V.int))
 | _, _, _, _, .nil, h => by simp at h
 | _, _, _, 0, .cons (a := a) r _, _ => ⟨a, rfl, r⟩
 | _, _, _, i + 1, .cons _ t, h => by
  obtain ⟨ra, h1, h2⟩ := RowsAt.get (i := i) t (by simpa using h)
  exact ⟨ra, by simpa using h1, by simpa using h2⟩
theorem RowsAt.same {H H' : Hp} {ras : List Addr} {rows : LL} (h : RowsAt H ras rows) (s : ∀ b xs, H b = some (.tup xs) -> H' b = some (.tup xs)) : RowsAt H' ras rows := Paired.mapP h fun _ _ q => s _ _ q
theorem RowsAt.snoc : ∀ {H : Hp} {ras : List Addr} {rows : LL} {a : Addr} {r : LI}, RowsAt H ras rows -> H a = some (.tup (r.map V.int)) -> RowsAt H (ras ++ [a]) (rows ++ [r])
 | _, _, _, _, _, .nil, h => .cons h .nil
 | _, _, _, _, _, .cons q t, h => .cons q (RowsAt.snoc t h)
structure MachAt (H : Hp) (m r g : Addr) (wide : Nat) (rows : LL) (signs : LI) : Prop where
 tup : H m = some (.tup [.int wide, .ref r, .ref g])
 rows : ∃ ras, H r = some (.tup (ras.map V.ref)) /\ RowsAt H ras rows
 sgn : H g = some (.tup (signs.map V.int))
theorem MachAt.same {H H' : Hp} {m r g : Addr} {wide : Nat} {rows : LL} {signs : LI} (M : MachAt H m r g wide rows signs) (s : ∀ b xs, H b = some (.tup xs) -> H' b = some (.tup xs)) : MachAt H' m r g wide rows signs := by
 obtain ⟨h1, ⟨ras, h2, h3⟩, h4⟩ := M
 exact ⟨s _ _ h1, ⟨ras, s _ _ h2, h3.same s⟩, s _ _ h4⟩
end My
set_option Elab.async false
set_option linter.all false
set_option maxRecDepth 100000
set_option maxHeartbeats 8000000
namespace My
open PySem L2
def aD (rows : LL) (ρ : Int -> Int) (qs : LI) : LL := qs.map fun q => (rows.getD q.toNat []).map ρ
def aE (signs qs : LI) : LI := qs.map fun q => signs.getD q.toNat 0
def C8 (H : Hp) (D : Addr) (many : Nat) (rows : LL) (qs : LI) (ρ : Int -> Int) : Prop := ∃ kvs, H D = some (.dK kvs) /\ ∀ q ∈ qs, ∀ t ∈ rows.getD q.toNat [], dk kvs (Sum.inl t) = some (.int (ρ t))
def Dd (H : Hp) (D : Addr) (many : Nat) (rows : LL) (qs : LI) (ρ : Int -> Int) : Prop := ∃ ns : LI, H D = some (.lst (ns.map V.int)) /\ ∀ q ∈ qs, ∀ t ∈ rows.getD q.toNat [], (0 <= t /\ t < (ns.length : Int)) /\ ρ t = ns.getD t.toNat 0
def o7 (K : PySem.W.Frag) (Num : Hp -> Addr -> Nat -> LL -> LI -> (Int -> Int) -> Prop) : Sp := fun vs H Q _ => ∃ (m kl D r g : Addr) (many wide : Nat) (rows : LL) (signs qs : LI) (ρ : Int -> Int), vs = [.ref m, .ref kl, .ref D] /\ MachAt H m r g wide rows signs /\ RowsOk many wide rows /\ signs.length = many /\ (many <= 1000 /\ wide <= 1000) /\
 H kl = some (.lst (qs.map V.int)) /\ qs.length <= 1000 /\ (∀ q ∈ qs, 0 <= q /\ q < (many : Int)) /\ Num H D many rows qs ρ /\
 ∀ (m' r' g' : Addr) (H' : Hp), Same H H' -> MachAt H' m' r' g' wide (aD rows ρ qs) (aE signs qs) -> Q (.ref m') H'
theorem RowsAt.kept {H : Hp} {ras : List Addr} {rows : LL} {q : Int} {many wide : Nat} (A : RowsAt H ras rows) (R : RowsOk many wide rows) (h0 : 0 <= q) (h1 : q < (many : Int)) : ∃ ra, atI (ras.map V.ref) q = some (.ref ra) /\ H ra = some (.tup ((rows.getD q.toNat []).map V.int)) /\ (rows.getD q.toNat []).length = wide := by
 have l : q.toNat < rows.length := by rw [R.len]; omega
 obtain ⟨ra, e1, e2⟩ := A.get l
 refine ⟨ra, ?_, by rw [getD_at l]; exact e2, by rw [getD_at l]; exact R.row _ (List.getElem_mem l)⟩
 have q' : atI (ras.map V.ref) ((q.toNat : Nat) : Int) = some (.ref ra) := jW (by rw [List.getElem?_map, e1]; rfl)
 rw [Int.toNat_of_nonneg h0] at q'
 exact q'
section
variable {P : Program} {w : World} {K : PySem.W.Frag} {mg : Str -> Option Value} {base : Heap} {f : Addr} {fd : FuncData} {dV : Value}
theorem sc_with_rooms : FnScope ["machine", "kept", "numbers", "rows", "signs", "kept_rows", "here"] ["machine", "kept", "numbers"] (ak bI) := ⟨rfl, rfl, rfl, by decide +kernel, rfl, by decide +kernel, by decide +kernel⟩
theorem bk_with_rooms_0 : BlkScope ["machine", "kept", "numbers", "rows", "signs", "kept_rows", "here"] (ak bI) ["there", "numbers"] [none, some 2] { kind := ScopeKind.function, names := [(".0", NameKind.local), ("there", NameKind.local), ("numbers", NameKind.free)], isGenerator := false, isCoroutine := false, more := [] } := ⟨rfl, by decide +kernel, by decide +kernel, by decide +kernel, by decide +kernel, rfl, by decide +kernel⟩
theorem bk_with_rooms_1 : BlkScope ["machine", "kept", "numbers", "rows", "signs", "kept_rows", "here"] (ak bI) ["here", "signs"] [none, some 4] { kind := ScopeKind.function, names := [(".0", NameKind.local), ("here", NameKind.local), ("signs", NameKind.free)], isGenerator := false, isCoroutine := false, more := [] } := ⟨rfl, by decide +kernel, by decide +kernel, by decide +kernel, by decide +kernel, rfl, by decide +kernel⟩
theorem yB (F : FunD K "with_rooms" "with_rooms" bI dV f fd) (aH : mg "tuple" = none) : FnOk P w K mg base CX0 1 f fd ["machine", "kept", "numbers"] (o7 K C8) := by
 refine F.ok sc_with_rooms (fun vs H Q E h => ?_) (fun cdv A outer s H vs Q E hr h => ?_)
 ·obtain ⟨m, kl, D, r, g, many, wide, rows, signs, qs, ρ, rfl, _⟩ := h
  rfl
 obtain ⟨m, kl, D, r, g, many, wide, rows, signs, qs, ρ, rfl, M, R, lsg, ⟨n1, w1⟩, hkl, lq, hqs, ⟨kvs, hD, hv⟩, k⟩ := h
 obtain ⟨hm, ⟨ras, hr', hA⟩, hg⟩ := M
 have hu := gB hr
 refine ⟨_, (aj (az (i := 3) sc_with_rooms.nd rfl (Or.inl rfl) (aO bz (pv 0) ay (fun _ _ => rfl)))
   (aj (az (i := 4) sc_with_rooms.nd rfl (Or.inr rfl) (aO bz (pv 0) ay (fun _ _ => rfl)))
   (aj (az (i := 5) sc_with_rooms.nd rfl (Or.inl rfl) (cW af))
   (aj (cf PassesOwn.never rfl (bO (pv 1)) (ax (i := 6) sc_with_rooms.nd rfl (Or.inl rfl)) (av (bD (fA PySem.F.plainAttrs_list PySem.F.slot_list_append PySem.F.type_list_append bF (pv 5) (aa (aN aP (by rfl) aH bE (aa (cq rfl bk_with_rooms_0 (iM (aO bz (pv 3) (pv 6) (fun _ _ => rfl))) (fun _ _ _ _ => (ax (i := 0) bk_with_rooms_0.nd rfl (Or.inl rfl))) (fun _ _ _ _ => (tI hu (pv 1) (pv 0) (fun _ _ => rfl)))) af)) af)))))
   (av (bh (dD (aa (aO bz (pv 0) ay (fun _ _ => rfl)) (aa (aN aP (by rfl) aH bE (aa (pv 5) af)) (aa (aN aP (by rfl) aH bE (aa (cq rfl bk_with_rooms_1 (bO (pv 1)) (fun _ _ _ _ => (ax (i := 0) bk_with_rooms_1.nd rfl (Or.inl rfl))) (fun _ _ _ _ => (aO (tH K) (pv 1) (pv 0) (fun _ _ => rfl)))) af)) af)))))))))), ?_⟩
 refine ⟨_, rfl, m, _, _, _, rfl, rfl, qT_ hm, rfl, ?_⟩
 refine ⟨_, rfl, m, _, _, _, rfl, rfl, qT_ hm, rfl, ?_⟩
 refine ⟨(by show 0 <= sizeLine; decide), fun L hL => ?_⟩
 have sL := ah hL (HO.lst [])
 try dsimp only [bR, dZ]
 refine dN (t := oQ _ _ _) (fun σ' H' => ∃ (as : List Addr) (v : OV), σ' = [some (.ref m), some (.ref kl), some (.ref D), some (.ref r), some (.ref g), some (.ref L), v] /\ Same H H' /\ H' L = some (.lst (as.map V.ref)) /\ RowsAt H' as (aD rows ρ qs)) ?_ (fun D' nxt => ?_)
 rotate_left
 ·refine ⟨_, rfl, kl, rfl, ⟨_, qL_ (sL _ _ hkl)⟩, ?_⟩
  refine cL (K := K) (xs := qs.map V.int) (fun i σ' H' => ∃ (as : List Addr) (v : OV), σ' = [some (.ref m), some (.ref kl), some (.ref D), some (.ref r), some (.ref g), some (.ref L), v] /\ Same H H' /\ H' L = some (.lst (as.map V.ref)) /\ RowsAt H' as (aD rows ρ (qs.take i))) ⟨[], none, rfl, sL, ab, .nil⟩ (fun i σ' H' _ ⟨_, _, _, e, _⟩ => qL_ (e _ _ hkl)) ?_ ?_
  ·rintro i y σ' H3 hi ⟨as, v, rfl, s3, hL3, A3⟩
   obtain ⟨z, rfl, hz⟩ := aY hi
   have zm := mq_ hz
   have li := (gi_ hz).1
   obtain ⟨z0, z1⟩ := hqs z zm
   obtain ⟨ra, e1, e2, e3⟩ := hA.kept R z0 z1
   have la : as.length = i := by rw [A3.length]; unfold aD; rw [lm_, List.length_take]; omega
   refine ⟨_, rfl, .inl ⟨rfl, _, qL_ hL3⟩, _, rfl, _, rfl, r, _, _, _, rfl, rfl, qT_ (s3 _ _ hr'), e1, ra, rfl, ⟨_, qT_ (s3 _ _ e2)⟩, ?_⟩
   refine gX (K := K) (xs := (rows.getD z.toNat []).map V.int) (fun D j ys H' => Same H3 H' /\ ys = (((rows.getD z.toNat []).take j).map ρ).map V.int) (fun D hD => ⟨ah hD _, rfl⟩) (fun D j ys H' _ ⟨e, _⟩ => qT_ (e _ _ (s3 _ _ e2))) ?_ ?_
   ·rintro T j y ys H4 Q' hT hj hy ⟨s4, rfl⟩ k'
    obtain ⟨t, rfl, ht⟩ := aY hj
    have tm := mq_ ht
    have lj := (gi_ ht).1
    have s34 := s3.trans s4
    have dg : DGet H4 D (.int t) (some (.int (ρ t))) := by
     rw [<- hv z zm t tm]
     exact DGet.k (k := Sum.inl t) (s34 _ _ hD)
    refine ⟨_, rfl, _, rfl, D, _, rfl, dg, k' _ _ hy (aw (by rw [lm_, lm_, List.length_take]; omega)) ⟨au s4 hT, ?_⟩⟩
    rw [List.take_add_one, ht, List.map_append, List.map_append]
    rfl
   ·rintro T ys H4 hT hy ⟨s4, rfl⟩
    rw [lm_, List.take_length] at hy
    refine ⟨T, _, rfl, .inl ⟨qL_ hy, fun t ht => ?_⟩⟩
    have hL4 := s4 _ _ hL3
    have nL : L ≠ t := aq hL4 ht
    refine ⟨L, _, _, rfl, rfl, by rw [ae nL]; exact hL4, aw (by rw [lm_]; omega), ?_⟩
    have sT : ∀ b xs, H3 b = some (.tup xs) -> (upd (upd H4 t (.tup (((rows.getD z.toNat []).map ρ).map V.int))) L (.lst (as.map V.ref ++ [V.ref t]))) b = some (.tup xs) := fun b xs e => by
     have e4 := s4 _ _ e
     rw [ae (aB e4 hL4 (by intro z; cases z)), ae (aq e4 ht)]
     exact e4
    refine ⟨as ++ [t], _, rfl, au (au (s3.trans s4) ((s3.trans s4).free ht)) hL, by rw [ab, List.map_append]; rfl, ?_⟩
    have ek : aD rows ρ (qs.take (i + 1)) = aD rows ρ (qs.take i) ++ [(rows.getD z.toNat []).map ρ] := by
     unfold aD
     rw [List.take_add_one, hz, List.map_append]
     rfl
    rw [ek]
    exact RowsAt.snoc (A3.same sT) (by rw [ae (Ne.symm nL), ab])
  ·rintro σ' H3 ⟨as, v, rfl, s3, hL3, A3⟩
   rw [lm_, List.take_length] at A3
   exact nxt _ _ ⟨as, v, rfl, s3, hL3, A3⟩
 rintro σ' H1 ⟨as, v, rfl, s1, hL1, A1⟩
 refine ⟨_, rfl, m, _, _, _, rfl, rfl, qT_ (s1 _ _ hm), rfl, _, rfl, L, _, rfl, .inl ⟨qL_ hL1, fun rt hrt => ?_⟩⟩
 have s2 := ah hrt (HO.tup (as.map V.ref))
 have s12 := s1.trans s2
 refine ⟨_, rfl, kl, rfl, ⟨_, qL_ (s12 _ _ hkl)⟩, ?_⟩
 refine dM (K := K) (xs := qs.map V.int) (fun D j ys H' => Same (upd H1 rt (HO.tup (as.map V.ref))) H' /\ ys = (aE signs (qs.take j)).map V.int) (fun D hD => ⟨ah hD _, rfl⟩) (fun D j ys H' _ ⟨e, _⟩ => qL_ (e _ _ (s12 _ _ hkl))) ?_ ?_
 ·rintro T j y ys H4 Q' hT hj hy ⟨s4, rfl⟩ k'
  obtain ⟨z, rfl, hz⟩ := aY hj
  have li := (gi_ hz).1
  obtain ⟨z0, z1⟩ := hqs z (mq_ hz)
  refine ⟨_, rfl, _, rfl, g, _, _, _, rfl, rfl, qT_ ((s12.trans s4) _ _ hg), cx z0 (by omega), k' _ _ hy (aw (by unfold aE; rw [lm_, lm_, List.length_take]; omega)) ⟨au s4 hT, ?_⟩⟩
  unfold aE
  rw [List.take_add_one, hz, List.map_append, List.map_append]
  rfl
 rintro G ys H4 hG hy ⟨s4, rfl⟩
 rw [lm_, List.take_length] at hy
 refine ⟨G, _, rfl, .inl ⟨qL_ hy, fun gt hgt => ⟨(by show 3 <= sizeLine; decide), fun mm hmm => ?_⟩⟩⟩
 have s5 := ah hgt (HO.tup ((aE signs qs).map V.int))
 have s6 := ah hmm (HO.tup [V.int wide, V.ref rt, V.ref gt])
 have s56 := s5.trans s6
 exact k mm rt gt _ (s12.trans (s4.trans s56)) ⟨ab, ⟨as, (s4.trans s56) _ _ ab, A1.same fun b zs e => (s2.trans (s4.trans s56)) _ _ e⟩, s6 _ _ ab⟩
theorem yt (F : FunD K "with_rooms" "with_rooms" bI dV f fd) (aH : mg "tuple" = none) : FnOk P w K mg base CX0 1 f fd ["machine", "kept", "numbers"] (o7 K Dd) := by
 refine F.ok sc_with_rooms (fun vs H Q E h => ?_) (fun cdv A outer s H vs Q E hr h => ?_)
 ·obtain ⟨m, kl, D, r, g, many, wide, rows, signs, qs, ρ, rfl, _⟩ := h
  rfl
 obtain ⟨m, kl, D, r, g, many, wide, rows, signs, qs, ρ, rfl, M, R, lsg, ⟨n1, w1⟩, hkl, lq, hqs, ⟨nl, hD, hv⟩, k⟩ := h
 obtain ⟨hm, ⟨ras, hr', hA⟩, hg⟩ := M
 have hu := gB hr
 refine ⟨_, (aj (az (i := 3) sc_with_rooms.nd rfl (Or.inl rfl) (aO bz (pv 0) ay (fun _ _ => rfl)))
   (aj (az (i := 4) sc_with_rooms.nd rfl (Or.inr rfl) (aO bz (pv 0) ay (fun _ _ => rfl)))
   (aj (az (i := 5) sc_with_rooms.nd rfl (Or.inl rfl) (cW af))
   (aj (cf PassesOwn.never rfl (bO (pv 1)) (ax (i := 6) sc_with_rooms.nd rfl (Or.inl rfl)) (av (bD (fA PySem.F.plainAttrs_list PySem.F.slot_list_append PySem.F.type_list_append bF (pv 5) (aa (aN aP (by rfl) aH bE (aa (cq rfl bk_with_rooms_0 (iM (aO bz (pv 3) (pv 6) (fun _ _ => rfl))) (fun _ _ _ _ => (ax (i := 0) bk_with_rooms_0.nd rfl (Or.inl rfl))) (fun _ _ _ _ => (aO (js K) (pv 1) (pv 0) (fun _ _ => rfl)))) af)) af)))))
   (av (bh (dD (aa (aO bz (pv 0) ay (fun _ _ => rfl)) (aa (aN aP (by rfl) aH bE (aa (pv 5) af)) (aa (aN aP (by rfl) aH bE (aa (cq rfl bk_with_rooms_1 (bO (pv 1)) (fun _ _ _ _ => (ax (i := 0) bk_with_rooms_1.nd rfl (Or.inl rfl))) (fun _ _ _ _ => (aO (tH K) (pv 1) (pv 0) (fun _ _ => rfl)))) af)) af)))))))))), ?_⟩
 refine ⟨_, rfl, m, _, _, _, rfl, rfl, qT_ hm, rfl, ?_⟩
 refine ⟨_, rfl, m, _, _, _, rfl, rfl, qT_ hm, rfl, ?_⟩
 refine ⟨(by show 0 <= sizeLine; decide), fun L hL => ?_⟩
 have sL := ah hL (HO.lst [])
 try dsimp only [bR, dZ]
 refine dN (t := oQ _ _ _) (fun σ' H' => ∃ (as : List Addr) (v : OV), σ' = [some (.ref m), some (.ref kl), some (.ref D), some (.ref r), some (.ref g), some (.ref L), v] /\ Same H H' /\ H' L = some (.lst (as.map V.ref)) /\ RowsAt H' as (aD rows ρ qs)) ?_ (fun D' nxt => ?_)
 rotate_left
 ·refine ⟨_, rfl, kl, rfl, ⟨_, qL_ (sL _ _ hkl)⟩, ?_⟩
  refine cL (K := K) (xs := qs.map V.int) (fun i σ' H' => ∃ (as : List Addr) (v : OV), σ' = [some (.ref m), some (.ref kl), some (.ref D), some (.ref r), some (.ref g), some (.ref L), v] /\ Same H H' /\ H' L = some (.lst (as.map V.ref)) /\ RowsAt H' as (aD rows ρ (qs.take i))) ⟨[], none, rfl, sL, ab, .nil⟩ (fun i σ' H' _ ⟨_, _, _, e, _⟩ => qL_ (e _ _ hkl)) ?_ ?_
  ·rintro i y σ' H3 hi ⟨as, v, rfl, s3, hL3, A3⟩
   obtain ⟨z, rfl, hz⟩ := aY hi
   have zm := mq_ hz
   have li := (gi_ hz).1
   obtain ⟨z0, z1⟩ := hqs z zm
   obtain ⟨ra, e1, e2, e3⟩ := hA.kept R z0 z1
   have la : as.length = i := by rw [A3.length]; unfold aD; rw [lm_, List.length_take]; omega
   refine ⟨_, rfl, .inl ⟨rfl, _, qL_ hL3⟩, _, rfl, _, rfl, r, _, _, _, rfl, rfl, qT_ (s3 _ _ hr'), e1, ra, rfl, ⟨_, qT_ (s3 _ _ e2)⟩, ?_⟩
   refine gX (K := K) (xs := (rows.getD z.toNat []).map V.int) (fun D j ys H' => Same H3 H' /\ ys = (((rows.getD z.toNat []).take j).map ρ).map V.int) (fun D hD => ⟨ah hD _, rfl⟩) (fun D j ys H' _ ⟨e, _⟩ => qT_ (e _ _ (s3 _ _ e2))) ?_ ?_
   ·rintro T j y ys H4 Q' hT hj hy ⟨s4, rfl⟩ k'
    obtain ⟨t, rfl, ht⟩ := aY hj
    have tm := mq_ ht
    have lj := (gi_ ht).1
    have s34 := s3.trans s4
    obtain ⟨⟨t0, t1⟩, et⟩ := hv z zm t tm
    have at' : atI (nl.map V.int) t = some (.int (ρ t)) := by rw [et]; exact cx t0 t1
    refine ⟨_, rfl, _, rfl, D, _, _, _, rfl, rfl, qL_ (s34 _ _ hD), at', k' _ _ hy (aw (by rw [lm_, lm_, List.length_take]; omega)) ⟨au s4 hT, ?_⟩⟩
    rw [List.take_add_one, ht, List.map_append, List.map_append]
    rfl
   ·rintro T ys H4 hT hy ⟨s4, rfl⟩
    rw [lm_, List.take_length] at hy
    refine ⟨T, _, rfl, .inl ⟨qL_ hy, fun t ht => ?_⟩⟩
    have hL4 := s4 _ _ hL3
    have nL : L ≠ t := aq hL4 ht
    refine ⟨L, _, _, rfl, rfl, by rw [ae nL]; exact hL4, aw (by rw [lm_]; omega), ?_⟩
    have sT : ∀ b xs, H3 b = some (.tup xs) -> (upd (upd H4 t (.tup (((rows.getD z.toNat []).map ρ).map V.int))) L (.lst (as.map V.ref ++ [V.ref t]))) b = some (.tup xs) := fun b xs e => by
     have e4 := s4 _ _ e
     rw [ae (aB e4 hL4 (by intro z; cases z)), ae (aq e4 ht)]
     exact e4
    refine ⟨as ++ [t], _, rfl, au (au (s3.trans s4) ((s3.trans s4).free ht)) hL, by rw [ab, List.map_append]; rfl, ?_⟩
    have ek : aD rows ρ (qs.take (i + 1)) = aD rows ρ (qs.take i) ++ [(rows.getD z.toNat []).map ρ] := by
     unfold aD
     rw [List.take_add_one, hz, List.map_append]
     rfl
    rw [ek]
    exact RowsAt.snoc (A3.same sT) (by rw [ae (Ne.symm nL), ab])
  ·rintro σ' H3 ⟨as, v, rfl, s3, hL3, A3⟩
   rw [lm_, List.take_length] at A3
   exact nxt _ _ ⟨as, v, rfl, s3, hL3, A3⟩
 rintro σ' H1 ⟨as, v, rfl, s1, hL1, A1⟩
 refine ⟨_, rfl, m, _, _, _, rfl, rfl, qT_ (s1 _ _ hm), rfl, _, rfl, L, _, rfl, .inl ⟨qL_ hL1, fun rt hrt => ?_⟩⟩
 have s2 := ah hrt (HO.tup (as.map V.ref))
 have s12 := s1.trans s2
 refine ⟨_, rfl, kl, rfl, ⟨_, qL_ (s12 _ _ hkl)⟩, ?_⟩
 refine dM (K := K) (xs := qs.map V.int) (fun D j ys H' => Same (upd H1 rt (HO.tup (as.map V.ref))) H' /\ ys = (aE signs (qs.take j)).map V.int) (fun D hD => ⟨ah hD _, rfl⟩) (fun D j ys H' _ ⟨e, _⟩ => qL_ (e _ _ (s12 _ _ hkl))) ?_ ?_
 ·rintro T j y ys H4 Q' hT hj hy ⟨s4, rfl⟩ k'
  obtain ⟨z, rfl, hz⟩ := aY hj
  have li := (gi_ hz).1
  obtain ⟨z0, z1⟩ := hqs z (mq_ hz)
  refine ⟨_, rfl, _, rfl, g, _, _, _, rfl, rfl, qT_ ((s12.trans s4) _ _ hg), cx z0 (by omega), k' _ _ hy (aw (by unfold aE; rw [lm_, lm_, List.length_take]; omega)) ⟨au s4 hT, ?_⟩⟩
  unfold aE
  rw [List.take_add_one, hz, List.map_append, List.map_append]
  rfl
 rintro G ys H4 hG hy ⟨s4, rfl⟩
 rw [lm_, List.take_length] at hy
 refine ⟨G, _, rfl, .inl ⟨qL_ hy, fun gt hgt => ⟨(by show 3 <= sizeLine; decide), fun mm hmm => ?_⟩⟩⟩
 have s5 := ah hgt (HO.tup ((aE signs qs).map V.int))
 have s6 := ah hmm (HO.tup [V.int wide, V.ref rt, V.ref gt])
 have s56 := s5.trans s6
 exact k mm rt gt _ (s12.trans (s4.trans s56)) ⟨ab, ⟨as, (s4.trans s56) _ _ ab, A1.same fun b zs e => (s2.trans (s4.trans s56)) _ _ e⟩, s6 _ _ ab⟩
end
theorem sA {α : Type} (p : α -> Bool) : ∀ l : List α, l.length = (l.filter p).length + (l.filter fun x => !p x).length
 | [] => rfl
 | x :: l => by
  have ih := sA p l
  cases e : p x
  ·rw [List.filter_cons_of_neg (by rw [e]; decide), List.filter_cons_of_pos (by rw [e]; rfl), List.length_cons, List.length_cons]
   omega
  ·rw [List.filter_cons_of_pos e, List.filter_cons_of_neg (by rw [e]; decide), List.length_cons, List.length_cons]
   omega
theorem aX : ∀ (many : Nat) {ks : LI}, ks.Nodup -> (∀ q ∈ ks, 0 <= q /\ q < (many : Int)) -> ks.length <= many
 | 0, ks, _, h => by
  cases ks with
  | nil => exact Nat.le_refl _
  | cons q r => have := h q List.mem_cons_self; omega
 | many + 1, ks, nd, h => by
  have e : (ks.filter fun q => decide (q ≠ (many : Int))).length <= many := aX many (nd.filter _) fun q hq => by
   have h1 := h q (List.mem_filter.mp hq).1
   have h2 : q ≠ (many : Int) := of_decide_eq_true (List.mem_filter.mp hq).2
   omega
  have c : (ks.filter fun q => !decide (q ≠ (many : Int))).length <= 1 := by
   have nd2 := nd.filter fun q => !decide (q ≠ (many : Int))
   have al : ∀ q ∈ ks.filter (fun q => !decide (q ≠ (many : Int))), q = (many : Int) := fun q hq => by
    have := (List.mem_filter.mp hq).2
    simpa using this
   match hm : ks.filter (fun q => !decide (q ≠ (many : Int))), nd2, al with
   | [], _, _ => exact Nat.zero_le _
   | [x], _, _ => exact Nat.le_refl _
   | x :: y :: r, nd2, al =>
    have h1 := al x List.mem_cons_self
    have h2 := al y (List.mem_cons_of_mem _ List.mem_cons_self)
    rw [h1, h2] at nd2
    exact absurd List.mem_cons_self (List.nodup_cons.mp nd2).1
  have t := sA (fun q => decide (q ≠ (many : Int))) ks
  omega
def kvT (ks : LI) : List (Key × V) := ks.map fun q => (Sum.inl q, V.bl true)
theorem o4 (ks : LI) (q : Int) : (dk (kvT ks) (Sum.inl q)).isSome = decide (q ∈ ks) := by
 induction ks with
 | nil => rfl
 | cons k r ih =>
  by_cases e : k = q
  ·subst e
   rw [show kvT (k :: r) = (Sum.inl k, V.bl true) :: kvT r from rfl, g6 rfl]
   simp
  ·rw [show kvT (k :: r) = (Sum.inl k, V.bl true) :: kvT r from rfl, gf (fun z => e (Sum.inl.inj z)), ih]
   simp [Ne.symm e]
theorem oU {ks : LI} {q : Int} (h : q ∉ ks) : putK (kvT ks) (Sum.inl q) (V.bl true) = kvT (ks ++ [q]) := by
 unfold putK
 rw [if_neg (by
  intro z
  obtain ⟨p, hp, e⟩ := List.any_eq_true.mp z
  obtain ⟨k, hk, rfl⟩ := List.mem_map.mp hp
  have := Sum.inl.inj (of_decide_eq_true e)
  exact h (this ▸ hk))]
 unfold kvT
 rw [List.map_append]
 rfl
def kvL (es : List (Int × Addr)) : List (Key × V) := es.map fun e => (Sum.inl e.1, V.ref e.2)
theorem l6 : ∀ {es : List (Int × Addr)} {q : Int}, q ∉ es.map Prod.fst -> dk (kvL es) (Sum.inl q) = none
 | [], _, _ => rfl
 | e :: es, q, h => by
  rw [show kvL (e :: es) = (Sum.inl e.1, V.ref e.2) :: kvL es from rfl, gf (fun z => h (by rw [<- Sum.inl.inj z]; exact List.mem_cons_self))]
  exact l6 fun z => h (List.mem_cons_of_mem _ z)
theorem jr : ∀ {es : List (Int × Addr)} {q : Int} {a : Addr} {j : Nat}, (es.map Prod.fst).Nodup -> es[j]? = some (q, a) -> dk (kvL es) (Sum.inl q) = some (V.ref a)
 | [], _, _, _, _, h => by cases h
 | e :: es, q, a, 0, _, h => by
  cases h
  exact g6 rfl
 | e :: es, q, a, j + 1, nd, h => by
  have nd' := List.nodup_cons.mp (show (e.1 :: es.map Prod.fst).Nodup from nd)
  have h' : es[j]? = some (q, a) := h
  rw [show kvL (e :: es) = (Sum.inl e.1, V.ref e.2) :: kvL es from rfl, gf (fun z => nd'.1 (by
   have : e.1 = q := Sum.inl.inj z
   rw [this]
   exact List.mem_map.mpr ⟨(q, a), mq_ h', rfl⟩))]
  exact jr nd'.2 h'
theorem xR {es : List (Int × Addr)} {q : Int} {a : Addr} (h : q ∉ es.map Prod.fst) : putK (kvL es) (Sum.inl q) (V.ref a) = kvL (es ++ [(q, a)]) := by
 unfold putK
 rw [if_neg (by
  intro z
  obtain ⟨p, hp, e⟩ := List.any_eq_true.mp z
  obtain ⟨k, hk, rfl⟩ := List.mem_map.mp hp
  have := Sum.inl.inj (of_decide_eq_true e)
  exact h (this ▸ List.mem_map.mpr ⟨k, hk, rfl⟩))]
 unfold kvL
 rw [List.map_append]
 rfl
theorem snoc_cases {α : Type} {xs : List α} {y z : α} {j : Nat} (h : (xs ++ [y])[j]? = some z) : xs[j]? = some z \/ (j = xs.length /\ z = y) := by
 rcases Nat.lt_or_ge j xs.length with q | q
 ·rw [List.getElem?_append_left q] at h
  exact .inl h
 ·rw [List.getElem?_append_right q] at h
  rcases Nat.lt_or_ge (j - xs.length) 1 with p | p
  ·have e : j = xs.length := by omega
   subst e
   rw [Nat.sub_self] at h
   exact .inr ⟨rfl, (Option.some.inj h).symm⟩
  ·rw [List.getElem?_eq_none (by simpa using p)] at h
   cases h
theorem PairsV.same {H H' : Hp} {ts : List Addr} {kvs : List (Key × V)} (h : PairsV H ts kvs) (s : ∀ b xs, H b = some (.tup xs) -> H' b = some (.tup xs)) : PairsV H' ts kvs := Paired.mapP h fun _ _ q => s _ _ q
theorem vI : ∀ {gs ks : LI}, (ks ++ gs).Nodup -> cQ (kvT ks) (kvT gs) = kvT (ks ++ gs)
 | [], ks, _ => by rw [List.append_nil]; rfl
 | g :: gs, ks, nd => by
  have hg : g ∉ ks := fun z => (List.nodup_append.mp nd).2.2 g z g List.mem_cons_self rfl
  show cQ (putK (kvT ks) (Sum.inl g) (V.bl true)) (kvT gs) = _
  rw [oU hg, vI (by rw [List.append_assoc]; exact nd), List.append_assoc]
  rfl
theorem sd {gs : LI} (nd : gs.Nodup) : cQ [] (kvT gs) = kvT gs := vI (ks := []) nd
structure BackOk (H0 H : Hp) (B : Addr) (es : List (Int × Addr)) (P : Int -> LI -> Prop) : Prop where
 at_ : H B = some (.dK (kvL es))
 nd : (es.map Prod.fst).Nodup
 nd2 : (es.map Prod.snd).Nodup
 fresh : ∀ e ∈ es, H0 e.2 = none
 lst : ∀ e ∈ es, ∃ ls : LI, H e.2 = some (.lst (ls.map V.int)) /\ P e.1 ls
 non : ∀ q, q ∉ es.map Prod.fst -> P q []
theorem BackOk.get {H0 H : Hp} {B : Addr} {es : List (Int × Addr)} {P : Int -> LI -> Prop} (b : BackOk H0 H B es P) {q : Int} {v : V} (h : dk (kvL es) (Sum.inl q) = some v) : ∃ la ls, v = .ref la /\ (q, la) ∈ es /\ H la = some (.lst (ls.map V.int)) /\ P q ls := by
 have hm : q ∈ es.map Prod.fst := Classical.byContradiction fun z => by rw [l6 z] at h; cases h
 obtain ⟨e, he, rfl⟩ := List.mem_map.mp hm
 obtain ⟨j, hj⟩ := List.mem_iff_getElem?.mp he
 have := jr b.nd (q := e.1) (a := e.2) hj
 rw [this] at h
 obtain ⟨ls, h1, h2⟩ := b.lst e he
 exact ⟨e.2, ls, (Option.some.inj h).symm, he, h1, h2⟩
theorem BH {es : List (Int × Addr)} (nd : (es.map Prod.fst).Nodup) {e e' : Int × Addr} (h : e ∈ es) (h' : e' ∈ es) (q : e.1 = e'.1) : e = e' := by
 obtain ⟨i, hi, ei⟩ := List.getElem_of_mem h
 obtain ⟨j, hj, ej⟩ := List.getElem_of_mem h'
 have : (es.map Prod.fst)[i]'(by simpa using hi) = (es.map Prod.fst)[j]'(by simpa using hj) := by simp [ei, ej, q]
 have := (List.getElem_inj nd).mp this
 subst this
 rw [<- ei, <- ej]
theorem A8 {es : List (Int × Addr)} (nd : (es.map Prod.snd).Nodup) {e e' : Int × Addr} (h : e ∈ es) (h' : e' ∈ es) (q : e.2 = e'.2) : e = e' := by
 obtain ⟨i, hi, ei⟩ := List.getElem_of_mem h
 obtain ⟨j, hj, ej⟩ := List.getElem_of_mem h'
 have : (es.map Prod.snd)[i]'(by simpa using hi) = (es.map Prod.snd)[j]'(by simpa using hj) := by simp [ei, ej, q]
 have := (List.getElem_inj nd).mp this
 subst this
 rw [<- ei, <- ej]
theorem BackOk.old {H0 H : Hp} {B la : Addr} {es : List (Int × Addr)} {P P' : Int -> LI -> Prop} {q h : Int} {ls : LI} (b : BackOk H0 H B es P) (hm : (q, la) ∈ es) (hla : H la = some (.lst (ls.map V.int))) (hp : P' q (ls ++ [h])) (ho : ∀ p ls, p ≠ q -> P p ls -> P' p ls) :
  BackOk H0 (upd H la (.lst (ls.map V.int ++ [.int h]))) B es P' where
 at_ := by rw [ae (aB b.at_ hla (by intro z; cases z))]; exact b.at_
 nd := b.nd
 nd2 := b.nd2
 fresh := b.fresh
 lst := fun e he => by
  by_cases c : e.2 = la
  ·have := A8 b.nd2 he hm c
   subst this
   exact ⟨ls ++ [h], by rw [ab, List.map_append]; rfl, hp⟩
  ·obtain ⟨ms, h1, h2⟩ := b.lst e he
   refine ⟨ms, by rw [ae c]; exact h1, ho _ _ (fun z => c ?_) h2⟩
   have := BH b.nd he hm z
   rw [this]
 non := fun p hp' => ho p [] (fun z => hp' (by rw [z]; exact List.mem_map.mpr ⟨_, hm, rfl⟩)) (b.non p hp')
theorem BackOk.new {H0 H : Hp} {B L : Addr} {es : List (Int × Addr)} {P P' : Int -> LI -> Prop} {q h : Int} (b : BackOk H0 H B es P) (hq : q ∉ es.map Prod.fst) (hL : H L = some (.lst [])) (fL : H0 L = none) (nL : ∀ e ∈ es, e.2 ≠ L) (hp : P' q [h]) (ho : ∀ p ls, p ≠ q -> P p ls -> P' p ls) :
  BackOk H0 (upd (upd H B (.dK (putK (kvL es) (Sum.inl q) (.ref L)))) L (.lst [.int h])) B (es ++ [(q, L)]) P' where
 at_ := by rw [ae (aB b.at_ hL (by intro z; cases z)), ab, xR hq]
 nd := by rw [List.map_append]; exact lO b.nd hq
 nd2 := by
  rw [List.map_append]
  refine lO b.nd2 fun z => ?_
  obtain ⟨e, he, e2⟩ := List.mem_map.mp z
  exact nL e he e2
 fresh := fun e he => by
  rcases ma_.mp he with z | z
  ·exact b.fresh e z
  ·rw [List.mem_singleton.mp z]; exact fL
 lst := fun e he => by
  rcases ma_.mp he with z | z
  ·obtain ⟨ms, h1, h2⟩ := b.lst e z
   refine ⟨ms, by rw [ae (nL e z), ae (aB h1 b.at_ (by intro z; cases z))]; exact h1, ho _ _ (fun y => hq ?_) h2⟩
   rw [<- y]
   exact List.mem_map.mpr ⟨e, z, rfl⟩
  ·rw [List.mem_singleton.mp z]
   exact ⟨[h], by rw [ab]; rfl, hp⟩
 non := fun p hp' => by
  rw [List.map_append] at hp'
  exact ho p [] (fun z => hp' (by rw [z]; exact List.mem_append_right _ List.mem_cons_self)) (b.non p fun z => hp' (List.mem_append_left _ z))
theorem BackOk.keep {H0 H H' : Hp} {B : Addr} {es : List (Int × Addr)} {P : Int -> LI -> Prop} (b : BackOk H0 H B es P) (hB : H' B = H B) (hl : ∀ e ∈ es, H' e.2 = H e.2) : BackOk H0 H' B es P where
 at_ := by rw [hB]; exact b.at_
 nd := b.nd
 nd2 := b.nd2
 fresh := b.fresh
 lst := fun e he => by rw [hl e he]; exact b.lst e he
 non := b.non
theorem BackOk.same {H0 H H' : Hp} {B : Addr} {es : List (Int × Addr)} {P : Int -> LI -> Prop} (b : BackOk H0 H B es P) (s : Same H H') : BackOk H0 H' B es P where
 at_ := s _ _ b.at_
 nd := b.nd
 nd2 := b.nd2
 fresh := b.fresh
 lst := fun e he => by
  obtain ⟨ls, h1, h2⟩ := b.lst e he
  exact ⟨ls, s _ _ h1, h2⟩
 non := b.non
def lN (rows : LL) (wide : Nat) : LL := (List.range wide).map fun f => rows.map fun r => r.getD f 0
def wI (K : PySem.W.Frag) : Sp := fun vs H Q _ => ∃ (m r g : Addr) (many wide : Nat) (rows : LL) (signs : LI), vs = [.ref m] /\ MachAt H m r g wide rows signs /\ RowsOk many wide rows /\ (many <= 1000 /\ wide <= 1000) /\
 ∀ (l : Addr) (cs : List Addr) (H' : Hp), Same H H' -> H' l = some (.lst (cs.map V.ref)) -> RowsAt H' cs (lN rows wide) -> Q (.ref l) H'
def cw (col : LI) (q : Int) : LI := ((List.range col.length).filter fun i => decide (col.getD i 0 = q)).map fun i : Nat => (i : Int)
theorem u3 (col : LI) (q : Int) : (cw col q).length <= col.length := by
 unfold cw
 rw [lm_]
 exact Nat.le_trans (List.length_filter_le _ _) (by simp)
theorem nY (col : LI) (t q : Int) : cw (col ++ [t]) q = cw col q ++ (if t = q then [(col.length : Int)] else []) := by
 unfold cw
 rw [List.length_append, List.length_singleton, List.range_succ, List.filter_append, List.map_append]
 congr 1
 ·congr 1
  refine List.filter_congr fun i hi => ?_
  have l := List.mem_range.mp hi
  rw [List.getD_eq_getElem?_getD, List.getD_eq_getElem?_getD, List.getElem?_append_left l]
 ·have e : (col ++ [t]).getD col.length 0 = t := by rw [List.getD_eq_getElem?_getD, List.getElem?_append_right (Nat.le_refl _), Nat.sub_self]; rfl
  by_cases c : t = q
  ·rw [if_pos c, List.filter_cons_of_pos (by rw [e]; exact decide_eq_true c)]; rfl
  ·rw [if_neg c, List.filter_cons_of_neg (by rw [e, decide_eq_false c]; decide)]; rfl
theorem preI_mem {col : LI} {q x : Int} : x ∈ cw col q ↔ (0 <= x /\ x < (col.length : Int)) /\ col.getD x.toNat 0 = q := by
 unfold cw
 rw [List.mem_map]
 constructor
 ·rintro ⟨i, hi, rfl⟩
  have h := List.mem_filter.mp hi
  have h1 := List.mem_range.mp h.1
  exact ⟨⟨by omega, by omega⟩, by rw [Int.toNat_natCast]; exact of_decide_eq_true h.2⟩
 ·rintro ⟨⟨h0, h1⟩, h2⟩
  exact ⟨x.toNat, List.mem_filter.mpr ⟨List.mem_range.mpr (by omega), decide_eq_true h2⟩, by omega⟩
def tj (K : PySem.W.Frag) : Sp := fun vs H Q _ => ∃ (c : Addr) (many : Nat) (col : LI), vs = [.ref c] /\ H c = some (.tup (col.map V.int)) /\ col.length <= 1000 /\ many <= 1000 /\ (∀ t ∈ col, 0 <= t /\ t < (many : Int)) /\
 ∀ (B : Addr) (es : List (Int × Addr)) (H' : Hp), Same H H' -> H B = none -> BackOk H H' B es (fun q ls => ls = cw col q) -> Q (.ref B) H'
section
variable {P : Program} {w : World} {K : PySem.W.Frag} {mg : Str -> Option Value} {base : Heap} {f : Addr} {fd : FuncData} {dV : Value}
theorem sc_columns_of : FnScope ["machine", "rows", "columns", "figure"] ["machine"] (ak cI) := ⟨rfl, rfl, rfl, by decide +kernel, rfl, by decide +kernel, by decide +kernel⟩
theorem bk_columns_of_0 : BlkScope ["machine", "rows", "columns", "figure"] (ak cI) ["row", "figure"] [none, some 3] { kind := ScopeKind.function, names := [(".0", NameKind.local), ("row", NameKind.local), ("figure", NameKind.free)], isGenerator := false, isCoroutine := false, more := [] } := ⟨rfl, by decide +kernel, by decide +kernel, by decide +kernel, by decide +kernel, rfl, by decide +kernel⟩
theorem sc_back_of : FnScope ["column", "back", "here", "there"] ["column"] (ak fY) := ⟨rfl, rfl, rfl, by decide +kernel, rfl, by decide +kernel, by decide +kernel⟩
theorem Bq (F : FunD K "columns_of" "columns_of" cI dV f fd) (bx : mg "range" = none) (aH : mg "tuple" = none) : FnOk P w K mg base CX0 1 f fd ["machine"] (wI K) := by
 refine F.ok sc_columns_of (fun vs H Q E h => ?_) (fun cdv A outer s H vs Q E hr h => ?_)
 ·obtain ⟨m, r, g, many, wide, rows, signs, rfl, _⟩ := h
  rfl
 obtain ⟨m, r, g, many, wide, rows, signs, rfl, M, R, ⟨n1, w1⟩, k⟩ := h
 obtain ⟨hm, ⟨ras, hr', hA⟩, hg⟩ := M
 refine ⟨_, (aj (az (i := 1) sc_columns_of.nd rfl (Or.inl rfl) (aO bz (pv 0) ay (fun _ _ => rfl)))
   (aj (az (i := 2) sc_columns_of.nd rfl (Or.inl rfl) (cW af))
   (aj (cf PassesOwn.never rfl (dG rfl bx (aa (aO bz (pv 0) ay (fun _ _ => rfl)) af)) (ax (i := 3) sc_columns_of.nd rfl (Or.inr rfl)) (av (bD (fA PySem.F.plainAttrs_list PySem.F.slot_list_append PySem.F.type_list_append bF (pv 2) (aa (aN aP (by rfl) aH bE (aa (cq rfl bk_columns_of_0 (iM (pv 1)) (fun _ _ _ _ => (ax (i := 0) bk_columns_of_0.nd rfl (Or.inl rfl))) (fun _ _ _ _ => (aO (tH K) (pv 0) (pv 1) (fun _ _ => rfl)))) af)) af)))))
   (av (bh (pv 2)))))), ?_⟩
 refine ⟨_, rfl, m, _, _, _, rfl, rfl, qT_ hm, rfl, ?_⟩
 refine ⟨(by show 0 <= sizeLine; decide), fun L hL => ?_⟩
 have sL := ah hL (HO.lst [])
 refine ⟨_, rfl, m, _, _, _, rfl, rfl, qT_ (sL _ _ hm), rfl, _, rfl, by omega, by omega, ?_⟩
 refine rU (fun i σ' H' => ∃ (as : List Addr) (v : OV), σ' = [some (.ref m), some (.ref r), some (.ref L), v] /\ Same H H' /\ H' L = some (.lst (as.map V.ref)) /\ RowsAt H' as ((List.range i).map fun f => rows.map fun r => r.getD f 0)) ⟨[], none, rfl, sL, ab, .nil⟩ ?_ ?_
 ·rintro i σ' H3 hi ⟨as, v, rfl, s3, hL3, A3⟩
  rw [Int.toNat_natCast] at hi
  have la : as.length = i := by rw [A3.length, lm_, List.length_range]
  have z0 : (0 : Int) + (i : Int) = (i : Int) := Int.zero_add _
  refine ⟨_, rfl, .inl ⟨rfl, _, qL_ hL3⟩, _, rfl, r, rfl, ⟨_, qT_ (s3 _ _ hr')⟩, ?_⟩
  refine gX (K := K) (xs := ras.map V.ref) (fun D j ys H' => Same H3 H' /\ ys = ((rows.take j).map fun r => r.getD i 0).map V.int) (fun D hD => ⟨ah hD _, rfl⟩) (fun D j ys H' _ ⟨e, _⟩ => qT_ (e _ _ (s3 _ _ hr'))) ?_ ?_
  ·rintro T j y ys H4 Q' hT hj hy ⟨s4, rfl⟩ k'
   have jl : j < rows.length := by
    have := (gi_ hj).1
    rw [lm_, hA.length] at this
    exact this
   obtain ⟨ra, e1, e2⟩ := hA.get jl
   have ey : y = .ref ra := by rw [List.getElem?_map, e1] at hj; exact (Option.some.inj hj).symm
   subst ey
   have lr := R.len
   have lrow : rows[j].length = wide := R.row _ (List.getElem_mem jl)
   have at1 : atI (rows[j].map V.int) (0 + (i : Int)) = some (.int (rows[j].getD i 0)) := by
    rw [z0, cx (by omega) (by omega), Int.toNat_natCast]
   refine ⟨_, rfl, _, rfl, ra, _, _, _, rfl, rfl, qT_ ((s3.trans s4) _ _ e2), at1, k' _ _ hy (aw (by rw [lm_, lm_, List.length_take]; omega)) ⟨au s4 hT, ?_⟩⟩
   rw [List.take_add_one, List.getElem?_eq_getElem jl, List.map_append, List.map_append]
   rfl
  ·rintro T ys H4 hT hy ⟨s4, rfl⟩
   rw [lm_, hA.length, List.take_length] at hy
   refine ⟨T, _, rfl, .inl ⟨qL_ hy, fun t ht => ?_⟩⟩
   have hL4 := s4 _ _ hL3
   have nL : L ≠ t := aq hL4 ht
   refine ⟨L, _, _, rfl, rfl, by rw [ae nL]; exact hL4, aw (by rw [lm_]; omega), ?_⟩
   have sT : ∀ b xs, H3 b = some (.tup xs) -> (upd (upd H4 t (.tup ((rows.map fun r => r.getD i 0).map V.int))) L (.lst (as.map V.ref ++ [V.ref t]))) b = some (.tup xs) := fun b xs e => by
    have e4 := s4 _ _ e
    rw [ae (aB e4 hL4 (by intro z; cases z)), ae (aq e4 ht)]
    exact e4
   refine ⟨as ++ [t], _, rfl, au (au (s3.trans s4) ((s3.trans s4).free ht)) hL, by rw [ab, List.map_append]; rfl, ?_⟩
   rw [List.range_succ, List.map_append]
   exact RowsAt.snoc (A3.same sT) (by rw [ae (Ne.symm nL), ab])
 ·rintro σ' H3 ⟨as, v, rfl, s3, hL3, A3⟩
  rw [Int.toNat_natCast] at A3
  exact ⟨_, rfl, k L as _ s3 hL3 A3⟩
theorem zf (F : FunD K "back_of" "back_of" fY dV f fd) (aV : mg "enumerate" = none) : FnOk P w K mg base CX0 1 f fd ["column"] (tj K) := by
 refine F.ok sc_back_of (fun vs H Q E h => ?_) (fun cdv A outer s H vs Q E hr h => ?_)
 ·obtain ⟨c, many, col, rfl, _⟩ := h
  rfl
 obtain ⟨c, many, col, rfl, hc, lc, n1, hcol, k⟩ := h
 have hu := gB hr
 refine ⟨_, (aj (az (i := 1) sc_back_of.nd rfl (Or.inl rfl) jC)
   (aj (cf PassesOwn.never rfl (p9 rfl aV (aa (pv 0) af)) (ic rfl (bt (ax (i := 2) sc_back_of.nd rfl (Or.inl rfl)) (bt (ax (i := 3) sc_back_of.nd rfl (Or.inl rfl)) fQ))) (av (bD (fA PySem.F.plainAttrs_list PySem.F.slot_list_append PySem.F.type_list_append bF (uh (pv 1) (pv 3) (cW af) ⟨rfl, rfl, rfl, rfl⟩) (aa (pv 2) af)))))
   (av (bh (pv 1))))), ?_⟩
 refine fun B hB => ?_
 have s0 := ah hB (HO.dK [])
 have b0 : BackOk H (upd H B (.dK [])) B [] (fun q ls => ls = cw (col.take 0) q) := ⟨ab, List.Pairwise.nil, List.Pairwise.nil, (fun e h => by cases h), (fun e h => by cases h), fun q _ => rfl⟩
 refine ⟨_, rfl, c, rfl, ⟨_, qT_ (s0 _ _ hc)⟩, nC (K := K) (xs := col.map V.int) (fun i σ' H' => ∃ (es : List (Int × Addr)) (v1 v2 : OV), σ' = [some (.ref c), some (.ref B), v1, v2] /\ Same H H' /\ (∀ e ∈ es, 0 <= e.1 /\ e.1 < (many : Int)) /\ BackOk H H' B es (fun q ls => ls = cw (col.take i) q))
  ⟨[], none, none, rfl, s0, (fun e h => by cases h), b0⟩ (fun i σ' H' _ ⟨_, _, _, _, e, _⟩ => qT_ (e _ _ hc)) ?_ ?_⟩
 ·rintro i y σ' H1 T hi ⟨es, v1, v2, rfl, s1, kr, b1⟩ hT
  obtain ⟨t, rfl, ht⟩ := aY hi
  have il := (gi_ ht).1
  have stq := hcol t (mq_ ht)
  have sT := ah hT (HO.tup [V.int i, V.int t])
  obtain ⟨H2, eH2⟩ : ∃ H2, upd H1 T (HO.tup [V.int i, V.int t]) = H2 := ⟨_, rfl⟩
  have hT2 : H2 T = some (.tup [V.int i, V.int t]) := by rw [<- eH2]; exact ab
  rw [eH2] at sT ⊢
  have s2 := s1.trans sT
  have b2 := b1.same sT
  refine ⟨T, _, rfl, qT_ hT2, rfl, _, _, rfl, _, _, rfl, rfl, ?_⟩
  refine ⟨_, rfl, B, rfl, .inl ⟨_, .inl b2.at_⟩, _, rfl, (by show 0 <= sizeLine; decide), fun L hL => ?_⟩
  have sL := ah hL (HO.lst [])
  have b3 := b2.same sL
  have nL : ∀ e ∈ es, e.2 ≠ L := fun e he z => by
   obtain ⟨ls, h1, _⟩ := b2.lst e he
   rw [z, hL] at h1
   cases h1
  have nLB : B ≠ L := aq b2.at_ hL
  have fL : H L = none := s2.free hL
  have few := aX many b3.nd (fun q hq => by
   obtain ⟨e, he, rfl⟩ := List.mem_map.mp hq
   exact kr e he)
  rw [lm_] at few
  have len : (kvL es).length < sizeLine := aw (by unfold kvL; rw [lm_]; omega)
  have et : col.take (i + 1) = col.take i ++ [t] := by rw [List.take_add_one, ht]; rfl
  have ln : (col.take i).length = i := by rw [List.length_take]; omega
  have oth : ∀ (p : Int) (ls : LI), p ≠ t -> ls = cw (col.take i) p -> ls = cw (col.take (i + 1)) p := fun p ls np z => by
   rw [et, nY, if_neg (Ne.symm np), List.append_nil]
   exact z
  have grow : ∀ ls : LI, ls = cw (col.take i) t -> ls ++ [(i : Int)] = cw (col.take (i + 1)) t := fun ls z => by
   rw [et, nY, if_pos rfl, ln, z]
  refine ⟨_, Sum.inl t, b3.at_, rfl, len, fun v hv => ?_, fun hn => ?_⟩
  ·obtain ⟨la, ls, rfl, hm, hla, hp⟩ := b3.get hv
   have pl := u3 (col.take i) t
   have lz : (ls.map V.int).length < sizeLine := aw (by rw [lm_, hp]; omega)
   refine ⟨.inl ⟨rfl, _, qL_ hla⟩, _, rfl, la, _, _, rfl, rfl, hla, lz, ?_⟩
   exact ⟨es, _, _, rfl, au (s2.trans sL) (b2.fresh _ hm), kr, b3.old hm hla (grow ls hp) oth⟩
  ·have hq : t ∉ es.map Prod.fst := fun z => by
    obtain ⟨e, he, ee⟩ := List.mem_map.mp z
    obtain ⟨jj, hjj⟩ := List.mem_iff_getElem?.mp he
    have := jr b3.nd (q := e.1) (a := e.2) hjj
    rw [ee, hn] at this
    cases this
   have hL3 : (upd (upd H2 L (HO.lst [])) B (HO.dK (putK (kvL es) (Sum.inl t) (V.ref L)))) L = some (.lst []) := by rw [ae (Ne.symm nLB), ab]
   refine ⟨.inl ⟨rfl, _, qL_ hL3⟩, _, rfl, L, _, _, rfl, rfl, hL3, (by show 0 < sizeLine; decide), ?_⟩
   refine ⟨es ++ [(t, L)], _, _, rfl, au (au (s2.trans sL) hB) fL, fun e he => ?_, b3.new hq ab fL nL (grow [] (b3.non _ hq)) oth⟩
   rcases ma_.mp he with z | z
   ·exact kr e z
   ·rw [List.mem_singleton.mp z]; exact stq
 ·rintro σ' H1 ⟨es, v1, v2, rfl, s1, kr, b1⟩
  rw [lm_, List.take_length] at b1
  exact ⟨_, rfl, k B es _ s1 hB b1⟩
end
structure PCls (K : PySem.W.Frag) (C : Addr) : Prop where
 cl : Cls K C
 ng : NoAttr K C "group_of"
 nm : NoAttr K C "members"
 nw : NoAttr K C "waiting"
 ni : NoAttr K C "is_waiting"
structure PtAt (H : Hp) (C x go ms wt iw : Addr) : Prop where
 ob : ∃ dx : Addr, H x = some (.ins C dx [("group_of", .ref go), ("members", .ref ms), ("waiting", .ref wt), ("is_waiting", .ref iw)])
theorem PtAt.same {H H' : Hp} {C x go ms wt iw : Addr} (h : PtAt H C x go ms wt iw) (s : Same H H') : PtAt H' C x go ms wt iw := by
 obtain ⟨dx, h1⟩ := h.ob
 exact ⟨dx, s _ _ h1⟩
def pU (K : PySem.W.Frag) (C : Addr) : Sp := fun vs H Q _ => ∃ (x go ms wt iw : Addr) (gs : LI) (ds : List Addr), vs = [.ref x] /\ PtAt H C x go ms wt iw /\ H go = some (.lst (gs.map V.int)) /\ H ms = some (.lst (ds.map V.ref)) /\ Q (.bl (decide (ds.length = gs.length))) H
def vR (C : Addr) : Sp := fun vs H Q _ => ∃ (x go ms wt iw : Addr) (n : Int) (ws ks : LI), vs = [.ref x, .int n] /\ PtAt H C x go ms wt iw /\ H wt = some (.lst (ws.map V.int)) /\ H iw = some (.dK (kvT ks)) /\ ks.Nodup /\ ws.length <= 1000 /\ ks.length <= 1000 /\
 Q .non (upd (upd H wt (.lst ((ws ++ [n]).map V.int))) iw (.dK (kvT (if n ∈ ks then ks else ks ++ [n]))))
theorem uU (ks : LI) (g : Int) : pB (kvT ks) (Sum.inl g) = kvT (ks.filter fun k => decide (k ≠ g)) := by
 unfold pB kvT
 rw [List.filter_map]
 congr 1
 refine List.filter_congr fun k _ => ?_
 by_cases c : k = g
 ·subst c
  simp
 ·have : (Sum.inl k : Key) ≠ Sum.inl g := fun z => c (Sum.inl.inj z)
  simp [c, this]
theorem z8 (ks : LI) : (kvT ks).map (fun kv => kV kv.1) = ks.map V.int := by
 unfold kvT
 rw [List.map_map]
 rfl
def uG (C : Addr) : Sp := fun vs H Q _ => ∃ (x go ms wt iw da : Addr) (g : Int) (ws ks mem : LI) (ds : List Addr), vs = [.ref x] /\ PtAt H C x go ms wt iw /\ H wt = some (.lst ((ws ++ [g]).map V.int)) /\ H iw = some (.dK (kvT ks)) /\ g ∈ ks /\ H ms = some (.lst (ds.map V.ref)) /\ 0 <= g /\ ds[g.toNat]? = some da /\ ms ≠ wt /\ H da = some (.dK (kvT mem)) /\ da ≠ iw /\ mem.length <= 1000 /\
 ∀ l, H l = none -> Q (.ref l) (upd (upd (upd H wt (.lst (ws.map V.int))) iw (.dK (kvT (ks.filter fun k => decide (k ≠ g))))) l (.lst (mem.map V.int)))
section
variable {P : Program} {w : World} {K : PySem.W.Frag} {mg : Str -> Option Value} {base : Heap} {f : Addr} {fd : FuncData} {dV : Value} {C : Addr}
theorem my : FnScope ["self"] ["self"] (ak bV) := ⟨rfl, rfl, rfl, by decide +kernel, rfl, by decide +kernel, by decide +kernel⟩
theorem kT : FnScope ["self", "group"] ["self", "group"] (ak bL) := ⟨rfl, rfl, rfl, by decide +kernel, rfl, by decide +kernel, by decide +kernel⟩
theorem sc_Parted_next_splitter : FnScope ["self", "group"] ["self"] (ak a8) := ⟨rfl, rfl, rfl, by decide +kernel, rfl, by decide +kernel, by decide +kernel⟩
theorem yi (F : FunD K "is_done" "Parted.is_done" bV dV f fd) (pc : PCls K C) (aM : mg "len" = none) : FnOk P w K mg base CX0 1 f fd ["self"] (pU K C) := by
 refine F.ok my (fun vs H Q E h => ?_) (fun cdv A outer s H vs Q E hr h => ?_)
 ·obtain ⟨x, go, ms, wt, iw, gs, ds, rfl, _⟩ := h
  rfl
 obtain ⟨x, go, ms, wt, iw, gs, ds, rfl, ⟨dx, hx⟩, hgo, hms, q⟩ := h
 refine ⟨_, (av (bh (fG vf (aC aA (by rfl) aM bB (aa (bC (pv 0) rfl) af)) (aC aA (by rfl) aM bB (aa (bC (pv 0) rfl) af)) (bQ _)))), ?_⟩
 refine ⟨_, rfl, x, C, dx, _, _, rfl, hx, pc.cl, pc.nm, rfl, ms, _, rfl, .inl (qL_ hms), _, rfl, x, C, dx, _, _, rfl, hx, pc.cl, pc.ng, rfl, go, _, rfl, .inl (qL_ hgo), rfl, ?_⟩
 rw [lm_, lm_]
 have e : decide (V.int (ds.length : Int) = V.int (gs.length : Int)) = decide (ds.length = gs.length) := decide_eq_decide.mpr ⟨fun h => by have := V.int.inj h; omega, fun h => by rw [h]⟩
 rw [e]
 exact q
theorem wm (F : FunD K "wait_for" "Parted.wait_for" bL dV f fd) (pc : PCls K C) : FnOk P w K mg base CX0 1 f fd ["self", "group"] (vR C) := by
 refine F.ok kT (fun vs H Q E h => ?_) (fun cdv A outer s H vs Q E hr h => ?_)
 ·obtain ⟨x, go, ms, wt, iw, n, ws, ks, rfl, _⟩ := h
  rfl
 obtain ⟨x, go, ms, wt, iw, n, ws, ks, rfl, ⟨dx, hx⟩, hwt, hiw, nd, l1, l2, q⟩ := h
 have hu := gB hr
 refine ⟨_, (aj (bD (fA PySem.F.plainAttrs_list PySem.F.slot_list_append PySem.F.type_list_append bF (bC (pv 0) rfl) (aa (pv 1) af)))
   (av (lV hu (bC (pv 0) rfl) (pv 1) eA rfl))), ?_⟩
 have nx : x ≠ wt := aB hx hwt (by intro z; cases z)
 have ni : iw ≠ wt := aB hiw hwt (by intro z; cases z)
 refine ⟨_, rfl, x, C, dx, _, _, rfl, hx, pc.cl, pc.nw, rfl, .inl ⟨rfl, _, qL_ hwt⟩, _, rfl, wt, _, _, rfl, rfl, hwt, aw (by rw [lm_]; exact l1), ?_⟩
 refine ⟨_, rfl, x, C, dx, _, _, rfl, by rw [ae nx]; exact hx, pc.cl, pc.ni, rfl, _, rfl, iw, _, rfl, DPut.k (k := Sum.inl n) (by rw [ae ni]; exact hiw) (aw (by unfold kvT; rw [lm_]; exact l2)), ?_⟩
 have e : putK (kvT ks) (Sum.inl n) (V.bl true) = kvT (if n ∈ ks then ks else ks ++ [n]) := by
  by_cases c : n ∈ ks
  ·rw [if_pos c]
   unfold putK
   rw [if_pos (show ((kvT ks).any fun kv => decide (kv.fst = Sum.inl n)) = true from List.any_eq_true.mpr ⟨(Sum.inl n, V.bl true), List.mem_map.mpr ⟨n, c, rfl⟩, by simp⟩)]
   refine (List.map_congr_left fun kv hk => ?_).trans (List.map_id _)
   obtain ⟨k, _, rfl⟩ := List.mem_map.mp hk
   show (if (Sum.inl k : Key) = Sum.inl n then ((Sum.inl k : Key), V.bl true) else (Sum.inl k, V.bl true)) = (Sum.inl k, V.bl true)
   split <;> rfl
  ·rw [if_neg c]
   exact oU c
 rw [e]
 rw [List.map_append] at q
 exact q
theorem Aw (F : FunD K "next_splitter" "Parted.next_splitter" a8 dV f fd) (pc : PCls K C) (dj : mg "list" = none) : FnOk P w K mg base CX0 1 f fd ["self"] (uG C) := by
 refine F.ok sc_Parted_next_splitter (fun vs H Q E h => ?_) (fun cdv A outer s H vs Q E hr h => ?_)
 ·obtain ⟨x, go, ms, wt, iw, da, g, ws, ks, mem, ds, rfl, _⟩ := h
  rfl
 obtain ⟨x, go, ms, wt, iw, da, g, ws, ks, mem, ds, rfl, ⟨dx, hx⟩, hwt, hiw, gk, hms, g0, hda0, nmw, hda, ndi, lm, q⟩ := h
 have hu := gB hr
 refine ⟨_, (aj (az (i := 1) sc_Parted_next_splitter.nd rfl (Or.inl rfl) (z6 PySem.F.plainAttrs_list PySem.F.slot_list_pop PySem.F.type_list_pop B9 (bC (pv 0) rfl)))
   (aj (bD (u6 (bC (pv 0) rfl) (pv 1) ⟨rfl, rfl, rfl, rfl⟩))
   (av (bh (aN (qr rfl) (by rfl) dj oS (aa (aO b9 (bC (pv 0) rfl) (pv 1) (fun _ _ => rfl)) af)))))), ?_⟩
 have nx : x ≠ wt := aB hx hwt (by intro z; cases z)
 have nxi : x ≠ iw := aB hx hiw (by intro z; cases z)
 have ni : iw ≠ wt := aB hiw hwt (by intro z; cases z)
 have nmi : ms ≠ iw := aB hms hiw (by intro z; cases z)
 have ndw : da ≠ wt := aB hda hwt (by intro z; cases z)
 have last : ((ws ++ [g]).map V.int)[((ws ++ [g]).map V.int).length - 1]? = some (.int g) := by
  rw [lm_, List.length_append, List.length_singleton, Nat.add_sub_cancel, List.getElem?_map, List.getElem?_append_right (Nat.le_refl _), Nat.sub_self]
  rfl
 have dl : ((ws ++ [g]).map V.int).dropLast = ws.map V.int := by rw [List.map_append]; exact List.dropLast_concat
 obtain ⟨v, hv⟩ : ∃ v, dk (kvT ks) (Sum.inl g) = some v := by
  have h := o4 ks g
  rw [decide_eq_true gk] at h
  exact Option.isSome_iff_exists.mp h
 have at' : atI (ds.map V.ref) g = some (.ref da) := by
  have q' : atI (ds.map V.ref) ((g.toNat : Nat) : Int) = some (.ref da) := jW (by rw [List.getElem?_map, hda0]; rfl)
  rw [Int.toNat_of_nonneg g0] at q'
  exact q'
 refine ⟨_, rfl, x, C, dx, _, _, rfl, hx, pc.cl, pc.nw, rfl, .inl ⟨rfl, _, qL_ hwt⟩, wt, _, _, rfl, rfl, hwt, last, ?_⟩
 rw [dl]
 have hx1 : (upd H wt (HO.lst (ws.map V.int))) x = _ := (ae nx).trans hx
 have hiw1 : (upd H wt (HO.lst (ws.map V.int))) iw = _ := (ae ni).trans hiw
 refine ⟨_, rfl, x, C, dx, _, _, rfl, hx1, pc.cl, pc.ni, rfl, iw, rfl, .inl ⟨_, .inl hiw1⟩, _, rfl, kvT ks, Sum.inl g, v, hiw1, rfl, hv, ?_⟩
 rw [uU]
 refine ⟨_, rfl, x, C, dx, _, _, rfl, (ae nxi).trans hx1, pc.cl, pc.nm, rfl, _, rfl, ms, _, _, _, rfl, rfl, qL_ ((ae nmi).trans ((ae nmw).trans hms)), at', da, _, rfl, (ae ndi).trans ((ae ndw).trans hda), fun l hl => ?_⟩
 rw [z8]
 refine q l ?_
 by_cases c1 : l = iw
 ·rw [c1, ab] at hl
  cases hl
 ·rw [ae c1] at hl
  by_cases c2 : l = wt
  ·rw [c2, ab] at hl
   cases hl
  ·rw [ae c2] at hl
   exact hl
end
def setG (gs done : LI) (n : Int) : LI := done.foldl (fun g q => g.set q.toNat n) gs
def outF (mem done : LI) : LI := mem.filter fun q => decide (q ∉ done)
theorem vF (gs : LI) (n : Int) : ∀ done : LI, (setG gs done n).length = gs.length := fun done => by
 unfold setG
 induction done generalizing gs with
 | nil => rfl
 | cons q r ih => rw [List.foldl_cons, ih, List.length_set]
theorem yD (gs done : LI) (q n : Int) : setG gs (done ++ [q]) n = (setG gs done n).set q.toNat n := by
 unfold setG
 rw [List.foldl_append]
 rfl
theorem y8 (mem done : LI) (q : Int) : (outF mem done).filter (fun k => decide (k ≠ q)) = outF mem (done ++ [q]) := by
 unfold outF
 rw [List.filter_filter]
 refine List.filter_congr fun k _ => ?_
 by_cases c : k = q
 ·subst c
  simp
 ·simp [c]
def tF (K : PySem.W.Frag) (C : Addr) : Sp := fun vs H Q _ => ∃ (x go ms wt iw da il : Addr) (g : Int) (gs ws ks mem ins : LI) (ds : List Addr), vs = [.ref x, .int g, .ref il] /\ PtAt H C x go ms wt iw /\ H go = some (.lst (gs.map V.int)) /\ H ms = some (.lst (ds.map V.ref)) /\ H wt = some (.lst (ws.map V.int)) /\ H iw = some (.dK (kvT ks)) /\ ks.Nodup /\ (ws.length <= 1000 /\ ks.length <= 1000 /\ ds.length < 1000 /\ ins.length <= 1000) /\
 0 <= g /\ ds[g.toNat]? = some da /\ H da = some (.dK (kvT mem)) /\ H il = some (.lst (ins.map V.int)) /\ ins.Nodup /\ (∀ q ∈ ins, q ∈ mem /\ 0 <= q /\ q < (gs.length : Int)) /\ (go ≠ ms /\ go ≠ wt /\ go ≠ il /\ ms ≠ wt /\ ms ≠ il /\ wt ≠ il /\ da ≠ iw) /\
 ∀ (E : Addr) (nw : Int) (H' : Hp), H E = none -> H' E = some (.dK (kvT ins)) -> H' ms = some (.lst ((ds ++ [E]).map V.ref)) -> H' da = some (.dK (kvT (outF mem ins))) -> H' go = some (.lst ((setG gs ins (ds.length : Int)).map V.int)) -> H' wt = some (.lst ((ws ++ [nw]).map V.int)) -> H' iw = some (.dK (kvT (if nw ∈ ks then ks else ks ++ [nw]))) ->
  ((g ∈ ks \/ ins.length <= (outF mem ins).length) -> nw = (ds.length : Int)) -> (¬ (g ∈ ks \/ ins.length <= (outF mem ins).length) -> nw = g) -> (∀ c u, c ≠ go -> c ≠ ms -> c ≠ da -> c ≠ wt -> c ≠ iw -> H c = some u -> H' c = some u) -> Q .non H'
theorem xF {n z : Nat} (h : z < n) : ixN n (z : Int) = some z := by
 unfold ixN
 rw [if_pos (by omega), if_pos (by omega), Int.toNat_natCast]
section
variable {P : Program} {w : World} {K : PySem.W.Frag} {mg : Str -> Option Value} {base : Heap} {f : Addr} {fd : FuncData} {dV : Value} {C : Addr}
theorem sc_Parted_split_off : FnScope ["self", "group", "inside", "fresh", "outside", "here"] ["self", "group", "inside"] (ak br) := ⟨rfl, rfl, rfl, by decide +kernel, rfl, by decide +kernel, by decide +kernel⟩
theorem bk_Parted_split_off_0 : BlkScope ["self", "group", "inside", "fresh", "outside", "here"] (ak br) ["here"] [none] { kind := ScopeKind.function, names := [(".0", NameKind.local), ("here", NameKind.local)], isGenerator := false, isCoroutine := false, more := [] } := ⟨rfl, by decide +kernel, by decide +kernel, by decide +kernel, by decide +kernel, rfl, by decide +kernel⟩
theorem zB (F : FunD K "split_off" "Parted.split_off" br dV f fd) (pc : PCls K C) (gy : DefMe P w K mg base C "wait_for" 1 ["self", "group"] (vR C)) (aM : mg "len" = none) (fq : mg "dict" = none) : FnOk P w K mg base CX0 2 f fd ["self", "group", "inside"] (tF K C) := by
 refine F.ok sc_Parted_split_off (fun vs H Q E h => ?_) (fun cdv A outer s H vs Q E hr h => ?_)
 ·obtain ⟨x, go, ms, wt, iw, da, il, g, gs, ws, ks, mem, ins, ds, rfl, _⟩ := h
  rfl
 obtain ⟨x, go, ms, wt, iw, da, il, g, gs, ws, ks, mem, ins, ds, rfl, ⟨dx, hx⟩, hgo, hms, hwt, hiw, ndk, ⟨lw, lk, ld, li⟩, g0, hda0, hda, hil, ndi, hins, ⟨n1, n2, n3, n4, n5, n6, n7⟩, k⟩ := h
 have hu := gB hr
 refine ⟨_, (aj (az (i := 3) sc_Parted_split_off.nd rfl (Or.inl rfl) (aC aA (by rfl) aM bB (aa (bC (pv 0) rfl) af)))
   (aj (az (i := 4) sc_Parted_split_off.nd rfl (Or.inl rfl) (aO b9 (bC (pv 0) rfl) (pv 1) (fun _ _ => rfl)))
   (aj (cf PassesOwn.never rfl (bO (pv 2)) (ax (i := 5) sc_Parted_split_off.nd rfl (Or.inl rfl)) (aj (bD (u6 (pv 4) (pv 5) ⟨rfl, rfl, rfl, rfl⟩))
   (av (uF (pv 3) (uH (bC (pv 0) rfl) (pv 5) set_list)))))
   (aj (bD (fA PySem.F.plainAttrs_list PySem.F.slot_list_append PySem.F.type_list_append bF (bC (pv 0) rfl) (aa (aN (jm rfl) (by rfl) fq oT (aa (cq rfl bk_Parted_split_off_0 (bO (pv 2)) (fun _ _ _ _ => (ax (i := 0) bk_Parted_split_off_0.nd rfl (Or.inl rfl))) (fun _ _ _ _ => (dD (aa (pv 0) (aa eA af))))) af)) af)))
   (av (dr (PW.pt (ke (tW (B1 hu (pv 1) (bC (pv 0) rfl)) (by with_unfolding_all rfl)) (ko (cu CG (aC aA (by rfl) aM bB (aa (pv 2) af)) (aC jS (by rfl) aM bB (aa (pv 4) af)) (bQ _))))) (av (bD (vM gy hr (pv 0) (aa (pv 3) af)))) (av (bD (vM gy hr (pv 0) (aa (pv 1) af)))))))))), ?_⟩
 have o0 : outF mem [] = mem := List.filter_eq_self.mpr fun _ _ => by simp
 have nxg : x ≠ go := aB hx hgo (by intro z; cases z)
 have nxd : x ≠ da := aB hx hda (by intro z; cases z)
 have ngd : go ≠ da := aB hgo hda (by intro z; cases z)
 have at' : atI (ds.map V.ref) g = some (.ref da) := by
  have q' : atI (ds.map V.ref) ((g.toNat : Nat) : Int) = some (.ref da) := jW (by rw [List.getElem?_map, hda0]; rfl)
  rw [Int.toNat_of_nonneg g0] at q'
  exact q'
 refine ⟨_, rfl, x, C, dx, _, _, rfl, hx, pc.cl, pc.nm, rfl, ms, _, rfl, .inl (qL_ hms), ?_⟩
 rw [lm_]
 refine ⟨_, rfl, x, C, dx, _, _, rfl, hx, pc.cl, pc.nm, rfl, _, rfl, ms, _, _, _, rfl, rfl, qL_ hms, at', ?_⟩
 try dsimp only [bR, dZ]
 refine dN (t := oQ _ _ _) (fun σ' H' => ∃ v : OV, σ' = [some (.ref x), some (.int g), some (.ref il), some (.int (ds.length : Int)), some (.ref da), v] /\ H' da = some (.dK (kvT (outF mem ins))) /\ H' go = some (.lst ((setG gs ins (ds.length : Int)).map V.int)) /\ ∀ c u, c ≠ go -> c ≠ da -> H c = some u -> H' c = some u) ?_ (fun D' nxt => ?_)
 rotate_left
 ·refine ⟨_, rfl, il, rfl, ⟨_, qL_ hil⟩, ?_⟩
  refine cL (K := K) (xs := ins.map V.int) (fun i σ' H' => ∃ v : OV, σ' = [some (.ref x), some (.int g), some (.ref il), some (.int (ds.length : Int)), some (.ref da), v] /\ H' da = some (.dK (kvT (outF mem (ins.take i)))) /\ H' go = some (.lst ((setG gs (ins.take i) (ds.length : Int)).map V.int)) /\ ∀ c u, c ≠ go -> c ≠ da -> H c = some u -> H' c = some u) ⟨none, rfl, by rw [List.take_zero, o0]; exact hda, hgo, fun _ _ _ _ e => e⟩ (fun i σ' H' _ ⟨_, _, _, _, e⟩ => qL_ (e _ _ (Ne.symm n3) (aB hil hda (by intro z; cases z)) hil)) ?_ ?_
  ·rintro i y σ' H3 hi ⟨v, rfl, hd3, hg3, kp3⟩
   obtain ⟨q, rfl, hq⟩ := aY hi
   have qm := hins q (mq_ hq)
   have qo : q ∈ outF mem (ins.take i) := by
    refine List.mem_filter.mpr ⟨qm.1, decide_eq_true fun z => ?_⟩
    obtain ⟨j, hj, ej⟩ := List.getElem_of_mem z
    rw [List.length_take] at hj
    rw [List.getElem_take] at ej
    have ql := gi_ hq
    have := (List.getElem_inj ndi).mp (ej.trans ql.2.symm)
    omega
   obtain ⟨vv, hvv⟩ : ∃ v, dk (kvT (outF mem (ins.take i))) (Sum.inl q) = some v := by
    have h := o4 (outF mem (ins.take i)) q
    rw [decide_eq_true qo] at h
    exact Option.isSome_iff_exists.mp h
   have et : ins.take (i + 1) = ins.take i ++ [q] := by rw [List.take_add_one, hq]; rfl
   refine ⟨_, rfl, da, rfl, .inl ⟨_, .inl hd3⟩, _, rfl, _, Sum.inl q, vv, hd3, rfl, hvv, ?_⟩
   rw [uU, y8, <- et]
   have hx3 := kp3 _ _ nxg nxd hx
   refine ⟨_, rfl, _, rfl, x, C, dx, _, _, rfl, (ae nxd).trans hx3, pc.cl, pc.ng, rfl, _, rfl, go, _, q, q.toNat, rfl, rfl, (ae ngd).trans hg3, ?_, ?_⟩
   ·rw [lm_, vF]
    have := xF (n := gs.length) (z := q.toNat) (by omega)
    rw [Int.toNat_of_nonneg qm.2.1] at this
    exact this
   ·refine ⟨_, rfl, by rw [ae (Ne.symm ngd), ab], ?_, fun c u c1 c2 e => by rw [ae c1, ae c2]; exact kp3 c u c1 c2 e⟩
    rw [ab, et, yD, List.map_set]
  ·rintro σ' H3 ⟨v, rfl, hd3, hg3, kp3⟩
   rw [lm_, List.take_length] at hd3 hg3
   exact nxt _ _ ⟨v, rfl, hd3, hg3, kp3⟩
 rintro σ' H1 ⟨v, rfl, hd1, hg1, kp1⟩
 have hx1 := kp1 _ _ nxg nxd hx
 have hms1 := kp1 _ _ (Ne.symm n1) (aB hms hda (by intro z; cases z)) hms
 have hil1 := kp1 _ _ (Ne.symm n3) (aB hil hda (by intro z; cases z)) hil
 refine ⟨_, rfl, x, C, dx, _, _, rfl, hx1, pc.cl, pc.nm, rfl, .inl ⟨rfl, _, qL_ hms1⟩, _, rfl, il, rfl, ⟨_, qL_ hil1⟩, ?_⟩
 refine dM (K := K) (xs := ins.map V.int) (fun D i ys H' => Same H1 H' /\ ∃ ts, ys = ts.map V.ref /\ PairsV H' ts (kvT (ins.take i))) (fun D hD => ⟨ah hD _, [], rfl, .nil⟩) (fun D i ys H' _ ⟨e, _⟩ => qL_ (e _ _ hil1)) ?_ ?_
 ·rintro D i y ys H' Q' hD hi hy ⟨hs, ts, rfl, pv⟩ k'
  obtain ⟨q, rfl, hq⟩ := aY hi
  have il' : i < ins.length := (gi_ hq).1
  refine ⟨_, rfl, (by show 2 <= sizeLine; decide), fun T hT => ?_⟩
  have sT := ah hT (HO.tup [V.int q, V.bl true])
  have nD : D ≠ T := aq hy hT
  have lts : ts.length = i := by
   rw [Paired.length pv]
   unfold kvT
   rw [lm_, List.length_take]
   omega
  have hyT : (upd H' T (HO.tup [V.int q, V.bl true])) D = some (.lst (ts.map V.ref)) := by rw [ae nD]; exact hy
  refine k' _ _ hyT (aw (by rw [lm_]; omega)) ⟨au (au hs (hs.free hT)) hD, ts ++ [T], by rw [List.map_append]; rfl, ?_⟩
  rw [List.take_add_one, hq]
  have up : ∀ b xs, (upd H' T (HO.tup [V.int q, V.bl true])) b = some (.tup xs) -> (upd (upd H' T (HO.tup [V.int q, V.bl true])) D (.lst (ts.map V.ref ++ [V.ref T]))) b = some (.tup xs) := fun b xs e => by
   rw [ae (aB e hyT (by intro z; cases z))]; exact e
  show PairsV _ _ (kvT (ins.take i ++ [q]))
  unfold kvT
  rw [List.map_append]
  exact Paired.snoc (PairsV.same pv fun b xs e => up b xs (sT _ _ e)) (up _ _ ab)
 rintro L ys H2 fL hL ⟨s2, ts, rfl, pv⟩
 rw [lm_, List.take_length] at pv
 refine ⟨L, ts, _, rfl, hL, pv, fun N hN => ?_⟩
 rw [sd ndi]
 have s3 := s2.trans (ah hN (HO.dK (kvT ins)))
 obtain ⟨H3, eH3⟩ : ∃ H3, upd H2 N (HO.dK (kvT ins)) = H3 := ⟨_, rfl⟩
 have hN3 : H3 N = some (.dK (kvT ins)) := by rw [<- eH3]; exact ab
 rw [eH3] at s3 ⊢
 have fN : H1 N = none := s2.free hN
 have hms3 := s3 _ _ hms1
 have nxm : x ≠ ms := aB hx hms (by intro z; cases z)
 refine ⟨ms, _, _, rfl, rfl, hms3, aw (by rw [lm_]; omega), ?_⟩
 have nNm : N ≠ ms := aB hN3 hms3 (by intro z; cases z)
 have nxi : x ≠ iw := aB hx hiw (by intro z; cases z)
 have nim : iw ≠ ms := aB hiw hms (by intro z; cases z)
 have ndm : da ≠ ms := aB hda hms (by intro z; cases z)
 obtain ⟨H4, eH4⟩ : ∃ H4, upd H3 ms (HO.lst (ds.map V.ref ++ [V.ref N])) = H4 := ⟨_, rfl⟩
 have kp4 : ∀ c u, c ≠ ms -> H1 c = some u -> H4 c = some u := fun c u c1 e => by rw [<- eH4, ae c1]; exact s3 _ _ e
 have hms4 : H4 ms = some (.lst ((ds ++ [N]).map V.ref)) := by rw [<- eH4, ab, List.map_append]; rfl
 have hN4 : H4 N = some (.dK (kvT ins)) := by rw [<- eH4, ae nNm]; exact hN3
 have hx4 := kp4 _ _ nxm hx1
 have hiw4 := kp4 _ _ nim (kp1 _ _ (aB hiw hgo (by intro z; cases z)) (Ne.symm n7) hiw)
 have hwt4 := kp4 _ _ (Ne.symm n4) (kp1 _ _ (Ne.symm n2) (aB hwt hda (by intro z; cases z)) hwt)
 have hda4 := kp4 _ _ ndm hd1
 have hgo4 := kp4 _ _ n1 hg1
 have hil4 := kp4 _ _ (Ne.symm n5) hil1
 rw [eH4]
 have niw : iw ≠ wt := aB hiw hwt (by intro z; cases z)
 have lo : (kvT (outF mem ins)).length = (outF mem ins).length := by unfold kvT; rw [lm_]
 have fN0 : H N = none := by
  cases e : H N with
  | none => rfl
  | some u =>
   have z1 : N = go \/ N = da := Classical.byContradiction fun z => by
    have := kp1 N u (fun a => z (.inl a)) (fun a => z (.inr a)) e
    rw [fN] at this
    cases this
   rcases z1 with z | z
   ·rw [z, hg1] at fN; cases fN
   ·rw [z, hd1] at fN; cases fN
 have fin : ∀ nw : Int, ((g ∈ ks \/ ins.length <= (outF mem ins).length) -> nw = (ds.length : Int)) -> (¬ (g ∈ ks \/ ins.length <= (outF mem ins).length) -> nw = g) -> Q .non (upd (upd H4 wt (.lst ((ws ++ [nw]).map V.int))) iw (.dK (kvT (if nw ∈ ks then ks else ks ++ [nw])))) := fun nw h1 h2 => by
  have nNw : N ≠ wt := aB hN4 hwt4 (by intro z; cases z)
  have nNi : N ≠ iw := fun z => by rw [z, hiw] at fN0; cases fN0
  refine k N nw _ fN0 ?_ ?_ ?_ ?_ ?_ ab h1 h2 fun c u c1 c2 c3 c4 c5 e => ?_
  ·rw [ae nNi, ae nNw]; exact hN4
  ·rw [ae (Ne.symm nim), ae n4]; exact hms4
  ·rw [ae n7, ae (aB hda hwt (by intro z; cases z))]; exact hda4
  ·rw [ae (aB hgo hiw (by intro z; cases z)), ae n2]; exact hgo4
  ·rw [ae (Ne.symm niw), ab]
  ·rw [ae c5, ae c4]; exact kp4 _ _ c2 (kp1 c u c1 c3 e)
 refine ⟨_, rfl, _, rfl, x, C, dx, _, _, rfl, hx4, pc.cl, pc.ni, rfl, iw, _, rfl, DGet.k (k := Sum.inl g) hiw4, _, rfl, ?_⟩
 rw [o4]
 have yes : (g ∈ ks \/ ins.length <= (outF mem ins).length) -> Q .non (upd (upd H4 wt (.lst ((ws ++ [(ds.length : Int)]).map V.int))) iw (.dK (kvT (if (ds.length : Int) ∈ ks then ks else ks ++ [(ds.length : Int)])))) := fun h => fin _ (fun _ => rfl) (fun n => absurd h n)
 refine qV (fun c => ?_) (fun c => ?_)
 ·exact uK ⟨_, rfl, x, dx, _, rfl, hx4, rfl, _, rfl, x, go, ms, wt, iw, (ds.length : Int), ws, ks, rfl, ⟨dx, hx4⟩, hwt4, hiw4, ndk, lw, lk, yes (.inl c)⟩
 ·refine ⟨_, rfl, il, _, rfl, .inl (qL_ hil4), _, rfl, da, _, rfl, hda4, _, _, rfl, rfl, _, rfl, qV (fun c2 => ?_) (fun c2 => ?_)⟩
  ·rw [lm_, lo] at c2
   exact ⟨_, rfl, x, dx, _, rfl, hx4, rfl, _, rfl, x, go, ms, wt, iw, (ds.length : Int), ws, ks, rfl, ⟨dx, hx4⟩, hwt4, hiw4, ndk, lw, lk, yes (.inr (by omega))⟩
  ·rw [lm_, lo] at c2
   exact ⟨_, rfl, x, dx, _, rfl, hx4, rfl, _, rfl, x, go, ms, wt, iw, g, ws, ks, rfl, ⟨dx, hx4⟩, hwt4, hiw4, ndk, lw, lk, fin g (fun h => absurd h (fun z => by
    rcases z with z | z
    ·exact c z
    ·exact c2 (by omega))) (fun _ => rfl)⟩
end
def ao (many : Nat) (q : Int) : Prop := 0 <= q /\ q < (many : Int)
structure Likes (many : Nat) (cols : List (Int -> Int)) (sg : Int -> Int) (R : Int -> Int -> Prop) : Prop where
 sgn : ∀ x y, R x y -> sg x = sg y
 led : ∀ x y, R x y -> ∀ c ∈ cols, R (c x) (c y)
structure Hop (many : Nat) (cols : List (Int -> Int)) (sg : Int -> Int) (R : Int -> Int -> Prop) (grp : Int -> Int) (W : Int -> Prop) : Prop where
 coarse : ∀ x y, ao many x -> ao many y -> R x y -> grp x = grp y
 signs : ∀ x y, ao many x -> ao many y -> grp x = grp y -> sg x = sg y
 cong : ∀ x y, ao many x -> ao many y -> grp x = grp y -> ∀ c ∈ cols, grp (c x) = grp (c y) \/ W (grp (c x)) \/ W (grp (c y))
structure HopS (many : Nat) (cols : List (Int -> Int)) (sg : Int -> Int) (R : Int -> Int -> Prop) (grp : Int -> Int) (W : Int -> Prop) (S : Int -> Prop) (k : Nat) : Prop where
 coarse : ∀ x y, ao many x -> ao many y -> R x y -> grp x = grp y
 signs : ∀ x y, ao many x -> ao many y -> grp x = grp y -> sg x = sg y
 whole : ∀ x y, ao many x -> ao many y -> R x y -> S x -> S y
 cong : ∀ x y, ao many x -> ao many y -> grp x = grp y -> ∀ (j : Nat) (c : Int -> Int), cols[j]? = some c ->
  grp (c x) = grp (c y) \/ W (grp (c x)) \/ W (grp (c y)) \/ (k <= j /\ ((S (c x) /\ ¬ S (c y)) \/ (S (c y) /\ ¬ S (c x))))
section
variable {many : Nat} {cols : List (Int -> Int)} {sg : Int -> Int} {R : Int -> Int -> Prop} {grp : Int -> Int} {W S : Int -> Prop} {k : Nat}
theorem Hop.pop (h : Hop many cols sg R grp W) (hc : ∀ x, ao many x -> ∀ c ∈ cols, ao many (c x)) (s : Int) : HopS many cols sg R grp (fun g => W g /\ g ≠ s) (fun q => grp q = s) 0 where
 coarse := h.coarse
 signs := h.signs
 whole := fun x y hx hy r e => (h.coarse x y hx hy r).symm.trans e
 cong := fun x y hx hy e j c hj => by
  have cm := mq_ hj
  rcases Classical.em (grp (c x) = grp (c y)) with q | q
  ·exact .inl q
  rcases Classical.em (grp (c x) = s) with a | a
  ·exact .inr (.inr (.inr ⟨Nat.zero_le _, .inl ⟨a, fun b => q (a.trans b.symm)⟩⟩))
  rcases Classical.em (grp (c y) = s) with b | b
  ·exact .inr (.inr (.inr ⟨Nat.zero_le _, .inr ⟨b, a⟩⟩))
  rcases h.cong x y hx hy e c cm with z | z | z
  ·exact .inl z
  ·exact .inr (.inl ⟨z, a⟩)
  ·exact .inr (.inr (.inl ⟨z, b⟩))
theorem HopS.done (h : HopS many cols sg R grp W S cols.length) : Hop many cols sg R grp W where
 coarse := h.coarse
 signs := h.signs
 cong := fun x y hx hy e c cm => by
  obtain ⟨j, hj⟩ := List.mem_iff_getElem?.mp cm
  rcases h.cong x y hx hy e j c hj with z | z | z | ⟨z, _⟩
  ·exact .inl z
  ·exact .inr (.inl z)
  ·exact .inr (.inr z)
  ·have := (gi_ hj).1
   omega
theorem HopS.split (h : HopS many cols sg R grp W S k) (sym : ∀ x y, R x y -> R y x) (hc : ∀ x, ao many x -> ∀ c ∈ cols, ao many (c x)) {L : Int -> Prop} {b n : Int} {W' : Int -> Prop}
  (hL : ∀ x y, ao many x -> ao many y -> R x y -> L x -> L y) (nn : ∀ x, ao many x -> grp x ≠ n)
  (w1 : ∀ g, W g -> W' g) (w2 : W b -> W' n) (w3 : W' n \/ W' b) {grp' : Int -> Int} (g1 : ∀ x, ao many x -> grp x = b -> L x -> grp' x = n) (g2 : ∀ x, ao many x -> ¬ (grp x = b /\ L x) -> grp' x = grp x) :
  HopS many cols sg R grp' W' S k := by
 have back : ∀ x y, ao many x -> ao many y -> grp' x = grp' y -> grp x = grp y /\ (grp x = b -> (L x ↔ L y)) := fun x y hx hy e => by
  rcases Classical.em (grp x = b /\ L x) with q | q
  ·rcases Classical.em (grp y = b /\ L y) with p | p
   ·exact ⟨q.1.trans p.1.symm, fun _ => ⟨fun _ => p.2, fun _ => q.2⟩⟩
   ·rw [g1 x hx q.1 q.2, g2 y hy p] at e
    exact absurd e.symm (nn y hy)
  ·rcases Classical.em (grp y = b /\ L y) with p | p
   ·rw [g2 x hx q, g1 y hy p.1 p.2] at e
    exact absurd e (nn x hx)
   ·rw [g2 x hx q, g2 y hy p] at e
    exact ⟨e, fun eb => ⟨fun lx => absurd ⟨eb, lx⟩ q, fun ly => absurd ⟨e.symm.trans eb, ly⟩ p⟩⟩
 have wait : ∀ x, ao many x -> W (grp x) -> W' (grp' x) := fun x hx w => by
  rcases Classical.em (grp x = b /\ L x) with q | q
  ·rw [g1 x hx q.1 q.2]
   exact w2 (q.1 ▸ w)
  ·rw [g2 x hx q]
   exact w1 _ w
 refine ⟨fun x y hx hy r => ?_, fun x y hx hy e => h.signs x y hx hy (back x y hx hy e).1, h.whole, fun x y hx hy e j c hj => ?_⟩
 ·have e := h.coarse x y hx hy r
  rcases Classical.em (grp x = b /\ L x) with q | q
  ·rw [g1 x hx q.1 q.2, g1 y hy (e.symm.trans q.1) (hL x y hx hy r q.2)]
  ·have p : ¬ (grp y = b /\ L y) := fun p => q ⟨e.trans p.1, hL y x hy hx (sym x y r) p.2⟩
   rw [g2 x hx q, g2 y hy p, e]
 ·have cm := mq_ hj
  have hcx := hc x hx c cm
  have hcy := hc y hy c cm
  rcases h.cong x y hx hy (back x y hx hy e).1 j c hj with z | z | z | z
  ·rcases Classical.em (grp (c x) = b /\ L (c x)) with q | q
   ·rcases Classical.em (grp (c y) = b /\ L (c y)) with p | p
    ·exact .inl (by rw [g1 _ hcx q.1 q.2, g1 _ hcy p.1 p.2])
    ·have ex := g1 _ hcx q.1 q.2
     have ey := g2 _ hcy p
     rcases w3 with a | a
     ·exact .inr (.inl (by rw [ex]; exact a))
     ·exact .inr (.inr (.inl (by rw [ey, <- z, q.1]; exact a)))
   ·rcases Classical.em (grp (c y) = b /\ L (c y)) with p | p
    ·have ex := g2 _ hcx q
     have ey := g1 _ hcy p.1 p.2
     rcases w3 with a | a
     ·exact .inr (.inr (.inl (by rw [ey]; exact a)))
     ·exact .inr (.inl (by rw [ex, z, p.1]; exact a))
    ·exact .inl (by rw [g2 _ hcx q, g2 _ hcy p, z])
  ·exact .inr (.inl (wait _ hcx z))
  ·exact .inr (.inr (.inl (wait _ hcy z)))
  ·exact .inr (.inr (.inr z))
theorem HopS.next (h : HopS many cols sg R grp W S k) {c : Int -> Int} (hk : cols[k]? = some c) (hn : ∀ x y, ao many x -> ao many y -> grp x = grp y -> S (c x) -> S (c y)) : HopS many cols sg R grp W S (k + 1) where
 coarse := h.coarse
 signs := h.signs
 whole := h.whole
 cong := fun x y hx hy e j c' hj => by
  rcases h.cong x y hx hy e j c' hj with z | z | z | ⟨kj, z⟩
  ·exact .inl z
  ·exact .inr (.inl z)
  ·exact .inr (.inr (.inl z))
  ·rcases Nat.lt_or_ge k j with l | l
   ·exact .inr (.inr (.inr ⟨l, z⟩))
   ·have ej : j = k := by omega
    subst ej
    rw [hk] at hj
    cases hj
    rcases z with ⟨a, b⟩ | ⟨a, b⟩
    ·exact absurd (hn x y hx hy e a) b
    ·exact absurd (hn y x hy hx e.symm a) b
theorem Hop.stable (h : Hop many cols sg R grp W) (hw : ∀ x, ao many x -> ¬ W (grp x)) (hc : ∀ x, ao many x -> ∀ c ∈ cols, ao many (c x)) : ∀ x y, ao many x -> ao many y -> grp x = grp y -> ∀ c ∈ cols, grp (c x) = grp (c y) := fun x y hx hy e c cm => by
 rcases h.cong x y hx hy e c cm with z | z | z
 ·exact z
 ·exact absurd z (hw _ (hc x hx c cm))
 ·exact absurd z (hw _ (hc y hy c cm))
theorem Hop.single (inj : ∀ x y, ao many x -> ao many y -> grp x = grp y -> x = y) : ∀ x y, ao many x -> ao many y -> grp x = grp y -> ∀ c ∈ cols, grp (c x) = grp (c y) := fun x y hx hy e c _ => by rw [inj x y hx hy e]
end
theorem Hop.start {many : Nat} {cols : List (Int -> Int)} {sg : Int -> Int} {R : Int -> Int -> Prop} (l : Likes many cols sg R) {grp : Int -> Int} {W : Int -> Prop} (hg : ∀ x y, ao many x -> ao many y -> (grp x = grp y ↔ sg x = sg y)) (hw : ∀ x, ao many x -> W (grp x)) (hc : ∀ x, ao many x -> ∀ c ∈ cols, ao many (c x)) : Hop many cols sg R grp W where
 coarse := fun x y hx hy r => (hg x y hx hy).mpr (l.sgn x y r)
 signs := fun x y hx hy e => (hg x y hx hy).mp e
 cong := fun x y hx hy _ c cm => .inr (.inl (hw _ (hc x hx c cm)))
theorem eP : ∀ {xs ys : LI}, xs.Nodup -> (∀ x ∈ xs, x ∈ ys) -> xs.length <= ys.length
 | [], _, _, _ => Nat.zero_le _
 | x :: xs, ys, nd, h => by
  have n := List.nodup_cons.mp nd
  have m := h x List.mem_cons_self
  have i := eP (xs := xs) (ys := ys.erase x) n.2 fun y hy => by
   have e : y ≠ x := fun z => n.1 (z ▸ hy)
   exact (List.mem_erase_of_ne e).mpr (h y (List.mem_cons_of_mem _ hy))
  rw [List.length_erase_of_mem m] at i
  have := List.length_pos_of_mem m
  rw [List.length_cons]
  omega
theorem vY {xs ys : LI} (nd : xs.Nodup) (h : ∀ x ∈ xs, x ∈ ys) (l : ys.length <= xs.length) : ∀ y ∈ ys, y ∈ xs := fun y hy => Classical.byContradiction fun z => by
 have := eP (xs := y :: xs) (ys := ys) (List.nodup_cons.mpr ⟨z, nd⟩) fun q hq => by
  rcases List.mem_cons.mp hq with r | r
  ·rw [r]; exact hy
  ·exact h q r
 rw [List.length_cons] at this
 omega
theorem vK {n : Int} : ∀ {done gs : LI} {x : Nat}, x < gs.length -> (∀ q ∈ done, 0 <= q) -> (setG gs done n).getD x 0 = if (x : Int) ∈ done then n else gs.getD x 0
 | [], gs, x, _, _ => by rw [if_neg (by simp)]; rfl
 | q :: r, gs, x, hx, h => by
  have ih := vK (gs := gs.set q.toNat n) (n := n) (done := r) (x := x) (by rw [List.length_set]; exact hx) fun p hp => h p (List.mem_cons_of_mem _ hp)
  show (setG (gs.set q.toNat n) r n).getD x 0 = _
  rw [ih]
  have q0 := h q List.mem_cons_self
  by_cases c : (x : Int) ∈ r
  ·rw [if_pos c, if_pos (List.mem_cons_of_mem _ c)]
  ·rw [if_neg c]
   by_cases d : (x : Int) = q
   ·rw [if_pos (by rw [d]; exact List.mem_cons_self)]
    have e : q.toNat = x := by omega
    rw [e, List.getD_eq_getElem?_getD, List.getElem?_set_self hx]
    rfl
   ·rw [if_neg (fun z => (List.mem_cons.mp z).elim d c)]
    have e : q.toNat ≠ x := by omega
    rw [List.getD_eq_getElem?_getD, List.getElem?_set_ne e, List.getD_eq_getElem?_getD]
def aR (gs : LI) (q : Int) : Int := gs.getD q.toNat 0
theorem vJ {gs ins : LI} {n q : Int} (h0 : 0 <= q) (h1 : q < (gs.length : Int)) (hi : ∀ p ∈ ins, 0 <= p) : aR (setG gs ins n) q = if q ∈ ins then n else aR gs q := by
 have h := vK (n := n) (done := ins) (gs := gs) (x := q.toNat) (by omega) hi
 rw [Int.toNat_of_nonneg h0] at h
 exact h
structure PtS (H : Hp) (C x go ms wt iw : Addr) (many : Nat) (gs : LI) (ds : List Addr) (ws : LI) : Prop where
 pt : PtAt H C x go ms wt iw
 go_ : H go = some (.lst (gs.map V.int))
 ms_ : H ms = some (.lst (ds.map V.ref))
 wt_ : H wt = some (.lst (ws.map V.int))
 iw_ : H iw = some (.dK (kvT ws))
 lg : gs.length = many
 val : ∀ q, ao many q -> 0 <= aR gs q /\ aR gs q < (ds.length : Int)
 mem : ∀ (i : Nat) (da : Addr), ds[i]? = some da -> ∃ mem : LI, H da = some (.dK (kvT mem)) /\ mem.Nodup /\ mem ≠ [] /\ ∀ q, q ∈ mem ↔ ao many q /\ aR gs q = (i : Int)
 dn : ds.Nodup
 ndi : iw ∉ ds
 n1 : go ≠ ms
 n2 : go ≠ wt
 n3 : ms ≠ wt
 wn : ws.Nodup
 wv : ∀ g ∈ ws, 0 <= g /\ g < (ds.length : Int)
section
variable {H H' : Hp} {C x go ms wt iw : Addr} {many : Nat} {gs ws : LI} {ds : List Addr}
theorem PtS.at_ (h : PtS H C x go ms wt iw many gs ds ws) {d : Addr} (hd : d ∈ ds) : ∃ mem : LI, H d = some (.dK (kvT mem)) := by
 obtain ⟨i, hi⟩ := List.mem_iff_getElem?.mp hd
 obtain ⟨mem, h1, _⟩ := h.mem i d hi
 exact ⟨mem, h1⟩
theorem PtS.same (h : PtS H C x go ms wt iw many gs ds ws) (s : Same H H') : PtS H' C x go ms wt iw many gs ds ws :=
 ⟨h.pt.same s, s _ _ h.go_, s _ _ h.ms_, s _ _ h.wt_, s _ _ h.iw_, h.lg, h.val, fun i da hi => by
  obtain ⟨mem, h1, h2⟩ := h.mem i da hi
  exact ⟨mem, s _ _ h1, h2⟩, h.dn, h.ndi, h.n1, h.n2, h.n3, h.wn, h.wv⟩
theorem PtS.few (h : PtS H C x go ms wt iw many gs ds ws) : ds.length <= many := by
 have t := eP (xs := (List.range ds.length).map fun i : Nat => (i : Int)) (ys := gs) (List.pairwise_map.mpr (List.nodup_range.imp fun {a b} n z => n (by
  have z' : (a : Int) = (b : Int) := z
  omega))) (fun g hg => by
  obtain ⟨i, hi, rfl⟩ := List.mem_map.mp hg
  have il := List.mem_range.mp hi
  obtain ⟨mem, _, _, ne, iff⟩ := h.mem i _ (List.getElem?_eq_getElem il)
  obtain ⟨q, r, rfl⟩ := List.exists_cons_of_ne_nil ne
  obtain ⟨⟨q0, q1⟩, e⟩ := (iff q).mp List.mem_cons_self
  have l : q.toNat < gs.length := by rw [h.lg]; omega
  unfold aR at e
  rw [getD_at l] at e
  rw [<- e]
  exact List.getElem_mem l)
 rw [lm_, List.length_range, h.lg] at t
 exact t
theorem PtS.wfew (h : PtS H C x go ms wt iw many gs ds ws) : ws.length <= ds.length := aX ds.length h.wn h.wv
theorem PtS.split {da E : Addr} {mem ins : LI} {g nw : Int} (h : PtS H C x go ms wt iw many gs ds ws) (g0 : 0 <= g) (hda0 : ds[g.toNat]? = some da) (hda : H da = some (.dK (kvT mem))) (hm : ∀ q, q ∈ mem ↔ ao many q /\ aR gs q = g) (nm : mem.Nodup)
  (ndi : ins.Nodup) (hin : ∀ q ∈ ins, q ∈ mem) (hne : ins ≠ []) (lt : ins.length < mem.length) (fE : H E = none) (hE : H' E = some (.dK (kvT ins))) (hms : H' ms = some (.lst ((ds ++ [E]).map V.ref))) (hd' : H' da = some (.dK (kvT (outF mem ins))))
  (hgo : H' go = some (.lst ((setG gs ins (ds.length : Int)).map V.int))) (hwt : H' wt = some (.lst ((ws ++ [nw]).map V.int))) (hiw : H' iw = some (.dK (kvT (if nw ∈ ws then ws else ws ++ [nw])))) (hnw : nw ∉ ws) (nwv : nw = (ds.length : Int) \/ nw = g)
  (kp : ∀ c u, c ≠ go -> c ≠ ms -> c ≠ da -> c ≠ wt -> c ≠ iw -> H c = some u -> H' c = some u) : PtS H' C x go ms wt iw many (setG gs ins (ds.length : Int)) (ds ++ [E]) (ws ++ [nw]) := by
 have gl : g.toNat < ds.length := (gi_ hda0).1
 have ip : ∀ p ∈ ins, 0 <= p := fun p hp => ((hm p).mp (hin p hp)).1.1
 have gr : ∀ q, ao many q -> aR (setG gs ins (ds.length : Int)) q = if q ∈ ins then (ds.length : Int) else aR gs q := fun q hq => vJ hq.1 (by rw [h.lg]; exact hq.2) ip
 have eE : E ∉ ds := fun z => by
  obtain ⟨m, hm⟩ := h.at_ z
  rw [fE] at hm
  cases hm
 obtain ⟨dx, hx⟩ := h.pt.ob
 refine ⟨⟨dx, kp _ _ (aB hx h.go_ (by intro z; cases z)) (aB hx h.ms_ (by intro z; cases z)) (aB hx hda (by intro z; cases z)) (aB hx h.wt_ (by intro z; cases z)) (aB hx h.iw_ (by intro z; cases z)) hx⟩, hgo, hms, hwt, by rw [if_neg hnw] at hiw; exact hiw, by rw [vF]; exact h.lg, fun q hq => ?_, fun i d hi => ?_, ?_, ?_, h.n1, h.n2, h.n3, lO h.wn hnw, fun p hp => ?_⟩
 ·rw [gr q hq, List.length_append, List.length_singleton]
  have v := h.val q hq
  split <;> omega
 ·rcases snoc_cases hi with hi | ⟨rfl, rfl⟩
  ·have il := (gi_ hi).1
   by_cases c : d = da
   ·subst c
    have ei : i = g.toNat := by
     have e1 := (gi_ hi).2
     have e2 := (gi_ hda0).2
     exact (List.getElem_inj h.dn).mp (e1.trans e2.symm)
    refine ⟨outF mem ins, hd', nm.filter _, fun z => ?_, fun q => ?_⟩
    ·have all : ∀ q ∈ mem, q ∈ ins := fun q hq => Classical.byContradiction fun n => by
      have : q ∈ outF mem ins := List.mem_filter.mpr ⟨hq, decide_eq_true n⟩
      rw [z] at this
      cases this
     have := eP nm all
     omega
    ·unfold outF
     rw [List.mem_filter, hm, ei, Int.toNat_of_nonneg g0]
     constructor
     ·rintro ⟨⟨h1, h2⟩, h3⟩
      exact ⟨h1, by rw [gr q h1, if_neg (of_decide_eq_true h3)]; exact h2⟩
     ·rintro ⟨h1, h2⟩
      rw [gr q h1] at h2
      by_cases n : q ∈ ins
      ·rw [if_pos n] at h2
       omega
      ·rw [if_neg n] at h2
       exact ⟨⟨h1, h2⟩, decide_eq_true n⟩
   ·obtain ⟨m2, h1, h2, h3, h4⟩ := h.mem i d hi
    refine ⟨m2, kp _ _ (aB h1 h.go_ (by intro z; cases z)) (aB h1 h.ms_ (by intro z; cases z)) c (aB h1 h.wt_ (by intro z; cases z)) (fun z => h.ndi (z ▸ mq_ hi)) h1, h2, h3, fun q => ?_⟩
    have ni : (i : Int) ≠ g := fun z => by
     have e : i = g.toNat := by omega
     rw [e, hda0] at hi
     exact c (Option.some.inj hi).symm
    rw [h4]
    refine and_congr_right fun hq => ?_
    rw [gr q hq]
    by_cases n : q ∈ ins
    ·have e := ((hm q).mp (hin q n)).2
     rw [if_pos n, e]
     constructor <;> intro z <;> omega
    ·rw [if_neg n]
  ·refine ⟨ins, hE, ndi, hne, fun q => ?_⟩
   constructor
   ·intro hq
    have r := ((hm q).mp (hin q hq)).1
    exact ⟨r, by rw [gr q r, if_pos hq]⟩
   ·rintro ⟨hq, e⟩
    rw [gr q hq] at e
    by_cases n : q ∈ ins
    ·exact n
    ·rw [if_neg n] at e
     have := h.val q hq
     omega
 ·refine List.nodup_append.mpr ⟨h.dn, List.nodup_cons.mpr ⟨by simp, List.nodup_nil⟩, fun a ha b hb => ?_⟩
  rw [List.mem_singleton.mp hb]
  exact fun z => eE (z ▸ ha)
 ·intro z
  rcases ma_.mp z with z | z
  ·exact h.ndi z
  ·have e := List.mem_singleton.mp z
   rw [<- e, h.iw_] at fE
   cases fE
 ·rw [List.length_append, List.length_singleton]
  rcases ma_.mp hp with z | z
  ·have := h.wv p z
   omega
  ·rw [List.mem_singleton.mp z]
   rcases nwv with e | e <;> omega
end
def Bb (many : Nat) (L gs : LI) (n : Nat) (ws gs' ws' : LI) : Prop := ∃ b nw : Int, ws' = ws ++ [nw] /\ (nw = (n : Int) \/ nw = b) /\ (b ∈ ws -> nw = (n : Int)) /\ (∀ q, ao many q -> aR gs q = b -> q ∈ L -> aR gs' q = (n : Int)) /\ (∀ q, ao many q -> ¬ (aR gs q = b /\ q ∈ L) -> aR gs' q = aR gs q)
def pL (C : Addr) : Sp := fun vs H Q _ => ∃ (x go ms wt iw ll : Addr) (many : Nat) (gs ws L : LI) (ds : List Addr) (J : LI -> Nat -> LI -> Prop), vs = [.ref x, .ref ll] /\ PtS H C x go ms wt iw many gs ds ws /\ many < 1000 /\ H ll = some (.lst (L.map V.int)) /\ (ll ≠ go /\ ll ≠ ms /\ ll ≠ wt) /\ L.Nodup /\ (∀ q ∈ L, ao many q) /\ J gs ds.length ws /\
 (∀ gs n ws gs' ws', J gs n ws -> (∀ q, ao many q -> 0 <= aR gs q /\ aR gs q < (n : Int)) -> Bb many L gs n ws gs' ws' -> J gs' (n + 1) ws') /\
 ∀ (H' : Hp) (gs' ws' : LI) (more : List Addr), PtS H' C x go ms wt iw many gs' (ds ++ more) ws' -> J gs' (ds ++ more).length ws' -> (∀ a b, ao many a -> ao many b -> aR gs' a = aR gs' b -> a ∈ L -> b ∈ L) -> (∀ d ∈ more, H d = none) -> (∀ c u, c ≠ go -> c ≠ ms -> c ≠ wt -> c ≠ iw -> c ∉ ds -> H c = some u -> H' c = some u) -> Q .non H'
section
variable {P : Program} {w : World} {K : PySem.W.Frag} {mg : Str -> Option Value} {base : Heap} {f : Addr} {fd : FuncData} {dV : Value} {C : Addr}
theorem sc_Parted_part_by : FnScope ["self", "leading", "touched", "here", "group", "inside"] ["self", "leading"] (ak bW) := ⟨rfl, rfl, rfl, by decide +kernel, rfl, by decide +kernel, by decide +kernel⟩
theorem y3 (F : FunD K "part_by" "Parted.part_by" bW dV f fd) (pc : PCls K C) (i9 : DefMe P w K mg base C "split_off" 2 ["self", "group", "inside"] (tF K C)) (aM : mg "len" = none) : FnOk P w K mg base CX0 3 f fd ["self", "leading"] (pL C) := by
 refine F.ok sc_Parted_part_by (fun vs H Q E h => ?_) (fun cdv A outer s H vs Q E hr h => ?_)
 ·obtain ⟨x, go, ms, wt, iw, ll, many, gs, ws, L, ds, J, rfl, _⟩ := h
  rfl
 obtain ⟨x, go, ms, wt, iw, ll, many, gs, ws, L, ds, J, rfl, S, n1000, hll, ⟨l1, l2, l3⟩, ndL, hL, j0, jst, k⟩ := h
 have hu := gB hr
 obtain ⟨dx, hx⟩ := S.pt.ob
 have fewL : L.length <= many := aX many ndL hL
 have fewD := S.few
 refine ⟨_, (aj (az (i := 2) sc_Parted_part_by.nd rfl (Or.inl rfl) jC)
   (aj (cf PassesOwn.never rfl (bO (pv 1)) (ax (i := 3) sc_Parted_part_by.nd rfl (Or.inl rfl)) (av (bD (fA PySem.F.plainAttrs_list PySem.F.slot_list_append PySem.F.type_list_append bF (uh (pv 2) (aO b9 (bC (pv 0) rfl) (pv 3) (fun _ _ => rfl)) (cW af) ⟨rfl, rfl, rfl, rfl⟩) (aa (pv 3) af)))))
   (av (cf PassesOwn.never rfl (Aa (z6 PySem.F.plainAttrs_dict PySem.F.slot_dict_items PySem.F.type_dict_items Ah (pv 2))) (ic rfl (bt (ax (i := 4) sc_Parted_part_by.nd rfl (Or.inl rfl)) (bt (ax (i := 5) sc_Parted_part_by.nd rfl (Or.inl rfl)) fQ))) (av (dr (cu AL (aC aA (by rfl) aM bB (aa (pv 5) af)) (aC jS (by rfl) aM bB (aa (aO b9 (bC (pv 0) rfl) (pv 4) (fun _ _ => rfl)) af)) (bQ _)) (av (bD (vM i9 hr (pv 0) (aa (pv 4) (aa (pv 5) af))))) bP)))))), ?_⟩
 refine fun B hB => ?_
 have s0 := ah hB (HO.dK [])
 try dsimp only [bR, dZ]
 refine dN (t := oQ _ _ _) (fun σ' H' => ∃ (es : List (Int × Addr)) (v : OV), σ' = [some (.ref x), some (.ref ll), some (.ref B), v, none, none] /\ Same H H' /\ BackOk H H' B es (fun q ls => ls = L.filter fun h => decide (aR gs h = q)) /\ ∀ e ∈ es, ∃ h ∈ L, aR gs h = e.1) ?_ (fun D' nxt => ?_)
 rotate_left
 ·have b0 : BackOk H (upd H B (.dK [])) B [] (fun q ls => ls = (L.take 0).filter fun h => decide (aR gs h = q)) := ⟨ab, List.Pairwise.nil, List.Pairwise.nil, (fun e h => by cases h), (fun e h => by cases h), fun q _ => rfl⟩
  refine ⟨_, rfl, ll, rfl, ⟨_, qL_ (s0 _ _ hll)⟩, ?_⟩
  refine cL (K := K) (xs := L.map V.int) (fun i σ' H' => ∃ (es : List (Int × Addr)) (v : OV), σ' = [some (.ref x), some (.ref ll), some (.ref B), v, none, none] /\ Same H H' /\ BackOk H H' B es (fun q ls => ls = (L.take i).filter fun h => decide (aR gs h = q)) /\ ∀ e ∈ es, ∃ h ∈ L, aR gs h = e.1) ⟨[], none, rfl, s0, b0, fun e h => by cases h⟩ (fun i σ' H' _ ⟨_, _, _, e, _⟩ => qL_ (e _ _ hll)) ?_ ?_
  ·rintro i y σ' H2 hi ⟨es, v, rfl, s2, b2, kr⟩
   obtain ⟨h, rfl, hh⟩ := aY hi
   have hm := mq_ hh
   have il := (gi_ hh).1
   have hin := hL h hm
   have gv := S.val h hin
   have at' : atI (gs.map V.int) h = some (.int (aR gs h)) := cx hin.1 (by rw [S.lg]; exact hin.2)
   refine ⟨_, rfl, B, rfl, .inl ⟨_, .inl b2.at_⟩, _, rfl, x, C, dx, _, _, rfl, s2 _ _ hx, pc.cl, pc.ng, rfl, _, rfl, go, _, _, _, rfl, rfl, qL_ (s2 _ _ S.go_), at', (by show 0 <= sizeLine; decide), fun La hLa => ?_⟩
   have sL := ah hLa (HO.lst [])
   have b3 := b2.same sL
   have nL : ∀ e ∈ es, e.2 ≠ La := fun e he z => by
    obtain ⟨ls, h1, _⟩ := b2.lst e he
    rw [z, hLa] at h1
    cases h1
   have nLB : B ≠ La := aq b2.at_ hLa
   have fL : H La = none := s2.free hLa
   have few := aX ds.length b3.nd (fun q hq => by
    obtain ⟨e, he, rfl⟩ := List.mem_map.mp hq
    obtain ⟨p, hp, ep⟩ := kr e he
    rw [<- ep]
    exact S.val p (hL p hp))
   rw [lm_] at few
   have len : (kvL es).length < sizeLine := aw (by unfold kvL; rw [lm_]; omega)
   have et : L.take (i + 1) = L.take i ++ [h] := by rw [List.take_add_one, hh]; rfl
   have oth : ∀ (p : Int) (ls : LI), p ≠ aR gs h -> (ls = (L.take i).filter fun h => decide (aR gs h = p)) -> ls = (L.take (i + 1)).filter fun h => decide (aR gs h = p) := fun p ls np z => by
    rw [et, List.filter_append, List.filter_cons_of_neg (by rw [decide_eq_false (Ne.symm np)]; decide), List.filter_nil, List.append_nil]
    exact z
   have grow : ∀ ls : LI, (ls = (L.take i).filter fun q => decide (aR gs q = aR gs h)) -> ls ++ [h] = (L.take (i + 1)).filter fun q => decide (aR gs q = aR gs h) := fun ls z => by
    have e1 : [h].filter (fun q => decide (aR gs q = aR gs h)) = [h] := by simp
    rw [et, List.filter_append, e1, z]
   refine ⟨_, Sum.inl (aR gs h), b3.at_, rfl, len, fun v hv => ?_, fun hn => ?_⟩
   ·obtain ⟨la, ls, rfl, hme, hla, hp⟩ := b3.get hv
    have pl : ls.length <= i := by
     rw [hp]
     exact Nat.le_trans (List.length_filter_le _ _) (by rw [List.length_take]; omega)
    have lz : (ls.map V.int).length < sizeLine := aw (by rw [lm_]; omega)
    refine ⟨.inl ⟨rfl, _, qL_ hla⟩, _, rfl, la, _, _, rfl, rfl, hla, lz, ?_⟩
    exact ⟨es, _, rfl, au (s2.trans sL) (b2.fresh _ hme), b3.old hme hla (grow ls hp) oth, kr⟩
   ·have hq : aR gs h ∉ es.map Prod.fst := fun z => by
     obtain ⟨e, he, ee⟩ := List.mem_map.mp z
     obtain ⟨jj, hjj⟩ := List.mem_iff_getElem?.mp he
     have := jr b3.nd (q := e.1) (a := e.2) hjj
     rw [ee, hn] at this
     cases this
    have hL3 : (upd (upd H2 La (HO.lst [])) B (HO.dK (putK (kvL es) (Sum.inl (aR gs h)) (V.ref La)))) La = some (.lst []) := by rw [ae (Ne.symm nLB), ab]
    refine ⟨.inl ⟨rfl, _, qL_ hL3⟩, _, rfl, La, _, _, rfl, rfl, hL3, (by show 0 < sizeLine; decide), ?_⟩
    refine ⟨es ++ [(aR gs h, La)], _, rfl, au (au (s2.trans sL) hB) fL, b3.new hq ab fL nL (grow [] (b3.non _ hq)) oth, fun e he => ?_⟩
    rcases ma_.mp he with z | z
    ·exact kr e z
    ·rw [List.mem_singleton.mp z]
     exact ⟨h, hm, rfl⟩
  ·rintro σ' H1 ⟨es, v, rfl, s1, b1, kr⟩
   rw [lm_, List.take_length] at b1
   exact nxt _ _ ⟨es, v, rfl, s1, b1, kr⟩
 rintro σ' H1 ⟨es, v, rfl, s1, b1, kr⟩
 refine ⟨_, rfl, .inr (.inr (.inl ⟨rfl, .inl ⟨_, b1.at_⟩⟩)), B, _, rfl, rfl, b1.at_, fun vw hvw => ?_⟩
 have nBv : B ≠ vw := aq b1.at_ hvw
 refine ⟨vw, B, kvL es, rfl, ab, by rw [ae nBv]; exact b1.at_, fun o => ?_⟩
 have fvw : H vw = none := s1.free hvw
 obtain ⟨H2, eH2⟩ : ∃ H2, upd (upd H1 vw (l9 vw B)) B (.frz o (.dK (kvL es))) = H2 := ⟨_, rfl⟩
 have s2 : Same H H2 := by rw [<- eH2]; exact au (au s1 fvw) hB
 have hB2 : H2 B = some (.frz o (.dK (kvL es))) := by rw [<- eH2, ab]
 have ls2 : ∀ e ∈ es, H2 e.2 = some (.lst ((L.filter fun h => decide (aR gs h = e.1)).map V.int)) := fun e he => by
  obtain ⟨ls, h1, h2⟩ := b1.lst e he
  rw [<- eH2, ae (aB h1 b1.at_ (by intro z; cases z)), ae (aq h1 hvw), h1, h2]
 rw [eH2]
 have ndk := b1.nd
 have lk : (kvL es).length = es.length := by unfold kvL; rw [lm_]
 refine yZ (o := o) (kvs := kvL es) (fun i σ' H' => ∃ (gs' ws' : LI) (more : List Addr) (v1 v2 v3 : OV), σ' = [some (.ref x), some (.ref ll), some (.ref B), v1, v2, v3] /\ PtS H' C x go ms wt iw many gs' (ds ++ more) ws' /\ J gs' (ds ++ more).length ws' /\ (∀ d ∈ more, H d = none) /\ H' B = some (.frz o (.dK (kvL es))) /\
   (∀ e ∈ es, H' e.2 = some (.lst ((L.filter fun h => decide (aR gs h = e.1)).map V.int))) /\ (∀ c u, c ≠ go -> c ≠ ms -> c ≠ wt -> c ≠ iw -> c ∉ ds -> H c = some u -> H' c = some u) /\ (∀ q, ao many q -> aR gs q ∉ (es.take i).map Prod.fst -> aR gs' q = aR gs q) /\
   (∀ a b, ao many a -> ao many b -> aR gs' a = aR gs' b -> aR gs a = aR gs b /\ (aR gs a ∈ (es.take i).map Prod.fst -> (a ∈ L ↔ b ∈ L))))
  ⟨gs, ws, [], v, none, none, rfl, by rw [List.append_nil]; exact S.same s2, by rw [List.append_nil]; exact j0, (fun d hd => by cases hd), hB2, ls2, (fun c u _ _ _ _ _ e => s2 _ _ e), (fun _ _ _ => rfl), fun a b _ _ e => ⟨e, fun z => by rw [List.take_zero] at z; cases z⟩⟩
  (fun i σ' H' _ ⟨_, _, _, _, _, _, _, _, _, _, e, _⟩ => e) ?_ ?_
 ·rintro i p σ' H3 T hi ⟨gs', ws', more, v1, v2, v3, rfl, S3, j3, fm, hB3, ls3, kp3, ga, gb⟩ hT
  obtain ⟨e, he, rfl⟩ : ∃ e, es[i]? = some e /\ p = (Sum.inl e.1, V.ref e.2) := by
   unfold kvL at hi
   rw [List.getElem?_map] at hi
   obtain ⟨e, h1, h2⟩ := Option.map_eq_some_iff.mp hi
   exact ⟨e, h1, h2.symm⟩
  obtain ⟨b, il⟩ := e
  have hme := mq_ he
  have ilt : i < es.length := (gi_ he).1
  have sT := ah hT (HO.tup [V.int b, V.ref il])
  refine ⟨T, _, rfl, qT_ ab, rfl, _, _, rfl, _, _, rfl, rfl, ?_⟩
  obtain ⟨H4, eH4⟩ : ∃ H4, upd H3 T (HO.tup [V.int b, V.ref il]) = H4 := ⟨_, rfl⟩
  have sT' : Same H3 H4 := by rw [<- eH4]; exact sT
  have eH4' : upd H3 T (HO.tup [kV (Sum.inl b), V.ref il]) = H4 := eH4
  try rw [eH4]
  try rw [eH4']
  have S4 := S3.same sT'
  obtain ⟨dx4, hx4⟩ := S4.pt.ob
  obtain ⟨h0, h0m, e0⟩ := kr _ hme
  have bv := S.val h0 (hL h0 h0m)
  rw [e0] at bv
  have bl : b.toNat < ds.length := by omega
  have hda0 : (ds ++ more)[b.toNat]? = some ds[b.toNat] := by rw [List.getElem?_append_left bl, List.getElem?_eq_getElem bl]
  obtain ⟨da, eda⟩ : ∃ da, ds[b.toNat] = da := ⟨_, rfl⟩
  rw [eda] at hda0
  obtain ⟨mem, hda, ndm, nem, hm⟩ := S4.mem b.toNat da hda0
  rw [Int.toNat_of_nonneg bv.1] at hm
  have at' : atI ((ds ++ more).map V.ref) b = some (.ref da) := gh bv.1 hda0
  have hil4 := sT' _ _ (ls3 _ hme)
  obtain ⟨ins, eins⟩ : ∃ ins, (L.filter fun h => decide (aR gs h = b)) = ins := ⟨_, rfl⟩
  have hil : H4 il = some (.lst (ins.map V.int)) := by rw [<- eins]; exact hil4
  have insm : ∀ q, q ∈ ins ↔ q ∈ L /\ aR gs q = b := fun q => by
   rw [<- eins, List.mem_filter]
   exact and_congr_right fun _ => ⟨of_decide_eq_true, decide_eq_true⟩
  have notyet : b ∉ (es.take i).map Prod.fst := fun z => by
   obtain ⟨e, h1, h2⟩ := List.mem_map.mp z
   obtain ⟨j, hj, ej⟩ := List.getElem_of_mem h1
   rw [List.length_take] at hj
   rw [List.getElem_take] at ej
   have e2 := (gi_ he).2
   have : (es.map Prod.fst)[j]'(by rw [lm_]; omega) = (es.map Prod.fst)[i]'(by rw [lm_]; omega) := by
    rw [List.getElem_map, List.getElem_map, ej, e2]
    exact h2
   have := (List.getElem_inj ndk).mp this
   omega
  have insub : ∀ q ∈ ins, q ∈ mem := fun q hq => by
   have h1 := (insm q).mp hq
   refine (hm q).mpr ⟨hL q h1.1, ?_⟩
   rw [ga q (hL q h1.1) (by rw [h1.2]; exact notyet), h1.2]
  have ndins : ins.Nodup := by rw [<- eins]; exact ndL.filter _
  have neins : ins ≠ [] := fun z => by
   have := (insm h0).mpr ⟨h0m, e0⟩
   rw [z] at this
   cases this
  have etk : (es.take (i + 1)).map Prod.fst = (es.take i).map Prod.fst ++ [b] := by rw [List.take_add_one, he, List.map_append]; rfl
  have lkm : (kvT mem).length = mem.length := by unfold kvT; rw [lm_]
  have ngo := S4.go_
  have nms := S4.ms_
  have nwt := S4.wt_
  have fil : H il = none := b1.fresh _ hme
  have g1 : go ≠ il := fun z => by rw [<- z, S.go_] at fil; cases fil
  have g2 : ms ≠ il := fun z => by rw [<- z, S.ms_] at fil; cases fil
  have g3 : wt ≠ il := fun z => by rw [<- z, S.wt_] at fil; cases fil
  have fewN := S4.few
  have fewW := S4.wfew
  have fewM : mem.length <= many := aX many ndm fun q hq => ((hm q).mp hq).1
  have fewI : ins.length <= mem.length := eP ndins insub
  refine ⟨_, rfl, il, _, rfl, .inl (qL_ hil), _, rfl, x, C, dx4, _, _, rfl, hx4, pc.cl, pc.nm, rfl, _, rfl, ms, _, _, _, rfl, rfl, qL_ nms, at', da, _, rfl, hda, _, _, rfl, rfl, _, rfl, qV (fun c => ?_) (fun c => ?_)⟩
  ·rw [lm_, lkm] at c
   have lt : ins.length < mem.length := by omega
   have dsn : (ds ++ more).length < 1000 := by omega
   refine ⟨_, rfl, x, dx4, _, rfl, hx4, rfl, _, rfl, _, rfl, x, go, ms, wt, iw, da, il, b, gs', ws', ws', mem, ins, ds ++ more, rfl, ⟨dx4, hx4⟩, ngo, nms, nwt, S4.iw_, S4.wn, ⟨by omega, by omega, dsn, by omega⟩, bv.1, hda0, hda, hil, ndins, fun q hq => ?_, ⟨S4.n1, S4.n2, g1, S4.n3, g2, g3, fun z => S4.ndi (z ▸ mq_ hda0)⟩, fun E nw H5 fE hE hms5 hda5 hgo5 hwt5 hiw5 hy hn kp5 => ?_⟩
   ·have h1 := (hm q).mp (insub q hq)
    exact ⟨insub q hq, h1.1.1, by rw [S4.lg]; exact h1.1.2⟩
   ·have nwv : nw = ((ds ++ more).length : Int) \/ nw = b := by
     by_cases z : b ∈ ws' \/ ins.length <= (outF mem ins).length
     ·exact .inl (hy z)
     ·exact .inr (hn z)
    have nww : nw ∉ ws' := fun z => by
     by_cases y : b ∈ ws' \/ ins.length <= (outF mem ins).length
     ·have := S4.wv nw z
      rw [hy y] at this
      omega
     ·rw [hn y] at z
      exact y (.inl z)
    have S5 := S4.split bv.1 hda0 hda hm ndm ndins insub neins lt fE hE hms5 hda5 hgo5 hwt5 hiw5 nww nwv kp5
    have ip : ∀ p ∈ ins, 0 <= p := fun p hp => ((hm p).mp (insub p hp)).1.1
    have gr : ∀ q, ao many q -> aR (setG gs' ins ((ds ++ more).length : Int)) q = if q ∈ ins then ((ds ++ more).length : Int) else aR gs' q := fun q hq => vJ hq.1 (by rw [S4.lg]; exact hq.2) ip
    have gh0 : aR gs' h0 = b := by rw [ga h0 (hL h0 h0m) (by rw [e0]; exact notyet), e0]
    have inb : ∀ q, ao many q -> (q ∈ ins ↔ aR gs' q = b /\ q ∈ L) := fun q hq =>
     ⟨fun z => ⟨((hm q).mp (insub q z)).2, ((insm q).mp z).1⟩, fun z => (insm q).mpr ⟨z.2, by
      rw [(gb q h0 hq (hL h0 h0m) (z.1.trans gh0.symm)).1]
      exact e0⟩⟩
    have fE0 : H E = none := by
     cases e : H E with
     | none => rfl
     | some u =>
      have := sT' _ _ (kp3 E u (fun z => by rw [z, ngo] at fE; cases fE) (fun z => by rw [z, nms] at fE; cases fE) (fun z => by rw [z, nwt] at fE; cases fE) (fun z => by rw [z, S4.iw_] at fE; cases fE) (fun z => by
       obtain ⟨m, hm⟩ := S4.at_ (List.mem_append_left _ z)
       rw [fE] at hm
       cases hm) e)
      rw [fE] at this
      cases this
    have hB4 := sT' _ _ hB3
    have dam : da ∈ ds := eda ▸ List.getElem_mem bl
    refine ⟨setG gs' ins ((ds ++ more).length : Int), ws' ++ [nw], more ++ [E], _, _, _, rfl, by rw [<- List.append_assoc]; exact S5, ?_, fun d hd => ?_, kp5 _ _ (aB hB4 ngo (by intro z; cases z)) (aB hB4 nms (by intro z; cases z)) (aB hB4 hda (by intro z; cases z)) (aB hB4 nwt (by intro z; cases z)) (aB hB4 S4.iw_ (by intro z; cases z)) hB4, fun e he => ?_, fun c u c1 c2 c3 c4 c5 e => kp5 c u c1 c2 (fun z => c5 (z ▸ dam)) c3 c4 (sT' _ _ (kp3 c u c1 c2 c3 c4 c5 e)), fun q hq nq => ?_, fun a c ha hc e => ?_⟩
    ·have el : (ds ++ (more ++ [E])).length = (ds ++ more).length + 1 := by simp only [List.length_append, List.length_singleton]; omega
     rw [el]
     exact jst gs' _ ws' _ _ j3 S4.val ⟨b, nw, rfl, nwv, fun z => hy (.inl z), fun q hq e hl => by rw [gr q hq, if_pos ((inb q hq).mpr ⟨e, hl⟩)], fun q hq n => by rw [gr q hq, if_neg fun z => n ((inb q hq).mp z)]⟩
    ·rcases ma_.mp hd with z | z
     ·exact fm d z
     ·rw [List.mem_singleton.mp z]; exact fE0
    ·have fe := b1.fresh e he
     have he4 := sT' _ _ (ls3 e he)
     exact kp5 _ _ (fun z => by rw [z, S.go_] at fe; cases fe) (fun z => by rw [z, S.ms_] at fe; cases fe) (aB he4 hda (by intro z; cases z)) (fun z => by rw [z, S.wt_] at fe; cases fe) (aB he4 S4.iw_ (by intro z; cases z)) he4
    ·rw [etk] at nq
     rw [gr q hq, if_neg fun z => nq (List.mem_append_right _ (by rw [((insm q).mp z).2]; exact List.mem_cons_self))]
     exact ga q hq fun z => nq (List.mem_append_left _ z)
    ·rw [gr a ha, gr c hc] at e
     by_cases ai : a ∈ ins
     ·by_cases ci : c ∈ ins
      ·have h1 := (insm a).mp ai
       have h2 := (insm c).mp ci
       exact ⟨h1.2.trans h2.2.symm, fun _ => ⟨fun _ => h2.1, fun _ => h1.1⟩⟩
      ·rw [if_pos ai, if_neg ci] at e
       have := S4.val c hc
       omega
     ·by_cases ci : c ∈ ins
      ·rw [if_neg ai, if_pos ci] at e
       have := S4.val a ha
       omega
      ·rw [if_neg ai, if_neg ci] at e
       have g := gb a c ha hc e
       refine ⟨g.1, fun z => ?_⟩
       rw [etk] at z
       rcases ma_.mp z with z | z
       ·exact g.2 z
       ·have za := List.mem_singleton.mp z
        exact ⟨fun h => absurd ((insm a).mpr ⟨h, za⟩) ai, fun h => absurd ((insm c).mpr ⟨h, g.1.symm.trans za⟩) ci⟩
  ·rw [lm_, lkm] at c
   have all := vY ndins insub (by omega)
   refine ⟨gs', ws', more, _, _, _, rfl, S4, j3, fm, sT' _ _ hB3, (fun e he => sT' _ _ (ls3 e he)), (fun c u c1 c2 c3 c4 c5 e => sT' _ _ (kp3 c u c1 c2 c3 c4 c5 e)), fun q hq nq => ?_, fun a c ha hc e => ?_⟩
   ·rw [etk] at nq
    exact ga q hq fun z => nq (List.mem_append_left _ z)
   ·have g := gb a c ha hc e
    refine ⟨g.1, fun z => ?_⟩
    rw [etk] at z
    rcases ma_.mp z with z | z
    ·exact g.2 z
    ·have za := List.mem_singleton.mp z
     have inL : ∀ q, ao many q -> aR gs q = b -> q ∈ L := fun q hq eq => ((insm q).mp (all q ((hm q).mpr ⟨hq, by rw [ga q hq (by rw [eq]; exact notyet), eq]⟩))).1
     exact ⟨fun _ => inL c hc (g.1.symm.trans za), fun _ => inL a ha za⟩
 ·rintro σ' H' ⟨gs', ws', more, v1, v2, v3, rfl, S3, j3, fm, hB3, ls3, kp3, ga, gb⟩
  rw [lk, List.take_length] at gb
  refine k H' gs' ws' more S3 j3 (fun a b ha hb e hm => ?_) fm kp3
  have g := gb a b ha hb e
  refine (g.2 (Classical.byContradiction fun z => ?_)).mp hm
  have := b1.non _ z
  have h2 : a ∈ L.filter fun h => decide (aR gs h = aR gs a) := List.mem_filter.mpr ⟨hm, decide_eq_true rfl⟩
  rw [<- this] at h2
  cases h2
end
def Reach (wide : Nat) (rows : LL) (q : Int) : Prop := ∃ row : LI, (∀ f ∈ row, 0 <= f /\ f < (wide : Int)) /\ aZ rows row 0 = q
theorem Reach.zero {wide : Nat} {rows : LL} : Reach wide rows 0 := ⟨[], (fun f h => by cases h), rfl⟩
theorem Reach.step {wide : Nat} {rows : LL} {q f : Int} (h : Reach wide rows q) (f0 : 0 <= f) (f1 : f < (wide : Int)) : Reach wide rows (stepI rows q f) := by
 obtain ⟨row, hr, rfl⟩ := h
 refine ⟨row ++ [f], fun g hg => ?_, by rw [fM]; rfl⟩
 rcases ma_.mp hg with z | z
 ·exact hr g z
 ·rw [List.mem_singleton.mp z]; exact ⟨f0, f1⟩
theorem Reach.of {wide : Nat} {rows : LL} {S : Int -> Prop} (h0 : S 0) (hs : ∀ q, S q -> ∀ f, 0 <= f -> f < (wide : Int) -> S (stepI rows q f)) {q : Int} (h : Reach wide rows q) : S q := by
 obtain ⟨row, hr, rfl⟩ := h
 have go : ∀ (row : LI) (p : Int), (∀ f ∈ row, 0 <= f /\ f < (wide : Int)) -> S p -> S (aZ rows row p) := by
  intro row
  induction row with
  | nil => intro p _ hp; exact hp
  | cons f r ih => intro p hr hp; exact ih (stepI rows p f) (fun g hg => hr g (List.mem_cons_of_mem _ hg)) (hs p hp f (hr f List.mem_cons_self).1 (hr f List.mem_cons_self).2)
 exact go row 0 hr h0
def cn (s : LI) (x : Int) : LI := if x ∈ s then s else s ++ [x]
def bN (rows : LL) (s : LI) (q : Int) : LI := (rows.getD q.toNat []).foldl cn s
theorem zz {s : LI} {x y : Int} (h : y ∈ s) : y ∈ cn s x := by
 unfold cn
 split
 ·exact h
 ·exact List.mem_append_left _ h
theorem AK (s : LI) (x : Int) : x ∈ cn s x := by
 unfold cn
 split
 ·assumption
 ·exact List.mem_append_right _ List.mem_cons_self
theorem kq : ∀ (xs : LI) {s : LI} {y : Int}, y ∈ s -> y ∈ xs.foldl cn s
 | [], _, _, h => h
 | x :: xs, _, _, h => kq xs (zz h)
theorem kx : ∀ (xs : LI) {s : LI} {y : Int}, y ∈ xs -> y ∈ xs.foldl cn s
 | [], _, _, h => by cases h
 | x :: xs, s, y, h => by
  rcases List.mem_cons.mp h with rfl | h
  ·exact kq xs (AK s y)
  ·exact kx xs h
theorem fU (rows : LL) : ∀ (qs : LI) {s : LI} {y : Int}, y ∈ s -> y ∈ qs.foldl (bN rows) s
 | [], _, _, h => h
 | q :: qs, _, _, h => fU rows qs (kq _ h)
theorem dI (rows : LL) : ∀ (qs : LI) {s : LI} {q y : Int}, q ∈ qs -> y ∈ rows.getD q.toNat [] -> y ∈ qs.foldl (bN rows) s
 | [], _, _, _, h, _ => by cases h
 | p :: qs, s, q, y, h, hy => by
  rcases List.mem_cons.mp h with rfl | h
  ·exact fU rows qs (kx _ hy)
  ·exact dI rows qs h hy
structure Bfs (many wide : Nat) (rows : LL) (qs : LI) : Prop where
 eq : qs = qs.foldl (bN rows) [0]
 nd : qs.Nodup
 inr : ∀ q ∈ qs, 0 <= q /\ q < (many : Int)
 re : ∀ q, q ∈ qs ↔ Reach wide rows q
def h7 (K : PySem.W.Frag) : Sp := fun vs H Q _ => ∃ (m r g : Addr) (many wide : Nat) (rows : LL) (signs : LI), vs = [.ref m, .int 0] /\ MachAt H m r g wide rows signs /\ RowsOk many wide rows /\ (1 <= many /\ many <= 1000) /\
 ∀ (l : Addr) (H' : Hp) (qs : LI), Same H H' -> H' l = some (.lst (qs.map V.int)) -> Bfs many wide rows qs -> Q (.ref l) H'
structure Found (many wide : Nat) (rows : LL) (dn ks : LI) : Prop where
 eq : ks = dn.foldl (bN rows) [0]
 nd : ks.Nodup
 inr : ∀ q ∈ ks, 0 <= q /\ q < (many : Int)
 re : ∀ q ∈ ks, Reach wide rows q
structure Part (many wide : Nat) (rows : LL) (dn : LI) (xs : LI) (ks : LI) : Prop where
 eq : ks = xs.foldl cn (dn.foldl (bN rows) [0])
 nd : ks.Nodup
 inr : ∀ q ∈ ks, 0 <= q /\ q < (many : Int)
 re : ∀ q ∈ ks, Reach wide rows q
theorem Part.put {many wide : Nat} {rows : LL} {dn xs ks : LI} {q : Int} (F : Part many wide rows dn xs ks) (h : q ∉ ks) (q0 : 0 <= q) (q1 : q < (many : Int)) (r : Reach wide rows q) : Part many wide rows dn (xs ++ [q]) (ks ++ [q]) where
 eq := by
  rw [List.foldl_append, <- F.eq]
  show _ = cn ks q
  unfold cn
  rw [if_neg h]
 nd := List.nodup_append.mpr ⟨F.nd, by simp, fun a ha b hb e => h (by rw [<- List.mem_singleton.mp hb, <- e]; exact ha)⟩
 inr := fun p hp => by
  rcases ma_.mp hp with z | z
  ·exact F.inr p z
  ·rw [List.mem_singleton.mp z]; exact ⟨q0, q1⟩
 re := fun p hp => by
  rcases ma_.mp hp with z | z
  ·exact F.re p z
  ·rw [List.mem_singleton.mp z]; exact r
theorem Part.old {many wide : Nat} {rows : LL} {dn xs ks : LI} {q : Int} (F : Part many wide rows dn xs ks) (h : q ∈ ks) : Part many wide rows dn (xs ++ [q]) ks where
 eq := by
  rw [List.foldl_append, <- F.eq]
  show _ = cn ks q
  unfold cn
  rw [if_pos h]
 nd := F.nd
 inr := F.inr
 re := F.re
section
variable {P : Program} {w : World} {K : PySem.W.Frag} {mg : Str -> Option Value} {base : Heap} {f : Addr} {fd : FuncData} {dV : Value}
theorem sc_reached_rooms : FnScope ["machine", "start", "rows", "reached", "level", "fresh", "here", "there"] ["machine", "start"] (ak cj) := ⟨rfl, rfl, rfl, by decide +kernel, rfl, by decide +kernel, by decide +kernel⟩
theorem pC (F : FunD K "reached_rooms" "reached_rooms" cj dV f fd) (dj : mg "list" = none) : FnOk P w K mg base CX0 1 f fd ["machine", "start"] (h7 K) := by
 refine F.ok sc_reached_rooms (fun vs H Q E h => ?_) (fun cdv A outer s H vs Q E hr h => ?_)
 ·obtain ⟨m, r, g, many, wide, rows, signs, rfl, _⟩ := h
  rfl
 obtain ⟨m, r, g, many, wide, rows, signs, rfl, M, R, ⟨n0, n1⟩, k⟩ := h
 obtain ⟨ras, hr', hA⟩ := M.rows
 have hu := gB hr
 refine ⟨_, (aj (az (i := 2) sc_reached_rooms.nd rfl (Or.inl rfl) (aO bz (pv 0) ay (fun _ _ => rfl)))
   (aj (az (i := 3) sc_reached_rooms.nd rfl (Or.inl rfl) (x6 (vq (pv 1) eA xM) rfl rfl (by intro z; cases z) (by decide)))
   (aj (az (i := 4) sc_reached_rooms.nd rfl (Or.inl rfl) (cW (aa (pv 1) af)))
   (aj (mY PassesOwn.never (p5 (pv 4) (fun _ => rfl)) (aj (az (i := 5) sc_reached_rooms.nd rfl (Or.inl rfl) (cW af))
   (aj (cf PassesOwn.never rfl (bO (pv 4)) (ax (i := 6) sc_reached_rooms.nd rfl (Or.inl rfl)) (av (cf PassesOwn.never rfl (iM (aO bz (pv 2) (pv 6) (fun _ _ => rfl))) (ax (i := 7) sc_reached_rooms.nd rfl (Or.inl rfl)) (av (dr (tW (n8 hu (pv 7) (pv 3)) (by with_unfolding_all rfl)) (aj (lV hu (pv 3) (pv 7) eA rfl)
   (av (bD (fA PySem.F.plainAttrs_list PySem.F.slot_list_append PySem.F.type_list_append bF (pv 5) (aa (pv 7) af))))) bP)))))
   (av (az (i := 4) sc_reached_rooms.nd rfl (Or.inl rfl) (pv 5))))))
   (av (bh (aN (qr rfl) (by rfl) dj oS (aa (pv 3) af)))))))), ?_⟩
 refine ⟨_, rfl, m, _, _, _, rfl, rfl, qT_ M.tup, rfl, ?_⟩
 refine fun D hD => ⟨_, rfl, ab, [(Sum.inl 0, V.bl true)], rfl, by show 1 <= 15; decide, ?_⟩
 rw [yd]
 have sD := ah hD (HO.dK (kvT [0]))
 refine ⟨_, rfl, (by show 1 <= sizeLine; decide), fun W hW => ?_⟩
 have hWD : W ≠ D := fun z => by rw [z, ab] at hW; cases hW
 have hW0 : H W = none := by rw [ae hWD] at hW; exact hW
 try dsimp only [bR]
 refine mO (t := n9 _ _) (fun σ' H' => ∃ (ks : LI) (W : Addr) (v0 v1 v2 : OV), σ' = [some (.ref m), some (.int 0), some (.ref r), some (.ref D), some (.ref W), v0, v1, v2] /\ Same H H' /\ H' D = some (.dK (kvT ks)) /\ Found many wide rows ks ks) ?_ (fun nxt => ?_)
 rotate_left
 ·refine oX (fun mm σ' H' => ∃ (dn lv : LI) (W : Addr) (v0 v1 v2 : OV), mm = 2 * (many - (dn ++ lv).length) + lv.length /\ σ' = [some (.ref m), some (.int 0), some (.ref r), some (.ref D), some (.ref W), v0, v1, v2] /\ Same H H' /\ H' D = some (.dK (kvT (dn ++ lv))) /\ W ≠ D /\ H' W = some (.lst (lv.map V.int)) /\ Found many wide rows dn (dn ++ lv))
   ⟨_, [], [0], W, none, none, none, rfl, rfl, sD.trans (ah hW _), by rw [ae (Ne.symm hWD), ab]; rfl, hWD, ab, ?_⟩ ?_
  ·refine ⟨rfl, by simp, fun q hq => by rw [List.nil_append] at hq; rw [List.mem_singleton.mp hq]; omega, fun q hq => by rw [List.nil_append] at hq; rw [List.mem_singleton.mp hq]; exact Reach.zero⟩
  rintro mm σ' H1 ⟨dn, lv, W, v0, v1, v2, rfl, rfl, s1, hD1, hWD, hW1, FD⟩
  by_cases en : lv = []
  ·subst en
   refine ⟨_, rfl, _, .inl ⟨_, qL_ hW1, rfl⟩, jt ?_⟩
   rw [List.append_nil] at hD1 FD
   exact nxt _ _ ⟨dn, W, v0, v1, v2, rfl, s1, hD1, FD⟩
  refine ⟨_, rfl, _, .inl ⟨_, qL_ hW1, rfl⟩, ?_⟩
  have ne : (!(lv.map V.int).isEmpty) = true := by
   cases lv with
   | nil => exact absurd rfl en
   | cons x r => rfl
  rw [ne]
  have kl := aX many FD.nd FD.inr
  have lv1 : 1 <= lv.length := by
   cases lv with
   | nil => exact absurd rfl en
   | cons x r => exact Nat.succ_le_succ (Nat.zero_le _)
  rw [List.length_append] at kl
  refine uK ⟨fun σ' H' => ∃ m', m' < 2 * (many - (dn ++ lv).length) + lv.length /\ ∃ (dn lv : LI) (W : Addr) (v0 v1 v2 : OV), m' = 2 * (many - (dn ++ lv).length) + lv.length /\ σ' = [some (.ref m), some (.int 0), some (.ref r), some (.ref D), some (.ref W), v0, v1, v2] /\ Same H H' /\ H' D = some (.dK (kvT (dn ++ lv))) /\ W ≠ D /\ H' W = some (.lst (lv.map V.int)) /\ Found many wide rows dn (dn ++ lv), fun σ' H' h => h, ?_⟩
  refine ⟨(by show 0 <= sizeLine; decide), fun N hN => ?_⟩
  have hND : N ≠ D := fun z => by rw [z, hD1] at hN; cases hN
  have hNW : N ≠ W := fun z => by rw [z, hW1] at hN; cases hN
  have hN0 : H N = none := s1.free hN
  try dsimp only [bR]
  refine ⟨_, rfl, W, rfl, ⟨_, qL_ (by rw [ae (Ne.symm hNW)]; exact hW1)⟩, cL (K := K) (xs := lv.map V.int) (fun i σ' H' => ∃ (fr : LI) (v1 v2 : OV),
    σ' = [some (.ref m), some (.int 0), some (.ref r), some (.ref D), some (.ref W), some (.ref N), v1, v2] /\ Same H H' /\ H' D = some (.dK (kvT (dn ++ lv ++ fr))) /\ H' W = some (.lst (lv.map V.int)) /\ H' N = some (.lst (fr.map V.int)) /\ Found many wide rows (dn ++ lv.take i) (dn ++ lv ++ fr))
   ⟨[], v1, v2, rfl, s1.trans (ah hN _), by rw [ae (Ne.symm hND), List.append_nil]; exact hD1, by rw [ae (Ne.symm hNW)]; exact hW1, ab, by rw [List.take_zero, List.append_nil, List.append_nil]; exact FD⟩ (fun i σ' H' _ ⟨_, _, _, _, _, _, e, _⟩ => qL_ e) ?_ ?_⟩
  ·rintro i x σ' H2 hi ⟨fr, v1, v2, rfl, s2, hD2, hW2, hN2, F2⟩
   obtain ⟨here, rfl, hz⟩ := aY hi
   have hil : i < lv.length := (gi_ hz).1
   have hk : here ∈ dn ++ lv ++ fr := List.mem_append_left _ (List.mem_append_right _ (mq_ hz))
   have hh := F2.inr here hk
   have hre := F2.re here hk
   have l1 : here.toNat < rows.length := by rw [R.len]; omega
   obtain ⟨ra, e1, e2⟩ := hA.get l1
   have lr : rows[here.toNat].length = wide := R.row _ (List.getElem_mem l1)
   refine ⟨_, rfl, _, rfl, r, _, _, _, rfl, rfl, qT_ (s2 _ _ hr'), gh hh.1 e1, ra, rfl, ⟨_, qT_ (s2 _ _ e2)⟩, tK (K := K) (xs := rows[here.toNat].map V.int) (fun j σ' H' => ∃ (fr : LI) (v : OV),
     σ' = [some (.ref m), some (.int 0), some (.ref r), some (.ref D), some (.ref W), some (.ref N), some (.int here), v] /\ Same H H' /\ H' D = some (.dK (kvT (dn ++ lv ++ fr))) /\ H' W = some (.lst (lv.map V.int)) /\ H' N = some (.lst (fr.map V.int)) /\ Part many wide rows (dn ++ lv.take i) (rows[here.toNat].take j) (dn ++ lv ++ fr))
    ⟨fr, v2, rfl, s2, hD2, hW2, hN2, ⟨F2.eq, F2.nd, F2.inr, F2.re⟩⟩ (fun i σ' H' _ ⟨_, _, _, e, _⟩ => qT_ (e _ _ e2)) ?_ ?_⟩
   ·rintro j x σ' H3 hj ⟨fr, v, rfl, s3, hD3, hW3, hN3, F3⟩
    obtain ⟨z, rfl, hz⟩ := aY hj
    have hjl : j < rows[here.toNat].length := (gi_ hz).1
    have zin := R.val _ (List.getElem_mem l1) z (mq_ hz)
    have kl3 := aX many F3.nd F3.inr
    rw [List.length_append, List.length_append] at kl3
    have stp : stepI rows here (j : Int) = z := by
     unfold stepI
     rw [getD_at l1, Int.toNat_natCast, getD_at hjl]
     exact (gi_ hz).2
    have tk : rows[here.toNat].take (j + 1) = rows[here.toNat].take j ++ [z] := by rw [List.take_add_one, hz]; rfl
    refine ⟨_, rfl, _, rfl, D, _, rfl, DGet.k (k := Sum.inl z) hD3, _, rfl, ?_⟩
    rw [o4]
    refine oy (fun c => ?_) (fun c => ?_)
    ·refine ⟨_, rfl, _, rfl, D, _, rfl, DPut.k (k := Sum.inl z) hD3 (aw (by unfold kvT; rw [lm_, List.length_append, List.length_append]; omega)), ?_⟩
     rw [oU c]
     have hN4 : (upd H3 D (HO.dK (kvT (dn ++ lv ++ fr ++ [z])))) N = some (.lst (fr.map V.int)) := by rw [ae hND]; exact hN3
     refine ⟨_, rfl, .inl ⟨rfl, _, qL_ hN4⟩, _, rfl, N, _, _, rfl, rfl, hN4, Nat.lt_of_le_of_lt (show _ <= 2000 by rw [lm_]; omega) (by decide), ?_⟩
     have F4 := F3.put c zin.1 zin.2 (by rw [<- stp]; exact hre.step (by omega) (by omega))
     refine ⟨fr ++ [z], _, rfl, au (au s3 hD) hN0, ?_, ?_, ?_, ?_⟩
     ·rw [ae (Ne.symm hND), ab, List.append_assoc]
     ·rw [ae (Ne.symm hNW), ae hWD]; exact hW3
     ·rw [ab, List.map_append]; rfl
     ·rw [tk, <- List.append_assoc]; exact F4
    ·refine ⟨fr, _, rfl, s3, hD3, hW3, hN3, ?_⟩
     rw [tk]
     exact F3.old c
   ·rintro σ' H3 ⟨fr, v, rfl, s3, hD3, hW3, hN3, F3⟩
    rw [lm_, List.take_length] at F3
    refine ⟨fr, _, _, rfl, s3, hD3, hW3, hN3, ⟨?_, F3.nd, F3.inr, F3.re⟩⟩
    have e9 : dn ++ lv.take (i + 1) = (dn ++ lv.take i) ++ [here] := by rw [List.take_add_one, hz, List.append_assoc]; rfl
    rw [F3.eq, e9, List.foldl_append (l := dn ++ lv.take i)]
    show _ = bN rows _ here
    unfold bN
    rw [getD_at l1]
  ·rintro σ' H3 ⟨fr, v1, v2, rfl, s3, hD3, hW3, hN3, F3⟩
   rw [lm_, List.take_length] at F3
   have kl3 := aX many F3.nd F3.inr
   rw [List.length_append, List.length_append] at kl3
   refine ⟨_, rfl, _, ?_, dn ++ lv, fr, N, _, _, _, rfl, rfl, s3, hD3, hND, hN3, F3⟩
   rw [List.length_append, List.length_append]
   omega
 rintro σ' H1 ⟨ks, W, v0, v1, v2, rfl, s1, hD1, FD⟩
 refine ⟨_, rfl, D, _, rfl, hD1, fun l hl => ?_⟩
 have e : (kvT ks).map (fun q => kV q.1) = ks.map V.int := by
  unfold kvT
  rw [List.map_map]
  rfl
 rw [e]
 have z0 : (0 : Int) ∈ ks := by rw [FD.eq]; exact fU rows ks List.mem_cons_self
 refine k l _ ks (s1.trans (ah hl _)) ab ⟨FD.eq, FD.nd, FD.inr, fun q => ⟨FD.re q, fun h => ?_⟩⟩
 refine Reach.of (S := fun q => q ∈ ks) z0 (fun p hp f f0 f1 => ?_) h
 have hp' := FD.inr p hp
 have l1 : p.toNat < rows.length := by rw [R.len]; omega
 have lr : rows[p.toNat].length = wide := R.row _ (List.getElem_mem l1)
 have hf : f.toNat < rows[p.toNat].length := by omega
 rw [FD.eq]
 refine dI rows ks hp ?_
 unfold stepI
 rw [getD_at l1, getD_at hf]
 exact List.getElem_mem hf
end
def kY : LI -> LI -> Bool
 | a :: r, b :: s => if a = b then kY r s else decide (b < a)
 | _, _ => false
def b7 (r s : LI) : Bool := if r.length = s.length then kY r s else decide (s.length < r.length)
theorem oK : ∀ r : LI, kY r r = false
 | [] => rfl
 | a :: r => by
  show (if a = a then kY r r else decide (a < a)) = false
  rw [if_pos rfl]
  exact oK r
theorem pF : ∀ {r s : LI}, kY s r = true -> kY r s = false
 | [], s, h => rfl
 | a :: r, [], h => rfl
 | a :: r, b :: s, h => by
  have h' : (if b = a then kY s r else decide (a < b)) = true := h
  show (if a = b then kY r s else decide (b < a)) = false
  by_cases e : a = b
  ·rw [if_pos e.symm] at h'
   rw [if_pos e]
   exact pF h'
  ·rw [if_neg (Ne.symm e)] at h'
   rw [if_neg e]
   have := of_decide_eq_true h'
   exact decide_eq_false (by omega)
theorem sS : ∀ {r s : LI} (f g : Int), r.length = s.length -> kY s r = true -> kY (s ++ [g]) (r ++ [f]) = true
 | [], [], _, _, _, h => by cases h
 | [], b :: s, _, _, h, _ => by simp at h
 | a :: r, [], _, _, h, _ => by simp at h
 | a :: r, b :: s, f, g, hl, h => by
  have h' : (if b = a then kY s r else decide (a < b)) = true := h
  show (if b = a then kY (s ++ [g]) (r ++ [f]) else decide (a < b)) = true
  by_cases e : b = a
  ·rw [if_pos e] at h' ⊢
   exact sS f g (by simpa using hl) h'
  ·rw [if_neg e] at h' ⊢
   exact h'
theorem sP : ∀ (r : LI) {f g : Int}, f < g -> kY (r ++ [g]) (r ++ [f]) = true
 | [], f, g, h => by
  show (if g = f then kY [] [] else decide (f < g)) = true
  rw [if_neg (by omega)]
  exact decide_eq_true h
 | a :: r, f, g, h => by
  show (if a = a then kY (r ++ [g]) (r ++ [f]) else _) = true
  rw [if_pos rfl]
  exact sP r h
theorem rO (r : LI) : b7 r r = false := by
 unfold b7
 rw [if_pos rfl]
 exact oK r
theorem mZ {r s : LI} (h : b7 s r = true) : b7 r s = false := by
 unfold b7 at h ⊢
 by_cases e : r.length = s.length
 ·rw [if_pos e.symm] at h
  rw [if_pos e]
  exact pF h
 ·rw [if_neg (Ne.symm e)] at h
  rw [if_neg e]
  have := of_decide_eq_true h
  exact decide_eq_false (by omega)
theorem vE {r s : LI} (f g : Int) (h : b7 s r = true) : b7 (s ++ [g]) (r ++ [f]) = true := by
 unfold b7 at h ⊢
 rw [List.length_append, List.length_append]
 by_cases e : s.length = r.length
 ·rw [if_pos e] at h
  rw [if_pos (by rw [e]; rfl)]
  exact sS f g e.symm h
 ·rw [if_neg e] at h
  have := of_decide_eq_true h
  rw [if_neg (by simp only [List.length_singleton]; omega)]
  exact decide_eq_true (by simp only [List.length_singleton]; omega)
theorem vL (r : LI) {f g : Int} (h : f < g) : b7 (r ++ [g]) (r ++ [f]) = true := by
 unfold b7
 rw [if_pos (by simp)]
 exact sP r h
theorem xy (r : LI) (f : Int) : b7 (r ++ [f]) [] = true := by
 unfold b7
 rw [if_neg (by simp)]
 exact decide_eq_true (by simp)
structure LeadI (wide : Nat) (rows : LL) (i f : Nat) (ks : LI) (ls : LL) : Prop where
 len : ls.length = ks.length
 k0 : ks[0]? = some 0
 l0 : ls[0]? = some []
 wlk : ∀ (j : Nat) (q : Int) (l : LI), ks[j]? = some q -> ls[j]? = some l -> aZ rows l 0 = q /\ ∀ p ∈ l, 0 <= p /\ p < (wide : Int)
 srt : ∀ (j k : Nat) (l m : LI), j < k -> ls[j]? = some l -> ls[k]? = some m -> b7 m l = true
 made : ∀ (j : Nat) (l : LI), ls[j]? = some l -> l = [] \/ ∃ (a g : Nat) (m : LI), (a < i \/ (a = i /\ g < f)) /\ ls[a]? = some m /\ l = m ++ [(g : Int)]
 done : ∀ (a g : Nat) (q : Int) (m : LI), (a < i /\ g < wide) \/ (a = i /\ g < f) -> ks[a]? = some q -> ls[a]? = some m -> ∃ (j : Nat) (l : LI), ks[j]? = some (stepI rows q g) /\ ls[j]? = some l /\ b7 l (m ++ [(g : Int)]) = false
theorem LeadI.zero (wide : Nat) (rows : LL) : LeadI wide rows 0 0 [0] [[]] where
 len := rfl
 k0 := rfl
 l0 := rfl
 wlk := fun j q l h1 h2 => by
  cases j with
  | zero => cases h1; cases h2; exact ⟨rfl, fun p hp => by cases hp⟩
  | succ j => cases h1
 srt := fun j k l m hjk h1 h2 => by
  cases k with
  | zero => omega
  | succ k => cases h2
 made := fun j l h => by
  cases j with
  | zero => cases h; exact .inl rfl
  | succ j => cases h
 done := fun a g q m h _ _ => by omega
theorem gc {α : Type} {xs : List α} {y z : α} {j : Nat} (h : xs[j]? = some z) : (xs ++ [y])[j]? = some z := by
 rw [List.getElem?_append_left (gi_ h).1]
 exact h
theorem vB {α : Type} {xs : List α} {y : α} : (xs ++ [y])[xs.length]? = some y := by
 rw [List.getElem?_append_right (Nat.le_refl _), Nat.sub_self]
 rfl
theorem LeadI.ahead {wide : Nat} {rows : LL} {i f : Nat} {ks : LI} {ls : LL} (F : LeadI wide rows i f ks ls) {m l : LI} {j : Nat} (hm : ls[i]? = some m) (hl : ls[j]? = some l) : b7 (m ++ [(f : Int)]) l = true := by
 rcases F.made j l hl with rfl | ⟨a, g, m', h, ha, rfl⟩
 ·exact xy m f
 ·rcases h with h | ⟨rfl, h⟩
  ·exact vE _ _ (F.srt a i m' m h ha hm)
  ·rw [hm] at ha
   cases ha
   exact vL m (by omega)
theorem LeadI.old {wide : Nat} {rows : LL} {i f : Nat} {ks : LI} {ls : LL} {q : Int} {m : LI} (F : LeadI wide rows i f ks ls) (hq : ks[i]? = some q) (hm : ls[i]? = some m) (hin : stepI rows q f ∈ ks) : LeadI wide rows i (f + 1) ks ls where
 len := F.len
 k0 := F.k0
 l0 := F.l0
 wlk := F.wlk
 srt := F.srt
 made := fun j l hl => by
  rcases F.made j l hl with z | ⟨a, g, m', h, r⟩
  ·exact .inl z
  ·exact .inr ⟨a, g, m', by omega, r⟩
 done := fun a g p m' h hp hm' => by
  by_cases e : a = i /\ g = f
  ·obtain ⟨rfl, rfl⟩ := e
   rw [hq] at hp; cases hp
   rw [hm] at hm'; cases hm'
   obtain ⟨j, hj, e⟩ := List.getElem_of_mem hin
   have hj' : j < ls.length := by rw [F.len]; exact hj
   refine ⟨j, ls[j], by rw [List.getElem?_eq_getElem hj, e], List.getElem?_eq_getElem hj', ?_⟩
   exact mZ (F.ahead hm (List.getElem?_eq_getElem hj'))
  ·exact F.done a g p m' (by omega) hp hm'
theorem LeadI.put {wide : Nat} {rows : LL} {i f : Nat} {ks : LI} {ls : LL} {q : Int} {m : LI} (F : LeadI wide rows i f ks ls) (hq : ks[i]? = some q) (hm : ls[i]? = some m) (fw : f < wide) :
  LeadI wide rows i (f + 1) (ks ++ [stepI rows q f]) (ls ++ [m ++ [(f : Int)]]) where
 len := by rw [List.length_append, List.length_append, F.len]; rfl
 k0 := gc F.k0
 l0 := gc F.l0
 wlk := fun j p l hp hl => by
  rcases snoc_cases hp with hp | ⟨rfl, rfl⟩
  ·rcases snoc_cases hl with hl | ⟨rfl, rfl⟩
   ·exact F.wlk j p l hp hl
   ·have := (gi_ hp).1
    rw [F.len] at this
    omega
  ·rcases snoc_cases hl with hl | ⟨_, rfl⟩
   ·have := (gi_ hl).1
    rw [F.len] at this
    omega
   ·have h := F.wlk i q m hq hm
    refine ⟨?_, fun p hp => ?_⟩
    ·rw [fM, h.1]
     rfl
    ·rcases ma_.mp hp with z | z
     ·exact h.2 p z
     ·rw [List.mem_singleton.mp z]
      omega
 srt := fun j k l m' hjk hl hm' => by
  rcases snoc_cases hm' with hm' | ⟨rfl, rfl⟩
  ·rcases snoc_cases hl with hl | ⟨rfl, rfl⟩
   ·exact F.srt j k l m' hjk hl hm'
   ·have := (gi_ hm').1
    omega
  ·rcases snoc_cases hl with hl | ⟨rfl, rfl⟩
   ·exact F.ahead hm hl
   ·omega
 made := fun j l hl => by
  rcases snoc_cases hl with hl | ⟨rfl, rfl⟩
  ·rcases F.made j l hl with z | ⟨a, g, m', h, r1, r2⟩
   ·exact .inl z
   ·exact .inr ⟨a, g, m', by omega, gc r1, r2⟩
  ·exact .inr ⟨i, f, m, by omega, gc hm, rfl⟩
 done := fun a g p m' h hp hm' => by
  have la : a < ks.length := by
   have := (gi_ hq).1
   omega
  have hp' : ks[a]? = some p := by
   rcases snoc_cases hp with z | ⟨rfl, _⟩
   ·exact z
   ·omega
  have hm2 : ls[a]? = some m' := by
   rcases snoc_cases hm' with z | ⟨rfl, _⟩
   ·exact z
   ·rw [F.len] at la; omega
  by_cases e : a = i /\ g = f
  ·obtain ⟨rfl, rfl⟩ := e
   rw [hq] at hp'; cases hp'
   rw [hm] at hm2; cases hm2
   exact ⟨ks.length, _, vB, by rw [<- F.len]; exact vB, rO _⟩
  ·obtain ⟨j, l, e1, e2, e3⟩ := F.done a g p m' (by omega) hp' hm2
   exact ⟨j, l, gc e1, gc e2, e3⟩
theorem LeadI.turn {wide : Nat} {rows : LL} {i : Nat} {ks : LI} {ls : LL} (F : LeadI wide rows i wide ks ls) : LeadI wide rows (i + 1) 0 ks ls where
 len := F.len
 k0 := F.k0
 l0 := F.l0
 wlk := F.wlk
 srt := F.srt
 made := fun j l hl => by
  rcases F.made j l hl with z | ⟨a, g, m', h, r⟩
  ·exact .inl z
  ·exact .inr ⟨a, g, m', by omega, r⟩
 done := fun a g p m' h hp hm' => F.done a g p m' (by omega) hp hm'
theorem Ap (s : LI) (x : Int) : s <+: cn s x := by
 unfold cn
 split
 ·exact List.prefix_refl _
 ·exact List.prefix_append _ _
theorem qB : ∀ (xs s : LI), s <+: xs.foldl cn s
 | [], s => List.prefix_refl _
 | x :: xs, s => (Ap s x).trans (qB xs _)
theorem oj (rows : LL) : ∀ (qs s : LI), s <+: qs.foldl (bN rows) s
 | [], s => List.prefix_refl _
 | q :: qs, s => (qB _ s).trans (oj rows qs _)
theorem Bfs.there {many wide : Nat} {rows : LL} {qs : LI} (B : Bfs many wide rows qs) (R : RowsOk many wide rows) {i : Nat} {q : Int} (h : qs[i]? = some q) : ((qs.take i).foldl (bN rows) [0])[i]? = some q := by
 obtain ⟨ks, ek⟩ : ∃ ks, (qs.take i).foldl (bN rows) [0] = ks := ⟨_, rfl⟩
 rw [ek]
 have pre : ks <+: qs := by
  have e : qs = (qs.drop i).foldl (bN rows) ks := by
   rw [<- ek, <- List.foldl_append, List.take_append_drop]
   exact B.eq
  rw [e]
  exact oj rows _ _
 have tk : ks = qs.take ks.length := List.prefix_iff_eq_take.mp pre
 by_cases c : i < ks.length
 ·rw [tk, List.getElem?_take]
  rw [if_pos c]
  exact h
 exfalso
 have sub : ∀ p ∈ ks, p ∈ qs.take i := fun p hp => by
  rw [tk] at hp
  have : qs.take ks.length = (qs.take i).take ks.length := by rw [List.take_take, Nat.min_eq_left (by omega)]
  rw [this] at hp
  exact List.mem_of_mem_take hp
 have all : ∀ p, Reach wide rows p -> p ∈ ks := fun p hp => by
  refine Reach.of (S := fun p => p ∈ ks) (by rw [<- ek]; exact fU rows _ List.mem_cons_self) (fun p hp f f0 f1 => ?_) hp
  have hp' := B.inr p (List.mem_of_mem_take (sub p hp))
  have l1 : p.toNat < rows.length := by rw [R.len]; omega
  have lr : rows[p.toNat].length = wide := R.row _ (List.getElem_mem l1)
  have hf : f.toNat < rows[p.toNat].length := by omega
  rw [<- ek]
  refine dI rows _ (sub p hp) ?_
  unfold stepI
  rw [getD_at l1, getD_at hf]
  exact List.getElem_mem hf
 have hq := sub q (all q ((B.re q).mp (mq_ h)))
 obtain ⟨j, hj, e⟩ := List.getElem_of_mem hq
 rw [List.getElem_take] at e
 have hi : i < qs.length := (gi_ h).1
 have hji : j < i := by rw [List.length_take] at hj; omega
 have e2 : qs[i] = q := (gi_ h).2
 have := (List.getElem_inj B.nd).mp (e.trans e2.symm)
 omega
theorem LeadI.short {wide : Nat} {rows : LL} {i f : Nat} {ks : LI} {ls : LL} (F : LeadI wide rows i f ks ls) : ∀ {j : Nat} {l : LI}, ls[j]? = some l -> l.length <= j
 | j, l, h => by
  rcases F.made j l h with rfl | ⟨a, g, m, _, ha, rfl⟩
  ·exact Nat.zero_le _
  ·have lt : a < j := by
    rcases Nat.lt_or_ge a j with q | q
    ·exact q
    ·exfalso
     rcases Nat.lt_or_eq_of_le q with q | q
     ·have h1 := F.srt j a _ _ q h ha
      have h2 := mZ h1
      have h3 : b7 (m ++ [(g : Int)]) m = true := by
       unfold b7
       rw [if_neg (by simp)]
       exact decide_eq_true (by simp)
      rw [h2] at h3
      cases h3
     ·subst q
      rw [h] at ha
      have := congrArg List.length (Option.some.inj ha)
      simp at this
   have ih := LeadI.short F ha
   rw [List.length_append, List.length_singleton]
   omega
termination_by j => j
def qh (rows : LL) (i f : Nat) (st : LI × LL) : LI × LL :=
 if stepI rows (st.1.getD i 0) f ∈ st.1 then st else (st.1 ++ [stepI rows (st.1.getD i 0) f], st.2 ++ [st.2.getD i [] ++ [(f : Int)]])
def sy (rows : LL) (i : Nat) (st : LI × LL) : Nat -> LI × LL
 | 0 => st
 | f + 1 => qh rows i f (sy rows i st f)
def lY (rows : LL) (wide : Nat) : Nat -> LI × LL
 | 0 => ([0], [[]])
 | i + 1 => sy rows i (lY rows wide i) wide
def LeadsIn (H : Hp) (es : List (Int × Addr)) (ls : LL) : Prop := es.length = ls.length /\ ∀ (j : Nat) (e : Int × Addr) (l : LI), es[j]? = some e -> ls[j]? = some l -> H e.2 = some (.tup (l.map V.int))
theorem LeadsIn.same {H H' : Hp} {es : List (Int × Addr)} {ls : LL} (h : LeadsIn H es ls) (s : ∀ (b : Addr) (xs : List V), H b = some (.tup xs) -> H' b = some (.tup xs)) : LeadsIn H' es ls := ⟨h.1, fun j e l he hl => s _ _ (h.2 j e l he hl)⟩
def uk (K : PySem.W.Frag) : Sp := fun vs H Q _ => ∃ (m r g : Addr) (many wide : Nat) (rows : LL) (signs : LI), vs = [.ref m] /\ MachAt H m r g wide rows signs /\ RowsOk many wide rows /\ (1 <= many /\ many <= 1000) /\
 ∀ (t : Addr) (H' : Hp) (ks : LI) (ls : LL) (us : List V), Same H H' -> Bfs many wide rows ks -> LeadI wide rows ks.length 0 ks ls -> (ks, ls) = lY rows wide ks.length -> H' t = some (.tup us) -> us.length = many ->
  (∀ q : Nat, q < many -> (q : Int) ∉ ks -> us[q]? = some .non) -> (∀ (j : Nat) (q : Int) (l : LI), ks[j]? = some q -> ls[j]? = some l -> ∃ a, us[q.toNat]? = some (.ref a) /\ H' a = some (.tup (l.map V.int))) -> Q (.ref t) H'
def qy (K : PySem.W.Frag) : Sp := fun vs H Q _ => ∃ (m r g : Addr) (many wide : Nat) (rows : LL) (signs : LI), vs = [.ref m, .int 0] /\ MachAt H m r g wide rows signs /\ RowsOk many wide rows /\ (1 <= many /\ many <= 1000) /\
 ∀ (D : Addr) (H' : Hp) (es : List (Int × Addr)) (ls : LL), Same H H' -> H' D = some (.dK (kvL es)) -> LeadsIn H' es ls -> Bfs many wide rows (es.map Prod.fst) -> LeadI wide rows (es.map Prod.fst).length 0 (es.map Prod.fst) ls -> (es.map Prod.fst, ls) = lY rows wide (es.map Prod.fst).length -> Q (.ref D) H'
section
variable {P : Program} {w : World} {K : PySem.W.Frag} {mg : Str -> Option Value} {base : Heap} {f : Addr} {fd : FuncData} {dV : Value}
theorem sc_first_rows : FnScope ["machine", "start", "rows", "found", "here", "figure", "there"] ["machine", "start"] (ak cZ) := ⟨rfl, rfl, rfl, by decide +kernel, rfl, by decide +kernel, by decide +kernel⟩
theorem sc_leads : FnScope ["machine", "found"] ["machine"] (ak iT) := ⟨rfl, rfl, rfl, by decide +kernel, rfl, by decide +kernel, by decide +kernel⟩
theorem bk_leads_0 : BlkScope ["machine", "found"] (ak iT) ["here", "found"] [none, some 1] { kind := ScopeKind.function, names := [(".0", NameKind.local), ("here", NameKind.local), ("found", NameKind.free)], isGenerator := false, isCoroutine := false, more := [] } := ⟨rfl, by decide +kernel, by decide +kernel, by decide +kernel, by decide +kernel, rfl, by decide +kernel⟩
theorem yk (F : FunD K "first_rows" "first_rows" cZ dV f fd) (fj : DefOk P w K mg base "reached_rooms" 1 ["machine", "start"] [] (h7 K)) (aV : mg "enumerate" = none) : FnOk P w K mg base CX0 2 f fd ["machine", "start"] (qy K) := by
 refine F.ok sc_first_rows (fun vs H Q E h => ?_) (fun cdv A outer s H vs Q E hr h => ?_)
 ·obtain ⟨m, r, g, many, wide, rows, signs, rfl, _⟩ := h
  rfl
 obtain ⟨m, r, g, many, wide, rows, signs, rfl, M, R, ⟨n0, n1⟩, k⟩ := h
 obtain ⟨ras, hr', hA⟩ := M.rows
 have hu := gB hr
 refine oe (aS (PSW.mk (az (i := 2) sc_first_rows.nd rfl (Or.inl rfl) (aO bz (pv 0) ay (fun _ _ => rfl))))
   (aS (PSW.mk (az (i := 3) sc_first_rows.nd rfl (Or.inl rfl) (x6 (vq (pv 1) (dD af) xM) rfl rfl (by intro z; cases z) (by decide))))
   (aS (PSW.mk (cf PassesOwn.never rfl (bO (bM fj hr (aa (pv 0) (aa (pv 1) af)))) (ax (i := 4) sc_first_rows.nd rfl (Or.inl rfl)) (av (cf PassesOwn.never rfl (p9 rfl aV (aa (aO bz (pv 2) (pv 4) (fun _ _ => rfl)) af)) (ic rfl (bt (ax (i := 5) sc_first_rows.nd rfl (Or.inl rfl)) (bt (ax (i := 6) sc_first_rows.nd rfl (Or.inl rfl)) fQ))) (av (dr (tW (n8 hu (pv 6) (pv 3)) (by with_unfolding_all rfl)) (av (lV hu (pv 3) (pv 6) (aU yb (tI hu (pv 3) (pv 4) (fun _ _ => rfl)) (dD (aa (pv 5) af))) rfl)) bP))))))
   (iZ (PSW.mk (bh (pv 3))))))) ?_
 refine ⟨_, rfl, m, _, _, _, rfl, rfl, qT_ M.tup, rfl, ?_⟩
 refine fun D hD => ⟨_, rfl, (by show 0 <= sizeLine; decide), fun t0 ht0 => ?_⟩
 have ntD : t0 ≠ D := fun z => by rw [z, ab] at ht0; cases ht0
 have ht00 : H t0 = none := by rw [ae ntD] at ht0; exact ht0
 refine ⟨by rw [ae (Ne.symm ntD), ab], [(Sum.inl 0, V.ref t0)], rfl, by show 1 <= 15; decide, ?_⟩
 obtain ⟨H1, eH1⟩ : ∃ H1, upd (upd (upd H D (HO.dK [])) t0 (HO.tup [])) D (HO.dK (cQ [] [(Sum.inl 0, V.ref t0)])) = H1 := ⟨_, rfl⟩
 have s1 : Same H H1 := by
  rw [<- eH1]
  exact au (au (au (Same.refl _) hD) ht00) hD
 have hD1 : H1 D = some (.dK (kvL [(0, t0)])) := by rw [<- eH1, ab]; rfl
 have ht1 : H1 t0 = some (.tup []) := by rw [<- eH1, ae ntD, ab]
 rw [eH1]
 have tp : ∀ {H' : Hp}, Same H H' -> ∀ b xs, H b = some (.tup xs) -> H' b = some (.tup xs) := fun s b xs h => s _ _ h
 try dsimp only [bR]
 refine mO (t := oQ _ _ _) (fun σ' H' => ∃ (es : List (Int × Addr)) (ls : LL) (v3 v4 v5 : OV), σ' = [some (.ref m), some (.int 0), some (.ref r), some (.ref D), v3, v4, v5] /\ Same H H' /\ H' D = some (.dK (kvL es)) /\ LeadsIn H' es ls /\ Bfs many wide rows (es.map Prod.fst) /\ LeadI wide rows (es.map Prod.fst).length 0 (es.map Prod.fst) ls /\ (es.map Prod.fst, ls) = lY rows wide (es.map Prod.fst).length) ?_ (fun nxt => ?_)
 rotate_left
 ·refine ⟨_, rfl, _, rfl, m, r, g, many, wide, rows, signs, rfl, M.same (tp s1), R, ⟨n0, n1⟩, fun l H2 qs s2 hl B => ?_⟩
  have hD2 := s2 _ _ hD1
  have nlD : l ≠ D := aB hl hD2 (by intro z; cases z)
  refine ⟨l, rfl, ⟨_, qL_ hl⟩, cL (K := K) (xs := qs.map V.int) (fun i σ' H' => ∃ (es : List (Int × Addr)) (ls : LL) (v3 v4 v5 : OV), σ' = [some (.ref m), some (.int 0), some (.ref r), some (.ref D), v3, v4, v5] /\ Same H H' /\ H' l = some (.lst (qs.map V.int)) /\ H' D = some (.dK (kvL es)) /\ LeadsIn H' es ls /\
    LeadI wide rows i 0 (es.map Prod.fst) ls /\ (es.map Prod.fst, ls) = lY rows wide i /\ es.map Prod.fst = (qs.take i).foldl (bN rows) [0])
   ⟨[(0, t0)], [[]], none, none, none, rfl, s1.trans s2, hl, hD2, ⟨rfl, fun j e l' he hl' => ?_⟩, LeadI.zero wide rows, rfl, rfl⟩ (fun i σ' H' _ ⟨_, _, _, _, _, _, _, e, _⟩ => qL_ e) ?_ ?_⟩
  ·cases j with
   | zero => cases he; cases hl'; exact s2 _ _ ht1
   | succ j => cases he
  ·rintro i x σ' H3 hi ⟨es, ls, v3, v4, v5, rfl, s3, hl3, hD3, L3, F3, eN, eG⟩
   obtain ⟨here, rfl, hz⟩ := aY hi
   have hh := B.inr here (mq_ hz)
   have hre := (B.re here).mp (mq_ hz)
   have l1 : here.toNat < rows.length := by rw [R.len]; omega
   obtain ⟨ra, e1, e2⟩ := hA.get l1
   have lr : rows[here.toNat].length = wide := R.row _ (List.getElem_mem l1)
   have at3 : (es.map Prod.fst)[i]? = some here := by rw [eG]; exact B.there R hz
   have pre : (qs.take i).foldl (bN rows) [0] <+: qs := by
    have e := oj rows (qs.drop i) ((qs.take i).foldl (bN rows) [0])
    rw [<- List.foldl_append, List.take_append_drop, <- B.eq] at e
    exact e
   have PT : Part many wide rows (qs.take i) [] (es.map Prod.fst) := by
    refine ⟨eG, ?_, fun q hq => ?_, fun q hq => ?_⟩
    ·rw [eG]; exact B.nd.sublist pre.sublist
    ·rw [eG] at hq; exact B.inr q (pre.subset hq)
    ·rw [eG] at hq; exact (B.re q).mp (pre.subset hq)
   refine ⟨_, rfl, _, rfl, r, _, _, _, rfl, rfl, qT_ (s3 _ _ hr'), gh hh.1 e1, ra, rfl, ⟨_, qT_ (s3 _ _ e2)⟩, nC (K := K) (xs := rows[here.toNat].map V.int) (fun j σ' H' => ∃ (es : List (Int × Addr)) (ls : LL) (v4 v5 : OV),
     σ' = [some (.ref m), some (.int 0), some (.ref r), some (.ref D), some (.int here), v4, v5] /\ Same H H' /\ H' l = some (.lst (qs.map V.int)) /\ H' D = some (.dK (kvL es)) /\ LeadsIn H' es ls /\ LeadI wide rows i j (es.map Prod.fst) ls /\ (es.map Prod.fst, ls) = sy rows i (lY rows wide i) j /\ (es.map Prod.fst)[i]? = some here /\
     Part many wide rows (qs.take i) (rows[here.toNat].take j) (es.map Prod.fst))
    ⟨es, ls, v4, v5, rfl, s3, hl3, hD3, L3, F3, eN, at3, PT⟩ (fun i σ' H' _ ⟨_, _, _, _, _, e, _⟩ => qT_ (e _ _ e2)) ?_ ?_⟩
   ·rintro j x σ' H4 T hj ⟨es, ls, v4, v5, rfl, s4, hl4, hD4, L4, F4, eF, at4, P4⟩ hT
    obtain ⟨z, rfl, hz'⟩ := aY hj
    have hjl : j < rows[here.toNat].length := (gi_ hz').1
    have zin := R.val _ (List.getElem_mem l1) z (mq_ hz')
    have kl := aX many P4.nd P4.inr
    rw [lm_] at kl
    have stp : stepI rows here (j : Int) = z := by
     unfold stepI
     rw [getD_at l1, Int.toNat_natCast, getD_at hjl]
     exact (gi_ hz').2
    have tk : rows[here.toNat].take (j + 1) = rows[here.toNat].take j ++ [z] := by rw [List.take_add_one, hz']; rfl
    have hT0 : H T = none := s4.free hT
    have nTD : D ≠ T := fun z => by rw [<- z, hD4] at hT; cases hT
    have nTl : l ≠ T := fun z => by rw [<- z, hl4] at hT; cases hT
    obtain ⟨H5, eH5⟩ : ∃ H5, upd H4 T (HO.tup [V.int j, V.int z]) = H5 := ⟨_, rfl⟩
    have s5 : Same H H5 := by rw [<- eH5]; exact au s4 hT0
    have s45 : Same H4 H5 := by rw [<- eH5]; exact ah hT _
    have hD5 := s45 _ _ hD4
    have hl5 := s45 _ _ hl4
    have L5 : LeadsIn H5 es ls := L4.same fun b xs h => s45 _ _ h
    have hT5 : H5 T = some (.tup [V.int j, V.int z]) := by rw [<- eH5, ab]
    rw [eH5]
    obtain ⟨ai, hai⟩ : ∃ ai, es[i]? = some (here, ai) := by
     rw [List.getElem?_map] at at4
     obtain ⟨e, h1, h2⟩ := Option.map_eq_some_iff.mp at4
     exact ⟨e.2, by rw [h1, <- h2]⟩
    have il : i < es.length := (gi_ hai).1
    have il' : i < ls.length := by rw [<- L5.1]; exact il
    obtain ⟨ml, hml⟩ : ∃ ml, ls[i]? = some ml := ⟨_, List.getElem?_eq_getElem il'⟩
    have eS : sy rows i (lY rows wide i) (j + 1) = if z ∈ es.map Prod.fst then (es.map Prod.fst, ls) else (es.map Prod.fst ++ [z], ls ++ [ml ++ [(j : Int)]]) := by
     show qh rows i j (sy rows i (lY rows wide i) j) = _
     rw [<- eF]
     unfold qh
     have g1 : (es.map Prod.fst).getD i 0 = here := by rw [List.getD_eq_getElem?_getD, at4]; rfl
     have g2 : ls.getD i [] = ml := by rw [List.getD_eq_getElem?_getD, hml]; rfl
     dsimp only
     rw [g1, g2, stp]
    refine ⟨T, _, rfl, qT_ hT5, rfl, _, _, rfl, _, _, rfl, rfl, ?_⟩
    refine ⟨_, rfl, _, rfl, D, _, rfl, DGet.k (k := Sum.inl z) hD5, _, rfl, ?_⟩
    by_cases c : z ∈ es.map Prod.fst
    ·obtain ⟨a, ha⟩ : ∃ a, dk (kvL es) (Sum.inl z) = some (V.ref a) := by
      obtain ⟨jj, hjj, ejj⟩ := List.getElem_of_mem c
      have : es[jj]? = some (z, (es[jj]'(by simpa using hjj)).2) := by
       rw [List.getElem?_eq_getElem (by simpa using hjj), <- ejj, List.getElem_map]
      exact ⟨_, jr P4.nd this⟩
     rw [ha]
     refine jt ?_
     refine ⟨es, ls, _, _, rfl, s5, hl5, hD5, L5, F4.old at4 hml (by rw [stp]; exact c), by rw [eS, if_pos c], at4, ?_⟩
     rw [tk]
     exact P4.old c
    ·rw [l6 c]
     refine uK ?_
     have dg : DGet H5 D (V.int here) (some (V.ref ai)) := by
      have q := DGet.k (k := Sum.inl here) hD5
      rw [jr P4.nd hai] at q
      exact q
     refine ⟨_, rfl, _, rfl, D, V.ref ai, rfl, dg, _, rfl, (by show 1 <= sizeLine; decide), fun t ht => ?_⟩
     have ht0 : H t = none := s5.free ht
     have s6 := ah ht (HO.tup [V.int j])
     have hai5 := L5.2 i _ _ hai hml
     have mlen : ml.length <= 1000 := by
      have := F4.short hml
      omega
     have goal : ∀ (b : Addr) (H6 : Hp), Same H5 H6 -> Same H H6 -> H6 b = some (.tup ((ml ++ [(j : Int)]).map V.int)) -> ∃ (es' : List (Int × Addr)) (ls' : LL) (v4 v5 : OV),
       [some (V.ref m), some (V.int 0), some (V.ref r), some (V.ref D), some (V.int here), some (V.int j), some (V.int z)] = [some (V.ref m), some (V.int 0), some (V.ref r), some (V.ref D), some (V.int here), v4, v5] /\ Same H (upd H6 D (.dK (putK (kvL es) (Sum.inl z) (V.ref b)))) /\ (upd H6 D (.dK (putK (kvL es) (Sum.inl z) (V.ref b)))) l = some (.lst (qs.map V.int)) /\
       (upd H6 D (.dK (putK (kvL es) (Sum.inl z) (V.ref b)))) D = some (.dK (kvL es')) /\ LeadsIn (upd H6 D (.dK (putK (kvL es) (Sum.inl z) (V.ref b)))) es' ls' /\ LeadI wide rows i (j + 1) (es'.map Prod.fst) ls' /\ (es'.map Prod.fst, ls') = sy rows i (lY rows wide i) (j + 1) /\ (es'.map Prod.fst)[i]? = some here /\ Part many wide rows (qs.take i) (rows[here.toNat].take (j + 1)) (es'.map Prod.fst) := by
      intro b H6 s56 sH6 hb
      have hD6 := s56 _ _ hD5
      have tD : ∀ (c : Addr) (xs : List V), H6 c = some (.tup xs) -> (upd H6 D (.dK (putK (kvL es) (Sum.inl z) (V.ref b)))) c = some (.tup xs) := fun c xs h => by
       rw [ae (aB h hD6 (by intro z; cases z))]; exact h
      have em : (es ++ [(z, b)]).map Prod.fst = es.map Prod.fst ++ [z] := by rw [List.map_append]; rfl
      refine ⟨es ++ [(z, b)], ls ++ [ml ++ [(j : Int)]], _, _, rfl, au sH6 hD, by rw [ae nlD]; exact s56 _ _ hl5, by rw [ab, xR c], ?_, ?_, ?_, ?_, ?_⟩
      ·refine ⟨by rw [List.length_append, List.length_append, L5.1]; rfl, fun jj e l' he hl' => ?_⟩
       rcases snoc_cases he with he | ⟨rfl, rfl⟩
       ·rcases snoc_cases hl' with hl' | ⟨rfl, rfl⟩
        ·exact tD _ _ (s56 _ _ (L5.2 jj e l' he hl'))
        ·have := (gi_ he).1
         rw [L5.1] at this; omega
       ·rcases snoc_cases hl' with hl' | ⟨_, rfl⟩
        ·have := (gi_ hl').1
         rw [<- L5.1] at this; omega
        ·exact tD _ _ hb
      ·rw [em, <- stp]; exact F4.put at4 hml (by omega)
      ·rw [em, eS, if_neg c]
      ·rw [em]; exact gc at4
      ·rw [em, tk]; exact P4.put c zin.1 zin.2 (by rw [<- stp]; exact hre.step (by omega) (by omega))
     have hl6 : es.length < sizeLine := aw (by omega)
     refine ⟨ai, t, _, _, rfl, rfl, qT_ (s6 _ _ hai5), qT_ ab, Nat.le_of_lt (Nat.lt_of_le_of_lt (show _ <= 1001 by rw [lm_]; simp only [List.length_singleton]; omega) (by decide)), fun en => ?_, (fun _ z => by cases z), fun _ _ p hp => ?_⟩
     ·have en' : ml = [] := by simpa using en
      refine ⟨_, rfl, _, rfl, D, _, rfl, DPut.k (k := Sum.inl z) (s6 _ _ hD5) (by unfold kvL; rw [lm_]; exact hl6), goal t _ s6 (s5.trans s6) (by rw [ab, en']; rfl)⟩
     ·have s7 := s6.trans (ah hp (HO.tup (ml.map V.int ++ [V.int j])))
      refine ⟨_, rfl, _, rfl, D, _, rfl, DPut.k (k := Sum.inl z) (s7 _ _ hD5) (by unfold kvL; rw [lm_]; exact hl6), goal p _ s7 (s5.trans s7) (by rw [ab, List.map_append]; rfl)⟩
   ·rintro σ' H4 ⟨es, ls, v4, v5, rfl, s4, hl4, hD4, L4, F4, eF, at4, P4⟩
    rw [lm_, lr] at F4 eF
    rw [lm_, List.take_length] at P4
    refine ⟨es, ls, _, _, _, rfl, s4, hl4, hD4, L4, F4.turn, eF, ?_⟩
    rw [P4.eq, List.take_add_one, hz, List.foldl_append]
    show _ = bN rows _ here
    unfold bN
    rw [getD_at l1]
  ·rintro σ' H3 ⟨es, ls, v3, v4, v5, rfl, s3, hl3, hD3, L3, F3, eN, eG⟩
   rw [lm_] at F3 eN eG
   rw [List.take_length, <- B.eq] at eG
   rw [<- eG] at F3 eN B
   exact nxt _ _ ⟨es, ls, v3, v4, v5, rfl, s3, hD3, L3, B, F3, eN⟩
 rintro σ' H2 ⟨es, ls, v3, v4, v5, rfl, s2, hD2, L2', B, F2, eN⟩
 exact ⟨_, rfl, k D H2 es ls s2 hD2 L2' B F2 eN⟩
theorem zR (F : FunD K "leads" "leads" iT dV f fd) (iA : DefOk P w K mg base "first_rows" 2 ["machine", "start"] [] (qy K)) (aH : mg "tuple" = none) (bx : mg "range" = none) (aM : mg "len" = none) : FnOk P w K mg base CX0 3 f fd ["machine"] (uk K) := by
 refine F.ok sc_leads (fun vs H Q E h => ?_) (fun cdv A outer s H vs Q E hr h => ?_)
 ·obtain ⟨m, r, g, many, wide, rows, signs, rfl, _⟩ := h
  rfl
 obtain ⟨m, r, g, many, wide, rows, signs, rfl, M, R, ⟨n0, n1⟩, k⟩ := h
 obtain ⟨ras, hr', hA⟩ := M.rows
 have hu := gB hr
 refine oe (aS (PSW.mk (az (i := 1) sc_leads.nd rfl (Or.inr rfl) (bM iA hr (aa (pv 0) (aa ay af)))))
   (iZ (PSW.mk (bh (aN aP (by rfl) aH bE (aa (cq rfl bk_leads_0 (dG rfl bx (aa (aC aA (by rfl) aM bB (aa (aO bz (pv 0) ay (fun _ _ => rfl)) af)) af)) (fun _ _ _ _ => (ax (i := 0) bk_leads_0.nd rfl (Or.inl rfl))) (fun _ _ _ _ => (zo hu (pv 1) (pv 0) ⟨rfl, rfl, rfl, rfl⟩))) af)))))) ?_
 refine ⟨_, rfl, m, r, g, many, wide, rows, signs, rfl, M, R, ⟨n0, n1⟩, fun D H2 es ls s2 hD2 L2' B F2 eN => ?_⟩
 have lras : ras.length = many := (RowsAt.length hA).trans R.len
 refine ⟨_, rfl, m, _, _, _, rfl, rfl, qT_ (s2 _ _ M.tup), rfl, r, _, rfl, .inr (qT_ (s2 _ _ hr')), _, rfl, by rw [lm_, lras]; omega, by rw [lm_, lras]; omega, ?_⟩
 refine eU (fun L i ys H' => Same H2 H' /\ ys = (List.range i).map fun q : Nat => (dk (kvL es) (Sum.inl (q : Int))).getD .non) (fun L hL => ⟨ah hL _, rfl⟩) ?_ ?_
 ·rintro L i ys H' Q' hL hi hy ⟨hs, rfl⟩ k'
  rw [lm_, lras, Int.toNat_natCast] at hi
  refine ⟨_, rfl, D, rfl, .inl ⟨_, .inl (hs _ _ hD2)⟩, _, rfl, _, DGet.k (k := Sum.inl (0 + (i : Int))) (hs _ _ hD2), k' _ H' hy (aw (by rw [lm_, List.length_range]; omega)) ⟨au hs hL, ?_⟩⟩
  rw [List.range_succ, List.map_append, Int.zero_add]
  rfl
 rintro L ys H3 hL0 hL ⟨s3, rfl⟩
 rw [lm_, lras, Int.toNat_natCast] at hL
 refine ⟨L, _, rfl, .inl ⟨qL_ hL, fun t ht => ?_⟩⟩
 refine k t _ (es.map Prod.fst) ls _ (s2.trans (s3.trans (ah ht _))) B F2 eN ab (by rw [lm_, List.length_range]) (fun q hq hn => ?_) (fun j q l hj hl => ?_)
 ·rw [List.getElem?_map, List.getElem?_range hq]
  show some ((dk (kvL es) (Sum.inl (q : Int))).getD .non) = _
  rw [l6 hn]
  rfl
 ·have hq := B.inr q (mq_ hj)
  rw [List.getElem?_map] at hj
  obtain ⟨e, h1, h2⟩ := Option.map_eq_some_iff.mp hj
  have h1' : es[j]? = some (q, e.2) := by rw [h1, <- h2]
  refine ⟨e.2, ?_, (ah ht _) _ _ (s3 _ _ (L2'.2 j e l h1 hl))⟩
  rw [List.getElem?_map, List.getElem?_range (show q.toNat < many by omega)]
  show some ((dk (kvL es) (Sum.inl ((q.toNat : Nat) : Int))).getD .non) = _
  rw [Int.toNat_of_nonneg hq.1, jr B.nd h1']
  rfl
end
def grp (gs : LI) (x : Int) : Int := gs.getD x.toNat 0
structure PartOk (n : Nat) (gs : LI) (mm : LL) : Prop where
 lg : gs.length = n
 lm : mm.length = n
 rg : ∀ x : Nat, x < n -> 0 <= grp gs x /\ grp gs x < (n : Int)
 me : ∀ (g : Nat) (m : LI), mm[g]? = some m -> m.Nodup /\ (∀ x ∈ m, 0 <= x /\ x < (n : Int)) /\ ∀ x : Nat, x < n -> ((x : Int) ∈ m ↔ grp gs x = (g : Int))
def tw (mm : LL) (a b : Int) : Bool := decide ((mm.getD b.toNat []).length < (mm.getD a.toNat []).length)
def bH (gs : LI) (mm : LL) (x y : Int) : Int := if tw mm (grp gs x) (grp gs y) = true then grp gs y else grp gs x
def bJ (gs : LI) (mm : LL) (x y : Int) : Int := if tw mm (grp gs x) (grp gs y) = true then grp gs x else grp gs y
def cX (gs : LI) (s g : Int) : LI := gs.map fun k => if k = s then g else k
def joinM (mm : LL) (s g : Int) : LL := (mm.set g.toNat (mm.getD g.toNat [] ++ mm.getD s.toNat [])).set s.toNat []
theorem jo {n : Nat} {gs : LI} {s g : Int} (h : gs.length = n) {x : Nat} (hx : x < n) : grp (cX gs s g) x = if grp gs x = s then g else grp gs x := by
 unfold grp cX
 rw [Int.toNat_natCast, List.getD_eq_getElem?_getD, List.getElem?_map, List.getElem?_eq_getElem (by omega), List.getD_eq_getElem?_getD, List.getElem?_eq_getElem (by omega)]
 rfl
theorem PartOk.join {n : Nat} {gs : LI} {mm : LL} {s g : Nat} (h : PartOk n gs mm) (hs : s < n) (hg : g < n) (ne : s ≠ g) : PartOk n (cX gs s g) (joinM mm s g) where
 lg := by unfold cX; rw [lm_]; exact h.lg
 lm := by unfold joinM; rw [List.length_set, List.length_set]; exact h.lm
 rg := fun x hx => by
  rw [jo h.lg hx]
  split
  ·omega
  ·exact h.rg x hx
 me := fun k m hk => by
  unfold joinM at hk
  rw [Int.toNat_natCast, Int.toNat_natCast] at hk
  have lk : k < n := by
   have := (gi_ hk).1
   rw [List.length_set, List.length_set, h.lm] at this
   exact this
  have ms : mm[s]? = some (mm.getD s []) := by rw [List.getD_eq_getElem?_getD, List.getElem?_eq_getElem (by rw [h.lm]; exact hs)]; rfl
  have mg : mm[g]? = some (mm.getD g []) := by rw [List.getD_eq_getElem?_getD, List.getElem?_eq_getElem (by rw [h.lm]; exact hg)]; rfl
  by_cases e1 : k = s
  ·subst e1
   rw [List.getElem?_set_self (by rw [List.length_set, h.lm]; exact lk)] at hk
   cases hk
   refine ⟨List.nodup_nil, (fun x hx => by cases hx), fun x hx => ⟨(fun z => by cases z), fun z => ?_⟩⟩
   rw [jo h.lg hx] at z
   split at z <;> omega
  ·rw [List.getElem?_set_ne (Ne.symm e1)] at hk
   by_cases e2 : k = g
   ·subst e2
    rw [List.getElem?_set_self (by rw [h.lm]; exact lk)] at hk
    cases hk
    have hS := h.me s _ ms
    have hG := h.me k _ mg
    refine ⟨List.nodup_append.mpr ⟨hG.1, hS.1, fun a ha b hb e => ?_⟩, fun x hx => ?_, fun x hx => ?_⟩
    ·subst e
     have ra := hG.2.1 a ha
     have ea : a = ((a.toNat : Nat) : Int) := by omega
     rw [ea] at ha hb
     have h1 := (hG.2.2 a.toNat (by omega)).mp ha
     have h2 := (hS.2.2 a.toNat (by omega)).mp hb
     omega
    ·rcases ma_.mp hx with z | z
     ·exact hG.2.1 x z
     ·exact hS.2.1 x z
    ·rw [jo h.lg hx, List.mem_append, hG.2.2 x hx, hS.2.2 x hx]
     split <;> omega
   ·rw [List.getElem?_set_ne (Ne.symm e2)] at hk
    have hK := h.me k m hk
    refine ⟨hK.1, hK.2.1, fun x hx => ?_⟩
    rw [jo h.lg hx, hK.2.2 x hx]
    split <;> omega
theorem PartOk.start (n : Nat) : PartOk n ((List.range n).map fun i : Nat => (i : Int)) ((List.range n).map fun i : Nat => [(i : Int)]) where
 lg := by rw [lm_, List.length_range]
 lm := by rw [lm_, List.length_range]
 rg := fun x hx => by
  unfold grp
  rw [Int.toNat_natCast, List.getD_eq_getElem?_getD, List.getElem?_map, List.getElem?_range hx]
  show 0 <= (x : Int) /\ (x : Int) < (n : Int)
  omega
 me := fun g m hg => by
  rw [List.getElem?_map] at hg
  obtain ⟨k, h1, h2⟩ := Option.map_eq_some_iff.mp hg
  obtain ⟨h3, h4⟩ := gi_ h1
  rw [List.length_range] at h3
  rw [List.getElem_range] at h4
  subst h4 h2
  refine ⟨by simp, fun x hx => ?_, fun x hx => ?_⟩
  ·rw [List.mem_singleton.mp hx]; omega
  ·unfold grp
   rw [Int.toNat_natCast, List.getD_eq_getElem?_getD, List.getElem?_map, List.getElem?_range hx, List.mem_singleton]
   rfl
def MemAt (H : Hp) : List Addr -> LL -> Prop := Paired fun a m => H a = some (.lst (m.map V.int))
structure AlikeAt (H : Hp) (C o dx ga ma : Addr) (mas : List Addr) (gs : LI) (mm : LL) : Prop where
 obj : H o = some (.ins C dx [("group_of", .ref ga), ("members", .ref ma)])
 grp : H ga = some (.lst (gs.map V.int))
 mem : H ma = some (.lst (mas.map V.ref))
 each : MemAt H mas mm
 nd : mas.Nodup
 ng : ga ∉ mas
 nm : ma ∉ mas
 ngm : ga ≠ ma
theorem MemAt.length {H : Hp} {mas : List Addr} {mm : LL} (h : MemAt H mas mm) : mas.length = mm.length := Paired.length h
theorem MemAt.get : ∀ {H : Hp} {mas : List Addr} {mm : LL} {i : Nat}, MemAt H mas mm -> (h : i < mm.length) -> ∃ a, mas[i]? = some a /\ H a = some (.lst (mm[i].map V.int))
 | H, a :: mas, m :: mm, 0, .cons e t, h => ⟨a, rfl, e⟩
 | H, a :: mas, m :: mm, i + 1, .cons e t, h => by
  obtain ⟨b, h1, h2⟩ := MemAt.get (i := i) t (by simpa using h)
  exact ⟨b, h1, h2⟩
 | H, [], [], _, .nil, h => absurd h (Nat.not_lt_zero _)
theorem MemAt.frame {H H' : Hp} {mas : List Addr} {mm : LL} (h : MemAt H mas mm) (s : ∀ a ∈ mas, H' a = H a) : MemAt H' mas mm := by
 induction h with
 | nil => exact .nil
 | cons e t ih => exact .cons ((s _ List.mem_cons_self).trans e) (ih fun a ha => s a (List.mem_cons_of_mem _ ha))
theorem MemAt.set : ∀ {H H' : Hp} {mas : List Addr} {mm : LL} {i : Nat} {b : Addr} {m : LI}, MemAt H mas mm -> (∀ j a, j ≠ i -> mas[j]? = some a -> H' a = H a) -> H' b = some (.lst (m.map V.int)) -> MemAt H' (mas.set i b) (mm.set i m)
 | H, H', [], [], i, b, m, .nil, _, _ => .nil
 | H, H', a :: mas, x :: mm, 0, b, m, .cons e t, s, hb => .cons hb (MemAt.frame t fun c hc => by
   obtain ⟨j, hj, ej⟩ := List.getElem_of_mem hc
   exact s (j + 1) c (by omega) (by rw [List.getElem?_cons_succ, List.getElem?_eq_getElem hj, ej]))
 | H, H', a :: mas, x :: mm, i + 1, b, m, .cons e t, s, hb => .cons ((s 0 a (by omega) rfl).trans e) (MemAt.set t (fun j c hj hc => s (j + 1) c (by omega) hc) hb)
def jG (C : Addr) : Sp := fun vs H Q _ => ∃ (x dx : Addr) (n : Nat), vs = [.ref x, .int n] /\ H x = some (.ins C dx []) /\ n <= 1000 /\ ∀ (H' : Hp) (ga ma : Addr) (mas : List Addr), (∀ b u, b ≠ x -> H b = some u -> H' b = some u) -> H ga = none -> H ma = none -> (∀ a ∈ mas, H a = none) ->
 AlikeAt H' C x dx ga ma mas ((List.range n).map fun i : Nat => (i : Int)) ((List.range n).map fun i : Nat => [(i : Int)]) -> Q .non H'
theorem MemAt.snoc : ∀ {H : Hp} {mas : List Addr} {mm : LL} {a : Addr} {m : LI}, MemAt H mas mm -> H a = some (.lst (m.map V.int)) -> MemAt H (mas ++ [a]) (mm ++ [m])
 | H, [], [], a, m, .nil, h => .cons h .nil
 | H, b :: mas, x :: mm, a, m, .cons e t, h => .cons e (MemAt.snoc t h)
section
variable {P : Program} {w : World} {K : PySem.W.Frag} {mg : Str -> Option Value} {base : Heap} {f : Addr} {fd : FuncData} {dV : Value} {C : Addr}
theorem mv : FnScope ["self", "many"] ["self", "many"] (ak bG) := ⟨rfl, rfl, rfl, by decide +kernel, rfl, by decide +kernel, by decide +kernel⟩
theorem bk_Alike___init___0 : BlkScope ["self", "many"] (ak bG) ["here"] [none] { kind := ScopeKind.function, names := [(".0", NameKind.local), ("here", NameKind.local)], isGenerator := false, isCoroutine := false, more := [] } := ⟨rfl, by decide +kernel, by decide +kernel, by decide +kernel, by decide +kernel, rfl, by decide +kernel⟩
theorem sc_Alike_take_as_alike : FnScope ["self", "one", "other", "small", "great", "moved", "here"] ["self", "one", "other"] (ak bc) := ⟨rfl, rfl, rfl, by decide +kernel, rfl, by decide +kernel, by decide +kernel⟩
theorem sZ (F : FunD K "__init__" "Alike.__init__" bG dV f fd) (cl : Cls K C) (n1 : NoAttr K C "group_of") (n2 : NoAttr K C "members") (dj : mg "list" = none) (bx : mg "range" = none) : FnOk P w K mg base CX0 1 f fd ["self", "many"] (jG C) := by
 refine F.ok mv (fun vs H Q E h => ?_) (fun cdv A outer s H vs Q E hr h => ?_)
 ·obtain ⟨x, dx, n, rfl, _⟩ := h
  rfl
 obtain ⟨x, dx, n, rfl, hx, hn, k⟩ := h
 refine ⟨_, (aj (nF (pv 0) (pN rfl rfl dj rfl bx (aa (pv 1) af)) rfl)
   (av (nF (pv 0) (cq rfl bk_Alike___init___0 (dG rfl bx (aa (pv 1) af)) (fun _ _ _ _ => (ax (i := 0) bk_Alike___init___0.nd rfl (Or.inl rfl))) (fun _ _ _ _ => (cW (aa (pv 0) af)))) rfl))), ?_⟩
 refine ⟨_, rfl, n, rfl, small hn, fun ga hga => ?_⟩
 have nxg : x ≠ ga := aq hx hga
 refine ⟨_, rfl, x, C, dx, [], rfl, by rw [ae nxg]; exact hx, cl, n1, by decide, ?_⟩
 obtain ⟨H2, eH2⟩ : ∃ H2, upd (upd H ga (HO.lst ((List.range n).map fun i : Nat => V.int i))) x (HO.ins C dx (gQ "group_of" (V.ref ga) [])) = H2 := ⟨_, rfl⟩
 rw [eH2]
 have k2 : ∀ b u, b ≠ x -> H b = some u -> H2 b = some u := fun b u hb h => by
  rw [<- eH2, ae hb, ae (aq h hga)]; exact h
 have x2 : H2 x = some (.ins C dx [("group_of", .ref ga)]) := by rw [<- eH2, ab]; rfl
 have g2 : H2 ga = some (.lst ((List.range n).map fun i : Nat => V.int i)) := by rw [<- eH2, ae (Ne.symm nxg), ab]
 have f2 : ∀ {b}, H2 b = none -> H b = none := fun {b} h => by
  rcases Decidable.em (b = x) with z | z
  ·subst z; rw [x2] at h; cases h
  ·cases e : H b with
   | none => rfl
   | some u => rw [k2 b u z e] at h; cases h
 refine ⟨_, rfl, (n : Int), rfl, by omega, by omega, ?_⟩
 refine eU (fun D i ys H' => Same H2 H' /\ ∃ as : List Addr, ys = as.map V.ref /\ MemAt H' as ((List.range i).map fun i : Nat => [(i : Int)]) /\ as.Nodup /\ D ∉ as /\ ∀ a ∈ as, H2 a = none) (fun D hD => ⟨ah hD _, [], rfl, .nil, List.nodup_nil, by simp, by simp⟩) ?_ ?_
 ·rintro D i ys H' Q' hD hi hy ⟨hs, as, rfl, hM, nd, nD, fr⟩ k'
  rw [Int.toNat_natCast] at hi
  refine ⟨_, rfl, (by show 1 <= sizeLine; decide), fun l hl => ?_⟩
  have nlD : D ≠ l := aq hy hl
  have nl : l ∉ as := fun z => by
   obtain ⟨j, hj, ej⟩ := List.getElem_of_mem z
   obtain ⟨b, h1, h2⟩ := MemAt.get (i := j) hM (by rw [<- hM.length]; exact hj)
   rw [List.getElem?_eq_getElem hj, ej] at h1
   cases h1
   rw [hl] at h2
   cases h2
  have ll := hM.length
  rw [lm_, List.length_range] at ll
  refine k' _ _ (by rw [ae nlD]; exact hy) (aw (by rw [lm_]; omega)) ⟨au (au hs (hs.free hl)) hD, as ++ [l], by rw [List.map_append]; rfl, ?_, ?_, ?_, ?_⟩
  ·rw [List.range_succ, List.map_append]
   refine MemAt.snoc (hM.frame fun a ha => ?_) ?_
   ·rw [ae (fun z : a = D => nD (z ▸ ha)), ae (fun z : a = l => nl (z ▸ ha))]
   ·rw [ae (Ne.symm nlD), ab, Int.zero_add]
    rfl
  ·exact List.nodup_append.mpr ⟨nd, by simp, fun a ha b hb e => nl (by rw [<- List.mem_singleton.mp hb, <- e]; exact ha)⟩
  ·intro z
   rcases ma_.mp z with z | z
   ·exact nD z
   ·exact nlD (List.mem_singleton.mp z)
  ·intro a ha
   rcases ma_.mp ha with z | z
   ·exact fr a z
   ·rw [List.mem_singleton.mp z]; exact hs.free hl
 rintro D ys H3 hD0 hD ⟨s3, as, rfl, hM, nd, nD, fr⟩
 rw [Int.toNat_natCast] at hM
 have x3 := s3 _ _ x2
 refine ⟨_, rfl, x, C, dx, _, rfl, x3, cl, n2, by show 1 < 1000; decide, ?_⟩
 have nDx : D ≠ x := fun z => by rw [z, x2] at hD0; cases hD0
 refine k _ ga D as (fun b u hb h => ?_) hga (f2 hD0) (fun a ha => f2 (fr a ha)) ⟨?_, ?_, ?_, ?_, nd, ?_, nD, ?_⟩
 ·rw [ae hb]; exact s3 _ _ (k2 b u hb h)
 ·rw [ab]; rfl
 ·rw [ae (Ne.symm nxg), List.map_map]; exact s3 _ _ g2
 ·rw [ae nDx]; exact hD
 ·refine hM.frame fun a ha => ?_
  rw [ae (fun z : a = x => by have := fr a ha; rw [z, x2] at this; cases this)]
 ·intro z
  have := fr ga z
  rw [g2] at this
  cases this
 ·exact fun z => by rw [<- z, g2] at hD0; cases hD0
end
def putAll (g : Int) (xs gs : LI) : LI := xs.foldl (fun gs x => gs.set x.toNat g) gs
theorem lI (g : Int) : ∀ (xs gs : LI), (putAll g xs gs).length = gs.length
 | [], _ => rfl
 | x :: xs, gs => (lI g xs (gs.set x.toNat g)).trans (List.length_set ..)
theorem sh (g : Int) : ∀ (xs gs : LI) (j : Nat), (∀ x ∈ xs, 0 <= x) -> j < gs.length -> (putAll g xs gs)[j]? = if (j : Int) ∈ xs then some g else gs[j]?
 | [], gs, j, _, _ => by rw [if_neg (by simp)]; rfl
 | x :: xs, gs, j, h, hj => by
  have x0 := h x List.mem_cons_self
  show (putAll g xs (gs.set x.toNat g))[j]? = _
  rw [sh g xs (gs.set x.toNat g) j (fun y hy => h y (List.mem_cons_of_mem _ hy)) (by rw [List.length_set]; exact hj)]
  by_cases e1 : (j : Int) ∈ xs
  ·rw [if_pos e1, if_pos (List.mem_cons_of_mem _ e1)]
  ·rw [if_neg e1]
   by_cases e2 : (j : Int) = x
   ·rw [if_pos (by rw [e2]; exact List.mem_cons_self)]
    have : x.toNat = j := by omega
    rw [this, List.getElem?_set_self hj]
   ·rw [if_neg (by intro z; rcases List.mem_cons.mp z with z | z; exact e2 z; exact e1 z)]
    rw [List.getElem?_set_ne (by omega)]
theorem vy {n : Nat} {gs : LI} {mm : LL} {s : Nat} {g : Int} {m : LI} (h : PartOk n gs mm) (hm : mm[s]? = some m) : putAll g m gs = cX gs s g := by
 have M := h.me s m hm
 apply List.ext_getElem?
 intro j
 by_cases hj : j < gs.length
 ·rw [sh g m gs j (fun x hx => (M.2.1 x hx).1) hj]
  unfold cX
  have e : grp gs (j : Int) = gs[j] := by unfold grp; rw [Int.toNat_natCast, List.getD_eq_getElem?_getD, List.getElem?_eq_getElem hj]; rfl
  have q := M.2.2 j (by rw [<- h.lg]; exact hj)
  rw [e] at q
  rw [List.getElem?_map, List.getElem?_eq_getElem hj]
  by_cases c : (j : Int) ∈ m
  ·rw [if_pos c]
   show _ = some (if gs[j] = (s : Int) then g else gs[j])
   rw [if_pos (q.mp c)]
  ·rw [if_neg c]
   show _ = some (if gs[j] = (s : Int) then g else gs[j])
   rw [if_neg (fun z => c (q.mpr z))]
 ·rw [List.getElem?_eq_none (by rw [lI]; omega), List.getElem?_eq_none (by unfold cX; rw [lm_]; omega)]
theorem zV {n j : Nat} (h : j < n) : ixN n (j : Int) = some j := by
 unfold ixN
 rw [if_pos (by omega), if_pos (by omega), Int.toNat_natCast]
theorem sx : ∀ {l : List Addr} {i : Nat} {a : Addr}, l.Nodup -> a ∉ l -> (l.set i a).Nodup
 | [], _, _, _, _ => List.nodup_nil
 | b :: l, 0, a, nd, h => List.nodup_cons.mpr ⟨fun z => h (List.mem_cons_of_mem _ z), (List.nodup_cons.mp nd).2⟩
 | b :: l, i + 1, a, nd, h => by
  have nd' := List.nodup_cons.mp nd
  refine List.nodup_cons.mpr ⟨fun z => ?_, sx nd'.2 fun z => h (List.mem_cons_of_mem _ z)⟩
  rcases List.mem_or_eq_of_mem_set z with z | z
  ·exact nd'.1 z
  ·exact h (by rw [<- z]; exact List.mem_cons_self)
def xx (C : Addr) : Sp := fun vs H Q _ => ∃ (x dx ga ma : Addr) (mas : List Addr) (gs : LI) (mm : LL) (n : Nat) (a b : Int), vs = [.ref x, .int a, .int b] /\ AlikeAt H C x dx ga ma mas gs mm /\ PartOk n gs mm /\ n <= 1000 /\ (0 <= a /\ a < (n : Int)) /\ (0 <= b /\ b < (n : Int)) /\ grp gs a ≠ grp gs b /\
 ∀ (H' : Hp) (mas' : List Addr), (∀ c u, c ≠ ga -> c ≠ ma -> c ∉ mas -> H c = some u -> H' c = some u) -> (∀ c ∈ mas', c ∈ mas \/ H c = none) -> AlikeAt H' C x dx ga ma mas' (cX gs (bH gs mm a b) (bJ gs mm a b)) (joinM mm (bH gs mm a b) (bJ gs mm a b)) -> Q .non H'
section
variable {P : Program} {w : World} {K : PySem.W.Frag} {mg : Str -> Option Value} {base : Heap} {f : Addr} {fd : FuncData} {dV : Value} {C : Addr}
theorem Bw (F : FunD K "take_as_alike" "Alike.take_as_alike" bc dV f fd) (cl : Cls K C) (n1 : NoAttr K C "group_of") (n2 : NoAttr K C "members") (aM : mg "len" = none) : FnOk P w K mg base CX0 1 f fd ["self", "one", "other"] (xx C) := by
 refine F.ok sc_Alike_take_as_alike (fun vs H Q E h => ?_) (fun cdv A outer s H vs Q E hr h => ?_)
 ·obtain ⟨x, dx, ga, ma, mas, gs, mm, n, a, b, rfl, _⟩ := h
  rfl
 obtain ⟨x, dx, ga, ma, mas, gs, mm, n, a, b, rfl, AA, PO, hn, ⟨a0, a1⟩, ⟨b0, b1⟩, nab, k⟩ := h
 have lg := PO.lg
 have lM := AA.each.length
 have ra := PO.rg a.toNat (by omega)
 have rb := PO.rg b.toNat (by omega)
 have ea : ((a.toNat : Nat) : Int) = a := by omega
 have eb : ((b.toNat : Nat) : Int) = b := by omega
 rw [ea] at ra
 rw [eb] at rb
 have gAt : ∀ {y : Int}, 0 <= y -> y < (n : Int) -> atI (gs.map V.int) y = some (.int (grp gs y)) := fun {y} y0 y1 => cx y0 (by omega)
 have mAt : ∀ {g : Int}, 0 <= g -> g < (n : Int) -> ∃ c, mas[g.toNat]? = some c /\ atI (mas.map V.ref) g = some (.ref c) /\ H c = some (.lst ((mm.getD g.toNat []).map V.int)) /\ mm[g.toNat]? = some (mm.getD g.toNat []) := fun {g} g0 g1 => by
  have hl : g.toNat < mm.length := by rw [PO.lm]; omega
  obtain ⟨c, h1, h2⟩ := MemAt.get (i := g.toNat) AA.each hl
  refine ⟨c, h1, gh g0 h1, ?_, ?_⟩
  ·rw [List.getD_eq_getElem?_getD, List.getElem?_eq_getElem hl]; exact h2
  ·rw [List.getD_eq_getElem?_getD, List.getElem?_eq_getElem hl]; rfl
 refine ⟨_, (aj (az (i := 3) sc_Alike_take_as_alike.nd rfl (Or.inl rfl) (aO b9 (bC (pv 0) rfl) (pv 1) (fun _ _ => rfl)))
   (aj (az (i := 4) sc_Alike_take_as_alike.nd rfl (Or.inl rfl) (aO b9 (bC (pv 0) rfl) (pv 2) (fun _ _ => rfl)))
   (aj (dr (cu uR (aC aA (by rfl) aM bB (aa (aO b9 (bC (pv 0) rfl) (pv 3) (fun _ _ => rfl)) af)) (aC aA (by rfl) aM bB (aa (aO b9 (bC (pv 0) rfl) (pv 4) (fun _ _ => rfl)) af)) (bQ _)) (aj (az (i := 3) sc_Alike_take_as_alike.nd rfl (Or.inl rfl) (aO b9 (bC (pv 0) rfl) (pv 2) (fun _ _ => rfl)))
   (av (az (i := 4) sc_Alike_take_as_alike.nd rfl (Or.inl rfl) (aO b9 (bC (pv 0) rfl) (pv 1) (fun _ _ => rfl))))) bP)
   (aj (az (i := 5) sc_Alike_take_as_alike.nd rfl (Or.inl rfl) (aO b9 (bC (pv 0) rfl) (pv 3) (fun _ _ => rfl)))
   (aj (cf PassesOwn.never rfl (bO (pv 5)) (ax (i := 6) sc_Alike_take_as_alike.nd rfl (Or.inl rfl)) (av (uF (pv 4) (uH (bC (pv 0) rfl) (pv 6) set_list))))
   (aj (bD (fA PySem.F.plainAttrs_list PySem.F.slot_list_extend PySem.F.type_list_extend sk (aO b9 (bC (pv 0) rfl) (pv 4) (fun _ _ => rfl)) (aa (pv 5) af)))
   (av (uF (cW af) (uH (bC (pv 0) rfl) (pv 3) set_list))))))))), ?_⟩
 refine ⟨_, rfl, x, C, dx, _, _, rfl, AA.obj, cl, n1, rfl, _, rfl, ga, _, _, _, rfl, rfl, qL_ AA.grp, gAt a0 a1, ?_⟩
 refine ⟨_, rfl, x, C, dx, _, _, rfl, AA.obj, cl, n1, rfl, _, rfl, ga, _, _, _, rfl, rfl, qL_ AA.grp, gAt b0 b1, ?_⟩
 try dsimp only [bR]
 refine mO (t := zu _ _ _) (fun σ' H' => σ' = [some (.ref x), some (.int a), some (.int b), some (.int (bH gs mm a b)), some (.int (bJ gs mm a b)), none, none] /\ H = H') ?_ (fun nxt => ?_)
 rotate_left
 ·obtain ⟨ca, _, ma1, ma2, _⟩ := mAt ra.1 ra.2
  obtain ⟨cb, _, mb1, mb2, _⟩ := mAt rb.1 rb.2
  refine ⟨_, rfl, x, C, dx, _, _, rfl, AA.obj, cl, n2, rfl, _, rfl, ma, _, _, _, rfl, rfl, qL_ AA.mem, ma1, ca, _, rfl, .inl (qL_ ma2), ?_⟩
  refine ⟨_, rfl, x, C, dx, _, _, rfl, AA.obj, cl, n2, rfl, _, rfl, ma, _, _, _, rfl, rfl, qL_ AA.mem, mb1, cb, _, rfl, .inl (qL_ mb2), _, _, rfl, rfl, _, rfl, ?_⟩
  rw [lm_, lm_]
  have big : tw mm (grp gs a) (grp gs b) = decide ((((mm.getD (grp gs b).toNat []).length : Nat) : Int) < (((mm.getD (grp gs a).toNat []).length : Nat) : Int)) := by
   unfold tw
   rw [decide_eq_decide]
   omega
  refine qV (fun c => ?_) (fun c => ?_)
  ·refine ⟨_, rfl, x, C, dx, _, _, rfl, AA.obj, cl, n1, rfl, _, rfl, ga, _, _, _, rfl, rfl, qL_ AA.grp, gAt b0 b1, ?_⟩
   refine ⟨_, rfl, x, C, dx, _, _, rfl, AA.obj, cl, n1, rfl, _, rfl, ga, _, _, _, rfl, rfl, qL_ AA.grp, gAt a0 a1, ?_⟩
   refine nxt _ _ ⟨?_, rfl⟩
   unfold bH bJ
   rw [big, decide_eq_true c, if_pos rfl, if_pos rfl]
   rfl
  ·refine nxt _ _ ⟨?_, rfl⟩
   unfold bH bJ
   rw [big, decide_eq_false c, if_neg (by decide), if_neg (by decide)]
   rfl
 rintro σ' H' ⟨rfl, rfl⟩
 obtain ⟨sv, es⟩ : ∃ sv, bH gs mm a b = sv := ⟨_, rfl⟩
 obtain ⟨gv, eg⟩ : ∃ gv, bJ gs mm a b = gv := ⟨_, rfl⟩
 rw [es, eg] at k ⊢
 have rs : 0 <= sv /\ sv < (n : Int) := by rw [<- es]; unfold bH; split <;> omega
 have rg : 0 <= gv /\ gv < (n : Int) := by rw [<- eg]; unfold bJ; split <;> omega
 have nsg : sv ≠ gv := by rw [<- es, <- eg]; unfold bH bJ; split <;> omega
 obtain ⟨cs, ms0, ms1, ms2, ms3⟩ := mAt rs.1 rs.2
 obtain ⟨cg, mg0, mg1, mg2, mg3⟩ := mAt rg.1 rg.2
 obtain ⟨m, em⟩ : ∃ m, mm.getD sv.toNat [] = m := ⟨_, rfl⟩
 obtain ⟨m2, em2⟩ : ∃ m2, mm.getD gv.toNat [] = m2 := ⟨_, rfl⟩
 rw [em] at ms2 ms3
 rw [em2] at mg2 mg3
 have MS := PO.me _ _ ms3
 have MG := PO.me _ _ mg3
 have csm : cs ∈ mas := mq_ ms0
 have cgm : cg ∈ mas := mq_ mg0
 have ncs : cs ≠ cg := fun z => by
  obtain ⟨i1, e1⟩ := gi_ ms0
  obtain ⟨i2, e2⟩ := gi_ mg0
  have := (List.getElem_inj AA.nd).mp (e1.trans (z.trans e2.symm))
  omega
 have nga : ∀ {c}, c ∈ mas -> c ≠ ga := fun {c} h z => AA.ng (z ▸ h)
 have nma : ∀ {c}, c ∈ mas -> c ≠ ma := fun {c} h z => AA.nm (z ▸ h)
 refine ⟨_, rfl, x, C, dx, _, _, rfl, AA.obj, cl, n2, rfl, _, rfl, ma, _, _, _, rfl, rfl, qL_ AA.mem, ms1, ?_⟩
 have nxga : x ≠ ga := aB AA.obj AA.grp (by intro z; cases z)
 have nxma : x ≠ ma := aB AA.obj AA.mem (by intro z; cases z)
 have nxm : x ∉ mas := fun z => by
  obtain ⟨j, hj, ej⟩ := List.getElem_of_mem z
  obtain ⟨c, h1, h2⟩ := MemAt.get (i := j) AA.each (by rw [<- lM]; exact hj)
  rw [List.getElem?_eq_getElem hj, ej] at h1
  cases h1
  rw [AA.obj] at h2
  cases h2
 refine ⟨_, rfl, cs, rfl, ⟨_, qL_ ms2⟩, cL (K := K) (xs := m.map V.int) (fun i σ' H' => ∃ v6, σ' = [some (.ref x), some (.int a), some (.int b), some (.int sv), some (.int gv), some (.ref cs), v6] /\ (∀ c, c ≠ ga -> H' c = H c) /\ H' ga = some (.lst ((putAll gv (m.take i) gs).map V.int)))
  ⟨none, rfl, fun c _ => rfl, AA.grp⟩ (fun i σ' H' _ ⟨_, _, e, _⟩ => qL_ (by rw [e cs (nga csm)]; exact ms2)) ?_ ?_⟩
 ·rintro i y σ' H' hi ⟨v6, rfl, kk, hg'⟩
  obtain ⟨z, rfl, hz⟩ := aY hi
  have zr := MS.2.1 z (mq_ hz)
  have ez : ((z.toNat : Nat) : Int) = z := by omega
  refine ⟨_, rfl, _, rfl, x, C, dx, _, _, rfl, by rw [kk x nxga]; exact AA.obj, cl, n1, rfl, _, rfl, ga, _, z, z.toNat, rfl, rfl, hg', ?_, ?_⟩
  ·have := zV (n := ((putAll gv (m.take i) gs).map V.int).length) (j := z.toNat) (by rw [lm_, lI]; omega)
   rw [ez] at this
   exact this
  ·refine ⟨_, rfl, fun c hc => by rw [ae hc]; exact kk c hc, ?_⟩
   rw [ab, List.take_add_one, hz]
   unfold putAll
   rw [Option.toList_some, List.foldl_append, <- List.map_set]
   rfl
 rintro σ' H1 ⟨v6, rfl, k1, hg1⟩
 rw [lm_, List.take_length, vy PO ms3] at hg1
 have es1 : ((sv.toNat : Nat) : Int) = sv := by omega
 rw [es1] at hg1
 have hcs1 : H1 cs = some (.lst (m.map V.int)) := by rw [k1 cs (nga csm)]; exact ms2
 have hcg1 : H1 cg = some (.lst (m2.map V.int)) := by rw [k1 cg (nga cgm)]; exact mg2
 have hma1 : H1 ma = some (.lst (mas.map V.ref)) := by rw [k1 ma (Ne.symm AA.ngm)]; exact AA.mem
 have hx1 := AA.obj
 rw [<- k1 x nxga] at hx1
 have lm1 := aX n MS.1 MS.2.1
 have lm2 := aX n MG.1 MG.2.1
 refine ⟨_, rfl, x, C, dx, _, _, rfl, hx1, cl, n2, rfl, _, rfl, ma, _, _, _, rfl, rfl, qL_ hma1, mg1, .inl ⟨rfl, _, qL_ hcg1⟩, _, rfl, cg, cs, _, _, rfl, rfl, hcg1, hcs1, Nat.le_of_lt (Nat.lt_of_le_of_lt (show _ <= 2000 by rw [lm_, lm_]; omega) (by decide)), ?_⟩
 have hx2 : (upd H1 cg (HO.lst (m2.map V.int ++ m.map V.int))) x = some (.ins C dx [("group_of", .ref ga), ("members", .ref ma)]) := by rw [ae (fun z : x = cg => nxm (z ▸ cgm))]; exact hx1
 have hma2 : (upd H1 cg (HO.lst (m2.map V.int ++ m.map V.int))) ma = some (.lst (mas.map V.ref)) := by rw [ae (fun z : ma = cg => AA.nm (z ▸ cgm))]; exact hma1
 refine ⟨(by show 0 <= sizeLine; decide), fun l hl => ?_⟩
 have nlc : l ≠ cg := fun z => by rw [z, ab] at hl; cases hl
 have hl1 : H1 l = none := by rw [ae nlc] at hl; exact hl
 have nlg : l ≠ ga := fun z => by rw [z, hg1] at hl1; cases hl1
 have hl0 : H l = none := by rw [<- k1 l nlg]; exact hl1
 have nlma : l ≠ ma := fun z => by rw [z, AA.mem] at hl0; cases hl0
 have nlx : l ≠ x := fun z => by rw [z, AA.obj] at hl0; cases hl0
 have nlm : l ∉ mas := fun z => by
  obtain ⟨j, hj, ej⟩ := List.getElem_of_mem z
  obtain ⟨c, h1, h2⟩ := MemAt.get (i := j) AA.each (by rw [<- lM]; exact hj)
  rw [List.getElem?_eq_getElem hj, ej] at h1
  cases h1
  rw [hl0] at h2
  cases h2
 refine ⟨_, rfl, x, C, dx, _, _, rfl, by rw [ae (Ne.symm nlx)]; exact hx2, cl, n2, rfl, _, rfl, ma, _, sv, sv.toNat, rfl, rfl, by rw [ae (Ne.symm nlma)]; exact hma2, ?_, ?_⟩
 ·have := zV (n := (mas.map V.ref).length) (j := sv.toNat) (by rw [lm_, lM, PO.lm]; omega)
  rw [es1] at this
  exact this
 have keep : ∀ c, c ≠ ga -> c ≠ ma -> c ≠ cg -> c ≠ l -> (upd (upd (upd H1 cg (HO.lst (m2.map V.int ++ m.map V.int))) l (HO.lst [])) ma (HO.lst ((mas.map V.ref).set sv.toNat (V.ref l)))) c = H c := fun c c1 c2 c3 c4 => by
  rw [ae c2, ae c4, ae c3]; exact k1 c c1
 refine k _ (mas.set sv.toNat l) (fun c u c1 c2 c3 hc => ?_) (fun c hc => ?_) ⟨?_, ?_, ?_, ?_, ?_, ?_, ?_, AA.ngm⟩
 ·rw [keep c c1 c2 (fun z => c3 (z ▸ cgm)) (fun z => by rw [z, hl0] at hc; cases hc)]; exact hc
 ·rcases List.mem_or_eq_of_mem_set hc with z | z
  ·exact .inl z
  ·rw [z]; exact .inr hl0
 ·rw [keep x nxga nxma (fun z => nxm (z ▸ cgm)) (Ne.symm nlx)]; exact AA.obj
 ·rw [ae AA.ngm, ae (Ne.symm nlg), ae (fun z : ga = cg => AA.ng (z ▸ cgm))]; exact hg1
 ·rw [ab, List.map_set]
 ·unfold joinM
  rw [em, em2]
  have step1 : MemAt (upd H1 cg (HO.lst (m2.map V.int ++ m.map V.int))) (mas.set gv.toNat cg) (mm.set gv.toNat (m2 ++ m)) := by
   refine MemAt.set AA.each (fun j c hj hc => ?_) (by rw [ab, List.map_append])
   have cm : c ∈ mas := mq_ hc
   have : c ≠ cg := fun z => by
    obtain ⟨i1, e1⟩ := gi_ hc
    obtain ⟨i2, e2⟩ := gi_ mg0
    exact hj ((List.getElem_inj AA.nd).mp (e1.trans (z.trans e2.symm)))
   rw [ae this]
   exact k1 c (nga cm)
  have eset : mas.set gv.toNat cg = mas := by
   obtain ⟨i2, e2⟩ := gi_ mg0
   rw [<- e2]
   exact List.set_getElem_self i2
  rw [eset] at step1
  refine MemAt.set step1 (fun j c hj hc => ?_) (by rw [ae nlma, ab]; rfl)
  have cm : c ∈ mas := mq_ hc
  rw [ae (nma cm), ae (fun z : c = l => nlm (z ▸ cm))]
 ·exact sx AA.nd nlm
 ·exact fun z => by
   rcases List.mem_or_eq_of_mem_set z with z | z
   ·exact AA.ng z
   ·exact nlg z.symm
 ·exact fun z => by
   rcases List.mem_or_eq_of_mem_set z with z | z
   ·exact AA.nm z
   ·exact nlma z.symm
end
def cnt (n : Nat) (gs : LI) : Nat := ((List.range n).filter fun g : Nat => decide ((g : Int) ∈ gs)).length
theorem ye {p q : Nat -> Bool} : ∀ l : List Nat, (∀ x ∈ l, p x = true -> q x = true) -> (l.filter p).length <= (l.filter q).length
 | [], _ => Nat.le_refl _
 | x :: l, h => by
  have ih := ye l fun y hy => h y (List.mem_cons_of_mem _ hy)
  cases e : p x
  ·rw [List.filter_cons_of_neg (by rw [e]; decide)]
   cases e2 : q x
   ·rw [List.filter_cons_of_neg (by rw [e2]; decide)]; exact ih
   ·rw [List.filter_cons_of_pos e2, List.length_cons]; omega
  ·rw [List.filter_cons_of_pos e, List.filter_cons_of_pos (h x List.mem_cons_self e), List.length_cons, List.length_cons]
   omega
theorem xB {p q : Nat -> Bool} : ∀ l : List Nat, (∀ x ∈ l, p x = true -> q x = true) -> (∃ x ∈ l, q x = true /\ p x = false) -> (l.filter p).length < (l.filter q).length
 | [], _, h => by obtain ⟨x, hx, _⟩ := h; cases hx
 | x :: l, h, w => by
  have le := ye l fun y hy => h y (List.mem_cons_of_mem _ hy)
  by_cases c : q x = true /\ p x = false
  ·rw [List.filter_cons_of_neg (by rw [c.2]; decide), List.filter_cons_of_pos c.1, List.length_cons]
   omega
  ·have ih := xB l (fun y hy => h y (List.mem_cons_of_mem _ hy)) (by
    obtain ⟨y, hy, hq⟩ := w
    rcases List.mem_cons.mp hy with rfl | hy
    ·exact absurd hq c
    ·exact ⟨y, hy, hq⟩)
   cases e : p x
   ·rw [List.filter_cons_of_neg (by rw [e]; decide)]
    cases e2 : q x
    ·rw [List.filter_cons_of_neg (by rw [e2]; decide)]; exact ih
    ·rw [List.filter_cons_of_pos e2, List.length_cons]; omega
   ·rw [List.filter_cons_of_pos e, List.filter_cons_of_pos (h x List.mem_cons_self e), List.length_cons, List.length_cons]
    omega
theorem zD (n : Nat) (gs : LI) : cnt n gs <= n := by
 unfold cnt
 exact Nat.le_trans (List.length_filter_le ..) (by rw [List.length_range]; exact Nat.le_refl _)
theorem cnt_join {n : Nat} {gs : LI} {s g : Int} (hs : s ∈ gs) (hg : g ∈ gs) (s0 : 0 <= s) (s1 : s < (n : Int)) (ne : s ≠ g) : cnt n (cX gs s g) < cnt n gs := by
 unfold cnt
 refine xB _ (fun x hx h => ?_) ⟨s.toNat, List.mem_range.mpr (by omega), ?_, ?_⟩
 ·have h' := of_decide_eq_true h
  unfold cX at h'
  obtain ⟨k, hk, e⟩ := List.mem_map.mp h'
  refine decide_eq_true ?_
  split at e
  ·rw [<- e]; exact hg
  ·rw [<- e]; exact hk
 ·refine decide_eq_true ?_
  rw [Int.toNat_of_nonneg s0]
  exact hs
 ·refine decide_eq_false ?_
  rw [Int.toNat_of_nonneg s0]
  intro z
  unfold cX at z
  obtain ⟨k, hk, e⟩ := List.mem_map.mp z
  split at e
  ·exact ne e.symm
  ·rename_i c; exact c e
abbrev Tr := Int × Int × LI
abbrev LSt := (LI × LL) × List Tr
def fH (rows : LL) (u : Tr) (f : Nat) (st : LSt) : LSt :=
 if grp st.1.1 (stepI rows u.1 f) = grp st.1.1 (stepI rows u.2.1 f) then st else
  ((cX st.1.1 (bH st.1.1 st.1.2 (stepI rows u.1 f) (stepI rows u.2.1 f)) (bJ st.1.1 st.1.2 (stepI rows u.1 f) (stepI rows u.2.1 f)),
   joinM st.1.2 (bH st.1.1 st.1.2 (stepI rows u.1 f) (stepI rows u.2.1 f)) (bJ st.1.1 st.1.2 (stepI rows u.1 f) (stepI rows u.2.1 f))), st.2 ++ [(stepI rows u.1 f, stepI rows u.2.1 f, u.2.2 ++ [(f : Int)])])
def jk (rows : LL) (u : Tr) (st : LSt) : Nat -> LSt
 | 0 => st
 | f + 1 => fH rows u f (jk rows u st f)
def kG (rows : LL) (wide : Nat) (lv : List Tr) (st : LSt) : LSt := lv.foldl (fun st u => jk rows u st wide) st
def xw (H : Hp) (ta : Addr) (u : Tr) : Prop := ∃ ra, H ta = some (.tup [.int u.1, .int u.2.1, .ref ra]) /\ H ra = some (.tup (u.2.2.map V.int))
def TripsAt (H : Hp) : List Addr -> List Tr -> Prop := Paired (xw H)
theorem TripsAt.same {H H' : Hp} {tas : List Addr} {lv : List Tr} (h : TripsAt H tas lv) (s : ∀ b xs, H b = some (.tup xs) -> H' b = some (.tup xs)) : TripsAt H' tas lv := Paired.mapP h fun _ _ ⟨ra, e1, e2⟩ => ⟨ra, s _ _ e1, s _ _ e2⟩
theorem TripsAt.snoc : ∀ {H : Hp} {tas : List Addr} {lv : List Tr} {a : Addr} {u : Tr}, TripsAt H tas lv -> xw H a u -> TripsAt H (tas ++ [a]) (lv ++ [u])
 | H, [], [], a, u, .nil, h => .cons h .nil
 | H, b :: mas, x :: mm, a, m, .cons e t, h => .cons e (TripsAt.snoc t h)
theorem TripsAt.get : ∀ {H : Hp} {tas : List Addr} {lv : List Tr} {i : Nat} {ta : Addr}, TripsAt H tas lv -> tas[i]? = some ta -> ∃ u, lv[i]? = some u /\ xw H ta u
 | H, a :: mas, m :: mm, 0, ta, .cons e t, h => by cases h; exact ⟨m, rfl, e⟩
 | H, a :: mas, m :: mm, i + 1, ta, .cons e t, h => TripsAt.get (i := i) t h
 | H, [], [], i, ta, .nil, h => by cases h
theorem AlikeAt.tup {H : Hp} {C o dx ga ma : Addr} {mas : List Addr} {gs : LI} {mm : LL} (A : AlikeAt H C o dx ga ma mas gs mm) {c : Addr} {u : HO} (h : H c = some u) (nl : ∀ xs, u ≠ .lst xs) : c ≠ ga /\ c ≠ ma /\ c ∉ mas := by
 refine ⟨fun z => ?_, fun z => ?_, fun z => ?_⟩
 ·rw [z, A.grp] at h; exact nl _ (Option.some.inj h).symm
 ·rw [z, A.mem] at h; exact nl _ (Option.some.inj h).symm
 ·obtain ⟨j, hj, ej⟩ := List.getElem_of_mem z
  obtain ⟨b, h1, h2⟩ := MemAt.get (i := j) A.each (by rw [<- A.each.length]; exact hj)
  rw [List.getElem?_eq_getElem hj, ej] at h1
  cases h1
  rw [h] at h2
  exact nl _ (Option.some.inj h2)
def rQ (many lim : Nat) (u : Tr) : Prop := (0 <= u.1 /\ u.1 < (many : Int)) /\ (0 <= u.2.1 /\ u.2.1 < (many : Int)) /\ u.2.2.length <= lim
def uq (C : Addr) : Sp := fun vs H Q _ => ∃ (r x dx ga ma la : Addr) (ras mas tas : List Addr) (gs : LI) (mm : LL) (lv : List Tr) (many wide : Nat) (rows : LL), vs = [.ref r, .ref x, .ref la] /\ H r = some (.tup (ras.map V.ref)) /\ RowsAt H ras rows /\ RowsOk many wide rows /\ many <= 1000 /\
 AlikeAt H C x dx ga ma mas gs mm /\ PartOk many gs mm /\ (la ≠ ga /\ la ≠ ma /\ la ∉ mas) /\ H la = some (.lst (tas.map V.ref)) /\ TripsAt H tas lv /\ (∀ u ∈ lv, rQ many 1000 u) /\
 ∀ (H' : Hp) (fa : Addr) (mas' tas' : List Addr) (gs' : LI) (mm' : LL) (fr : List Tr), (∀ c u, c ≠ ga -> c ≠ ma -> c ∉ mas -> H c = some u -> H' c = some u) -> (∀ c ∈ mas', c ∈ mas \/ H c = none) -> AlikeAt H' C x dx ga ma mas' gs' mm' -> PartOk many gs' mm' ->
  H fa = none -> (fa ≠ ga /\ fa ≠ ma /\ fa ∉ mas') -> H' fa = some (.lst (tas'.map V.ref)) -> TripsAt H' tas' fr -> ((gs', mm'), fr) = kG rows wide lv ((gs, mm), []) -> fr.length + cnt many gs' <= cnt many gs -> Q (.ref fa) H'
section
variable {P : Program} {w : World} {K : PySem.W.Frag} {mg : Str -> Option Value} {base : Heap} {f : Addr} {fd : FuncData} {dV : Value} {C : Addr}
theorem sc_led_on : FnScope ["rows", "alike", "level", "fresh", "here", "there", "row", "figure", "one", "other"] ["rows", "alike", "level"] (ak gZ) := ⟨rfl, rfl, rfl, by decide +kernel, rfl, by decide +kernel, by decide +kernel⟩
theorem yY (F : FunD K "led_on" "led_on" gZ dV f fd) (GE_take_as_alike : DefMe P w K mg base C "take_as_alike" 1 ["self", "one", "other"] (xx C)) (n1 : NoAttr K C "group_of") (aV : mg "enumerate" = none) : FnOk P w K mg base CX0 2 f fd ["rows", "alike", "level"] (uq C) := by
 refine F.ok sc_led_on (fun vs H Q E h => ?_) (fun cdv A outer s H vs Q E hr h => ?_)
 ·obtain ⟨r, x, dx, ga, ma, la, ras, mas, tas, gs, mm, lv, many, wide, rows, rfl, _⟩ := h
  rfl
 obtain ⟨r, x, dx, ga, ma, la, ras, mas0, tas0, gs0, mm0, lv, many, wide, rows, rfl, hr0, hA, R, hn, AA0, PO0, ⟨l1, l2, l3⟩, hla, hT0, lok, k⟩ := h
 have cl := GE_take_as_alike.cl
 have hu := gB hr
 refine oe (aS (PSW.mk (az (i := 3) sc_led_on.nd rfl (Or.inl rfl) (cW af)))
   (aS (BM PassesOwn.never rfl (bO (pv 2)) (ic rfl (bt (ax (i := 4) sc_led_on.nd rfl (Or.inl rfl)) (bt (ax (i := 5) sc_led_on.nd rfl (Or.inl rfl)) (bt (ax (i := 6) sc_led_on.nd rfl (Or.inl rfl)) fQ)))) (iZ (BM PassesOwn.never rfl (p9 rfl aV (aa (aO bz (pv 0) (pv 4) (fun _ _ => rfl)) af)) (ic rfl (bt (ax (i := 7) sc_led_on.nd rfl (Or.inl rfl)) (bt (ax (i := 8) sc_led_on.nd rfl (Or.inl rfl)) fQ))) (aS (PSW.mk (az (i := 9) sc_led_on.nd rfl (Or.inl rfl) (aO bz (aO bz (pv 0) (pv 5) (fun _ _ => rfl)) (pv 7) (fun _ _ => rfl))))
   (iZ (DB (PTW.mk (cu sE (aO b9 (bC (pv 1) rfl) (pv 8) (fun _ _ => rfl)) (aO b9 (bC (pv 1) rfl) (pv 9) (fun _ _ => rfl)) (bQ _))) (aS (PSW.mk (bD (vM GE_take_as_alike hr (pv 1) (aa (pv 8) (aa (pv 9) af)))))
   (iZ (BR (PEW.mk (fA PySem.F.plainAttrs_list PySem.F.slot_list_append PySem.F.type_list_append bF (pv 3) (aa (dD (aa (pv 8) (aa (pv 9) (aa (aU yb (pv 6) (dD (aa (pv 7) af))) af)))) af)))))) BU))))))
   (iZ (PSW.mk (bh (pv 3)))))) ?_
 refine ⟨(by show 0 <= sizeLine; decide), fun fa hfa => ?_⟩
 try dsimp only [bR]
 obtain ⟨H1, eH1⟩ : ∃ H1, upd H fa (HO.lst []) = H1 := ⟨_, rfl⟩
 rw [eH1]
 have s1 : Same H H1 := by rw [<- eH1]; exact ah hfa _
 have hfa1 : H1 fa = some (.lst ([].map V.ref)) := by rw [<- eH1, ab]; rfl
 have fa0 : fa ≠ ga /\ fa ≠ ma /\ fa ∉ mas0 := by
  refine ⟨fun z => ?_, fun z => ?_, fun z => ?_⟩
  ·rw [z, AA0.grp] at hfa; cases hfa
  ·rw [z, AA0.mem] at hfa; cases hfa
  ·obtain ⟨j, hj, ej⟩ := List.getElem_of_mem z
   obtain ⟨b, h1, h2⟩ := MemAt.get (i := j) AA0.each (by rw [<- AA0.each.length]; exact hj)
   rw [List.getElem?_eq_getElem hj, ej] at h1
   cases h1
   rw [hfa] at h2
   cases h2
 have AA1 : AlikeAt H1 C x dx ga ma mas0 gs0 mm0 := by
  refine ⟨s1 _ _ AA0.obj, s1 _ _ AA0.grp, s1 _ _ AA0.mem, AA0.each.frame fun a ha => ?_, AA0.nd, AA0.ng, AA0.nm, AA0.ngm⟩
  rw [<- eH1, ae (fun z : a = fa => fa0.2.2 (z ▸ ha))]
 have tup0 : ∀ {H' : Hp}, (∀ c u, c ≠ ga -> c ≠ ma -> c ∉ mas0 -> H c = some u -> H' c = some u) -> ∀ b xs, H b = some (.tup xs) -> H' b = some (.tup xs) := fun {H'} kk b xs h => by
  obtain ⟨q1, q2, q3⟩ := AA0.tup h (by intro xs z; cases z)
  exact kk _ _ q1 q2 q3 h
 refine mO (t := oQ _ _ _) (fun σ' H' => ∃ (mas tas : List Addr) (gs : LI) (mm : LL) (fr : List Tr) (v4 v5 v6 v7 v8 v9 : OV), σ' = [some (.ref r), some (.ref x), some (.ref la), some (.ref fa), v4, v5, v6, v7, v8, v9] /\ (∀ c u, c ≠ ga -> c ≠ ma -> c ∉ mas0 -> H c = some u -> H' c = some u) /\ (∀ c ∈ mas, c ∈ mas0 \/ H c = none) /\
   AlikeAt H' C x dx ga ma mas gs mm /\ PartOk many gs mm /\ fa ∉ mas /\ H' fa = some (.lst (tas.map V.ref)) /\ TripsAt H' tas fr /\ ((gs, mm), fr) = kG rows wide lv ((gs0, mm0), []) /\ fr.length + cnt many gs <= cnt many gs0) ?_ (fun nxt => ?_)
 rotate_left
 ·refine ⟨_, rfl, la, rfl, ⟨_, qL_ (s1 _ _ hla)⟩, cL (K := K) (xs := tas0.map V.ref) (fun i σ' H' => ∃ (mas tas : List Addr) (gs : LI) (mm : LL) (fr : List Tr) (v4 v5 v6 v7 v8 v9 : OV), σ' = [some (.ref r), some (.ref x), some (.ref la), some (.ref fa), v4, v5, v6, v7, v8, v9] /\ (∀ c u, c ≠ ga -> c ≠ ma -> c ∉ mas0 -> H c = some u -> H' c = some u) /\ (∀ c ∈ mas, c ∈ mas0 \/ H c = none) /\
   AlikeAt H' C x dx ga ma mas gs mm /\ PartOk many gs mm /\ fa ∉ mas /\ H' fa = some (.lst (tas.map V.ref)) /\ TripsAt H' tas fr /\ ((gs, mm), fr) = kG rows wide (lv.take i) ((gs0, mm0), []) /\ fr.length + cnt many gs <= cnt many gs0)
   ⟨mas0, [], gs0, mm0, [], none, none, none, none, none, none, rfl, fun c u _ _ _ h => s1 _ _ h, fun c hc => .inl hc, AA1, PO0, fa0.2.2, hfa1, .nil, rfl, by rw [List.length_nil, Nat.zero_add]; exact Nat.le_refl _⟩
   (fun i σ' H' _ ⟨_, _, _, _, _, _, _, _, _, _, _, _, kk, _⟩ => qL_ (kk _ _ l1 l2 l3 hla)) ?_ ?_⟩
  ·rintro i y σ' H2 hi ⟨mas, tas, gs, mm, fr, v4, v5, v6, v7, v8, v9, rfl, k2, g2, AA2, PO2, nf2, hf2, T2, e2, c2⟩
   rw [List.getElem?_map] at hi
   obtain ⟨ta, hta, rfl⟩ := Option.map_eq_some_iff.mp hi
   obtain ⟨u, hu', ra, hu1, hu2⟩ := hT0.get hta
   obtain ⟨⟨a0, a1⟩, ⟨b0, b1⟩, rl⟩ := lok u (mq_ hu')
   have la1 : u.1.toNat < rows.length := by rw [R.len]; omega
   have lb1 : u.2.1.toNat < rows.length := by rw [R.len]; omega
   obtain ⟨pa, pa1, pa2⟩ := hA.get la1
   obtain ⟨pb, pb1, pb2⟩ := hA.get lb1
   have lra : rows[u.1.toNat].length = wide := R.row _ (List.getElem_mem la1)
   have lrb : rows[u.2.1.toNat].length = wide := R.row _ (List.getElem_mem lb1)
   refine ⟨ta, _, rfl, qT_ (tup0 k2 _ _ hu1), rfl, _, _, rfl, _, _, rfl, _, _, rfl, rfl, ?_⟩
   refine ⟨_, rfl, _, rfl, r, _, _, _, rfl, rfl, qT_ (tup0 k2 _ _ hr0), gh a0 pa1, pa, rfl, ⟨_, qT_ (tup0 k2 _ _ pa2)⟩, nC (K := K) (xs := rows[u.1.toNat].map V.int) (fun j σ' H' => ∃ (mas tas : List Addr) (gs : LI) (mm : LL) (fr : List Tr) (v7 v8 v9 : OV), σ' = [some (.ref r), some (.ref x), some (.ref la), some (.ref fa), some (.int u.1), some (.int u.2.1), some (.ref ra), v7, v8, v9] /\ (∀ c u, c ≠ ga -> c ≠ ma -> c ∉ mas0 -> H c = some u -> H' c = some u) /\ (∀ c ∈ mas, c ∈ mas0 \/ H c = none) /\
     AlikeAt H' C x dx ga ma mas gs mm /\ PartOk many gs mm /\ fa ∉ mas /\ H' fa = some (.lst (tas.map V.ref)) /\ TripsAt H' tas fr /\ ((gs, mm), fr) = jk rows u (kG rows wide (lv.take i) ((gs0, mm0), [])) j /\ fr.length + cnt many gs <= cnt many gs0)
    ⟨mas, tas, gs, mm, fr, v7, v8, v9, rfl, k2, g2, AA2, PO2, nf2, hf2, T2, e2, c2⟩ (fun i σ' H' _ ⟨_, _, _, _, _, _, _, _, _, kk, _⟩ => qT_ (tup0 kk _ _ pa2)) ?_ ?_⟩
   ·rintro j y σ' H3 T hj ⟨mas, tas, gs, mm, fr, v7, v8, v9, rfl, k3, g3, AA3, PO3, nf3, hf3, T3, e3, c3⟩ hT
    obtain ⟨z, rfl, hz⟩ := aY hj
    have hjl : j < rows[u.1.toNat].length := (gi_ hz).1
    have zin := R.val _ (List.getElem_mem la1) z (mq_ hz)
    have stA : stepI rows u.1 (j : Int) = z := by
     unfold stepI
     rw [getD_at la1, Int.toNat_natCast, getD_at hjl]
     exact (gi_ hz).2
    obtain ⟨z2, ez2⟩ : ∃ z2, stepI rows u.2.1 (j : Int) = z2 := ⟨_, rfl⟩
    have hjb : j < rows[u.2.1.toNat].length := by omega
    have atB : atI (rows[u.2.1.toNat].map V.int) (j : Int) = some (.int z2) := by
     have q := cx (ns := rows[u.2.1.toNat]) (k := (j : Int)) (by omega) (by omega)
     have e : rows[u.2.1.toNat].getD (j : Int).toNat 0 = z2 := by
      rw [<- ez2]
      unfold stepI
      rw [getD_at lb1]
     rw [e] at q
     exact q
    have z2in : 0 <= z2 /\ z2 < (many : Int) := by
     have e : z2 = rows[u.2.1.toNat][j] := by
      rw [<- ez2]
      unfold stepI
      rw [getD_at lb1, Int.toNat_natCast, getD_at hjb]
     rw [e]
     exact R.val _ (List.getElem_mem lb1) _ (List.getElem_mem hjb)
    obtain ⟨H4, eH4⟩ : ∃ H4, upd H3 T (HO.tup [V.int j, V.int z]) = H4 := ⟨_, rfl⟩
    have s4 : Same H3 H4 := by rw [<- eH4]; exact ah hT _
    have hT4 : H4 T = some (.tup [V.int j, V.int z]) := by rw [<- eH4, ab]
    rw [eH4]
    have AA4 : AlikeAt H4 C x dx ga ma mas gs mm := by
     refine ⟨s4 _ _ AA3.obj, s4 _ _ AA3.grp, s4 _ _ AA3.mem, ?_, AA3.nd, AA3.ng, AA3.nm, AA3.ngm⟩
     exact Paired.mapP AA3.each fun _ _ q => s4 _ _ q
    have k4 : ∀ c u, c ≠ ga -> c ≠ ma -> c ∉ mas0 -> H c = some u -> H4 c = some u := fun c u q1 q2 q3 h => s4 _ _ (k3 c u q1 q2 q3 h)
    have lgs := PO3.lg
    have gAt : ∀ {y : Int}, 0 <= y -> y < (many : Int) -> atI (gs.map V.int) y = some (.int (grp gs y)) := fun {y} y0 y1 => cx y0 (by omega)
    refine ⟨T, _, rfl, qT_ hT4, rfl, _, _, rfl, _, _, rfl, rfl, ?_⟩
    refine ⟨_, rfl, _, rfl, r, _, _, _, rfl, rfl, qT_ (tup0 k4 _ _ hr0), gh b0 pb1, _, rfl, pb, _, _, _, rfl, rfl, qT_ (tup0 k4 _ _ pb2), atB, ?_⟩
    refine ⟨_, rfl, x, C, dx, _, _, rfl, AA4.obj, cl, n1, rfl, _, rfl, ga, _, _, _, rfl, rfl, qL_ AA4.grp, gAt zin.1 zin.2, ?_⟩
    refine ⟨_, rfl, x, C, dx, _, _, rfl, AA4.obj, cl, n1, rfl, _, rfl, ga, _, _, _, rfl, rfl, qL_ AA4.grp, gAt z2in.1 z2in.2, rfl, _, rfl, ?_⟩
    have eS : jk rows u (kG rows wide (lv.take i) ((gs0, mm0), [])) (j + 1) = if grp gs z = grp gs z2 then ((gs, mm), fr) else ((cX gs (bH gs mm z z2) (bJ gs mm z z2), joinM mm (bH gs mm z z2) (bJ gs mm z z2)), fr ++ [(z, z2, u.2.2 ++ [(j : Int)])]) := by
     show fH rows u j (jk rows u (kG rows wide (lv.take i) ((gs0, mm0), [])) j) = _
     rw [<- e3]
     unfold fH
     dsimp only
     rw [stA, ez2]
    refine oy (fun c => ?_) (fun c => ?_)
    ·have nab : grp gs z ≠ grp gs z2 := fun q => c (by rw [q])
     refine ⟨_, rfl, x, dx, _, rfl, AA4.obj, rfl, _, rfl, _, rfl, x, dx, ga, ma, mas, gs, mm, many, z, z2, rfl, AA4, PO3, hn, zin, z2in, nab, fun H5 mas5 k5 g5 AA5 => ?_⟩
     have hf4 := s4 _ _ hf3
     have tup5 : ∀ c xs, H4 c = some (.tup xs) -> H5 c = some (.tup xs) := fun c xs h => by
      obtain ⟨q1, q2, q3⟩ := AA4.tup h (by intro xs z; cases z)
      exact k5 _ _ q1 q2 q3 h
     have hf5 : H5 fa = some (.lst (tas.map V.ref)) := k5 _ _ fa0.1 fa0.2.1 nf3 hf4
     have nf5 : fa ∉ mas5 := fun q => by
      rcases g5 fa q with q | q
      ·exact nf3 q
      ·rw [hf4] at q; cases q
     have hra5 : H5 ra = some (.tup (u.2.2.map V.int)) := tup5 _ _ (tup0 k4 _ _ hu2)
     have k5' : ∀ c u, c ≠ ga -> c ≠ ma -> c ∉ mas0 -> H c = some u -> H5 c = some u := fun c u q1 q2 q3 h => by
      refine k5 c u q1 q2 (fun q => ?_) (k4 c u q1 q2 q3 h)
      rcases g3 c q with q | q
      ·exact q3 q
      ·rw [h] at q; cases q
     have g5' : ∀ c ∈ mas5, c ∈ mas0 \/ H c = none := fun c hc => by
      rcases g5 c hc with q | q
      ·exact g3 c q
      ·by_cases m0 : c ∈ mas0
       ·exact .inl m0
       ·refine .inr ?_
        cases e : H c with
        | none => rfl
        | some v =>
         have q1 : c ≠ ga := fun z => by rw [z, AA4.grp] at q; cases q
         have q2 : c ≠ ma := fun z => by rw [z, AA4.mem] at q; cases q
         rw [k4 c v q1 q2 m0 e] at q
         cases q
     have ga_in : ∀ {y : Int}, 0 <= y -> y < (many : Int) -> grp gs y ∈ gs := fun {y} y0 y1 => by
      unfold grp
      have hl : y.toNat < gs.length := by omega
      rw [List.getD_eq_getElem?_getD, List.getElem?_eq_getElem hl]
      exact List.getElem_mem hl
     have rz := PO3.rg z.toNat (by omega)
     have rz2 := PO3.rg z2.toNat (by omega)
     rw [Int.toNat_of_nonneg zin.1] at rz
     rw [Int.toNat_of_nonneg z2in.1] at rz2
     obtain ⟨sv, es⟩ : ∃ sv, bH gs mm z z2 = sv := ⟨_, rfl⟩
     obtain ⟨gv, eg⟩ : ∃ gv, bJ gs mm z z2 = gv := ⟨_, rfl⟩
     rw [es, eg] at AA5 eS
     have rs : (0 <= sv /\ sv < (many : Int)) /\ sv ∈ gs := by
      rw [<- es]
      unfold bH
      split
      ·exact ⟨rz2, ga_in z2in.1 z2in.2⟩
      ·exact ⟨rz, ga_in zin.1 zin.2⟩
     have rg : (0 <= gv /\ gv < (many : Int)) /\ gv ∈ gs := by
      rw [<- eg]
      unfold bJ
      split
      ·exact ⟨rz, ga_in zin.1 zin.2⟩
      ·exact ⟨rz2, ga_in z2in.1 z2in.2⟩
     have nsg : sv ≠ gv := by rw [<- es, <- eg]; unfold bH bJ; split <;> omega
     have PO5 : PartOk many (cX gs sv gv) (joinM mm sv gv) := by
      have q := PO3.join (s := sv.toNat) (g := gv.toNat) (by omega) (by omega) (by omega)
      rw [Int.toNat_of_nonneg rs.1.1, Int.toNat_of_nonneg rg.1.1] at q
      exact q
     have c5 := cnt_join rs.2 rg.2 rs.1.1 rs.1.2 nsg
     have cl5 := zD many gs0
     have goal : ∀ (b : Addr) (H6 : Hp), Same H5 H6 -> H6 b = some (.tup ((u.2.2 ++ [(j : Int)]).map V.int)) -> ∀ tt, H6 tt = none -> ∃ (mas tas' : List Addr) (gs : LI) (mm : LL) (fr : List Tr) (v7 v8 v9 : OV),
       [some (V.ref r), some (V.ref x), some (V.ref la), some (V.ref fa), some (V.int u.1), some (V.int u.2.1), some (V.ref ra), some (V.int j), some (V.int z), some (V.int z2)] = [some (.ref r), some (.ref x), some (.ref la), some (.ref fa), some (.int u.1), some (.int u.2.1), some (.ref ra), v7, v8, v9] /\
       (∀ c u, c ≠ ga -> c ≠ ma -> c ∉ mas0 -> H c = some u -> (upd (upd H6 tt (HO.tup [V.int z, V.int z2, V.ref b])) fa (HO.lst (tas.map V.ref ++ [V.ref tt]))) c = some u) /\ (∀ c ∈ mas, c ∈ mas0 \/ H c = none) /\
       AlikeAt (upd (upd H6 tt (HO.tup [V.int z, V.int z2, V.ref b])) fa (HO.lst (tas.map V.ref ++ [V.ref tt]))) C x dx ga ma mas gs mm /\ PartOk many gs mm /\ fa ∉ mas /\ (upd (upd H6 tt (HO.tup [V.int z, V.int z2, V.ref b])) fa (HO.lst (tas.map V.ref ++ [V.ref tt]))) fa = some (.lst (tas'.map V.ref)) /\
       TripsAt (upd (upd H6 tt (HO.tup [V.int z, V.int z2, V.ref b])) fa (HO.lst (tas.map V.ref ++ [V.ref tt]))) tas' fr /\ ((gs, mm), fr) = jk rows u (kG rows wide (lv.take i) ((gs0, mm0), [])) (j + 1) /\ fr.length + cnt many gs <= cnt many gs0 := by
      intro b H6 s6 hb tt htt
      have hf6 := s6 _ _ hf5
      have nft : fa ≠ tt := aq hf6 htt
      have keepc : ∀ c v, H6 c = some v -> c ≠ fa -> (upd (upd H6 tt (HO.tup [V.int z, V.int z2, V.ref b])) fa (HO.lst (tas.map V.ref ++ [V.ref tt]))) c = some v := fun c v h q => by
       rw [ae q, ae (aq h htt)]; exact h
      have keept : ∀ c xs, H6 c = some (.tup xs) -> (upd (upd H6 tt (HO.tup [V.int z, V.int z2, V.ref b])) fa (HO.lst (tas.map V.ref ++ [V.ref tt]))) c = some (.tup xs) := fun c xs h => keepc c _ h (aB h hf6 (by intro z; cases z))
      refine ⟨mas5, tas ++ [tt], cX gs sv gv, joinM mm sv gv, fr ++ [(z, z2, u.2.2 ++ [(j : Int)])], _, _, _, rfl, fun c v q1 q2 q3 h => keepc c v (s6 _ _ (k5' c v q1 q2 q3 h)) (fun q => by rw [q, hfa] at h; cases h), g5', ?_, PO5, nf5, ?_, ?_, ?_, ?_⟩
      ·refine ⟨keepc _ _ (s6 _ _ AA5.obj) (aB (s6 _ _ AA5.obj) hf6 (by intro z; cases z)), keepc _ _ (s6 _ _ AA5.grp) (Ne.symm fa0.1), keepc _ _ (s6 _ _ AA5.mem) (Ne.symm fa0.2.1), ?_, AA5.nd, AA5.ng, AA5.nm, AA5.ngm⟩
       refine MemAt.frame (H := H6) (Paired.mapP AA5.each fun _ _ q => s6 _ _ q) fun c hc => ?_
       obtain ⟨jj, hjj, ej⟩ := List.getElem_of_mem hc
       obtain ⟨c', h1, h2⟩ := MemAt.get (i := jj) AA5.each (by rw [<- AA5.each.length]; exact hjj)
       rw [List.getElem?_eq_getElem hjj, ej] at h1
       cases h1
       rw [keepc c _ (s6 _ _ h2) (fun q => nf5 (q ▸ hc)), s6 _ _ h2]
      ·rw [ab, List.map_append]; rfl
      ·refine TripsAt.snoc (T3.same fun c xs h => keept c xs (s6 _ _ (tup5 c xs (s4 _ _ h)))) ⟨b, ?_, keept _ _ hb⟩
       rw [ae (Ne.symm nft), ab]
      ·rw [eS, if_neg nab]
      ·rw [List.length_append, List.length_singleton]
       omega
     have flen : (tas.map V.ref).length < sizeLine := aw (by
      have e := Paired.length T3
      rw [lm_]
      omega)
     refine ⟨_, rfl, .inl ⟨rfl, _, qL_ hf5⟩, _, rfl, _, rfl, _, rfl, _, rfl, (by show 1 <= sizeLine; decide), fun t1 ht1 => ?_⟩
     have s6 := ah ht1 (HO.tup [V.int j])
     refine ⟨ra, t1, _, _, rfl, rfl, qT_ (s6 _ _ hra5), qT_ ab, Nat.le_of_lt (Nat.lt_of_le_of_lt (show _ <= 1001 by rw [lm_]; simp only [List.length_singleton]; omega) (by decide)), fun en => ?_, (fun _ q => by cases q), fun _ _ p hp => ?_⟩
     ·have en' : u.2.2 = [] := by simpa using en
      refine ⟨(by show 3 <= sizeLine; decide), fun tt htt => ⟨fa, _, _, rfl, rfl, ?_, flen, goal t1 _ s6 (by rw [ab, en']; rfl) tt htt⟩⟩
      exact (ah htt _) _ _ (s6 _ _ hf5)
     ·have s7 := s6.trans (ah hp (HO.tup (u.2.2.map V.int ++ [V.int j])))
      refine ⟨(by show 3 <= sizeLine; decide), fun tt htt => ⟨fa, _, _, rfl, rfl, ?_, flen, goal p _ s7 (by rw [ab, List.map_append]; rfl) tt htt⟩⟩
      exact (ah htt _) _ _ (s7 _ _ hf5)
    ·have q : grp gs z = grp gs z2 := V.int.inj c
     exact ⟨mas, tas, gs, mm, fr, _, _, _, rfl, k4, g3, AA4, PO3, nf3, s4 _ _ hf3, T3.same (fun b xs h => s4 _ _ h), by rw [eS, if_pos q], c3⟩
   ·rintro σ' H3 ⟨mas, tas, gs, mm, fr, v7, v8, v9, rfl, k3, g3, AA3, PO3, nf3, hf3, T3, e3, c3⟩
    rw [lm_, lra] at e3
    refine ⟨mas, tas, gs, mm, fr, _, _, _, _, _, _, rfl, k3, g3, AA3, PO3, nf3, hf3, T3, ?_, c3⟩
    rw [e3]
    unfold kG
    rw [List.take_add_one, hu', List.foldl_append]
    rfl
  ·rintro σ' H3 ⟨mas, tas, gs, mm, fr, v4, v5, v6, v7, v8, v9, rfl, k3, g3, AA3, PO3, nf3, hf3, T3, e3, c3⟩
   have ll : (tas0.map V.ref).length = lv.length := by rw [lm_]; exact Paired.length hT0
   rw [ll, List.take_length] at e3
   exact nxt _ _ ⟨mas, tas, gs, mm, fr, _, _, _, _, _, _, rfl, k3, g3, AA3, PO3, nf3, hf3, T3, e3, c3⟩
 rintro σ' H3 ⟨mas, tas, gs, mm, fr, v4, v5, v6, v7, v8, v9, rfl, k3, g3, AA3, PO3, nf3, hf3, T3, e3, c3⟩
 exact ⟨_, rfl, k H3 fa mas tas gs mm fr k3 g3 AA3 PO3 hfa ⟨fa0.1, fa0.2.1, nf3⟩ hf3 T3 e3 c3⟩
end
def sgn (signs : LI) (x : Int) : Int := signs.getD x.toNat 0
def c7 (signs : LI) (u : Tr) : Bool := !decide (sgn signs u.1 = sgn signs u.2.1)
def eO (rows : LL) (wide many : Nat) (p q : Int) : Nat -> LSt
 | 0 => (((List.range many).map fun i : Nat => (i : Int), (List.range many).map fun i : Nat => [(i : Int)]), [(p, q, [])])
 | k + 1 => kG rows wide (eO rows wide many p q k).2 ((eO rows wide many p q k).1, [])
def PartRes (rows : LL) (wide many : Nat) (signs : LI) (p q : Int) (res : Option (LI)) : Prop :=
 ∃ k, (∀ i, i < k -> (eO rows wide many p q i).2 ≠ [] /\ ∀ u ∈ (eO rows wide many p q i).2, c7 signs u = false) /\
  (((eO rows wide many p q k).2 = [] /\ res = none) \/ ∃ u, (eO rows wide many p q k).2.find? (c7 signs) = some u /\ res = some u.2.2)
def nK (K : PySem.W.Frag) : Sp := fun vs H Q _ => ∃ (m r g : Addr) (many wide : Nat) (rows : LL) (signs : LI) (p q : Int), vs = [.ref m, .int p, .int q] /\ MachAt H m r g wide rows signs /\ RowsOk many wide rows /\ signs.length = many /\ many <= 1000 /\ (0 <= p /\ p < (many : Int)) /\ (0 <= q /\ q < (many : Int)) /\
 (∀ H', Same H H' -> PartRes rows wide many signs p q none -> Q .non H') /\ ∀ (H' : Hp) (ra : Addr) (row : LI), Same H H' -> H' ra = some (.tup (row.map V.int)) -> PartRes rows wide many signs p q (some row) -> Q (.ref ra) H'
theorem xG {rows : LL} {many wide : Nat} (R : RowsOk many wide rows) {u : Tr} (hu : rQ many 1000000 u) {n : Nat} (hl : u.2.2.length = n) : ∀ (f : Nat) (st : LSt), f <= wide -> (∀ t ∈ st.2, rQ many 1000001 t /\ t.2.2.length = n + 1) -> ∀ t ∈ (jk rows u st f).2, rQ many 1000001 t /\ t.2.2.length = n + 1
 | 0, st, _, h => h
 | f + 1, st, hf, h => by
  have ih := xG R hu hl f st (by omega) h
  show ∀ t ∈ (fH rows u f (jk rows u st f)).2, _
  unfold fH
  split
  ·exact ih
  ·intro t ht
   rcases ma_.mp ht with z | z
   ·exact ih t z
   ·rw [List.mem_singleton.mp z]
    have st : ∀ y : Int, 0 <= y -> y < (many : Int) -> 0 <= stepI rows y f /\ stepI rows y f < (many : Int) := fun y y0 y1 => by
     have l1 : y.toNat < rows.length := by rw [R.len]; omega
     have lr : rows[y.toNat].length = wide := R.row _ (List.getElem_mem l1)
     have hf' : f < rows[y.toNat].length := by omega
     unfold stepI
     rw [getD_at l1, Int.toNat_natCast, getD_at hf']
     exact R.val _ (List.getElem_mem l1) _ (List.getElem_mem hf')
    refine ⟨⟨st _ hu.1.1 hu.1.2, st _ hu.2.1.1 hu.2.1.2, ?_⟩, ?_⟩
    ·show (u.2.2 ++ [(f : Int)]).length <= _
     have := hu.2.2
     rw [List.length_append, List.length_singleton]
     omega
    ·show (u.2.2 ++ [(f : Int)]).length = _
     rw [List.length_append, List.length_singleton, hl]
theorem xE {rows : LL} {many wide : Nat} (R : RowsOk many wide rows) {n : Nat} : ∀ (lv : List Tr) (st : LSt), (∀ u ∈ lv, rQ many 1000000 u /\ u.2.2.length = n) -> (∀ t ∈ st.2, rQ many 1000001 t /\ t.2.2.length = n + 1) -> ∀ t ∈ (kG rows wide lv st).2, rQ many 1000001 t /\ t.2.2.length = n + 1
 | [], st, _, h => h
 | u :: lv, st, hl, h => by
  have hu := hl u List.mem_cons_self
  exact xE R lv (jk rows u st wide) (fun v hv => hl v (List.mem_cons_of_mem _ hv)) (xG R hu.1 hu.2 wide st (Nat.le_refl _) h)
section
variable {P : Program} {w : World} {K : PySem.W.Frag} {mg : Str -> Option Value} {base : Heap} {f : Addr} {fd : FuncData} {dV : Value} {C : Addr}
theorem sc_parting : FnScope ["machine", "one", "other", "signs", "alike", "level", "here", "there", "row"] ["machine", "one", "other"] (ak fZ) := ⟨rfl, rfl, rfl, by decide +kernel, rfl, by decide +kernel, by decide +kernel⟩
theorem vU (F : FunD K "parting" "parting" fZ dV f fd) (pK : DefMk P w K mg base "Alike" C 1 ["self", "many"] (jG C)) (qx : DefOk P w K mg base "led_on" 2 ["rows", "alike", "level"] [] (uq C)) (aM : mg "len" = none) : FnOk P w K mg base CX0 3 f fd ["machine", "one", "other"] (nK K) := by
 refine F.ok sc_parting (fun vs H Q E h => ?_) (fun cdv A outer s H vs Q E hr h => ?_)
 ·obtain ⟨m, r, g, many, wide, rows, signs, p, q, rfl, _⟩ := h
  rfl
 obtain ⟨m, r, g, many, wide, rows, signs, p, q, rfl, M, R, ls, hn, ⟨p0, p1⟩, ⟨q0, q1⟩, kN, kS⟩ := h
 obtain ⟨ras, hr', hA⟩ := M.rows
 refine oe (aS (PSW.mk (az (i := 3) sc_parting.nd rfl (Or.inl rfl) (aO bz (pv 0) ay (fun _ _ => rfl))))
   (aS (PSW.mk (az (i := 4) sc_parting.nd rfl (Or.inl rfl) (zT pK hr (aa (aC aA (by rfl) aM bB (aa (pv 3) af)) af))))
   (aS (PSW.mk (az (i := 5) sc_parting.nd rfl (Or.inl rfl) (cW (aa (dD (aa (pv 1) (aa (pv 2) (aa (dD af) af)))) af))))
   (aS (PSW.mk (mY PassesOwn.never (p5 (pv 5) (fun _ => rfl)) (aj (cf PassesOwn.never rfl (bO (pv 5)) (ic rfl (bt (ax (i := 6) sc_parting.nd rfl (Or.inl rfl)) (bt (ax (i := 7) sc_parting.nd rfl (Or.inl rfl)) (bt (ax (i := 8) sc_parting.nd rfl (Or.inl rfl)) fQ)))) (av (dr (cu sE (aO bz (pv 3) (pv 6) (fun _ _ => rfl)) (aO bz (pv 3) (pv 7) (fun _ _ => rfl)) (bQ _)) (av (bh (pv 8))) bP)))
   (av (az (i := 5) sc_parting.nd rfl (Or.inl rfl) (bM qx hr (aa (aO bz (pv 0) ay (fun _ _ => rfl)) (aa (pv 4) (aa (pv 5) af)))))))))
   (iZ (PSW.mk (bh zL))))))) ?_
 refine ⟨_, rfl, m, _, _, _, rfl, rfl, qT_ M.tup, rfl, ?_⟩
 refine ⟨_, rfl, g, _, rfl, .inr (qT_ M.sgn), fun x dx hx hdx ne => ⟨x, dx, _, rfl, ab, by rw [lm_, ls]; exact hn, fun H1 ga ma mas kk h1 h2 h3 AA => ⟨rfl, ?_⟩⟩⟩
 rw [lm_, ls] at AA
 have up : ∀ b u, H b = some u -> (upd (upd H dx (HO.own x)) x (HO.ins C dx [])) b = some u := fun b u h => by rw [ae (aq h hx), ae (aq h hdx)]; exact h
 have s1 : Same H H1 := fun b u h => kk b u (aq h hx) (up b u h)
 have fr : ∀ {b}, (upd (upd H dx (HO.own x)) x (HO.ins C dx [])) b = none -> H b = none := fun {b} h => by
  cases e : H b with
  | none => rfl
  | some u => rw [up b u e] at h; cases h
 have ga0 := fr h1
 have ma0 := fr h2
 have mas0 : ∀ a ∈ mas, H a = none := fun a ha => fr (h3 a ha)
 refine ⟨_, rfl, _, rfl, (by show 0 <= sizeLine; decide), fun t0 ht0 => ⟨(by show 3 <= sizeLine; decide), fun t1 ht1 => ⟨(by show 1 <= sizeLine; decide), fun la hla => ?_⟩⟩⟩
 try dsimp only [bR]
 obtain ⟨H2, eH2⟩ : ∃ H2, upd (upd (upd H1 t0 (HO.tup [])) t1 (HO.tup [V.int p, V.int q, V.ref t0])) la (HO.lst [V.ref t1]) = H2 := ⟨_, rfl⟩
 rw [eH2]
 have s12 : Same H1 H2 := by rw [<- eH2]; exact ((ah ht0 _).trans (ah ht1 _)).trans (ah hla _)
 have hla2 : H2 la = some (.lst ([t1].map V.ref)) := by rw [<- eH2, ab]; rfl
 have nla1 : t1 ≠ la := fun z => by rw [<- z, ab] at hla; cases hla
 have nla0 : t0 ≠ la := fun z => by
  have n01 : t0 ≠ t1 := fun z => by rw [<- z, ab] at ht1; cases ht1
  rw [<- z, ae n01, ab] at hla; cases hla
 have n01 : t0 ≠ t1 := fun z => by rw [<- z, ab] at ht1; cases ht1
 have T2 : TripsAt H2 [t1] [(p, q, [])] := .cons ⟨t0, by rw [<- eH2, ae nla1, ab], by rw [<- eH2, ae nla0, ae n01, ab]; rfl⟩ .nil
 have la1 : H1 la = none := by
  cases e : H1 la with
  | none => rfl
  | some u =>
   have := ((ah ht0 (HO.tup [])).trans (ah ht1 (HO.tup [V.int p, V.int q, V.ref t0]))) _ _ e
   rw [this] at hla
   cases hla
 have AA2 : AlikeAt H2 C x dx ga ma mas ((List.range many).map fun i : Nat => (i : Int)) ((List.range many).map fun i : Nat => [(i : Int)]) := ⟨s12 _ _ AA.obj, s12 _ _ AA.grp, s12 _ _ AA.mem, Paired.mapP AA.each fun _ _ h => s12 _ _ h, AA.nd, AA.ng, AA.nm, AA.ngm⟩
 have lreg : la ≠ ga /\ la ≠ ma /\ la ∉ mas := by
  refine ⟨fun z => ?_, fun z => ?_, fun z => ?_⟩
  ·rw [z, AA.grp] at la1; cases la1
  ·rw [z, AA.mem] at la1; cases la1
  ·obtain ⟨j, hj, ej⟩ := List.getElem_of_mem z
   obtain ⟨b, h1, h2⟩ := MemAt.get (i := j) AA.each (by rw [<- AA.each.length]; exact hj)
   rw [List.getElem?_eq_getElem hj, ej] at h1
   cases h1
   rw [la1] at h2
   cases h2
 have s2 := s1.trans s12
 refine mO (t := n9 _ _) (fun σ' H' => Same H H' /\ PartRes rows wide many signs p q none) ?_ (fun nxt => ?_)
 rotate_left
 ·refine oX (fun ms σ' H' => ∃ (k : Nat) (la : Addr) (mas tas : List Addr) (gs : LI) (mm : LL) (lv : List Tr) (v6 v7 v8 : OV), ms = 2 * cnt many gs + lv.length /\ σ' = [some (.ref m), some (.int p), some (.int q), some (.ref g), some (.ref x), some (.ref la), v6, v7, v8] /\ Same H H' /\ (∀ a ∈ mas, H a = none) /\ AlikeAt H' C x dx ga ma mas gs mm /\ PartOk many gs mm /\ (la ≠ ga /\ la ≠ ma /\ la ∉ mas) /\
    H' la = some (.lst (tas.map V.ref)) /\ TripsAt H' tas lv /\ (∀ u ∈ lv, rQ many 1000000 u /\ u.2.2.length = k) /\ (lv = [] \/ k + cnt many gs <= many) /\ ((gs, mm), lv) = eO rows wide many p q k /\ ∀ i, i < k -> (eO rows wide many p q i).2 ≠ [] /\ ∀ u ∈ (eO rows wide many p q i).2, c7 signs u = false)
   ⟨_, 0, la, mas, [t1], _, _, [(p, q, [])], none, none, none, rfl, rfl, s2, mas0, AA2, PartOk.start many, lreg, hla2, T2, fun u hu => ?_, .inr ?_, rfl, fun i hi => absurd hi (Nat.not_lt_zero _)⟩ ?_
  ·rw [List.mem_singleton.mp hu]
   exact ⟨⟨⟨p0, p1⟩, ⟨q0, q1⟩, Nat.zero_le _⟩, rfl⟩
  ·have := zD many ((List.range many).map fun i : Nat => (i : Int))
   omega
  rintro ms σ' H3 ⟨k, la, mas, tas, gs, mm, lv, v6, v7, v8, rfl, rfl, s3, m3, AA3, PO3, lr3, hl3, T3, ok3, kc3, e3, old3⟩
  have ltl : tas.length = lv.length := Paired.length T3
  by_cases en : lv = []
  ·subst en
   have ten : tas = [] := List.eq_nil_of_length_eq_zero ltl
   subst ten
   refine ⟨_, rfl, _, .inl ⟨_, qL_ hl3, rfl⟩, jt ?_⟩
   exact nxt [some (.ref m), some (.int p), some (.int q), some (.ref g), some (.ref x), some (.ref la), v6, v7, v8] H3 ⟨s3, k, old3, .inl ⟨by rw [<- e3], rfl⟩⟩
  have kc : k + cnt many gs <= many := kc3.resolve_left en
  refine ⟨_, rfl, _, .inl ⟨_, qL_ hl3, rfl⟩, ?_⟩
  have ne' : (!(tas.map V.ref).isEmpty) = true := by
   cases tas with
   | nil => exact absurd (List.eq_nil_of_length_eq_zero ltl.symm) en
   | cons x r => rfl
  rw [ne']
  refine uK ⟨fun σ' H' => ∃ m', m' < 2 * cnt many gs + lv.length /\ ∃ (k : Nat) (la : Addr) (mas tas : List Addr) (gs : LI) (mm : LL) (lv : List Tr) (v6 v7 v8 : OV), m' = 2 * cnt many gs + lv.length /\ σ' = [some (.ref m), some (.int p), some (.int q), some (.ref g), some (.ref x), some (.ref la), v6, v7, v8] /\ Same H H' /\ (∀ a ∈ mas, H a = none) /\ AlikeAt H' C x dx ga ma mas gs mm /\ PartOk many gs mm /\ (la ≠ ga /\ la ≠ ma /\ la ∉ mas) /\
    H' la = some (.lst (tas.map V.ref)) /\ TripsAt H' tas lv /\ (∀ u ∈ lv, rQ many 1000000 u /\ u.2.2.length = k) /\ (lv = [] \/ k + cnt many gs <= many) /\ ((gs, mm), lv) = eO rows wide many p q k /\ ∀ i, i < k -> (eO rows wide many p q i).2 ≠ [] /\ ∀ u ∈ (eO rows wide many p q i).2, c7 signs u = false, fun σ' H' h => h, ?_⟩
  have sAt : ∀ {y : Int}, 0 <= y -> y < (many : Int) -> atI (signs.map V.int) y = some (.int (sgn signs y)) := fun {y} y0 y1 => cx y0 (by omega)
  refine ⟨_, rfl, la, rfl, ⟨_, qL_ hl3⟩, cL (K := K) (xs := tas.map V.ref) (fun i σ' H' => ∃ v6 v7 v8 : OV, σ' = [some (.ref m), some (.int p), some (.int q), some (.ref g), some (.ref x), some (.ref la), v6, v7, v8] /\ H' = H3 /\ ∀ u ∈ lv.take i, c7 signs u = false)
   ⟨v6, v7, v8, rfl, rfl, by rw [List.take_zero]; exact fun u hu => by cases hu⟩ (fun i σ' H' _ ⟨_, _, _, _, e, _⟩ => by rw [e]; exact qL_ hl3) ?_ ?_⟩
  ·rintro i y σ' H4 hi ⟨v6, v7, v8, rfl, rfl, bef⟩
   rw [List.getElem?_map] at hi
   obtain ⟨ta, hta, rfl⟩ := Option.map_eq_some_iff.mp hi
   obtain ⟨u, hu', ra, hu1, hu2⟩ := T3.get hta
   obtain ⟨⟨⟨a0, a1⟩, ⟨b0, b1⟩, _⟩, rl⟩ := ok3 u (mq_ hu')
   refine ⟨ta, _, rfl, qT_ hu1, rfl, _, _, rfl, _, _, rfl, _, _, rfl, rfl, ?_⟩
   refine ⟨_, rfl, _, rfl, g, _, _, _, rfl, rfl, qT_ (s3 _ _ M.sgn), sAt a0 a1, ?_⟩
   refine ⟨_, rfl, _, rfl, g, _, _, _, rfl, rfl, qT_ (s3 _ _ M.sgn), sAt b0 b1, rfl, _, rfl, oy (fun c => ?_) (fun c => ?_)⟩
   ·refine ⟨_, rfl, kS _ ra u.2.2 s3 hu2 ⟨k, old3, .inr ⟨u, ?_, rfl⟩⟩⟩
    rw [<- e3]
    show lv.find? (c7 signs) = some u
    have hp : c7 signs u = true := by
     unfold c7
     rw [decide_eq_false (fun z => c (by rw [z]))]
     rfl
    have hil : i < lv.length := (gi_ hu').1
    rw [List.find?_eq_some_iff_append]
    refine ⟨hp, lv.take i, lv.drop (i + 1), ?_, fun v hv => ?_⟩
    ·have e : lv[i] = u := (gi_ hu').2
     rw [<- e, <- List.drop_eq_getElem_cons hil, List.take_append_drop]
    ·rw [bef v hv]; rfl
   ·refine ⟨_, _, _, rfl, rfl, fun v hv => ?_⟩
    rw [List.take_add_one, hu'] at hv
    rcases ma_.mp hv with z | z
    ·exact bef v z
    ·have : v = u := by simpa using z
     rw [this]
     unfold c7
     rw [decide_eq_true (V.int.inj c)]
     rfl
  ·rintro σ' H4 ⟨v6, v7, v8, rfl, rfl, bef⟩
   rw [lm_, ltl, List.take_length] at bef
   refine ⟨_, rfl, m, _, _, _, rfl, rfl, qT_ (s3 _ _ M.tup), rfl, _, rfl, _, rfl, r, x, dx, ga, ma, la, ras, mas, tas, gs, mm, lv, many, wide, rows, rfl, s3 _ _ hr', hA.same (fun b xs h => s3 _ _ h), R, hn, AA3, PO3, lr3, hl3, T3, fun u hu => ⟨(ok3 u hu).1.1, (ok3 u hu).1.2.1, by have := (ok3 u hu).2; omega⟩, ?_⟩
   intro H5 fa mas5 tas5 gs5 mm5 fr5 k5 g5 AA5 PO5 hfa fr5' hf5 T5 e5 c5
   have e5' : ((gs5, mm5), fr5) = eO rows wide many p q (k + 1) := by
    show _ = kG rows wide (eO rows wide many p q k).2 ((eO rows wide many p q k).1, [])
    rw [<- e3]
    exact e5
   have s5 : Same H H5 := fun b u h => by
    refine k5 b u (fun z => ?_) (fun z => ?_) (fun z => ?_) (s3 _ _ h)
    ·rw [z, ga0] at h; cases h
    ·rw [z, ma0] at h; cases h
    ·rw [m3 b z] at h; cases h
   have ok5 : ∀ u ∈ fr5, rQ many 1000000 u /\ u.2.2.length = k + 1 := fun u hu => by
    have q := xE R (n := k) (wide := wide) lv ((gs, mm), []) ok3 (fun t ht => by cases ht) u (by rw [<- e5]; exact hu)
    refine ⟨⟨q.1.1, q.1.2.1, ?_⟩, q.2⟩
    rw [q.2]
    omega
   have lvp : 1 <= lv.length := by
    cases lv with
    | nil => exact absurd rfl en
    | cons a b => exact Nat.succ_le_succ (Nat.zero_le _)
   refine ⟨_, ?_, k + 1, fa, mas5, tas5, gs5, mm5, fr5, _, _, _, rfl, rfl, s5, fun a ha => ?_, AA5, PO5, fr5', hf5, T5, ok5, ?_, e5', fun i hi => ?_⟩
   ·omega
   ·rcases g5 a ha with z | z
    ·exact m3 a z
    ·exact s3.free z
   ·cases fr5 with
    | nil => exact .inl rfl
    | cons a b =>
     refine .inr ?_
     rw [List.length_cons] at c5
     omega
   ·rcases Nat.lt_or_eq_of_le (Nat.le_of_lt_succ hi) with z | z
    ·exact old3 i z
    ·subst z
     rw [<- e3]
     exact ⟨en, bef⟩
 rintro σ' H3 ⟨s3, res⟩
 exact kN H3 s3 res
end
def InF (wide : Nat) (v : LI) : Prop := ∀ f ∈ v, 0 <= f /\ f < (wide : Int)
def Agree (rows : LL) (wide : Nat) (signs : LI) (n : Nat) (a b : Int) : Prop := ∀ v, InF wide v -> v.length <= n -> sgn signs (aZ rows v a) = sgn signs (aZ rows v b)
theorem Agree.refl {rows : LL} {wide : Nat} {signs : LI} {n : Nat} (a : Int) : Agree rows wide signs n a a := fun _ _ _ => rfl
theorem Agree.symm {rows : LL} {wide : Nat} {signs : LI} {n : Nat} {a b : Int} (h : Agree rows wide signs n a b) : Agree rows wide signs n b a := fun v h1 h2 => (h v h1 h2).symm
theorem Agree.trans {rows : LL} {wide : Nat} {signs : LI} {n : Nat} {a b c : Int} (h : Agree rows wide signs n a b) (h' : Agree rows wide signs n b c) : Agree rows wide signs n a c := fun v h1 h2 => (h v h1 h2).trans (h' v h1 h2)
theorem Agree.less {rows : LL} {wide : Nat} {signs : LI} {n m : Nat} {a b : Int} (h : Agree rows wide signs n a b) (l : m <= n) : Agree rows wide signs m a b := fun v h1 h2 => h v h1 (by omega)
theorem Agree.up {rows : LL} {wide : Nat} {signs : LI} {n : Nat} {a b : Int} (h0 : sgn signs a = sgn signs b) (h : ∀ f : Nat, f < wide -> Agree rows wide signs n (stepI rows a f) (stepI rows b f)) : Agree rows wide signs (n + 1) a b := by
 intro v h1 h2
 cases v with
 | nil => exact h0
 | cons f v =>
  have hf := h1 f List.mem_cons_self
  have q := h f.toNat (by omega) v (fun g hg => h1 g (List.mem_cons_of_mem _ hg)) (by rw [List.length_cons] at h2; omega)
  rw [Int.toNat_of_nonneg hf.1] at q
  exact q
def Within (many : Nat) (gs : LI) (S : Int -> Int -> Prop) : Prop := ∀ x y : Int, (0 <= x /\ x < (many : Int)) -> (0 <= y /\ y < (many : Int)) -> grp gs x = grp gs y -> S x y
structure Eqv (S : Int -> Int -> Prop) : Prop where
 refl : ∀ a, S a a
 symm : ∀ {a b}, S a b -> S b a
 trans : ∀ {a b c}, S a b -> S b c -> S a c
theorem fX {n : Nat} {gs : LI} {s g x : Int} (h : gs.length = n) (x0 : 0 <= x) (x1 : x < (n : Int)) : grp (cX gs s g) x = if grp gs x = s then g else grp gs x := by
 have q := jo (s := s) (g := g) h (x := x.toNat) (by omega)
 rw [Int.toNat_of_nonneg x0] at q
 exact q
theorem oo (gs : LI) (mm : LL) (a b : Int) : (bH gs mm a b = grp gs a /\ bJ gs mm a b = grp gs b) \/ (bH gs mm a b = grp gs b /\ bJ gs mm a b = grp gs a) := by
 unfold bH bJ
 split
 ·exact .inr ⟨rfl, rfl⟩
 ·exact .inl ⟨rfl, rfl⟩
theorem Within.join {many : Nat} {gs : LI} {mm : LL} {S : Int -> Int -> Prop} (e : Eqv S) (hl : gs.length = many) (h : Within many gs S) {a b : Int} (ra : 0 <= a /\ a < (many : Int)) (rb : 0 <= b /\ b < (many : Int)) (hab : S a b) : Within many (cX gs (bH gs mm a b) (bJ gs mm a b)) S := by
 intro x y rx ry q
 rw [fX hl rx.1 rx.2, fX hl ry.1 ry.2] at q
 rcases oo gs mm a b with ⟨es, eg⟩ | ⟨es, eg⟩ <;> rw [es, eg] at q
 ·split at q
  ·rename_i c1
   split at q
   ·rename_i c2
    exact h x y rx ry (c1.trans c2.symm)
   ·exact e.trans (h x a rx ra c1) (e.trans hab (h b y rb ry q))
  ·split at q
   ·rename_i c2
    exact e.trans (h x b rx rb q) (e.trans (e.symm hab) (h a y ra ry c2.symm))
   ·exact h x y rx ry q
 ·split at q
  ·rename_i c1
   split at q
   ·rename_i c2
    exact h x y rx ry (c1.trans c2.symm)
   ·exact e.trans (h x b rx rb c1) (e.trans (e.symm hab) (h a y ra ry q))
  ·split at q
   ·rename_i c2
    exact e.trans (h x a rx ra q) (e.trans hab (h b y rb ry c2.symm))
   ·exact h x y rx ry q
theorem join_mono {many : Nat} {gs : LI} {s g x y : Int} (hl : gs.length = many) (rx : 0 <= x /\ x < (many : Int)) (ry : 0 <= y /\ y < (many : Int)) (h : grp gs x = grp gs y) : grp (cX gs s g) x = grp (cX gs s g) y := by
 rw [fX hl rx.1 rx.2, fX hl ry.1 ry.2, h]
theorem xa {many : Nat} {gs : LI} {mm : LL} {a b : Int} (hl : gs.length = many) (ra : 0 <= a /\ a < (many : Int)) (rb : 0 <= b /\ b < (many : Int)) : grp (cX gs (bH gs mm a b) (bJ gs mm a b)) a = grp (cX gs (bH gs mm a b) (bJ gs mm a b)) b := by
 rw [fX hl ra.1 ra.2, fX hl rb.1 rb.2]
 rcases oo gs mm a b with ⟨es, eg⟩ | ⟨es, eg⟩ <;> rw [es, eg]
 ·rw [if_pos rfl]
  split <;> rfl
 ·rw [if_pos rfl]
  split <;> rfl
structure Led (many wide : Nat) (rows : LL) (gs : LI) (st : LSt) (fr0 : List Tr) : Prop where
 len : st.1.1.length = many
 mono : ∀ x y : Int, (0 <= x /\ x < (many : Int)) -> (0 <= y /\ y < (many : Int)) -> grp gs x = grp gs y -> grp st.1.1 x = grp st.1.1 y
 gen : ∀ S, Eqv S -> Within many gs S -> (∀ t ∈ st.2, S t.1 t.2.1) -> Within many st.1.1 S
 sub : ∀ t ∈ fr0, t ∈ st.2
theorem dw {many wide : Nat} {rows : LL} (R : RowsOk many wide rows) {y : Int} {f : Nat} (hy : 0 <= y /\ y < (many : Int)) (hf : f < wide) : 0 <= stepI rows y f /\ stepI rows y f < (many : Int) := by
 have l1 : y.toNat < rows.length := by rw [R.len]; omega
 have lr : rows[y.toNat].length = wide := R.row _ (List.getElem_mem l1)
 have hf' : f < rows[y.toNat].length := by omega
 unfold stepI
 rw [getD_at l1, Int.toNat_natCast, getD_at hf']
 exact R.val _ (List.getElem_mem l1) _ (List.getElem_mem hf')
theorem va {many wide : Nat} {rows : LL} (R : RowsOk many wide rows) {u : Tr} (ua : 0 <= u.1 /\ u.1 < (many : Int)) (ub : 0 <= u.2.1 /\ u.2.1 < (many : Int)) (st : LSt) (hl : st.1.1.length = many) :
  ∀ f, f <= wide -> Led many wide rows st.1.1 (jk rows u st f) st.2 /\ ∀ g : Nat, g < f -> grp (jk rows u st f).1.1 (stepI rows u.1 g) = grp (jk rows u st f).1.1 (stepI rows u.2.1 g)
 | 0, _ => ⟨⟨hl, fun _ _ _ _ h => h, fun _ _ h _ => h, fun _ h => h⟩, fun g hg => absurd hg (Nat.not_lt_zero _)⟩
 | f + 1, hf => by
  obtain ⟨L, al⟩ := va R ua ub st hl f (by omega)
  obtain ⟨s1, es⟩ : ∃ s1, jk rows u st f = s1 := ⟨_, rfl⟩
  rw [es] at L al
  have e : jk rows u st (f + 1) = fH rows u f s1 := by rw [<- es]; rfl
  rw [e]
  have rA := dw R ua (f := f) (by omega)
  have rB := dw R ub (f := f) (by omega)
  unfold fH
  split
  ·rename_i c
   refine ⟨L, fun g hg => ?_⟩
   rcases Nat.lt_or_eq_of_le (Nat.le_of_lt_succ hg) with z | z
   ·exact al g z
   ·subst z; exact c
  ·refine ⟨⟨by show (cX _ _ _).length = _; unfold cX; rw [lm_]; exact L.len, fun x y rx ry h => join_mono L.len rx ry (L.mono x y rx ry h), fun S e h ht => ?_, fun t h => List.mem_append_left _ (L.sub t h)⟩, fun g hg => ?_⟩
   ·exact (L.gen S e h fun t h => ht t (List.mem_append_left _ h)).join e L.len rA rB (ht _ (List.mem_append_right _ List.mem_cons_self))
   ·rcases Nat.lt_or_eq_of_le (Nat.le_of_lt_succ hg) with z | z
    ·exact join_mono L.len (dw R ua (by omega)) (dw R ub (by omega)) (al g z)
    ·subst z; exact xa L.len rA rB
theorem pR {many wide : Nat} {rows : LL} (R : RowsOk many wide rows) : ∀ (lv : List Tr) (st : LSt), st.1.1.length = many -> (∀ u ∈ lv, (0 <= u.1 /\ u.1 < (many : Int)) /\ (0 <= u.2.1 /\ u.2.1 < (many : Int))) ->
  Led many wide rows st.1.1 (kG rows wide lv st) st.2 /\ ∀ u ∈ lv, ∀ g : Nat, g < wide -> grp (kG rows wide lv st).1.1 (stepI rows u.1 g) = grp (kG rows wide lv st).1.1 (stepI rows u.2.1 g)
 | [], st, hl, _ => ⟨⟨hl, fun _ _ _ _ h => h, fun _ _ h _ => h, fun _ h => h⟩, fun u hu => by cases hu⟩
 | u :: lv, st, hl, h => by
  have hu := h u List.mem_cons_self
  obtain ⟨L1, a1⟩ := va R hu.1 hu.2 st hl wide (Nat.le_refl _)
  obtain ⟨L2, a2⟩ := pR R lv (jk rows u st wide) L1.len fun v hv => h v (List.mem_cons_of_mem _ hv)
  refine ⟨⟨L2.len, fun x y rx ry q => L2.mono x y rx ry (L1.mono x y rx ry q), fun S e q ht => L2.gen S e (L1.gen S e q fun t z => ht t (L2.sub t z)) ht, fun t z => L2.sub t (L1.sub t z)⟩, fun v hv g hg => ?_⟩
  rcases List.mem_cons.mp hv with rfl | hv
  ·exact L2.mono _ _ (dw R hu.1 hg) (dw R hu.2 hg) (a1 g hg)
  ·exact a2 v hv g hg
theorem rY {rows : LL} {u : Tr} {wide : Nat} {st : LSt} : ∀ f, f <= wide -> ∀ t ∈ (jk rows u st f).2, t ∈ st.2 \/ ∃ g : Nat, g < wide /\ t = (stepI rows u.1 g, stepI rows u.2.1 g, u.2.2 ++ [(g : Int)])
 | 0, _, t, h => .inl h
 | f + 1, hf, t, h => by
  have ih := rY (rows := rows) (u := u) (wide := wide) (st := st) f (by omega)
  have h' : t ∈ (fH rows u f (jk rows u st f)).2 := h
  unfold fH at h'
  split at h'
  ·exact ih t h'
  ·rcases ma_.mp h' with z | z
   ·exact ih t z
   ·exact .inr ⟨f, by omega, List.mem_singleton.mp z⟩
theorem sH {rows : LL} {wide : Nat} : ∀ (lv : List Tr) (st : LSt), ∀ t ∈ (kG rows wide lv st).2, t ∈ st.2 \/ ∃ u ∈ lv, ∃ g : Nat, g < wide /\ t = (stepI rows u.1 g, stepI rows u.2.1 g, u.2.2 ++ [(g : Int)])
 | [], st, t, h => .inl h
 | u :: lv, st, t, h => by
  rcases sH lv (jk rows u st wide) t h with z | ⟨v, hv, r⟩
  ·rcases rY wide (Nat.le_refl _) t z with z | z
   ·exact .inl z
   ·exact .inr ⟨u, List.mem_cons_self, z⟩
  ·exact .inr ⟨v, List.mem_cons_of_mem _ hv, r⟩
theorem jQ {many wide : Nat} {rows : LL} {p q : Int} (R : RowsOk many wide rows) (hp : 0 <= p /\ p < (many : Int)) (hq : 0 <= q /\ q < (many : Int)) : ∀ k, ∀ t ∈ (eO rows wide many p q k).2, aZ rows t.2.2 p = t.1 /\ aZ rows t.2.2 q = t.2.1 /\ InF wide t.2.2 /\ t.2.2.length = k /\ (0 <= t.1 /\ t.1 < (many : Int)) /\ (0 <= t.2.1 /\ t.2.1 < (many : Int))
 | 0, t, h => by
  rw [List.mem_singleton.mp h]
  exact ⟨rfl, rfl, (fun f hf => by cases hf), rfl, hp, hq⟩
 | k + 1, t, h => by
  rcases sH _ _ t h with z | ⟨u, hu, g, hg, rfl⟩
  ·cases z
  ·obtain ⟨h1, h2, h3, h4, h5, h6⟩ := jQ R hp hq k u hu
   refine ⟨?_, ?_, fun f hf => ?_, ?_, dw R h5 hg, dw R h6 hg⟩
   ·show aZ rows (u.2.2 ++ [(g : Int)]) p = _
    rw [fM, h1]; rfl
   ·show aZ rows (u.2.2 ++ [(g : Int)]) q = _
    rw [fM, h2]; rfl
   ·rcases ma_.mp hf with z | z
    ·exact h3 f z
    ·rw [List.mem_singleton.mp z]; omega
   ·show (u.2.2 ++ [(g : Int)]).length = _
    rw [List.length_append, List.length_singleton, h4]
theorem vi {many wide : Nat} {rows : LL} {p q : Int} (R : RowsOk many wide rows) (hp : 0 <= p /\ p < (many : Int)) (hq : 0 <= q /\ q < (many : Int)) : ∀ k, (eO rows wide many p q k).1.1.length = many
 | 0 => by show ((List.range many).map fun i : Nat => (i : Int)).length = many; rw [lm_, List.length_range]
 | k + 1 => (pR R _ ((eO rows wide many p q k).1, []) (vi R hp hq k) fun u hu => let h := jQ R hp hq k u hu; ⟨h.2.2.2.2.1, h.2.2.2.2.2⟩).1.len
theorem nI (rows : LL) (wide : Nat) (signs : LI) (n : Nat) : Eqv (Agree rows wide signs n) := ⟨fun a => Agree.refl a, Agree.symm, Agree.trans⟩
theorem lA {many wide : Nat} {rows : LL} {signs : LI} {p q : Int} (R : RowsOk many wide rows) (hp : 0 <= p /\ p < (many : Int)) (hq : 0 <= q /\ q < (many : Int)) : ∀ k, (∀ i, i < k -> ∀ u ∈ (eO rows wide many p q i).2, c7 signs u = false) ->
  ∀ n, (∀ t ∈ (eO rows wide many p q k).2, Agree rows wide signs n t.1 t.2.1) -> Within many (eO rows wide many p q k).1.1 (Agree rows wide signs n) /\ Agree rows wide signs (n + k) p q
 | 0, _, n, h => by
  refine ⟨fun x y rx ry e => ?_, h (p, q, []) List.mem_cons_self⟩
  have v : ∀ z : Int, (0 <= z /\ z < (many : Int)) -> grp (eO rows wide many p q 0).1.1 z = z := fun z rz => by
   show grp ((List.range many).map fun i : Nat => (i : Int)) z = z
   unfold grp
   rw [List.getD_eq_getElem?_getD, List.getElem?_map, List.getElem?_range (by omega)]
   show ((z.toNat : Nat) : Int) = z
   omega
  rw [v x rx, v y ry] at e
  rw [e]
  exact Agree.refl y
 | k + 1, old, n, h => by
  have ih := lA (signs := signs) R hp hq k fun i hi => old i (by omega)
  have rng : ∀ u ∈ (eO rows wide many p q k).2, (0 <= u.1 /\ u.1 < (many : Int)) /\ (0 <= u.2.1 /\ u.2.1 < (many : Int)) := fun u hu => let h := jQ R hp hq k u hu; ⟨h.2.2.2.2.1, h.2.2.2.2.2⟩
  obtain ⟨L, al⟩ := pR R (eO rows wide many p q k).2 ((eO rows wide many p q k).1, []) (vi R hp hq k) rng
  have sg : ∀ u ∈ (eO rows wide many p q k).2, sgn signs u.1 = sgn signs u.2.1 := fun u hu => by
   have q := old k (Nat.lt_succ_self _) u hu
   unfold c7 at q
   cases e : decide (sgn signs u.1 = sgn signs u.2.1)
   ·rw [e] at q; cases q
   ·exact of_decide_eq_true e
  have up : ∀ m, m <= n -> ∀ u ∈ (eO rows wide many p q k).2, Agree rows wide signs (m + 1) u.1 u.2.1 := by
   intro m hm
   induction m with
   | zero =>
    intro u hu
    have w0 := (ih 0 fun t ht => fun v _ hv => by
     have : v = [] := List.eq_nil_of_length_eq_zero (by omega)
     rw [this]
     exact sg t ht).1
    have W := L.gen (Agree rows wide signs 0) (nI _ _ _ _) w0 fun t ht => (h t ht).less (Nat.zero_le _)
    exact Agree.up (sg u hu) fun g hg => W _ _ (dw R (rng u hu).1 hg) (dw R (rng u hu).2 hg) (al u hu g hg)
   | succ m im =>
    intro u hu
    have w0 := (ih (m + 1) (im (by omega))).1
    have W := L.gen (Agree rows wide signs (m + 1)) (nI _ _ _ _) w0 fun t ht => (h t ht).less hm
    exact Agree.up (sg u hu) fun g hg => W _ _ (dw R (rng u hu).1 hg) (dw R (rng u hu).2 hg) (al u hu g hg)
  have u1 := up n (Nat.le_refl _)
  have r1 := ih (n + 1) u1
  refine ⟨L.gen (Agree rows wide signs n) (nI _ _ _ _) (fun x y rx ry e => (r1.1 x y rx ry e).less (Nat.le_succ _)) h, ?_⟩
  have e : n + (k + 1) = n + 1 + k := by omega
  rw [e]
  exact r1.2
theorem PartRes.sound {many wide : Nat} {rows : LL} {signs : LI} {p q : Int} {row : LI} (R : RowsOk many wide rows) (hp : 0 <= p /\ p < (many : Int)) (hq : 0 <= q /\ q < (many : Int)) (h : PartRes rows wide many signs p q (some row)) :
  InF wide row /\ sgn signs (aZ rows row p) ≠ sgn signs (aZ rows row q) /\ ∀ v, InF wide v -> sgn signs (aZ rows v p) ≠ sgn signs (aZ rows v q) -> row.length <= v.length := by
 obtain ⟨k, old, ⟨_, e⟩ | ⟨u, hu, e⟩⟩ := h
 ·cases e
 cases e
 obtain ⟨h1, h2, h3, h4, _⟩ := jQ R hp hq k u (List.mem_of_find?_eq_some hu)
 refine ⟨h3, ?_, fun v hv hd => ?_⟩
 ·have q := List.find?_some hu
  unfold c7 at q
  rw [h1, h2]
  intro z
  rw [decide_eq_true z] at q
  cases q
 ·rw [h4]
  refine Decidable.byContradiction fun c => ?_
  obtain ⟨j, rfl⟩ : ∃ j, k = j + 1 := ⟨k - 1, by omega⟩
  have q := (lA (signs := signs) R hp hq j (fun i hi => (old i (by omega)).2) 0 fun t ht v _ hv => by
   have : v = [] := List.eq_nil_of_length_eq_zero (by omega)
   rw [this]
   have z := (old j (Nat.lt_succ_self _)).2 t ht
   unfold c7 at z
   cases e : decide (sgn signs t.1 = sgn signs t.2.1)
   ·rw [e] at z; cases z
   ·exact of_decide_eq_true e).2
  exact hd (q v hv (by omega))
theorem PartRes.none_all {many wide : Nat} {rows : LL} {signs : LI} {p q : Int} (R : RowsOk many wide rows) (hp : 0 <= p /\ p < (many : Int)) (hq : 0 <= q /\ q < (many : Int)) (h : PartRes rows wide many signs p q none) (v : LI) (hv : InF wide v) : sgn signs (aZ rows v p) = sgn signs (aZ rows v q) := by
 obtain ⟨k, old, ⟨e, _⟩ | ⟨u, _, e⟩⟩ := h
 ·have q := (lA (signs := signs) R hp hq k (fun i hi => (old i hi).2) v.length fun t ht => by rw [e] at ht; cases ht).2
  exact q v hv (by omega)
 ·cases e
def AllAg (rows : LL) (wide : Nat) (signs : LI) (x y : Int) : Prop := ∀ n, Agree rows wide signs n x y
theorem AllAg.sgn {rows : LL} {wide : Nat} {signs : LI} {x y : Int} (h : AllAg rows wide signs x y) : My.sgn signs x = My.sgn signs y := h 0 [] (fun f hf => by cases hf) (Nat.le_refl 0)
theorem AllAg.led {rows : LL} {wide : Nat} {signs : LI} {x y : Int} (h : AllAg rows wide signs x y) {f : Nat} (hf : f < wide) : AllAg rows wide signs (stepI rows x f) (stepI rows y f) := fun n v h1 h2 => by
 refine h (n + 1) ((f : Int) :: v) (fun g hg => ?_) (by rw [List.length_cons]; omega)
 rcases List.mem_cons.mp hg with z | z
 ·rw [z]
  exact ⟨by omega, by omega⟩
 ·exact h1 g z
def gp (c : LI) (q : Int) : Int := c.getD q.toNat 0
structure ColsOk (many wide : Nat) (rows cols : LL) : Prop where
 of : ∀ c ∈ cols, ∃ f : Nat, f < wide /\ ∀ q, ao many q -> gp c q = stepI rows q f
 all : ∀ f : Nat, f < wide -> ∃ c ∈ cols, ∀ q, ao many q -> gp c q = stepI rows q f
theorem ColsOk.room {many wide : Nat} {rows cols : LL} (C : ColsOk many wide rows cols) (R : RowsOk many wide rows) : ∀ x, ao many x -> ∀ c ∈ cols.map gp, ao many (c x) := fun x hx c hc => by
 obtain ⟨l, hl, rfl⟩ := List.mem_map.mp hc
 obtain ⟨f, hf, e⟩ := C.of l hl
 rw [e x hx]
 exact dq R hx.1 hx.2 (by omega) (by omega)
theorem ColsOk.likes {many wide : Nat} {rows cols : LL} {signs : LI} (C : ColsOk many wide rows cols) (R : RowsOk many wide rows) : Likes many (cols.map gp) (My.sgn signs) (fun x y => ao many x /\ ao many y /\ AllAg rows wide signs x y) where
 sgn := fun x y h => h.2.2.sgn
 led := fun x y h c hc => by
  have h1 := C.room R x h.1 c hc
  have h2 := C.room R y h.2.1 c hc
  refine ⟨h1, h2, ?_⟩
  obtain ⟨l, hl, rfl⟩ := List.mem_map.mp hc
  obtain ⟨f, hf, e⟩ := C.of l hl
  rw [e x h.1, e y h.2.1]
  exact h.2.2.led hf
theorem xQ {many wide : Nat} {rows cols : LL} {signs : LI} {grp : Int -> Int} {W : Int -> Prop} (C : ColsOk many wide rows cols) (R : RowsOk many wide rows)
  (h : Hop many (cols.map gp) (My.sgn signs) (fun x y => ao many x /\ ao many y /\ AllAg rows wide signs x y) grp W) (st : ∀ x y, ao many x -> ao many y -> grp x = grp y -> ∀ c ∈ cols.map gp, grp (c x) = grp (c y)) {x y : Int} (hx : ao many x) (hy : ao many y) :
  grp x = grp y ↔ AllAg rows wide signs x y := by
 refine ⟨fun e n => ?_, fun a => h.coarse x y hx hy ⟨hx, hy, a⟩⟩
 induction n generalizing x y with
 | zero =>
  intro v _ h2
  have : v = [] := List.eq_nil_of_length_eq_zero (by omega)
  rw [this]
  exact h.signs x y hx hy e
 | succ n ih =>
  refine Agree.up (h.signs x y hx hy e) fun f hf => ?_
  obtain ⟨c, hc, ec⟩ := C.all f hf
  have hm : gp c ∈ cols.map gp := List.mem_map.mpr ⟨c, hc, rfl⟩
  have q := st x y hx hy e _ hm
  rw [ec x hx, ec y hy] at q
  exact ih (dq R hx.1 hx.2 (by omega) (by omega)) (dq R hy.1 hy.2 (by omega) (by omega)) q
def bp : Nat -> LI -> Option Nat
 | m, [] => some m
 | m, t :: r => if t = (m : Int) then bp (m + 1) r else if t < (m : Int) then bp m r else none
def bZ : Nat -> Nat -> LL -> Option Nat
 | _, m, [] => some m
 | q, m, r :: rs => if q < m then (bp m r).bind fun m' => bZ (q + 1) m' rs else none
def jU (rows : LL) : Prop := bZ 0 1 rows = some rows.length
def Tells (wide : Nat) (rows rows' : LL) (signs signs' : LI) (a b : Int) : Prop := ∀ v, InF wide v -> sgn signs (aZ rows v a) = sgn signs' (aZ rows' v b)
def Apart (wide : Nat) (rows : LL) (signs : LI) : Prop := ∀ a b, ao rows.length a -> ao rows.length b -> AllAg rows wide signs a b -> a = b
section
variable {wide : Nat} {rows rows' : LL} {signs signs' : LI}
theorem Tells.led {a b : Int} (h : Tells wide rows rows' signs signs' a b) {f : Nat} (hf : f < wide) : Tells wide rows rows' signs signs' (stepI rows a f) (stepI rows' b f) := fun v hv =>
 h ((f : Int) :: v) fun g hg => by
  rcases List.mem_cons.mp hg with z | z
  ·rw [z]
   exact ⟨by omega, by omega⟩
  ·exact hv g z
theorem Tells.left {a b c : Int} (h : Tells wide rows rows' signs signs' a c) (h' : Tells wide rows rows' signs signs' b c) : AllAg rows wide signs a b := fun n v hv _ => (h v hv).trans (h' v hv).symm
theorem Tells.right {a b c : Int} (h : Tells wide rows rows' signs signs' c a) (h' : Tells wide rows rows' signs signs' c b) : AllAg rows' wide signs' a b := fun n v hv _ => (h v hv).symm.trans (h' v hv)
theorem pz (A : Apart wide rows signs) (A' : Apart wide rows' signs') : ∀ {r r' : LI} {m m1 m2 : Nat}, r.length = r'.length -> (∀ i : Nat, i < m -> Tells wide rows rows' signs signs' i i) -> (m <= rows.length /\ m <= rows'.length) ->
  (∀ (j : Nat) (t t' : Int), r[j]? = some t -> r'[j]? = some t' -> ao rows.length t /\ ao rows'.length t' /\ Tells wide rows rows' signs signs' t t') -> bp m r = some m1 -> bp m r' = some m2 ->
  r = r' /\ m1 = m2 /\ (∀ i : Nat, i < m1 -> Tells wide rows rows' signs signs' i i) /\ m1 <= rows.length /\ m1 <= rows'.length
 | [], [], m, m1, m2, _, hB, hm, _, h1, h2 => by
  cases h1
  cases h2
  exact ⟨rfl, rfl, hB, hm.1, hm.2⟩
 | [], t' :: r', _, _, _, hl, _, _, _, _, _ => by cases hl
 | t :: r, [], _, _, _, hl, _, _, _, _, _ => by cases hl
 | t :: r, t' :: r', m, m1, m2, hl, hB, hm, hT, h1, h2 => by
  obtain ⟨ht, ht', tt⟩ := hT 0 t t' rfl rfl
  have hl' : r.length = r'.length := Nat.succ.inj hl
  have hT' : ∀ (j : Nat) (u u' : Int), r[j]? = some u -> r'[j]? = some u' -> ao rows.length u /\ ao rows'.length u' /\ Tells wide rows rows' signs signs' u u' := fun j u u' a b => hT (j + 1) u u' a b
  have low : ∀ {x : Int}, 0 <= x -> x < (m : Int) -> ∃ i : Nat, i < m /\ x = (i : Int) := fun h0 h1 => ⟨_, by omega, (Int.toNat_of_nonneg h0).symm⟩
  have h1' : (if t = (m : Int) then bp (m + 1) r else if t < (m : Int) then bp m r else none) = some m1 := h1
  have h2' : (if t' = (m : Int) then bp (m + 1) r' else if t' < (m : Int) then bp m r' else none) = some m2 := h2
  by_cases c : t = (m : Int)
  ·by_cases c' : t' = (m : Int)
   ·rw [if_pos c] at h1'
    rw [if_pos c'] at h2'
    have hB' : ∀ i : Nat, i < m + 1 -> Tells wide rows rows' signs signs' i i := fun i hi => by
     rcases Nat.lt_or_ge i m with z | z
     ·exact hB i z
     ·have : i = m := by omega
      rw [this, <- c]
      rw [c'] at tt
      rw [c]
      rw [c] at tt
      exact tt
    obtain ⟨e1, e2⟩ := pz A A' hl' hB' ⟨by have := ht.2; omega, by have := ht'.2; omega⟩ hT' h1' h2'
    exact ⟨by rw [c, c', e1], e2⟩
   ·rw [if_neg c'] at h2'
    by_cases d : t' < (m : Int)
    ·obtain ⟨i, hi, rfl⟩ := low ht'.1 d
     have := A t (i : Int) ht ⟨by omega, by omega⟩ (tt.left (hB i hi))
     omega
    ·rw [if_neg d] at h2'
     cases h2'
  ·rw [if_neg c] at h1'
   by_cases d : t < (m : Int)
   ·rw [if_pos d] at h1'
    obtain ⟨i, hi, rfl⟩ := low ht.1 d
    have e := A' t' (i : Int) ht' ⟨by omega, by omega⟩ (tt.right (hB i hi))
    subst e
    rw [if_neg (by omega), if_pos d] at h2'
    obtain ⟨e1, e2⟩ := pz A A' hl' hB hm hT' h1' h2'
    exact ⟨by rw [e1], e2⟩
   ·rw [if_neg d] at h1'
    cases h1'
theorem sN (A : Apart wide rows signs) (A' : Apart wide rows' signs') (R : RowsOk rows.length wide rows) (R' : RowsOk rows'.length wide rows') : ∀ {rs rs' : LL} {q m : Nat}, rs = rows.drop q -> rs' = rows'.drop q -> q <= rows.length -> q <= rows'.length ->
  (∀ i : Nat, i < m -> Tells wide rows rows' signs signs' i i) -> (m <= rows.length /\ m <= rows'.length) -> bZ q m rs = some rows.length -> bZ q m rs' = some rows'.length -> rs = rs' /\ rows.length = rows'.length /\ ∀ i : Nat, i < rows.length -> Tells wide rows rows' signs signs' i i
 | [], [], q, m, _, _, _, _, hB, _, h1, h2 => by
  have e1 : m = rows.length := Option.some.inj h1
  have e2 : m = rows'.length := Option.some.inj h2
  exact ⟨rfl, e1.symm.trans e2, fun i hi => hB i (by omega)⟩
 | [], r' :: rs', q, m, e, _, hq, _, _, _, h1, h2 => by
  have e1 : m = rows.length := Option.some.inj h1
  have hl : rows.length <= q := List.drop_eq_nil_iff.mp e.symm
  have h2' : (if q < m then (bp m r').bind fun m' => bZ (q + 1) m' rs' else none) = some rows'.length := h2
  rw [if_neg (by omega)] at h2'
  cases h2'
 | r :: rs, [], q, m, _, e, _, hq, _, _, h1, h2 => by
  have e1 : m = rows'.length := Option.some.inj h2
  have hl : rows'.length <= q := List.drop_eq_nil_iff.mp e.symm
  have h1' : (if q < m then (bp m r).bind fun m' => bZ (q + 1) m' rs else none) = some rows.length := h1
  rw [if_neg (by omega)] at h1'
  cases h1'
 | r :: rs, r' :: rs', q, m, e, e', hq, hq', hB, hm, h1, h2 => by
  have h1' : (if q < m then (bp m r).bind fun m' => bZ (q + 1) m' rs else none) = some rows.length := h1
  have h2' : (if q < m then (bp m r').bind fun m' => bZ (q + 1) m' rs' else none) = some rows'.length := h2
  by_cases c : q < m
  ·rw [if_pos c] at h1' h2'
   have l1 : q < rows.length := by omega
   have l2 : q < rows'.length := by omega
   have d1 := List.drop_eq_getElem_cons l1
   have d2 := List.drop_eq_getElem_cons l2
   rw [d1] at e
   rw [d2] at e'
   injection e with er es
   injection e' with er' es'
   cases o1 : bp m r with
   | none => rw [o1] at h1'; cases h1'
   | some m1 =>
    cases o2 : bp m r' with
    | none => rw [o2] at h2'; cases h2'
    | some m2 =>
     rw [o1] at h1'
     rw [o2] at h2'
     have hr := R.row _ (List.getElem_mem l1)
     have hr' := R'.row _ (List.getElem_mem l2)
     have key : ∀ (j : Nat) (t t' : Int), r[j]? = some t -> r'[j]? = some t' -> ao rows.length t /\ ao rows'.length t' /\ Tells wide rows rows' signs signs' t t' := fun j t t' a b => by
      rw [er] at a
      rw [er'] at b
      have ja := (gi_ a).1
      have jw : j < wide := by omega
      have s1 : stepI rows (q : Int) (j : Int) = t := by
       unfold stepI
       rw [Int.toNat_natCast, Int.toNat_natCast, getD_at l1, List.getD_eq_getElem?_getD, a]
       rfl
      have s2 : stepI rows' (q : Int) (j : Int) = t' := by
       unfold stepI
       rw [Int.toNat_natCast, Int.toNat_natCast, getD_at l2, List.getD_eq_getElem?_getD, b]
       rfl
      refine ⟨R.val _ (List.getElem_mem l1) t (mq_ a), R'.val _ (List.getElem_mem l2) t' (mq_ b), ?_⟩
      have := (hB q c).led jw
      rw [s1, s2] at this
      exact this
     obtain ⟨e1, e2, hB', k1, k2⟩ := pz A A' (by rw [er, er', hr, hr']) hB hm key o1 o2
     subst e2
     obtain ⟨f1, f2, f3⟩ := sN A A' R R' es es' l1 l2 hB' ⟨k1, k2⟩ h1' h2'
     exact ⟨by rw [e1, f1], f2, f3⟩
  ·rw [if_neg c] at h1'
   cases h1'
theorem wJ (A : Apart wide rows signs) (A' : Apart wide rows' signs') (R : RowsOk rows.length wide rows) (R' : RowsOk rows'.length wide rows') (n0 : 0 < rows.length) (n1 : 0 < rows'.length) (O : jU rows) (O' : jU rows') (ls : signs.length = rows.length) (ls' : signs'.length = rows'.length) (h : Tells wide rows rows' signs signs' 0 0) : rows = rows' /\ signs = signs' := by
 obtain ⟨e, el, hB⟩ := sN A A' R R' (rs := rows) (rs' := rows') (q := 0) (m := 1) rfl rfl (Nat.zero_le _) (Nat.zero_le _) (fun i hi => by
  have : i = 0 := by omega
  rw [this]
  exact h) ⟨n0, n1⟩ O O'
 refine ⟨e, List.ext_getElem (by omega) fun i h1 h2 => ?_⟩
 have q := hB i (by omega) [] (fun f hf => by cases hf)
 unfold sgn at q
 have q' : signs.getD ((i : Int)).toNat 0 = signs'.getD ((i : Int)).toNat 0 := q
 rw [Int.toNat_natCast, getD_at h1, getD_at h2] at q'
 exact q'
end
def aI (φ : Int -> Int) : Nat -> Nat
 | 0 => 0
 | m + 1 => if φ (m : Int) = (aI φ m : Int) then aI φ m + 1 else aI φ m
def bw (φ : Int -> Int) (n : Nat) : List Nat := (List.range n).filter fun q => decide (φ (q : Int) = (aI φ q : Int))
def FirstNum (φ : Int -> Int) (n : Nat) : Prop := ∀ q : Nat, q < n -> 0 <= φ (q : Int) /\ φ (q : Int) <= (aI φ q : Int)
section
variable {φ : Int -> Int} {n : Nat}
theorem sf : ∀ {a b : Nat}, a <= b -> aI φ a <= aI φ b := by
 intro a b h
 induction h with
 | refl => exact Nat.le_refl _
 | @step m _ ih =>
  have e : aI φ (m + 1) = if φ (m : Int) = (aI φ m : Int) then aI φ m + 1 else aI φ m := rfl
  refine Nat.le_trans ih ?_
  rw [e]
  by_cases c : φ (m : Int) = (aI φ m : Int)
  ·rw [if_pos c]; exact Nat.le_succ _
  ·rw [if_neg c]; exact Nat.le_refl _
theorem FirstNum.lt (h : FirstNum φ n) {t m : Nat} (ht : t < m) (hm : m <= n) : φ (t : Int) < (aI φ m : Int) := by
 have h1 := (h t (by omega)).2
 have h2 := sf (φ := φ) (show t + 1 <= m from ht)
 have h3 : aI φ (t + 1) = if φ (t : Int) = (aI φ t : Int) then aI φ t + 1 else aI φ t := rfl
 by_cases c : φ (t : Int) = (aI φ t : Int)
 ·rw [if_pos c] at h3
  omega
 ·rw [if_neg c] at h3
  omega
theorem gi (φ : Int -> Int) : ∀ n, (bw φ n).length = aI φ n
 | 0 => rfl
 | n + 1 => by
  have ih := gi φ n
  unfold bw at ih ⊢
  rw [List.range_succ, List.filter_append, List.length_append, ih]
  show _ = if φ (n : Int) = (aI φ n : Int) then aI φ n + 1 else aI φ n
  by_cases c : φ (n : Int) = (aI φ n : Int)
  ·rw [if_pos c, List.filter_cons_of_pos (by exact decide_eq_true c)]
   rfl
  ·rw [if_neg c, List.filter_cons_of_neg (by rw [decide_eq_false c]; decide)]
   rfl
theorem tG (F : FirstNum φ n) : ∀ {r : LI} {m m1 : Nat}, m <= n -> (∀ t ∈ r, ao n t) -> bp m r = some m1 -> bp (aI φ m) (r.map φ) = some (aI φ m1) /\ m1 <= n /\ (∀ t ∈ r, t < (m1 : Int)) /\ m <= m1
 | [], m, m1, hm, _, h => by
  cases h
  exact ⟨rfl, hm, fun t ht => (by cases ht), Nat.le_refl _⟩
 | t :: r, m, m1, hm, hr, h => by
  have ht := hr t List.mem_cons_self
  have hr' : ∀ u ∈ r, ao n u := fun u hu => hr u (List.mem_cons_of_mem _ hu)
  have h' : (if t = (m : Int) then bp (m + 1) r else if t < (m : Int) then bp m r else none) = some m1 := h
  show (if φ t = (aI φ m : Int) then bp (aI φ m + 1) (r.map φ) else if φ t < (aI φ m : Int) then bp (aI φ m) (r.map φ) else none) = _ /\ _
  by_cases c : t = (m : Int)
  ·rw [if_pos c] at h'
   have mn : m < n := by have := ht.2; omega
   obtain ⟨e1, e2, e3, e4⟩ := tG F (show m + 1 <= n from mn) hr' h'
   have e5 : ∀ u ∈ t :: r, u < (m1 : Int) := fun u hu => by
    rcases List.mem_cons.mp hu with z | z
    ·rw [z, c]; omega
    ·exact e3 u z
   have es : aI φ (m + 1) = if φ (m : Int) = (aI φ m : Int) then aI φ m + 1 else aI φ m := rfl
   rw [c]
   by_cases d : φ (m : Int) = (aI φ m : Int)
   ·rw [if_pos d]
    rw [if_pos d] at es
    rw [es] at e1
    rw [c] at e5
    exact ⟨e1, e2, e5, by omega⟩
   ·rw [if_neg d] at es
    rw [if_neg d, if_pos (by have := (F m mn).2; omega)]
    rw [es] at e1
    rw [c] at e5
    exact ⟨e1, e2, e5, by omega⟩
  ·rw [if_neg c] at h'
   by_cases d : t < (m : Int)
   ·rw [if_pos d] at h'
    obtain ⟨e1, e2, e3, e4⟩ := tG F hm hr' h'
    have lt : φ t < (aI φ m : Int) := by
     have := F.lt (t := t.toNat) (m := m) (by have := ht.1; omega) hm
     rw [Int.toNat_of_nonneg ht.1] at this
     exact this
    rw [if_neg (by omega), if_pos lt]
    refine ⟨e1, e2, fun u hu => ?_, e4⟩
    rcases List.mem_cons.mp hu with z | z
    ·rw [z]; omega
    ·exact e3 u z
   ·rw [if_neg d] at h'
    cases h'
theorem ue (F : FirstNum φ n) : ∀ {r : LI} {m m1 : Nat}, m <= n -> (∀ t ∈ r, ao n t /\ φ t < (aI φ m : Int)) -> bp m r = some m1 -> aI φ m1 = aI φ m /\ m1 <= n /\ (∀ t ∈ r, t < (m1 : Int)) /\ m <= m1
 | [], m, m1, hm, _, h => by
  cases h
  exact ⟨rfl, hm, fun t ht => (by cases ht), Nat.le_refl _⟩
 | t :: r, m, m1, hm, hr, h => by
  have ht := hr t List.mem_cons_self
  have h' : (if t = (m : Int) then bp (m + 1) r else if t < (m : Int) then bp m r else none) = some m1 := h
  by_cases c : t = (m : Int)
  ·rw [if_pos c] at h'
   have mn : m < n := by have := ht.1.2; omega
   have es : aI φ (m + 1) = aI φ m := by
    show (if φ (m : Int) = (aI φ m : Int) then aI φ m + 1 else aI φ m) = _
    rw [if_neg (by have := ht.2; rw [c] at this; omega)]
   obtain ⟨e1, e2, e3, e4⟩ := ue F (show m + 1 <= n from mn) (fun u hu => by rw [es]; exact hr u (List.mem_cons_of_mem _ hu)) h'
   refine ⟨e1.trans es, e2, fun u hu => ?_, by omega⟩
   rcases List.mem_cons.mp hu with z | z
   ·rw [z, c]; omega
   ·exact e3 u z
  ·rw [if_neg c] at h'
   by_cases d : t < (m : Int)
   ·rw [if_pos d] at h'
    obtain ⟨e1, e2, e3, e4⟩ := ue F hm (fun u hu => hr u (List.mem_cons_of_mem _ hu)) h'
    refine ⟨e1, e2, fun u hu => ?_, e4⟩
    rcases List.mem_cons.mp hu with z | z
    ·rw [z]; omega
    ·exact e3 u z
   ·rw [if_neg d] at h'
    cases h'
def cG (φ : Int -> Int) (rows : LL) : Nat -> LL -> LL
 | _, [] => []
 | q, r :: rs => if φ (q : Int) = (aI φ q : Int) then r.map φ :: cG φ rows (q + 1) rs else cG φ rows (q + 1) rs
theorem pY {wide : Nat} {rows : LL} (F : FirstNum φ rows.length) (R : RowsOk rows.length wide rows) (cp : ∀ x y : Nat, x < rows.length -> y < rows.length -> φ (x : Int) = φ (y : Int) -> ∀ f : Nat, f < wide -> φ (stepI rows x f) = φ (stepI rows y f)) :
  ∀ {rs : LL} {q m k : Nat}, rs = rows.drop q -> q <= rows.length -> m <= rows.length -> (∀ x : Nat, x < q -> ∀ f : Nat, f < wide -> stepI rows x f < (m : Int)) -> bZ q m rs = some k -> bZ (aI φ q) (aI φ m) (cG φ rows q rs) = some (aI φ k)
 | [], q, m, k, _, _, _, _, h => by
  cases h
  rfl
 | r :: rs, q, m, k, e, hq, hm, old, h => by
  have h' : (if q < m then (bp m r).bind fun m' => bZ (q + 1) m' rs else none) = some k := h
  by_cases c : q < m
  ·rw [if_pos c] at h'
   have l1 : q < rows.length := by omega
   rw [List.drop_eq_getElem_cons l1] at e
   injection e with er es
   cases o1 : bp m r with
   | none => rw [o1] at h'; cases h'
   | some m1 =>
    rw [o1] at h'
    have hr := R.row _ (List.getElem_mem l1)
    have hv : ∀ t ∈ r, ao rows.length t := fun t ht => R.val _ (List.getElem_mem l1) t (er ▸ ht)
    have stp : ∀ f : Nat, f < wide -> stepI rows (q : Int) (f : Int) ∈ r := fun f hf => by
     have lf : f < rows[q].length := by omega
     have : stepI rows (q : Int) (f : Int) = rows[q][f] := by
      unfold stepI
      rw [Int.toNat_natCast, Int.toNat_natCast, getD_at l1, getD_at lf]
     rw [this, er]
     exact List.getElem_mem lf
    have es' : aI φ (q + 1) = if φ (q : Int) = (aI φ q : Int) then aI φ q + 1 else aI φ q := rfl
    have nxt : ∀ m1 : Nat, (∀ t ∈ r, t < (m1 : Int)) -> m <= m1 -> ∀ x : Nat, x < q + 1 -> ∀ f : Nat, f < wide -> stepI rows x f < (m1 : Int) := fun m1 e3 e4 x hx f hf => by
     rcases Nat.lt_or_ge x q with z | z
     ·have := old x z f hf
      omega
     ·have : x = q := by omega
      rw [this]
      exact e3 _ (stp f hf)
    by_cases d : φ (q : Int) = (aI φ q : Int)
    ·obtain ⟨e1, e2, e3, e4⟩ := tG F hm hv o1
     have ih := pY F R cp es l1 e2 (nxt m1 e3 e4) h'
     rw [es', if_pos d] at ih
     have lt : aI φ q < aI φ m := by
      have := F.lt c hm
      omega
     show bZ _ _ (if φ (q : Int) = (aI φ q : Int) then _ else _) = _
     rw [if_pos d]
     show (if aI φ q < aI φ m then (bp (aI φ m) (r.map φ)).bind fun m' => bZ (aI φ q + 1) m' (cG φ rows (q + 1) rs) else none) = _
     rw [if_pos lt, e1]
     exact ih
    ·-- room q is like an earlier one
     have hl : φ (q : Int) < (aI φ q : Int) := by
      have := (F q l1).2
      omega
     obtain ⟨x, hx, ex⟩ : ∃ x : Nat, x < q /\ φ (x : Int) = φ (q : Int) := by
      have : ∀ (b : Nat) (g : Int), 0 <= g -> g < (aI φ b : Int) -> ∃ x : Nat, x < b /\ φ (x : Int) = g := by
       intro b
       induction b with
       | zero => intro g g0 g1; exact absurd g1 (by show ¬ g < ((0 : Nat) : Int); omega)
       | succ b ih =>
        intro g g0 g1
        have eb : aI φ (b + 1) = if φ (b : Int) = (aI φ b : Int) then aI φ b + 1 else aI φ b := rfl
        by_cases z : g < (aI φ b : Int)
        ·obtain ⟨x, h1, h2⟩ := ih g g0 z
         exact ⟨x, by omega, h2⟩
        ·by_cases y : φ (b : Int) = (aI φ b : Int)
         ·rw [eb, if_pos y] at g1
          exact ⟨b, Nat.lt_succ_self b, by omega⟩
         ·rw [eb, if_neg y] at g1
          exact absurd g1 z
      exact this q _ (F q l1).1 hl
     have hv' : ∀ t ∈ r, ao rows.length t /\ φ t < (aI φ m : Int) := fun t ht => by
      refine ⟨hv t ht, ?_⟩
      obtain ⟨f, hf, et⟩ := List.getElem_of_mem (er ▸ ht)
      have fw : f < wide := by omega
      have st : stepI rows (q : Int) (f : Int) = t := by
       unfold stepI
       rw [Int.toNat_natCast, Int.toNat_natCast, getD_at l1, getD_at hf, et]
      have c1 := cp x q (by omega) l1 ex f fw
      rw [st] at c1
      rw [<- c1]
      have o := old x hx f fw
      have rm := dq R (show (0 : Int) <= (x : Int) by omega) (by omega) (show (0 : Int) <= (f : Int) by omega) (by omega)
      have := F.lt (t := (stepI rows x f).toNat) (m := m) (by omega) hm
      rw [Int.toNat_of_nonneg rm.1] at this
      exact this
     obtain ⟨e1, e2, e3, e4⟩ := ue F hm hv' o1
     have ih := pY F R cp es l1 e2 (nxt m1 e3 e4) h'
     rw [es', if_neg d, e1] at ih
     show bZ _ _ (if φ (q : Int) = (aI φ q : Int) then _ else _) = _
     rw [if_neg d]
     exact ih
  ·rw [if_neg c] at h'
   cases h'
end
abbrev dd (s : LI) (v : Int) : LI := PyProof.Rows.step_dedup s v
theorem gT {s : LI} {v : Int} (h : v ∈ s) : dd s v = s := by
 unfold dd PyProof.Rows.step_dedup
 simp [h]
theorem eB {s : LI} {v : Int} (h : v ∉ s) : dd s v = s ++ [v] := by
 unfold dd PyProof.Rows.step_dedup
 simp [h]
theorem m7 : ∀ (ys s : LI), ∃ zs, ys.foldl dd s = s ++ zs
 | [], s => ⟨[], by simp⟩
 | y :: ys, s => by
  by_cases c : y ∈ s
  ·obtain ⟨zs, e⟩ := m7 ys s
   exact ⟨zs, by rw [List.foldl_cons, gT c, e]⟩
  ·obtain ⟨zs, e⟩ := m7 ys (s ++ [y])
   exact ⟨y :: zs, by rw [List.foldl_cons, eB c, e, List.append_assoc]; rfl⟩
theorem vP (gs : LI) (m : Nat) : ∃ zs, a7 gs = a7 (gs.take m) ++ zs := by
 obtain ⟨zs, e⟩ := m7 (gs.drop m) (a7 (gs.take m))
 refine ⟨zs, ?_⟩
 rw [<- e]
 show gs.foldl dd [] = (gs.drop m).foldl dd ((gs.take m).foldl dd [])
 rw [<- List.foldl_append, List.take_append_drop]
theorem fV {gs : LI} {m : Nat} {g : Int} (h : gs[m]? = some g) : a7 (gs.take (m + 1)) = dd (a7 (gs.take m)) g := by
 unfold a7
 rw [List.take_add_one, h, List.foldl_append]
 rfl
def phi (gs : LI) (q : Int) : Int := ((a7 gs).idxOf (gs.getD q.toNat 0) : Nat)
theorem Bg {xs zs : LI} {g : Int} (h : g ∈ xs) : (xs ++ zs).idxOf g = xs.idxOf g := by rw [List.idxOf_append, if_pos h]
theorem o6 {gs : LI} {m : Nat} {g : Int} (h : gs[m]? = some g) (ho : g ∈ a7 (gs.take m)) : phi gs (m : Int) = ((a7 (gs.take m)).idxOf g : Nat) := by
 obtain ⟨zs, e⟩ := vP gs m
 unfold phi
 rw [Int.toNat_natCast, List.getD_eq_getElem?_getD, h, e]
 show (((a7 (gs.take m) ++ zs).idxOf g : Nat) : Int) = _
 rw [Bg ho]
theorem oW {gs : LI} {m : Nat} {g : Int} (h : gs[m]? = some g) (ho : g ∉ a7 (gs.take m)) : phi gs (m : Int) = ((a7 (gs.take m)).length : Nat) := by
 obtain ⟨zs, e⟩ := vP gs (m + 1)
 rw [fV h, eB ho] at e
 unfold phi
 rw [Int.toNat_natCast, List.getD_eq_getElem?_getD, h, e, List.append_assoc]
 show (((a7 (gs.take m) ++ ([g] ++ zs)).idxOf g : Nat) : Int) = _
 rw [List.idxOf_append, if_neg ho]
 simp
theorem tP (gs : LI) : ∀ {m : Nat}, m <= gs.length -> aI (phi gs) m = (a7 (gs.take m)).length
 | 0, _ => rfl
 | m + 1, h => by
  have ih := tP gs (m := m) (by omega)
  have hg : gs[m]? = some gs[m] := List.getElem?_eq_getElem (by omega)
  show (if phi gs (m : Int) = (aI (phi gs) m : Int) then aI (phi gs) m + 1 else aI (phi gs) m) = _
  rw [ih, fV hg]
  by_cases c : gs[m] ∈ a7 (gs.take m)
  ·have e := o6 hg c
   have lt := List.idxOf_lt_length_of_mem c
   rw [gT c, if_neg (by omega)]
  ·have e := oW hg c
   rw [eB c, if_pos e, List.length_append]
   rfl
theorem yC (gs : LI) : FirstNum (phi gs) gs.length := fun q hq => by
 have hg : gs[q]? = some gs[q] := List.getElem?_eq_getElem hq
 rw [tP gs (by omega)]
 by_cases c : gs[q] ∈ a7 (gs.take q)
 ·have e := o6 hg c
  have lt := List.idxOf_lt_length_of_mem c
  omega
 ·have e := oW hg c
  omega
theorem zP {gs : LI} {x y : Int} (hx : ao gs.length x) (hy : ao gs.length y) : phi gs x = phi gs y ↔ gs.getD x.toNat 0 = gs.getD y.toNat 0 := by
 have mem : ∀ {z : Int}, ao gs.length z -> gs.getD z.toNat 0 ∈ a7 gs := fun {z} hz => by
  have l : z.toNat < gs.length := by have := hz.1; have := hz.2; omega
  rw [getD_at l]
  exact once_mem.mpr (List.getElem_mem l)
 unfold phi
 constructor
 ·intro h
  have h' : (a7 gs).idxOf (gs.getD x.toNat 0) = (a7 gs).idxOf (gs.getD y.toNat 0) := by omega
  have lx := List.idxOf_lt_length_of_mem (mem hx)
  have ly := List.idxOf_lt_length_of_mem (mem hy)
  have ex : (a7 gs)[(a7 gs).idxOf (gs.getD x.toNat 0)] = gs.getD x.toNat 0 := List.getElem_idxOf lx
  have ey : (a7 gs)[(a7 gs).idxOf (gs.getD y.toNat 0)] = gs.getD y.toNat 0 := List.getElem_idxOf ly
  rw [<- ex, <- ey]
  congr 1
 ·intro h
  rw [h]
theorem jL {φ : Int -> Int} : ∀ {b : Nat} {g : Int}, 0 <= g -> g < (aI φ b : Int) -> ∃ x : Nat, x < b /\ φ (x : Int) = g /\ (aI φ x : Int) = g
 | 0, g, g0, g1 => absurd g1 (by show ¬ g < ((0 : Nat) : Int); omega)
 | b + 1, g, g0, g1 => by
  have eb : aI φ (b + 1) = if φ (b : Int) = (aI φ b : Int) then aI φ b + 1 else aI φ b := rfl
  by_cases z : g < (aI φ b : Int)
  ·obtain ⟨x, h1, h2⟩ := jL g0 z
   exact ⟨x, by omega, h2⟩
  ·by_cases y : φ (b : Int) = (aI φ b : Int)
   ·rw [eb, if_pos y] at g1
    exact ⟨b, Nat.lt_succ_self b, by omega, by omega⟩
   ·rw [eb, if_neg y] at g1
    exact absurd g1 z
theorem nG {φ : Int -> Int} : ∀ {n q : Nat}, q < n -> φ (q : Int) = (aI φ q : Int) -> (bw φ n)[aI φ q]? = some q
 | 0, q, h, _ => absurd h (Nat.not_lt_zero _)
 | n + 1, q, h, e => by
  have l := gi φ n
  unfold bw at l ⊢
  rw [List.range_succ, List.filter_append]
  rcases Nat.lt_or_ge q n with z | z
  ·have ih := nG z e
   unfold bw at ih
   rw [List.getElem?_append_left (gi_ ih).1]
   exact ih
  ·have : q = n := by omega
   subst this
   rw [List.getElem?_append_right (by omega), l, Nat.sub_self, List.filter_cons_of_pos (by exact decide_eq_true e)]
   rfl
theorem pI {φ : Int -> Int} {rows : LL} : ∀ {rs : LL} {q : Nat}, rs = rows.drop q -> q <= rows.length -> cG φ rows q rs = ((List.range' q (rows.length - q)).filter fun i : Nat => decide (φ (i : Int) = (aI φ i : Int))).map fun i => (rows.getD i []).map φ
 | [], q, e, hq => by
  have hl : rows.length <= q := List.drop_eq_nil_iff.mp e.symm
  rw [show rows.length - q = 0 from by omega]
  rfl
 | r :: rs, q, e, hq => by
  have l1 : q < rows.length := by
   rcases Nat.lt_or_ge q rows.length with z | z
   ·exact z
   ·rw [List.drop_eq_nil_of_le z] at e
    cases e
  rw [List.drop_eq_getElem_cons l1] at e
  injection e with er es
  have ih := pI (φ := φ) es l1
  rw [show rows.length - q = (rows.length - (q + 1)) + 1 from by omega, List.range'_succ]
  show (if φ (q : Int) = (aI φ q : Int) then r.map φ :: cG φ rows (q + 1) rs else cG φ rows (q + 1) rs) = _
  by_cases c : φ (q : Int) = (aI φ q : Int)
  ·rw [if_pos c, ih, List.filter_cons_of_pos (by exact decide_eq_true c), List.map_cons, getD_at l1, er]
  ·rw [if_neg c, ih, List.filter_cons_of_neg (by rw [decide_eq_false c]; decide)]
theorem mU {φ : Int -> Int} {rows : LL} : cG φ rows 0 rows = (bw φ rows.length).map fun i => (rows.getD i []).map φ := by
 have h := pI (φ := φ) (rows := rows) (rs := rows) (q := 0) rfl (Nat.zero_le _)
 rw [h]
 unfold bw
 rw [List.range_eq_range', Nat.sub_zero]
structure LeastOf (wide : Nat) (rows rows' : LL) (signs signs' : LI) : Prop where
 ok : RowsOk rows'.length wide rows'
 pos : 0 < rows'.length
 sgn : signs'.length = rows'.length
 ord : jU rows'
 apart : Apart wide rows' signs'
 tells : Tells wide rows rows' signs signs' 0 0
section
variable {φ : Int -> Int} {wide : Nat} {rows : LL} {signs : LI}
theorem zS (F : FirstNum φ rows.length) (R : RowsOk rows.length wide rows) (cp : ∀ x y : Nat, x < rows.length -> y < rows.length -> φ (x : Int) = φ (y : Int) -> ∀ f : Nat, f < wide -> φ (stepI rows x f) = φ (stepI rows y f)) {q : Int} (hq : ao rows.length q) {f : Nat} (hf : f < wide) :
  stepI (cG φ rows 0 rows) (φ q) f = φ (stepI rows q f) := by
 obtain ⟨n, rfl⟩ := pS hq.1
 have hn : n < rows.length := by have := hq.2; omega
 have lt := F.lt hn (Nat.le_refl _)
 obtain ⟨x, hx, e1, e2⟩ := jL (F n hn).1 lt
 have at' := nG hx (e1.trans e2.symm)
 have lr : (rows[x]).length = wide := R.row _ (List.getElem_mem hx)
 have e3 : (cG φ rows 0 rows).getD (φ (n : Int)).toNat [] = (rows[x]).map φ := by
  rw [mU, <- e2, Int.toNat_natCast, List.getD_eq_getElem?_getD, List.getElem?_map, at']
  show (rows.getD x []).map φ = _
  rw [getD_at hx]
 have e4 : stepI rows (x : Int) (f : Int) = (rows[x])[f]'(by omega) := by
  unfold stepI
  rw [Int.toNat_natCast, Int.toNat_natCast, getD_at hx, getD_at (by omega)]
 rw [<- cp x n hx hn e1 f hf, e4]
 unfold stepI
 rw [e3, Int.toNat_natCast, List.getD_eq_getElem?_getD, List.getElem?_map, List.getElem?_eq_getElem (by omega)]
 rfl
theorem vz (F : FirstNum φ rows.length) (R : RowsOk rows.length wide rows) (cp : ∀ x y : Nat, x < rows.length -> y < rows.length -> φ (x : Int) = φ (y : Int) -> ∀ f : Nat, f < wide -> φ (stepI rows x f) = φ (stepI rows y f)) : ∀ {v : LI} {q : Int}, InF wide v -> ao rows.length q -> aZ (cG φ rows 0 rows) v (φ q) = φ (aZ rows v q)
 | [], q, _, _ => rfl
 | f :: v, q, hv, hq => by
  have hf := hv f List.mem_cons_self
  obtain ⟨m, rfl⟩ := pS hf.1
  show aZ _ v (stepI _ (φ q) (m : Int)) = φ (aZ rows v (stepI rows q (m : Int)))
  rw [zS F R cp hq (by omega)]
  exact vz F R cp (fun g hg => hv g (List.mem_cons_of_mem _ hg)) (dq R hq.1 hq.2 hf.1 hf.2)
theorem An (F : FirstNum φ rows.length) (R : RowsOk rows.length wide rows) (O : jU rows) (n0 : 0 < rows.length) (al : ∀ x y : Nat, x < rows.length -> y < rows.length -> (φ (x : Int) = φ (y : Int) ↔ AllAg rows wide signs x y)) :
  LeastOf wide rows (cG φ rows 0 rows) signs ((bw φ rows.length).map fun q => signs.getD q 0) := by
 have cp : ∀ x y : Nat, x < rows.length -> y < rows.length -> φ (x : Int) = φ (y : Int) -> ∀ f : Nat, f < wide -> φ (stepI rows x f) = φ (stepI rows y f) := fun x y hx hy e f hf => by
  have a := ((al x y hx hy).mp e).led hf
  have rx := dq R (show (0 : Int) <= (x : Int) by omega) (by omega) (show (0 : Int) <= (f : Int) by omega) (by omega)
  have ry := dq R (show (0 : Int) <= (y : Int) by omega) (by omega) (show (0 : Int) <= (f : Int) by omega) (by omega)
  have h := (al (stepI rows x f).toNat (stepI rows y f).toNat (by omega) (by omega)).mpr (by rw [Int.toNat_of_nonneg rx.1, Int.toNat_of_nonneg ry.1]; exact a)
  rw [Int.toNat_of_nonneg rx.1, Int.toNat_of_nonneg ry.1] at h
  exact h
 have ll : (cG φ rows 0 rows).length = aI φ rows.length := by rw [mU, lm_, gi]
 have p0 : φ ((0 : Nat) : Int) = ((0 : Nat) : Int) := by
  have h := F 0 n0
  have e : aI φ 0 = 0 := rfl
  rw [e] at h
  omega
 have c1 : aI φ 1 = 1 := by
  show (if φ ((0 : Nat) : Int) = ((aI φ 0 : Nat) : Int) then aI φ 0 + 1 else aI φ 0) = 1
  rw [if_pos (by rw [p0]; rfl)]
  rfl
 have cpos : 0 < aI φ rows.length := by
  have := sf (φ := φ) (show 1 <= rows.length from n0)
  omega
 have sg : ∀ {q : Int}, ao rows.length q -> sgn ((bw φ rows.length).map fun q => signs.getD q 0) (φ q) = sgn signs q := fun {q} hq => by
  obtain ⟨n, rfl⟩ := pS hq.1
  have hn : n < rows.length := by have := hq.2; omega
  obtain ⟨x, hx, e1, e2⟩ := jL (F n hn).1 (F.lt hn (Nat.le_refl _))
  have at' := nG hx (e1.trans e2.symm)
  have a := ((al x n hx hn).mp e1).sgn
  rw [<- a]
  unfold sgn
  rw [<- e2, Int.toNat_natCast, Int.toNat_natCast, List.getD_eq_getElem?_getD, List.getElem?_map, at']
  rfl
 have tl : ∀ {q : Int}, ao rows.length q -> Tells wide rows (cG φ rows 0 rows) signs ((bw φ rows.length).map fun q => signs.getD q 0) q (φ q) := fun {q} hq v hv => by
  rw [vz F R cp hv hq, sg (uQ R hv hq.1 hq.2)]
 refine ⟨⟨rfl, fun r hr => ?_, fun r hr v hv => ?_⟩, by omega, by rw [lm_, gi, ll], ?_, fun a b ha hb hab => ?_, ?_⟩
 ·rw [mU] at hr
  obtain ⟨x, hx, rfl⟩ := List.mem_map.mp hr
  have xl := List.mem_range.mp (List.mem_filter.mp hx).1
  rw [lm_, getD_at xl]
  exact R.row _ (List.getElem_mem xl)
 ·rw [mU] at hr
  obtain ⟨x, hx, rfl⟩ := List.mem_map.mp hr
  have xl := List.mem_range.mp (List.mem_filter.mp hx).1
  obtain ⟨t, ht, rfl⟩ := List.mem_map.mp hv
  rw [getD_at xl] at ht
  have rt := R.val _ (List.getElem_mem xl) t ht
  obtain ⟨n, rfl⟩ := pS rt.1
  have hn : n < rows.length := by omega
  have h1 := (F n hn).1
  have h2 := F.lt hn (Nat.le_refl _)
  rw [ll]
  exact ⟨h1, h2⟩
 ·have h := pY F R cp (rs := rows) (q := 0) (m := 1) (k := rows.length) rfl (Nat.zero_le _) n0 (fun x hx => absurd hx (Nat.not_lt_zero _)) O
  rw [c1] at h
  show bZ 0 1 _ = some _
  rw [ll]
  exact h
 ·rw [ll] at ha hb
  obtain ⟨x, hx, e1, _⟩ := jL ha.1 ha.2
  obtain ⟨y, hy, e2, _⟩ := jL hb.1 hb.2
  rw [<- e1, <- e2]
  refine (al x y hx hy).mpr fun n v hv hl => ?_
  rw [tl (q := (x : Int)) ⟨by omega, by omega⟩ v hv, tl (q := (y : Int)) ⟨by omega, by omega⟩ v hv, e1, e2]
  exact hab n v hv hl
 ·have h := tl (q := 0) ⟨by omega, by omega⟩
  have z : φ 0 = 0 := p0
  rw [z] at h
  exact h
end
theorem jX : ∀ (r s : LI), ∃ zs, r.foldl cn s = s ++ zs
 | [], s => ⟨[], by simp⟩
 | t :: r, s => by
  by_cases c : t ∈ s
  ·obtain ⟨zs, e⟩ := jX r s
   exact ⟨zs, by rw [List.foldl_cons, show cn s t = s from if_pos c, e]⟩
  ·obtain ⟨zs, e⟩ := jX r (s ++ [t])
   exact ⟨t :: zs, by rw [List.foldl_cons, show cn s t = s ++ [t] from if_neg c, e, List.append_assoc]; rfl⟩
theorem mf (rows : LL) : ∀ (qs s : LI), ∃ zs, qs.foldl (bN rows) s = s ++ zs
 | [], s => ⟨[], by simp⟩
 | q :: qs, s => by
  obtain ⟨z1, e1⟩ := jX (rows.getD q.toNat []) s
  obtain ⟨z2, e2⟩ := mf rows qs (bN rows s q)
  refine ⟨z1 ++ z2, ?_⟩
  rw [List.foldl_cons, e2]
  show (rows.getD q.toNat []).foldl cn s ++ z2 = _
  rw [e1, List.append_assoc]
def rho (qs : LI) (q : Int) : Int := ((qs.idxOf q : Nat) : Int)
theorem sq {qs : LI} : ∀ {r s zs : LI}, qs = r.foldl cn s ++ zs -> bp s.length (r.map (rho qs)) = some (r.foldl cn s).length
 | [], s, zs, _ => rfl
 | t :: r, s, zs, e => by
  have e' : qs = r.foldl cn (cn s t) ++ zs := e
  obtain ⟨ys, ey⟩ := jX r (cn s t)
  have ih := sq e'
  show (if rho qs t = (s.length : Int) then bp (s.length + 1) (r.map (rho qs)) else if rho qs t < (s.length : Int) then bp s.length (r.map (rho qs)) else none) = some (r.foldl cn (cn s t)).length
  by_cases c : t ∈ s
  ·have ep : cn s t = s := if_pos c
   rw [ep] at ih e' ey ⊢
   have ei : qs.idxOf t = s.idxOf t := by rw [e', ey, List.append_assoc, List.idxOf_append, if_pos c]
   have lt := List.idxOf_lt_length_of_mem c
   have er : rho qs t = ((s.idxOf t : Nat) : Int) := by unfold rho; rw [ei]
   rw [if_neg (by omega), if_pos (by omega)]
   exact ih
  ·have ep : cn s t = s ++ [t] := if_neg c
   rw [ep] at ih e' ey ⊢
   have ei : qs.idxOf t = s.length := by
    rw [e', ey, List.append_assoc, List.append_assoc, List.idxOf_append, if_neg c]
    simp
   have er : rho qs t = (s.length : Int) := by unfold rho; rw [ei]
   rw [if_pos er]
   rw [List.length_append, List.length_singleton] at ih
   exact ih
section
variable {many wide : Nat} {rows : LL} {qs : LI}
theorem pT (R : RowsOk many wide rows) (n0 : 0 < many) (eq : qs = qs.foldl (bN rows) [0]) (nd : qs.Nodup) (re : ∀ q ∈ qs, ∃ row, InF wide row /\ aZ rows row 0 = q) :
  ∀ {ps : LI} {k : Nat}, ps = qs.drop k -> k <= qs.length -> bZ k ((qs.take k).foldl (bN rows) [0]).length (ps.map fun q => (rows.getD q.toNat []).map (rho qs)) = some qs.length
 | [], k, e, hk => by
  have hl : qs.length <= k := List.drop_eq_nil_iff.mp e.symm
  show some _ = some _
  rw [List.take_of_length_le hl, <- eq]
 | p :: ps, k, e, hk => by
  have l1 : k < qs.length := by
   rcases Nat.lt_or_ge k qs.length with z | z
   ·exact z
   ·rw [List.drop_eq_nil_of_le z] at e
    cases e
  have e0 := e
  rw [List.drop_eq_getElem_cons l1] at e
  injection e with ep es
  obtain ⟨s, hs⟩ : ∃ s, (qs.take k).foldl (bN rows) [0] = s := ⟨_, rfl⟩
  have all : qs = (p :: ps).foldl (bN rows) s := by
   rw [<- hs, <- List.foldl_append, e0, List.take_append_drop]
   exact eq
  obtain ⟨zs, ez⟩ := mf rows (p :: ps) s
  rw [<- all] at ez
  have ks : k < s.length := by
   rcases Nat.lt_or_ge k s.length with z | z
   ·exact z
   ·have sub : ∀ q ∈ s, q ∈ qs.take k := fun q hq => by
     have : s = qs.take s.length := by
      have h : (s ++ zs).take s.length = s := List.take_left' rfl
      rw [<- ez] at h
      exact h.symm
     rw [this] at hq
     exact (List.take_prefix_take_left z).subset hq
    have cl : ∀ q ∈ s, ∀ f : Int, 0 <= f -> f < (wide : Int) -> ao many q -> stepI rows q f ∈ s := fun q hq f f0 f1 hr => by
     rw [<- hs]
     refine dI rows (qs.take k) (sub q hq) ?_
     have lq : q.toNat < rows.length := by have := R.len; have := hr.1; have := hr.2; omega
     have lf : f.toNat < rows[q.toNat].length := by rw [R.row _ (List.getElem_mem lq)]; omega
     unfold stepI
     rw [getD_at lq, getD_at lf]
     exact List.getElem_mem lf
    have z0 : (0 : Int) ∈ s := by rw [<- hs]; exact fU rows _ List.mem_cons_self
    have wk : ∀ (row : LI) (q : Int), InF wide row -> ao many q -> q ∈ s -> aZ rows row q ∈ s := fun row => by
     induction row with
     | nil => intro q _ _ h; exact h
     | cons f row ih =>
      intro q hf hr h
      have h0 := hf f List.mem_cons_self
      exact ih _ (fun g hg => hf g (List.mem_cons_of_mem _ hg)) (dq R hr.1 hr.2 h0.1 h0.2) (cl q h f h0.1 h0.2 hr)
    have lq : qs[k] ∈ s := by
     obtain ⟨row, hf, ew⟩ := re qs[k] (List.getElem_mem l1)
     rw [<- ew]
     exact wk row 0 hf ⟨by omega, by omega⟩ z0
    have ht := sub _ lq
    obtain ⟨i, hi, ei⟩ := List.getElem_of_mem ht
    rw [List.length_take] at hi
    rw [List.getElem_take] at ei
    have := (List.getElem_inj nd).mp ei
    omega
  show (if k < ((qs.take k).foldl (bN rows) [0]).length then (bp ((qs.take k).foldl (bN rows) [0]).length ((rows.getD p.toNat []).map (rho qs))).bind fun m' => bZ (k + 1) m' (ps.map fun q => (rows.getD q.toNat []).map (rho qs)) else none) = _
  rw [hs, if_pos ks]
  obtain ⟨ys, ey⟩ := mf rows ps (bN rows s p)
  have all2 : qs = (rows.getD p.toNat []).foldl cn s ++ ys := by
   rw [all]
   exact ey
  rw [sq all2]
  have ih := pT R n0 eq nd re es l1
  have et : (qs.take (k + 1)).foldl (bN rows) [0] = bN rows s p := by
   rw [List.take_add_one, List.getElem?_eq_getElem l1, List.foldl_append, hs, <- ep]
   rfl
  rw [et] at ih
  exact ih
theorem xq (R : RowsOk many wide rows) (inr : ∀ q ∈ qs, ao many q) {q : Int} (hq : q ∈ qs) {f : Nat} (hf : f < wide) : stepI (qs.map fun q => (rows.getD q.toNat []).map (rho qs)) (rho qs q) f = rho qs (stepI rows q f) := by
 have li := List.idxOf_lt_length_of_mem hq
 have hr := inr q hq
 have lq : q.toNat < rows.length := by have := R.len; have := hr.1; have := hr.2; omega
 have lf : f < rows[q.toNat].length := by rw [R.row _ (List.getElem_mem lq)]; exact hf
 have ei : qs[qs.idxOf q]? = some q := by rw [List.getElem?_eq_getElem li, List.getElem_idxOf li]
 have e3 : (qs.map fun q => (rows.getD q.toNat []).map (rho qs)).getD (rho qs q).toNat [] = (rows[q.toNat]).map (rho qs) := by
  unfold rho
  rw [Int.toNat_natCast, List.getD_eq_getElem?_getD, List.getElem?_map, ei]
  show (rows.getD q.toNat []).map _ = _
  rw [getD_at lq]
 unfold stepI
 rw [e3, Int.toNat_natCast, getD_at lq, getD_at lf, List.getD_eq_getElem?_getD, List.getElem?_map, List.getElem?_eq_getElem lf]
 rfl
theorem Ae (R : RowsOk many wide rows) (eq : qs = qs.foldl (bN rows) [0]) (inr : ∀ q ∈ qs, ao many q) {q f : Int} (hq : q ∈ qs) (f0 : 0 <= f) (f1 : f < (wide : Int)) : stepI rows q f ∈ qs := by
 rw [eq]
 refine dI rows qs hq ?_
 have hr := inr q hq
 have lq : q.toNat < rows.length := by have := R.len; have := hr.1; have := hr.2; omega
 have lf : f.toNat < rows[q.toNat].length := by rw [R.row _ (List.getElem_mem lq)]; omega
 unfold stepI
 rw [getD_at lq, getD_at lf]
 exact List.getElem_mem lf
theorem iL (R : RowsOk many wide rows) (eq : qs = qs.foldl (bN rows) [0]) (inr : ∀ q ∈ qs, ao many q) : ∀ {v : LI} {q : Int}, InF wide v -> q ∈ qs -> aZ (qs.map fun q => (rows.getD q.toNat []).map (rho qs)) v (rho qs q) = rho qs (aZ rows v q) /\ aZ rows v q ∈ qs
 | [], q, _, hq => ⟨rfl, hq⟩
 | f :: v, q, hv, hq => by
  have hf := hv f List.mem_cons_self
  obtain ⟨m, rfl⟩ := pS hf.1
  have hs := Ae R eq inr hq hf.1 hf.2
  have ih := iL R eq inr (fun g hg => hv g (List.mem_cons_of_mem _ hg)) hs
  have st := xq R inr hq (f := m) (by omega)
  show aZ _ v (stepI _ (rho qs q) (m : Int)) = rho qs (aZ rows v (stepI rows q (m : Int))) /\ aZ rows v (stepI rows q (m : Int)) ∈ qs
  rw [st]
  exact ih
theorem pQ {signs : LI} (R : RowsOk many wide rows) (n0 : 0 < many) (eq : qs = qs.foldl (bN rows) [0]) (nd : qs.Nodup) (inr : ∀ q ∈ qs, ao many q) (re : ∀ q ∈ qs, ∃ row, InF wide row /\ aZ rows row 0 = q) :
  RowsOk qs.length wide (qs.map fun q => (rows.getD q.toNat []).map (rho qs)) /\ jU (qs.map fun q => (rows.getD q.toNat []).map (rho qs)) /\ 0 < qs.length /\ Tells wide rows (qs.map fun q => (rows.getD q.toNat []).map (rho qs)) signs (qs.map fun q => signs.getD q.toNat 0) 0 0 := by
 obtain ⟨zs, ez⟩ := mf rows qs [0]
 rw [<- eq] at ez
 have z0 : (0 : Int) ∈ qs := by rw [ez]; exact List.mem_cons_self
 have r0 : rho qs 0 = 0 := by
  unfold rho
  rw [ez]
  simp
 refine ⟨⟨List.length_map _, fun r hr => ?_, fun r hr v hv => ?_⟩, ?_, List.length_pos_of_mem z0, fun v hv => ?_⟩
 ·obtain ⟨q, hq, rfl⟩ := List.mem_map.mp hr
  have h := inr q hq
  have lq : q.toNat < rows.length := by have := R.len; have := h.1; have := h.2; omega
  rw [lm_, getD_at lq]
  exact R.row _ (List.getElem_mem lq)
 ·obtain ⟨q, hq, rfl⟩ := List.mem_map.mp hr
  have h := inr q hq
  have lq : q.toNat < rows.length := by have := R.len; have := h.1; have := h.2; omega
  obtain ⟨t, ht, rfl⟩ := List.mem_map.mp hv
  have tm : t ∈ qs := by rw [eq]; exact dI rows qs hq ht
  have := List.idxOf_lt_length_of_mem tm
  unfold rho
  omega
 ·have h := pT R n0 eq nd re (ps := qs) (k := 0) rfl (Nat.zero_le _)
  show bZ 0 1 _ = some _
  rw [lm_]
  exact h
 ·have h := iL R eq inr hv z0
  rw [r0] at h
  rw [h.1]
  obtain ⟨w, ew⟩ : ∃ w, aZ rows v 0 = w := ⟨_, rfl⟩
  have hw := h.2
  rw [ew] at hw ⊢
  have li := List.idxOf_lt_length_of_mem hw
  unfold sgn rho
  rw [Int.toNat_natCast, List.getD_eq_getElem?_getD (l := qs.map _), List.getElem?_map, List.getElem?_eq_getElem li, List.getElem_idxOf li]
  rfl
end
theorem Tells.trans {wide : Nat} {r1 r2 r3 : LL} {s1 s2 s3 : LI} {a b c : Int} (h : Tells wide r1 r2 s1 s2 a b) (h' : Tells wide r2 r3 s2 s3 b c) : Tells wide r1 r3 s1 s3 a c := fun v hv => (h v hv).trans (h' v hv)
theorem Tells.symm {wide : Nat} {r1 r2 : LL} {s1 s2 : LI} {a b : Int} (h : Tells wide r1 r2 s1 s2 a b) : Tells wide r2 r1 s2 s1 b a := fun v hv => (h v hv).symm
theorem LeastOf.of {wide : Nat} {rows rs rows' : LL} {signs ss signs' : LI} (h : LeastOf wide rs rows' ss signs') (t : Tells wide rows rs signs ss 0 0) : LeastOf wide rows rows' signs signs' :=
 ⟨h.ok, h.pos, h.sgn, h.ord, h.apart, t.trans h.tells⟩
theorem LeastOf.one {wide : Nat} {r1 r2 a b : LL} {s1 s2 sa sb : LI} (h1 : LeastOf wide r1 a s1 sa) (h2 : LeastOf wide r2 b s2 sb) (t : Tells wide r1 r2 s1 s2 0 0) : a = b /\ sa = sb :=
 wJ h1.apart h2.apart h1.ok h2.ok h1.pos h2.pos h1.ord h2.ord h1.sgn h2.sgn ((h1.tells.symm.trans t).trans h2.tells)
theorem LeastOf.self {wide : Nat} {rows : LL} {signs : LI} (R : RowsOk rows.length wide rows) (n0 : 0 < rows.length) (ls : signs.length = rows.length) (O : jU rows) (A : Apart wide rows signs) : LeastOf wide rows rows signs signs :=
 ⟨R, n0, ls, O, A, fun _ _ => rfl⟩
theorem ve {many wide : Nat} {rows : LL} {signs qs gs : LI} (R : RowsOk many wide rows) (n0 : 0 < many) (eq : qs = qs.foldl (bN rows) [0]) (nd : qs.Nodup) (inr : ∀ q ∈ qs, ao many q) (re : ∀ q ∈ qs, ∃ row, InF wide row /\ aZ rows row 0 = q) (lg : gs.length = qs.length)
  (hg : ∀ x y : Nat, x < qs.length -> y < qs.length -> (gs.getD x 0 = gs.getD y 0 ↔ AllAg (qs.map fun q => (rows.getD q.toNat []).map (rho qs)) wide (qs.map fun q => signs.getD q.toNat 0) x y)) :
  LeastOf wide rows (cG (phi gs) (qs.map fun q => (rows.getD q.toNat []).map (rho qs)) 0 (qs.map fun q => (rows.getD q.toNat []).map (rho qs))) signs ((bw (phi gs) qs.length).map fun q => (qs.map fun q => signs.getD q.toNat 0).getD q 0) := by
 obtain ⟨R1, O1, p1, t1⟩ := pQ (signs := signs) R n0 eq nd inr re
 have el : (qs.map fun q => (rows.getD q.toNat []).map (rho qs)).length = qs.length := List.length_map _
 have F := yC gs
 have h := An (φ := phi gs) (wide := wide) (rows := qs.map fun q => (rows.getD q.toNat []).map (rho qs)) (signs := qs.map fun q => signs.getD q.toNat 0) (by rw [el, <- lg]; exact F) (by rw [el]; exact R1) O1 (by rw [el]; exact p1) (fun x y hx hy => by
  rw [el] at hx hy
  rw [zP ⟨by omega, by omega⟩ ⟨by omega, by omega⟩, Int.toNat_natCast, Int.toNat_natCast]
  exact hg x y hx hy)
 rw [el] at h
 exact h.of t1
def kvN (xs : LI) (k : Nat) : List (Key × V) := (xs.zipIdx k).map fun p => (Sum.inl p.1, V.int (p.2 : Int))
theorem iH (xs : LI) (k : Nat) : (kvN xs k).length = xs.length := by
 unfold kvN
 rw [lm_, List.length_zipIdx]
theorem jT : ∀ (xs : LI) (k : Nat) (g : Int), dk (kvN xs k) (Sum.inl g) = if g ∈ xs then some (.int ((k + xs.idxOf g : Nat) : Int)) else none
 | [], k, g => by rw [if_neg (by simp)]; rfl
 | x :: xs, k, g => by
  have ih := jT xs (k + 1) g
  have e0 : kvN (x :: xs) k = (Sum.inl x, V.int (k : Int)) :: kvN xs (k + 1) := rfl
  by_cases e : x = g
  ·subst e
   rw [e0, g6 rfl, if_pos List.mem_cons_self, List.idxOf_cons]
   simp
  ·rw [e0, gf (fun z => e (Sum.inl.inj z)), ih]
   have m : g ∈ x :: xs ↔ g ∈ xs := by simp [Ne.symm e]
   by_cases c : g ∈ xs
   ·have i : (x :: xs).idxOf g = xs.idxOf g + 1 := by rw [List.idxOf_cons, show (x == g) = false from beq_false_of_ne e]; rfl
    rw [if_pos c, if_pos (m.mpr c), i]
    congr 3
    omega
   ·rw [if_neg c, if_neg fun z => c (m.mp z)]
theorem tR {xs : LI} {g : Int} (h : g ∉ xs) : putK (kvN xs 0) (Sum.inl g) (V.int (xs.length : Int)) = kvN (xs ++ [g]) 0 := by
 unfold putK
 rw [if_neg (by
  intro z
  obtain ⟨p, hp, e⟩ := List.any_eq_true.mp z
  obtain ⟨k, hk, rfl⟩ := List.mem_map.mp hp
  have e' := Sum.inl.inj (of_decide_eq_true e)
  have m : k.1 ∈ xs := by
   obtain ⟨i, hi, ei⟩ := List.getElem_of_mem hk
   rw [List.getElem_zipIdx] at ei
   rw [<- ei]
   exact List.getElem_mem _
  exact h (e' ▸ m))]
 unfold kvN
 rw [List.zipIdx_append, List.map_append, Nat.zero_add]
 rfl
theorem kM : ∀ (gs s : LI), s.Nodup -> (gs.foldl dd s).Nodup
 | [], s, h => h
 | g :: gs, s, h => by
  rw [List.foldl_cons]
  by_cases c : g ∈ s
  ·rw [gT c]; exact kM gs s h
  ·rw [eB c]; exact kM gs _ (lO h c)
theorem AU (gs : LI) : (a7 gs).Nodup := kM gs [] List.nodup_nil
theorem dJ : ∀ (gs s : LI), (gs.foldl dd s).length <= s.length + gs.length
 | [], s => Nat.le_refl _
 | g :: gs, s => by
  rw [List.foldl_cons]
  by_cases c : g ∈ s
  ·rw [gT c]
   have := dJ gs s
   rw [List.length_cons]
   omega
  ·rw [eB c]
   have := dJ gs (s ++ [g])
   rw [List.length_append, List.length_singleton] at this
   rw [List.length_cons]
   omega
theorem mq (gs : LI) : (a7 gs).length <= gs.length := by
 have := dJ gs []
 rw [List.length_nil, Nat.zero_add] at this
 exact this
def di (gs : LI) : LI := (List.range gs.length).map fun i : Nat => phi gs i
theorem mJ {gs : LI} {q : Int} (h0 : 0 <= q) (h1 : q < (gs.length : Int)) : aR (di gs) q = phi gs q := by
 unfold aR di
 have l : q.toNat < gs.length := by omega
 rw [getD_at (by rw [lm_, List.length_range]; exact l), List.getElem_map, List.getElem_range, Int.toNat_of_nonneg h0]
theorem AB {gs : LI} {q : Int} (h0 : 0 <= q) (h1 : q < (gs.length : Int)) : 0 <= phi gs q /\ phi gs q < ((a7 gs).length : Int) := by
 have l : q.toNat < gs.length := by omega
 have m : gs.getD q.toNat 0 ∈ a7 gs := by rw [getD_at l]; exact once_mem.mpr (List.getElem_mem l)
 have := List.idxOf_lt_length_of_mem m
 unfold phi
 omega
theorem AO {gs : LI} {j : Nat} (h : j < (a7 gs).length) : ∃ q : Int, ao gs.length q /\ phi gs q = (j : Int) := by
 have m : (a7 gs)[j] ∈ gs := once_mem.mp (List.getElem_mem h)
 obtain ⟨i, hi, e⟩ := List.getElem_of_mem m
 refine ⟨(i : Int), ⟨by omega, by omega⟩, ?_⟩
 unfold phi
 rw [Int.toNat_natCast, getD_at hi, e]
 have l := List.idxOf_lt_length_of_mem (List.getElem_mem h)
 have q := (List.getElem_inj (AU gs)).mp (List.getElem_idxOf l)
 rw [q]
theorem yf (col : LI) (q : Int) : (cw col q).Nodup := by
 unfold cw
 refine List.pairwise_map.mpr ((List.nodup_range.filter _).imp fun {a b} n z => n ?_)
 have z' : (a : Int) = (b : Int) := z
 omega
def o9 (C : Addr) : Sp := fun vs H Q _ => ∃ (x dx g : Addr) (signs : LI), vs = [.ref x, .ref g] /\ H x = some (.ins C dx []) /\ H g = some (.tup (signs.map V.int)) /\ signs.length < 1000 /\
 ∀ (H' : Hp) (go ms wt iw : Addr) (ds : List Addr), (∀ b u, b ≠ x -> H b = some u -> H' b = some u) -> H go = none -> H ms = none -> H wt = none -> H iw = none -> (∀ d ∈ ds, H d = none) -> PtS H' C x go ms wt iw signs.length (di signs) ds ((List.range ds.length).map fun i : Nat => (i : Int)) -> Q .non H'
section
variable {P : Program} {w : World} {K : PySem.W.Frag} {mg : Str -> Option Value} {base : Heap} {f : Addr} {fd : FuncData} {dV : Value} {C : Addr}
theorem sc_Parted___init__ : FnScope ["self", "signs", "numbers", "group_of", "members", "here", "group"] ["self", "signs"] (ak aW) := ⟨rfl, rfl, rfl, by decide +kernel, rfl, by decide +kernel, by decide +kernel⟩
theorem bk_Parted___init___0 : BlkScope ["self", "signs", "numbers", "group_of", "members", "here", "group"] (ak aW) ["sign", "numbers"] [none, some 2] { kind := ScopeKind.function, names := [(".0", NameKind.local), ("sign", NameKind.local), ("len", NameKind.globalImplicit), ("numbers", NameKind.free)], isGenerator := false, isCoroutine := false, more := [] } := ⟨rfl, by decide +kernel, by decide +kernel, by decide +kernel, by decide +kernel, rfl, by decide +kernel⟩
theorem bk_Parted___init___1 : BlkScope ["self", "signs", "numbers", "group_of", "members", "here", "group"] (ak aW) ["sign"] [none] { kind := ScopeKind.function, names := [(".0", NameKind.local), ("sign", NameKind.local)], isGenerator := false, isCoroutine := false, more := [] } := ⟨rfl, by decide +kernel, by decide +kernel, by decide +kernel, by decide +kernel, rfl, by decide +kernel⟩
theorem bk_Parted___init___2 : BlkScope ["self", "signs", "numbers", "group_of", "members", "here", "group"] (ak aW) ["group"] [none] { kind := ScopeKind.function, names := [(".0", NameKind.local), ("group", NameKind.local)], isGenerator := false, isCoroutine := false, more := [] } := ⟨rfl, by decide +kernel, by decide +kernel, by decide +kernel, by decide +kernel, rfl, by decide +kernel⟩
theorem wZ (F : FunD K "__init__" "Parted.__init__" aW dV f fd) (pc : PCls K C) (aM : mg "len" = none) (dj : mg "list" = none) (bx : mg "range" = none) (fq : mg "dict" = none) (aV : mg "enumerate" = none) : FnOk P w K mg base CX0 1 f fd ["self", "signs"] (o9 C) := by
 refine F.ok sc_Parted___init__ (fun vs H Q E h => ?_) (fun cdv A outer s H vs Q E hr h => ?_)
 ·obtain ⟨x, dx, g, signs, rfl, _⟩ := h
  rfl
 obtain ⟨x, dx, g, signs, rfl, hx, hg, ln, k⟩ := h
 have hu := gB hr
 refine ⟨_, (aj (az (i := 2) sc_Parted___init__.nd rfl (Or.inr rfl) jC)
   (aj (jb (i := 3) rfl sc_Parted___init__.nd rfl (Or.inl rfl) bk_Parted___init___0 (iM (pv 1)) (fun _ _ _ _ => (ax (i := 0) bk_Parted___init___0.nd rfl (Or.inl rfl))) (fun _ _ _ _ => (uh (pv 1) (pv 0) (aC jS (by rfl) aM bB (aa (pv 1) af)) ⟨rfl, rfl, rfl, rfl⟩)))
   (aj (jb (i := 4) rfl sc_Parted___init__.nd rfl (Or.inl rfl) bk_Parted___init___1 (Bx (pv 2)) (fun _ _ _ _ => (ax (i := 0) bk_Parted___init___1.nd rfl (Or.inl rfl))) (fun _ _ _ _ => jC))
   (aj (cf PassesOwn.never rfl (pD rfl aV (aa (pv 3) af)) (ic rfl (bt (ax (i := 5) sc_Parted___init__.nd rfl (Or.inl rfl)) (bt (ax (i := 6) sc_Parted___init__.nd rfl (Or.inl rfl)) fQ))) (av (lV hu (aO b9 (pv 4) (pv 6) (fun _ _ => rfl)) (pv 5) eA rfl)))
   (aj (nF (pv 0) (pv 3) rfl)
   (aj (nF (pv 0) (pv 4) rfl)
   (aj (nF (pv 0) (pN rfl rfl dj rfl bx (aa (aC aA (by rfl) aM bB (aa (pv 4) af)) af)) rfl)
   (av (nF (pv 0) (aN (jm rfl) (by rfl) fq oT (aa (cq rfl bk_Parted___init___2 (dG rfl bx (aa (aC aA (by rfl) aM bB (aa (pv 4) af)) af)) (fun _ _ _ _ => (ax (i := 0) bk_Parted___init___2.nd rfl (Or.inl rfl))) (fun _ _ _ _ => (dD (aa (pv 0) (aa eA af))))) af)) rfl))))))))), ?_⟩
 refine fun Nd hNd => ?_
 have s0 := ah hNd (HO.dK [])
 have pl : (di signs).length = signs.length := by unfold di; rw [lm_, List.length_range]
 try dsimp only [bR, dZ]
 refine dN (t := oP _ _) (fun σ' H' => ∃ go : Addr, σ' = [some (.ref x), some (.ref g), some (.ref Nd), some (.ref go), none, none, none] /\ Same H H' /\ H go = none /\ H' go = some (.lst ((di signs).map V.int)) /\ H' Nd = some (.dK (kvN (a7 signs) 0))) ?_ (fun D' nxt => ?_)
 rotate_left
 ·refine ⟨_, rfl, g, rfl, ⟨_, qT_ (s0 _ _ hg)⟩, ?_⟩
  refine gX (K := K) (xs := signs.map V.int) (fun D i ys H' => Same H H' /\ H' Nd = some (.dK (kvN (a7 (signs.take i)) 0)) /\ ys = ((List.range i).map fun j : Nat => phi signs j).map V.int) (fun D hD => ⟨au s0 (s0.free hD), by rw [ae (aq ab hD), ab]; rfl, rfl⟩) (fun D i ys H' _ ⟨e, _⟩ => qT_ (e _ _ hg)) ?_ ?_
  ·rintro D i y ys H2 Q' hD hi hy ⟨s2, hN2, rfl⟩ k'
   obtain ⟨sg, rfl, hs⟩ := aY hi
   have il := (gi_ hs).1
   have ol := mq (signs.take i)
   rw [List.length_take] at ol
   have nND : Nd ≠ D := aB hN2 hy (by intro z; cases z)
   have fD : H D = none := s0.free hD
   refine ⟨_, rfl, Nd, rfl, .inl ⟨_, .inl hN2⟩, _, rfl, _, rfl, Nd, _, rfl, hN2, _, Sum.inl sg, hN2, rfl, aw (by rw [iH]; omega), fun v hv => ?_, fun hn => ?_⟩
   ·rw [jT] at hv
    by_cases c : sg ∈ a7 (signs.take i)
    ·rw [if_pos c, Nat.zero_add] at hv
     have ev := (Option.some.inj hv).symm
     subst ev
     refine k' _ _ hy (aw (by rw [lm_, lm_, List.length_range]; omega)) ⟨au s2 fD, by rw [ae nND, hN2, fV hs, gT c], ?_⟩
     rw [List.range_succ, List.map_append, List.map_append, <- o6 hs c]
     rfl
    ·rw [if_neg c] at hv
     cases hv
   ·rw [jT] at hn
    by_cases c : sg ∈ a7 (signs.take i)
    ·rw [if_pos c] at hn
     cases hn
    ·rw [iH]
     refine k' _ _ (by rw [ae (Ne.symm nND)]; exact hy) (aw (by rw [lm_, lm_, List.length_range]; omega)) ⟨au (au s2 hNd) fD, by rw [ae nND, ab, tR c, fV hs, eB c], ?_⟩
     rw [List.range_succ, List.map_append, List.map_append, <- oW hs c]
     rfl
  ·rintro D ys H2 hD hy ⟨s2, hN2, rfl⟩
   rw [lm_, List.take_length] at hN2
   rw [lm_] at hy
   exact nxt _ _ ⟨D, rfl, s2, s0.free hD, hy, hN2⟩
 rintro σ' H1 ⟨go, rfl, s1, fgo, hgo1, hN1⟩
 have ol := mq signs
 refine dN (t := oP _ _) (fun σ' H' => ∃ (ms : Addr) (as : List Addr), σ' = [some (.ref x), some (.ref g), some (.ref Nd), some (.ref go), some (.ref ms), none, none] /\ Same H H' /\ H' go = some (.lst ((di signs).map V.int)) /\ H ms = none /\ H' ms = some (.lst (as.map V.ref)) /\ as.length = (a7 signs).length /\ as.Nodup /\ ms ≠ go /\ (∀ a ∈ as, H a = none /\ H' a = some (.dK []))) ?_ (fun D' nxt => ?_)
 rotate_left
 ·refine ⟨_, rfl, Nd, _, rfl, .inl ⟨hN1, fun o => ?_⟩⟩
  obtain ⟨H2, eH2⟩ : ∃ H2, upd H1 Nd (.frz o (.dK (kvN (a7 signs) 0))) = H2 := ⟨_, rfl⟩
  have s2 : Same H H2 := by rw [<- eH2]; exact au s1 hNd
  have hN2 : H2 Nd = some (.frz o (.dK (kvN (a7 signs) 0))) := by rw [<- eH2, ab]
  have hgo2 : H2 go = some (.lst ((di signs).map V.int)) := by rw [<- eH2, ae (aB hgo1 hN1 (by intro z; cases z))]; exact hgo1
  rw [eH2]
  refine yP (o := o) (kvs := kvN (a7 signs) 0) (fun D i ys H' => Same H2 H' /\ ∃ as : List Addr, ys = as.map V.ref /\ as.length = i /\ as.Nodup /\ (∀ a ∈ as, H2 a = none /\ H' a = some (.dK []))) (fun D hD => ⟨ah hD _, [], rfl, rfl, List.nodup_nil, fun a h => by cases h⟩) (fun D i ys H' _ ⟨e, _⟩ => e _ _ hN2) ?_ ?_
  ·rintro D i p ys H3 Q' hD hi hy ⟨s3, as, rfl, la, nd, ha⟩ k'
   have il := (gi_ hi).1
   rw [iH] at il
   refine fun d hd => ?_
   have nDd : D ≠ d := aq hy hd
   have nda : d ∉ as := fun z => by rw [(ha d z).2] at hd; cases hd
   refine k' _ _ (by rw [ae nDd]; exact hy) (aw (by rw [lm_]; omega)) ⟨au (au s3 (s3.free hd)) hD, as ++ [d], by rw [List.map_append]; rfl, by rw [List.length_append, List.length_singleton, la], ?_, fun a h => ?_⟩
   ·exact List.nodup_append.mpr ⟨nd, by simp, fun a ha b hb e => nda (by rw [<- List.mem_singleton.mp hb, <- e]; exact ha)⟩
   ·rcases ma_.mp h with z | z
    ·obtain ⟨h1, h2⟩ := ha a z
     exact ⟨h1, by rw [ae (aB h2 hy (by intro z; cases z)), ae (fun y : a = d => nda (y ▸ z))]; exact h2⟩
    ·rw [List.mem_singleton.mp z]
     exact ⟨s3.free hd, by rw [ae (Ne.symm nDd), ab]⟩
  ·rintro D ys H3 hD hy ⟨s3, as, rfl, la, nd, ha⟩
   rw [iH] at la
   exact nxt _ _ ⟨D, as, rfl, s2.trans s3, s3 _ _ hgo2, s2.free hD, hy, la, nd, Ne.symm (aq hgo2 hD), fun a h => ⟨s2.free (ha a h).1, (ha a h).2⟩⟩
 rintro σ' H2 ⟨ms, as, rfl, s2, hgo2, fms, hms2, la, nda, nmg, ha2⟩
 refine dN (t := oQ _ _ _) (fun σ' H' => ∃ (v1 v2 : OV), σ' = [some (.ref x), some (.ref g), some (.ref Nd), some (.ref go), some (.ref ms), v1, v2] /\ Same H H' /\ H' go = some (.lst ((di signs).map V.int)) /\ H' ms = some (.lst (as.map V.ref)) /\ ∀ (j : Nat) (a : Addr), as[j]? = some a -> H' a = some (.dK (kvT (cw (di signs) (j : Int))))) ?_ (fun D' nxt => ?_)
 rotate_left
 ·refine ⟨_, rfl, go, rfl, ⟨_, qL_ hgo2⟩, sJ (K := K) (xs := (di signs).map V.int) (fun i σ' H' => ∃ (v1 v2 : OV), σ' = [some (.ref x), some (.ref g), some (.ref Nd), some (.ref go), some (.ref ms), v1, v2] /\ Same H H' /\ H' go = some (.lst ((di signs).map V.int)) /\ H' ms = some (.lst (as.map V.ref)) /\ ∀ (j : Nat) (a : Addr), as[j]? = some a -> H' a = some (.dK (kvT (cw ((di signs).take i) (j : Int)))))
   ⟨none, none, rfl, s2, hgo2, hms2, fun j a h => (ha2 a (mq_ h)).2⟩ (fun i σ' H' _ ⟨_, _, _, _, e, _⟩ => qL_ e) ?_ ?_⟩
  ·rintro i y σ' H3 T hi ⟨v1, v2, rfl, s3, hgo3, hms3, ha3⟩ hT
   obtain ⟨t, rfl, ht⟩ := aY hi
   have il := (gi_ ht).1
   rw [pl] at il
   have et : t = phi signs (i : Int) := by
    have e := (gi_ ht).2
    rw [<- e]
    unfold di
    rw [List.getElem_map, List.getElem_range]
   have tv := AB (gs := signs) (q := (i : Int)) (by omega) (by omega)
   rw [<- et] at tv
   have tl : t.toNat < as.length := by omega
   have sT := ah hT (HO.tup [V.int i, V.int t])
   obtain ⟨H4, eH4⟩ : ∃ H4, upd H3 T (HO.tup [V.int i, V.int t]) = H4 := ⟨_, rfl⟩
   have hT4 : H4 T = some (.tup [V.int i, V.int t]) := by rw [<- eH4]; exact ab
   rw [eH4] at sT ⊢
   obtain ⟨a, ea⟩ : ∃ a, as[t.toNat]? = some a := ⟨_, List.getElem?_eq_getElem tl⟩
   have ha4 := sT _ _ (ha3 _ _ ea)
   have tn : ((t.toNat : Nat) : Int) = t := Int.toNat_of_nonneg tv.1
   rw [tn] at ha4
   have lp : ((di signs).take i).length = i := by rw [List.length_take]; omega
   have notin : (i : Int) ∉ cw ((di signs).take i) t := fun z => by
    have h1 := (preI_mem.mp z).1.2
    rw [lp] at h1
    omega
   have pln := u3 ((di signs).take i) t
   refine ⟨T, _, rfl, qT_ hT4, rfl, _, _, rfl, _, _, rfl, rfl, ?_⟩
   refine ⟨_, rfl, _, rfl, ms, _, _, _, rfl, rfl, qL_ (sT _ _ hms3), gh tv.1 ea, _, rfl, a, _, rfl, DPut.k (k := Sum.inl (i : Int)) ha4 (aw (by unfold kvT; rw [lm_]; omega)), ?_⟩
   rw [oU notin]
   have fa : H a = none := (ha2 a (mq_ ea)).1
   have hgo4 := sT _ _ hgo3
   have hms4 := sT _ _ hms3
   refine ⟨_, _, rfl, au (s3.trans sT) fa, by rw [ae (aB hgo4 ha4 (by intro z; cases z))]; exact hgo4, by rw [ae (aB hms4 ha4 (by intro z; cases z))]; exact hms4, fun j b hb => ?_⟩
   have et2 : (di signs).take (i + 1) = (di signs).take i ++ [t] := by rw [List.take_add_one, ht]; rfl
   rw [et2, nY, lp]
   by_cases c : b = a
   ·subst c
    have ej : j = t.toNat := by
     have e1 := (gi_ hb)
     have e2 := (gi_ ea)
     exact (List.getElem_inj nda).mp (e1.2.trans e2.2.symm)
    rw [ab, ej, tn, if_pos rfl]
   ·have nj : t ≠ (j : Int) := fun z => by
     have e : t.toNat = j := by omega
     rw [e, hb] at ea
     exact c (Option.some.inj ea)
    rw [ae c, if_neg nj, List.append_nil]
    exact sT _ _ (ha3 j b hb)
  ·rintro σ' H3 ⟨v1, v2, rfl, s3, hgo3, hms3, ha3⟩
   rw [lm_, List.take_length] at ha3
   exact nxt _ _ ⟨v1, v2, rfl, s3, hgo3, hms3, ha3⟩
 rintro σ' H3 ⟨v1, v2, rfl, s3, hgo3, hms3, ha3⟩
 have fa : ∀ a ∈ as, H a = none := fun a h => (ha2 a h).1
 refine ⟨_, rfl, _, rfl, x, C, dx, [], rfl, s3 _ _ hx, pc.cl, pc.ng, by decide, ?_⟩
 refine ⟨_, rfl, _, rfl, x, C, dx, _, rfl, ab, pc.cl, pc.nm, by show (1 : Nat) < 1000; decide, ?_⟩
 rw [yd]
 obtain ⟨H4, eH4⟩ : ∃ H4, upd H3 x (HO.ins C dx (gQ "members" (V.ref ms) (gQ "group_of" (V.ref go) []))) = H4 := ⟨_, rfl⟩
 have k4 : ∀ b u, b ≠ x -> H b = some u -> H4 b = some u := fun b u n h => by rw [<- eH4, ae n]; exact s3 _ _ h
 have x4 : H4 x = some (.ins C dx [("group_of", .ref go), ("members", .ref ms)]) := by rw [<- eH4, ab]; rfl
 have nxa : ∀ b : Addr, H b = none -> x ≠ b := fun b h => aq hx h
 have hgo4 : H4 go = some (.lst ((di signs).map V.int)) := by rw [<- eH4, ae (Ne.symm (nxa _ fgo))]; exact hgo3
 have hms4 : H4 ms = some (.lst (as.map V.ref)) := by rw [<- eH4, ae (Ne.symm (nxa _ fms))]; exact hms3
 have ha4 : ∀ (j : Nat) (a : Addr), as[j]? = some a -> H4 a = some (.dK (kvT (cw (di signs) (j : Int)))) := fun j a h => by
  rw [<- eH4, ae (Ne.symm (nxa _ (fa a (mq_ h))))]; exact ha3 j a h
 have f4 : ∀ {b}, H4 b = none -> H b = none := fun {b} h => by
  rcases Decidable.em (b = x) with z | z
  ·subst z; rw [x4] at h; cases h
  ·cases e : H b with
   | none => rfl
   | some u => rw [k4 b u z e] at h; cases h
 rw [eH4]
 have lm : (as.map V.ref).length = as.length := List.length_map _
 refine ⟨_, rfl, ms, _, rfl, .inl (qL_ hms4), (as.map V.ref).length, rfl, small (by rw [lm]; omega), fun wt hwt => ?_⟩
 rw [lm]
 have nxw : x ≠ wt := aq x4 hwt
 refine ⟨_, rfl, x, C, dx, _, rfl, by rw [ae nxw]; exact x4, pc.cl, pc.nw, by show (2 : Nat) < 1000; decide, ?_⟩
 obtain ⟨H5, eH5⟩ : ∃ H5, upd (upd H4 wt (HO.lst ((List.range as.length).map fun i : Nat => V.int i))) x (HO.ins C dx (gQ "waiting" (V.ref wt) [("group_of", .ref go), ("members", .ref ms)])) = H5 := ⟨_, rfl⟩
 have k5 : ∀ b u, b ≠ x -> H4 b = some u -> H5 b = some u := fun b u n h => by rw [<- eH5, ae n, ae (aq h hwt)]; exact h
 have x5 : H5 x = some (.ins C dx [("group_of", .ref go), ("members", .ref ms), ("waiting", .ref wt)]) := by rw [<- eH5, ab]; rfl
 have hwt5 : H5 wt = some (.lst (((List.range as.length).map fun i : Nat => (i : Int)).map V.int)) := by rw [<- eH5, ae (Ne.symm nxw), ab, List.map_map]; rfl
 have hgo5 := k5 _ _ (Ne.symm (nxa _ fgo)) hgo4
 have hms5 := k5 _ _ (Ne.symm (nxa _ fms)) hms4
 have f5 : ∀ {b}, H5 b = none -> H4 b = none := fun {b} h => by
  rcases Decidable.em (b = x) with z | z
  ·subst z; rw [x5] at h; cases h
  ·cases e : H4 b with
   | none => rfl
   | some u => rw [k5 b u z e] at h; cases h
 rw [eH5]
 obtain ⟨ns, ens⟩ : ∃ ns : LI, ((List.range as.length).map fun i : Nat => (i : Int)) = ns := ⟨_, rfl⟩
 have lns : ns.length = as.length := by rw [<- ens, lm_, List.length_range]
 have ndn : ns.Nodup := by
  rw [<- ens]
  refine List.pairwise_map.mpr (List.nodup_range.imp fun {a b} n z => n ?_)
  have z' : (a : Int) = (b : Int) := z
  omega
 refine ⟨_, rfl, ms, _, rfl, .inl (qL_ hms5), _, rfl, by rw [lm]; omega, by rw [lm]; omega, ?_⟩
 refine eU (fun D i ys H' => Same H5 H' /\ ∃ ts, ys = ts.map V.ref /\ PairsV H' ts (kvT (ns.take i))) (fun D hD => ⟨ah hD _, [], rfl, .nil⟩) ?_ ?_
 ·rintro D i ys H' Q' hD hi hy ⟨hs, ts, rfl, pv⟩ k'
  rw [Int.toNat_natCast, lm] at hi
  have hq : ns[i]? = some (i : Int) := by
   rw [<- ens, List.getElem?_map, List.getElem?_range hi]
   rfl
  refine ⟨_, rfl, (by show 2 <= sizeLine; decide), fun T hT => ?_⟩
  rw [Int.zero_add]
  have sT := ah hT (HO.tup [V.int i, V.bl true])
  have nD : D ≠ T := aq hy hT
  have lts : ts.length = i := by
   rw [Paired.length pv]
   unfold kvT
   rw [lm_, List.length_take]
   omega
  have hyT : (upd H' T (HO.tup [V.int i, V.bl true])) D = some (.lst (ts.map V.ref)) := by rw [ae nD]; exact hy
  refine k' _ _ hyT (aw (by rw [lm_]; omega)) ⟨au (au hs (hs.free hT)) hD, ts ++ [T], by rw [List.map_append]; rfl, ?_⟩
  rw [List.take_add_one, hq]
  have up : ∀ b xs, (upd H' T (HO.tup [V.int i, V.bl true])) b = some (.tup xs) -> (upd (upd H' T (HO.tup [V.int i, V.bl true])) D (.lst (ts.map V.ref ++ [V.ref T]))) b = some (.tup xs) := fun b xs e => by
   rw [ae (aB e hyT (by intro z; cases z))]; exact e
  show PairsV _ _ (kvT (ns.take i ++ [(i : Int)]))
  unfold kvT
  rw [List.map_append]
  exact Paired.snoc (PairsV.same pv fun b xs e => up b xs (sT _ _ e)) (up _ _ ab)
 rintro L ys H6 fL hL ⟨s6, ts, rfl, pv⟩
 rw [Int.toNat_natCast, lm, <- lns, List.take_length] at pv
 refine ⟨L, ts, _, rfl, hL, pv, fun iw hiw => ?_⟩
 rw [sd ndn]
 have nxi : x ≠ iw := aq (s6 _ _ x5) hiw
 refine ⟨_, rfl, x, C, dx, _, rfl, by rw [ae nxi]; exact s6 _ _ x5, pc.cl, pc.ni, by show (3 : Nat) < 1000; decide, ?_⟩
 have fiw : H5 iw = none := s6.free hiw
 have kz : ∀ b u, b ≠ x -> H5 b = some u -> (upd (upd H6 iw (HO.dK (kvT ns))) x (HO.ins C dx (gQ "is_waiting" (V.ref iw) [("group_of", .ref go), ("members", .ref ms), ("waiting", .ref wt)]))) b = some u := fun b u n h => by
  rw [ae n, ae (aq h fiw)]; exact s6 _ _ h
 have ha5 : ∀ (j : Nat) (a : Addr), as[j]? = some a -> H5 a = some (.dK (kvT (cw (di signs) (j : Int)))) := fun j a h => k5 _ _ (Ne.symm (nxa _ (fa a (mq_ h)))) (ha4 j a h)
 refine k _ go ms wt iw as (fun b u n h => kz _ _ n (k5 _ _ n (k4 _ _ n h))) fgo fms (f4 hwt) (f4 (f5 fiw)) fa ?_
 have nw4 : wt ≠ x := Ne.symm nxw
 refine ⟨⟨dx, by rw [ab]; rfl⟩, kz _ _ (Ne.symm (nxa _ fgo)) hgo5, kz _ _ (Ne.symm (nxa _ fms)) hms5, by rw [ens]; rw [ens] at hwt5; exact kz _ _ nw4 hwt5, by rw [ens, ae (Ne.symm nxi), ab], pl, fun q hq => ?_, fun j a h => ?_, nda, fun z => ?_, Ne.symm nmg, ?_, ?_, by rw [ens]; exact ndn, fun p hp => ?_⟩
 ·rw [mJ hq.1 hq.2, la]
  exact AB hq.1 hq.2
 ·have jl := (gi_ h).1
  refine ⟨cw (di signs) (j : Int), kz _ _ (Ne.symm (nxa _ (fa a (mq_ h)))) (ha5 j a h), yf _ _, fun z => ?_, fun q => ?_⟩
  ·obtain ⟨q, hq, e⟩ := AO (gs := signs) (j := j) (by omega)
   have : q ∈ cw (di signs) (j : Int) := preI_mem.mpr ⟨⟨hq.1, by rw [pl]; exact hq.2⟩, by
    have := mJ hq.1 hq.2
    unfold aR at this
    rw [this, e]⟩
   rw [z] at this
   cases this
  ·rw [preI_mem, pl]
   rfl
 ·obtain ⟨j, hj⟩ := List.mem_iff_getElem?.mp z
  have := ha5 j iw hj
  rw [fiw] at this
  cases this
 ·exact aq hgo4 hwt
 ·exact aq hms4 hwt
 ·rw [ens] at hp
  rw [<- ens] at hp
  obtain ⟨i, hi, rfl⟩ := List.mem_map.mp hp
  have := List.mem_range.mp hi
  omega
end
theorem zK (acc : List (List Key × V)) (a k : List Key) (v : V) : k ∈ (putK acc a v).map Prod.fst ↔ k ∈ acc.map Prod.fst \/ k = a := by
 unfold putK
 by_cases c : (acc.any fun kv => decide (kv.fst = a)) = true
 ·rw [if_pos c, List.map_map]
  have e : acc.map (Prod.fst ∘ fun kv => if kv.fst = a then (kv.fst, v) else kv) = acc.map Prod.fst := List.map_congr_left fun kv _ => by
   show (if kv.fst = a then (kv.fst, v) else kv).fst = kv.fst
   split <;> rfl
  rw [e]
  obtain ⟨kv, h1, h2⟩ := List.any_eq_true.mp c
  have h3 : a ∈ acc.map Prod.fst := List.mem_map.mpr ⟨kv, h1, of_decide_eq_true h2⟩
  exact ⟨.inl, fun z => z.elim id fun z => z ▸ h3⟩
 ·rw [if_neg c, List.map_append, List.mem_append]
  exact or_congr Iff.rfl List.mem_singleton
theorem qp : ∀ (kvs acc : List (List Key × V)) (k : List Key), k ∈ (fk acc kvs).map Prod.fst ↔ k ∈ acc.map Prod.fst \/ k ∈ kvs.map Prod.fst
 | [], acc, k => ⟨.inl, fun z => z.elim id fun z => by cases z⟩
 | p :: kvs, acc, k => by
  show k ∈ (fk (putK acc p.1 p.2) kvs).map Prod.fst ↔ _
  rw [qp kvs, zK, or_assoc]
  exact or_congr Iff.rfl (List.mem_cons (a := k) (b := p.1) (l := kvs.map Prod.fst)).symm
theorem xD {x y : LI} (e : x.map (Sum.inl : Int -> Key) = y.map Sum.inl) : x = y := by
 have h := congrArg (List.map fun k : Key => Sum.elim id (fun _ => (0 : Int)) k) e
 rw [List.map_map, List.map_map] at h
 have f : ((fun k : Key => Sum.elim id (fun _ => (0 : Int)) k) ∘ (Sum.inl : Int -> Key)) = id := rfl
 rw [f, List.map_id, List.map_id] at h
 exact h
theorem sQ {H : Hp} : ∀ {bs : List Addr} {kvs : List (List Key × V)}, xX H bs kvs -> (∀ k ∈ kvs.map Prod.fst, ∃ c : LI, k = c.map Sum.inl) -> ∃ cols : LL, RowsAt H bs cols /\ kvs.map Prod.fst = cols.map fun c => c.map Sum.inl
 | [], [], .nil, _ => ⟨[], .nil, rfl⟩
 | _, _, .cons (a := b) (b := p) (l₁ := bs) (l₂ := kvs) h t, q => by
  obtain ⟨cols, h1, h2⟩ := sQ t fun k hk => q k (List.mem_cons_of_mem _ hk)
  obtain ⟨c, e⟩ := q p.1 List.mem_cons_self
  refine ⟨c :: cols, .cons ?_ h1, by rw [List.map_cons, List.map_cons, h2, e]⟩
  rw [e, List.map_map] at h
  exact h
theorem qQ {H : Hp} {bs : List Addr} {cols0 : LL} (h : xX H bs (fk [] (cols0.map fun c => (c.map Sum.inl, V.bl true)))) : ∃ cols : LL, RowsAt H bs cols /\ cols.length <= cols0.length /\ ∀ c, c ∈ cols ↔ c ∈ cols0 := by
 have mem : ∀ k, k ∈ (fk [] (cols0.map fun c => ((c.map Sum.inl : List Key), V.bl true))).map Prod.fst ↔ ∃ c ∈ cols0, k = c.map Sum.inl := fun k => by
  rw [qp, List.map_map]
  constructor
  ·rintro (z | z)
   ·cases z
   ·obtain ⟨c, h1, h2⟩ := List.mem_map.mp z
    exact ⟨c, h1, h2.symm⟩
  ·rintro ⟨c, h1, h2⟩
   exact .inr (List.mem_map.mpr ⟨c, h1, h2.symm⟩)
 obtain ⟨cols, h1, h2⟩ := sQ h fun k hk => let ⟨c, _, e⟩ := (mem k).mp hk; ⟨c, e⟩
 refine ⟨cols, h1, ?_, fun c => ?_⟩
 ·have e1 := congrArg List.length h2
  have e2 := gC (cols0.map fun c => ((c.map Sum.inl : List Key), V.bl true)) []
  rw [lm_, lm_] at e1
  rw [lm_, List.length_nil] at e2
  omega
 have m := mem (c.map Sum.inl)
 rw [h2] at m
 constructor
 ·intro hc
  obtain ⟨c', h3, e⟩ := m.mp (List.mem_map.mpr ⟨c, hc, rfl⟩)
  rw [xD e]
  exact h3
 ·intro hc
  obtain ⟨c', h3, e⟩ := List.mem_map.mp (m.mpr ⟨c, hc, rfl⟩)
  rw [<- xD e]
  exact h3
theorem Ad {many wide : Nat} {rows : LL} (R : RowsOk many wide rows) (f : Nat) {q : Int} (hq : ao many q) : gp (rows.map fun r => r.getD f 0) q = stepI rows q f := by
 have l : q.toNat < rows.length := by have := hq.1; have := hq.2; rw [R.len]; omega
 unfold gp stepI
 rw [getD_at (by rw [lm_]; exact l), List.getElem_map, Int.toNat_natCast, getD_at l]
theorem AX {many wide : Nat} {rows cols : LL} (R : RowsOk many wide rows) (h : ∀ c, c ∈ cols ↔ c ∈ lN rows wide) : ColsOk many wide rows cols where
 of := fun c hc => by
  obtain ⟨f, hf, rfl⟩ := List.mem_map.mp ((h c).mp hc)
  exact ⟨f, List.mem_range.mp hf, fun q hq => Ad R f hq⟩
 all := fun f hf => ⟨_, (h _).mpr (List.mem_map.mpr ⟨f, List.mem_range.mpr hf, rfl⟩), fun q hq => Ad R f hq⟩
theorem xP {many wide : Nat} {rows : LL} (R : RowsOk many wide rows) {c : LI} (h : c ∈ lN rows wide) : c.length = many /\ ∀ t ∈ c, 0 <= t /\ t < (many : Int) := by
 obtain ⟨f, hf, rfl⟩ := List.mem_map.mp h
 have fl := List.mem_range.mp hf
 refine ⟨by rw [lm_, R.len], fun t ht => ?_⟩
 obtain ⟨r, hr, rfl⟩ := List.mem_map.mp ht
 have lr := R.row r hr
 rw [getD_at (by omega)]
 exact R.val r hr _ (List.getElem_mem _)
theorem vn {many : Nat} {col : LI} (l : col.length = many) {q x : Int} : x ∈ cw col q ↔ ao many x /\ gp col x = q := by
 rw [preI_mem, l]
 rfl
theorem sY (col : LI) : ∀ {ms : LI}, ms.Nodup -> (ms.flatMap (cw col)).Nodup
 | [], _ => List.nodup_nil
 | m :: ms, h => by
  have n := List.nodup_cons.mp h
  rw [List.flatMap_cons]
  refine List.nodup_append.mpr ⟨yf col m, sY col n.2, fun a ha b hb e => ?_⟩
  obtain ⟨m', h1, h2⟩ := List.mem_flatMap.mp hb
  have e1 := (preI_mem.mp ha).2
  have e2 := (preI_mem.mp h2).2
  rw [<- e, e1] at e2
  exact n.1 (e2 ▸ h1)
theorem uW {many : Nat} {col ms : LI} (l : col.length = many) {x : Int} : x ∈ ms.flatMap (cw col) ↔ ao many x /\ gp col x ∈ ms := by
 rw [List.mem_flatMap]
 constructor
 ·rintro ⟨m, h1, h2⟩
  have h3 := (vn l).mp h2
  exact ⟨h3.1, h3.2 ▸ h1⟩
 ·rintro ⟨h1, h2⟩
  exact ⟨_, h2, (vn l).mpr ⟨h1, rfl⟩⟩
theorem HopS.mono {many : Nat} {cols : List (Int -> Int)} {sg : Int -> Int} {R : Int -> Int -> Prop} {grp : Int -> Int} {W W' S : Int -> Prop} {k : Nat} (h : HopS many cols sg R grp W S k) (w : ∀ g, W g -> W' g) : HopS many cols sg R grp W' S k :=
 ⟨h.coarse, h.signs, h.whole, fun x y hx hy e j c hj => by
  rcases h.cong x y hx hy e j c hj with z | z | z | z
  ·exact .inl z
  ·exact .inr (.inl (w _ z))
  ·exact .inr (.inr (.inl (w _ z)))
  ·exact .inr (.inr (.inr z))⟩
theorem AllAg.symm {rows : LL} {wide : Nat} {signs : LI} {x y : Int} (h : AllAg rows wide signs x y) : AllAg rows wide signs y x := fun n v h1 h2 => (h n v h1 h2).symm
theorem PtS.pop {H : Hp} {C x go ms wt iw l : Addr} {many : Nat} {gs ws0 mem : LI} {ds : List Addr} {s : Int} (h : PtS H C x go ms wt iw many gs ds (ws0 ++ [s])) (hl : H l = none) :
  PtS (upd (upd (upd H wt (.lst (ws0.map V.int))) iw (.dK (kvT ((ws0 ++ [s]).filter fun k => decide (k ≠ s))))) l (.lst (mem.map V.int))) C x go ms wt iw many gs ds ws0 := by
 have nd := List.nodup_append.mp h.wn
 have ef : (ws0 ++ [s]).filter (fun k => decide (k ≠ s)) = ws0 := by
  rw [List.filter_append, List.filter_cons_of_neg (by simp), List.filter_nil, List.append_nil]
  exact List.filter_eq_self.mpr fun k hk => decide_eq_true fun z => nd.2.2 k hk s List.mem_cons_self z
 rw [ef]
 have nl : ∀ c u, H c = some u -> c ≠ l := fun c u e => aq e hl
 have kp : ∀ c u, c ≠ wt -> c ≠ iw -> H c = some u -> (upd (upd (upd H wt (.lst (ws0.map V.int))) iw (.dK (kvT ws0))) l (.lst (mem.map V.int))) c = some u := fun c u c1 c2 e => by rw [ae (nl c u e), ae c2, ae c1]; exact e
 obtain ⟨dx, hx⟩ := h.pt.ob
 have nwi : wt ≠ iw := aB h.wt_ h.iw_ (by intro z; cases z)
 refine ⟨⟨dx, kp _ _ (aB hx h.wt_ (by intro z; cases z)) (aB hx h.iw_ (by intro z; cases z)) hx⟩, kp _ _ h.n2 (aB h.go_ h.iw_ (by intro z; cases z)) h.go_, kp _ _ h.n3 (aB h.ms_ h.iw_ (by intro z; cases z)) h.ms_, by rw [ae (nl _ _ h.wt_), ae nwi, ab], by rw [ae (nl _ _ h.iw_), ab], h.lg, h.val, fun i d hi => ?_, h.dn, h.ndi, h.n1, h.n2, h.n3, nd.1, fun g hg => h.wv g (List.mem_append_left _ hg)⟩
 obtain ⟨m, h1, h2⟩ := h.mem i d hi
 exact ⟨m, kp _ _ (aB h1 h.wt_ (by intro z; cases z)) (fun z => h.ndi (z ▸ mq_ hi)) h1, h2⟩
theorem PtS.alone {H : Hp} {C x go ms wt iw : Addr} {many : Nat} {gs ws : LI} {ds : List Addr} (h : PtS H C x go ms wt iw many gs ds ws) (e : ds.length = many) : ∀ a b, ao many a -> ao many b -> aR gs a = aR gs b -> a = b := fun a b ha hb eg => Classical.byContradiction fun ne => by
 have la : a.toNat < gs.length := by have := ha.1; have := ha.2; rw [h.lg]; omega
 have lb : b.toNat < gs.length := by have := hb.1; have := hb.2; rw [h.lg]; omega
 have nab : a.toNat ≠ b.toNat := by have := ha.1; have := hb.1; omega
 unfold aR at eg
 rw [getD_at la, getD_at lb] at eg
 have t := eP (xs := (List.range ds.length).map fun i : Nat => (i : Int)) (ys := gs.eraseIdx b.toNat) (List.pairwise_map.mpr (List.nodup_range.imp fun {a b} n z => n (by
  have z' : (a : Int) = (b : Int) := z
  omega))) (fun g hg => by
  obtain ⟨i, hi, rfl⟩ := List.mem_map.mp hg
  have il := List.mem_range.mp hi
  obtain ⟨mem, _, _, nn, iff⟩ := h.mem i _ (List.getElem?_eq_getElem il)
  obtain ⟨q, r, rfl⟩ := List.exists_cons_of_ne_nil nn
  obtain ⟨⟨q0, q1⟩, eq⟩ := (iff q).mp List.mem_cons_self
  have lq : q.toNat < gs.length := by rw [h.lg]; omega
  unfold aR at eq
  rw [getD_at lq] at eq
  rw [List.mem_eraseIdx_iff_getElem]
  by_cases c : q.toNat = b.toNat
  ·refine ⟨a.toNat, la, nab, ?_⟩
   rw [eg, <- eq]
   congr 1
   exact c.symm
  ·exact ⟨q.toNat, lq, c, eq⟩)
 rw [lm_, List.length_range, List.length_eraseIdx_of_lt lb, h.lg, e] at t
 have := hb.1
 have := hb.2
 omega
def zc (K : PySem.W.Frag) : Sp := fun vs H Q _ => ∃ (m r g : Addr) (many wide : Nat) (rows : LL) (signs : LI), vs = [.ref m] /\ MachAt H m r g wide rows signs /\ RowsOk many wide rows /\ signs.length = many /\ many < 1000 /\ wide <= 1000 /\
 ∀ (go : Addr) (gs : LI) (H' : Hp), Same H H' -> H go = none -> H' go = some (.lst (gs.map V.int)) -> gs.length = many -> (∀ x y, ao many x -> ao many y -> (aR gs x = aR gs y ↔ AllAg rows wide signs x y)) -> Q (.ref go) H'
def BB (H : Hp) : List Addr -> LL -> Prop := Paired fun B col => ∃ H0 es, BackOk H0 H B es (fun q ls => ls = cw col q)
section
variable {P : Program} {w : World} {K : PySem.W.Frag} {mg : Str -> Option Value} {base : Heap} {f : Addr} {fd : FuncData} {dV : Value} {C : Addr}
theorem sc_unparted_groups : FnScope ["machine", "distinct", "backs", "parted", "splitter", "back", "leading", "here"] ["machine"] (ak bb) := ⟨rfl, rfl, rfl, by decide +kernel, rfl, by decide +kernel, by decide +kernel⟩
theorem bk_unparted_groups_0 : BlkScope ["machine", "distinct", "backs", "parted", "splitter", "back", "leading", "here"] (ak bb) ["column"] [none] { kind := ScopeKind.function, names := [(".0", NameKind.local), ("column", NameKind.local)], isGenerator := false, isCoroutine := false, more := [] } := ⟨rfl, by decide +kernel, by decide +kernel, by decide +kernel, by decide +kernel, rfl, by decide +kernel⟩
theorem bk_unparted_groups_1 : BlkScope ["machine", "distinct", "backs", "parted", "splitter", "back", "leading", "here"] (ak bb) ["column"] [none] { kind := ScopeKind.function, names := [(".0", NameKind.local), ("column", NameKind.local), ("back_of", NameKind.globalImplicit)], isGenerator := false, isCoroutine := false, more := [] } := ⟨rfl, by decide +kernel, by decide +kernel, by decide +kernel, by decide +kernel, rfl, by decide +kernel⟩
theorem Cm (F : FunD K "unparted_groups" "unparted_groups" bb dV f fd) (pc : PCls K C) (iW : DefOk P w K mg base "columns_of" 1 ["machine"] [] (wI K)) (nz : DefOk P w K mg base "back_of" 1 ["column"] [] (tj K)) (nH : DefMk P w K mg base "Parted" C 1 ["self", "signs"] (o9 C))
  (kI : DefMe P w K mg base C "is_done" 1 ["self"] (pU K C)) (eV : DefMe P w K mg base C "next_splitter" 1 ["self"] (uG C)) (kZ : DefMe P w K mg base C "part_by" 3 ["self", "leading"] (pL C)) (dj : mg "list" = none) (fq : mg "dict" = none) : FnOk P w K mg base CX0 4 f fd ["machine"] (zc K) := by
 refine F.ok sc_unparted_groups (fun vs H Q E h => ?_) (fun cdv A outer s H vs Q E hr h => ?_)
 ·obtain ⟨m, r, g, many, wide, rows, signs, rfl, _⟩ := h
  rfl
 obtain ⟨m, r, g, many, wide, rows, signs, rfl, M, R, ls, n1, w1, k⟩ := h
 have hu := gB hr
 have hu2 := Ct hr
 refine ⟨_, (aj (az (i := 1) sc_unparted_groups.nd rfl (Or.inl rfl) (aN (wD rfl) (by rfl) dj oS (aa (aN ((tM rfl hu2)) (by rfl) fq oT (aa (cq rfl bk_unparted_groups_0 (bO (bM iW hr (aa (pv 0) af))) (fun _ _ _ _ => (ax (i := 0) bk_unparted_groups_0.nd rfl (Or.inl rfl))) (fun _ _ _ _ => (dD (aa (pv 0) (aa eA af))))) af)) af)))
   (aj (jb (i := 2) rfl sc_unparted_groups.nd rfl (Or.inl rfl) bk_unparted_groups_1 (bO (pv 1)) (fun _ _ _ _ => (ax (i := 0) bk_unparted_groups_1.nd rfl (Or.inl rfl))) (fun _ _ _ _ => (bM nz hr (aa (pv 0) af))))
   (aj (az (i := 3) sc_unparted_groups.nd rfl (Or.inl rfl) (zT nH hr (aa (aO bz (pv 0) ay (fun _ _ => rfl)) af)))
   (aj (mY PassesOwn.never (PW.pt (Cv ((p5 (bC (pv 3) rfl) (fun _ => rfl))) (BI (gm (fc (zb kI hr (pv 3))))))) (aj (az (i := 4) sc_unparted_groups.nd rfl (Or.inl rfl) (zb eV hr (pv 3)))
   (av (cf PassesOwn.never rfl (bO (pv 2)) (ax (i := 5) sc_unparted_groups.nd rfl (Or.inl rfl)) (aj (az (i := 6) sc_unparted_groups.nd rfl (Or.inl rfl) (cW af))
   (aj (cf PassesOwn.never rfl (bO (pv 4)) (ax (i := 7) sc_unparted_groups.nd rfl (Or.inl rfl)) (av (bD (fA PySem.F.plainAttrs_list PySem.F.slot_list_extend PySem.F.type_list_extend xt (pv 6) (aa (zx hu (pv 5) (pv 7) (dD af) ⟨rfl, rfl, rfl, rfl⟩) af)))))
   (av (bD (vM kZ hr (pv 3) (aa (pv 6) af))))))))))
   (av (bh (bC (pv 3) rfl))))))), ?_⟩
 try dsimp only [bR, dZ]
 refine dN (t := oP _ _) (fun σ' H' => ∃ (dl : Addr) (bs : List Addr) (cols : LL), σ' = [some (.ref m), some (.ref dl), none, none, none, none, none, none] /\ Same H H' /\ H' dl = some (.lst (bs.map V.ref)) /\ RowsAt H' bs cols /\ cols.length <= wide /\ ∀ c, c ∈ cols ↔ c ∈ lN rows wide) ?_ (fun D' nxt => ?_)
 rotate_left
 ·refine ⟨_, rfl, m, r, g, many, wide, rows, signs, rfl, M, R, ⟨by omega, w1⟩, fun l cs H1 s1 hl1 A1 => ?_⟩
  refine ⟨l, rfl, ⟨_, qL_ hl1⟩, ?_⟩
  have lc : (lN rows wide).length = wide := by unfold lN; rw [lm_, List.length_range]
  refine dM (K := K) (xs := cs.map V.ref) (fun D i ys H' => Same H1 H' /\ ∃ ts, ys = ts.map V.ref /\ xh H' ts (((lN rows wide).take i).map fun c => (c.map Sum.inl, V.bl true))) (fun D hD => ⟨ah hD _, [], rfl, .nil⟩) (fun D i ys H' _ ⟨e, _⟩ => qL_ (e _ _ hl1)) ?_ ?_
  ·rintro D i y ys H2 Q' hD hi hy ⟨s2, ts, rfl, pv⟩ k'
   have jl : i < (lN rows wide).length := by
    have := (gi_ hi).1
    rw [lm_, A1.length] at this
    exact this
   obtain ⟨ca, e1, e2⟩ := A1.get jl
   have ey : y = .ref ca := by rw [List.getElem?_map, e1] at hi; exact (Option.some.inj hi).symm
   subst ey
   refine ⟨_, rfl, (by show 2 <= sizeLine; decide), fun T hT => ?_⟩
   have sT := ah hT (HO.tup [V.ref ca, V.bl true])
   have nD : D ≠ T := aq hy hT
   have lts : ts.length = i := by
    rw [Paired.length pv, lm_, List.length_take]
    omega
   have hyT : (upd H2 T (HO.tup [V.ref ca, V.bl true])) D = some (.lst (ts.map V.ref)) := by rw [ae nD]; exact hy
   refine k' _ _ hyT (aw (by rw [lm_]; omega)) ⟨au (au s2 (s2.free hT)) hD, ts ++ [T], by rw [List.map_append]; rfl, ?_⟩
   have up : ∀ b xs, (upd H2 T (HO.tup [V.ref ca, V.bl true])) b = some (.tup xs) -> (upd (upd H2 T (HO.tup [V.ref ca, V.bl true])) D (.lst (ts.map V.ref ++ [V.ref T]))) b = some (.tup xs) := fun b xs e => by
    rw [ae (aB e hyT (by intro z; cases z))]; exact e
   rw [List.take_add_one, List.getElem?_eq_getElem jl, List.map_append]
   refine Paired.snoc (Paired.mapP pv fun t p h => ?_) ⟨ca, up _ _ ab, ?_⟩
   ·obtain ⟨b, h1, h2⟩ := h
    exact ⟨b, up _ _ (sT _ _ h1), up _ _ (sT _ _ h2)⟩
   ·rw [List.map_map]
    exact up _ _ (sT _ _ (s2 _ _ e2))
  ·rintro D ys H2 hD hy ⟨s2, ts, rfl, pv⟩
   rw [lm_, A1.length, List.take_length] at pv
   refine ⟨D, ts, _, rfl, hy, pv, fun dd hdd => ?_⟩
   have s3 := ah hdd (HO.dT (fk [] ((lN rows wide).map fun c => (c.map Sum.inl, V.bl true))))
   refine ⟨dd, _, rfl, ab, fun dl bs hdl kt => ?_⟩
   obtain ⟨cols, c1, c3, c2⟩ := qQ kt
   rw [lc] at c3
   have s4 := ah hdl (HO.lst (bs.map V.ref))
   exact nxt _ _ ⟨dl, bs, cols, rfl, ((s1.trans s2).trans s3).trans s4, ab, c1.same fun b xs e => s4 _ _ e, c3, c2⟩
 rintro σ' H1 ⟨dl, bs, cols, rfl, s1, hdl1, A1, lcw, hc⟩
 have CO := AX R hc
 refine dN (t := oP _ _) (fun σ' H' => ∃ (bl : Addr) (Bs : List Addr), σ' = [some (.ref m), some (.ref dl), some (.ref bl), none, none, none, none, none] /\ Same H H' /\ H' bl = some (.lst (Bs.map V.ref)) /\ BB H' Bs cols) ?_ (fun D' nxt => ?_)
 rotate_left
 ·refine ⟨_, rfl, dl, rfl, ⟨_, qL_ hdl1⟩, ?_⟩
  refine dM (K := K) (xs := bs.map V.ref) (fun D i ys H' => Same H1 H' /\ ∃ Bs, ys = Bs.map V.ref /\ Paired (fun B col => ∃ H0 es, (∃ u, H0 D = some u) /\ BackOk H0 H' B es (fun q ls => ls = cw col q)) Bs (cols.take i)) (fun D hD => ⟨ah hD _, [], rfl, .nil⟩) (fun D i ys H' _ ⟨e, _⟩ => qL_ (e _ _ hdl1)) ?_ ?_
  ·rintro D i y ys H2 Q' hD hi hy ⟨s2, Bs, rfl, pv⟩ k'
   have jl : i < cols.length := by
    have := (gi_ hi).1
    rw [lm_, A1.length] at this
    exact this
   obtain ⟨ca, e1, e2⟩ := A1.get jl
   have ey : y = .ref ca := by rw [List.getElem?_map, e1] at hi; exact (Option.some.inj hi).symm
   subst ey
   have ci := xP R ((hc _).mp (List.getElem_mem jl))
   have lB : Bs.length = i := by
    rw [Paired.length pv, List.length_take]
    omega
   refine ⟨_, rfl, ca, many, cols[i], rfl, s2 _ _ e2, by omega, by omega, ci.2, fun B es H3 s3 fB bo => ?_⟩
   have hy3 := s3 _ _ hy
   refine k' _ _ hy3 (aw (by rw [lm_]; omega)) ⟨au (s2.trans s3) hD, Bs ++ [B], by rw [List.map_append]; rfl, ?_⟩
   have keep : ∀ (H0 : Hp) (B' : Addr) (es' : List (Int × Addr)) (col : LI), (∃ u, H0 D = some u) -> BackOk H0 H3 B' es' (fun q ls => ls = cw col q) -> BackOk H0 (upd H3 D (.lst (Bs.map V.ref ++ [V.ref B]))) B' es' (fun q ls => ls = cw col q) := fun H0 B' es' col hu bo' => bo'.keep (ae (aB bo'.at_ hy3 (by intro z; cases z))) fun e he => ae fun z => by
    obtain ⟨u, hu⟩ := hu
    have := bo'.fresh e he
    rw [z, hu] at this
    cases this
   rw [List.take_add_one, List.getElem?_eq_getElem jl]
   exact Paired.snoc (Paired.mapP pv fun B' col h => let ⟨H0, es', hu, b⟩ := h; ⟨H0, es', hu, keep H0 B' es' col hu (b.same s3)⟩) ⟨H2, es, ⟨_, hy⟩, keep H2 B es cols[i] ⟨_, hy⟩ bo⟩
  ·rintro D ys H2 hD hy ⟨s2, Bs, rfl, pv⟩
   rw [lm_, A1.length, List.take_length] at pv
   exact nxt _ _ ⟨D, Bs, rfl, s1.trans s2, hy, Paired.mapP pv fun B col h => let ⟨H0, es, _, b⟩ := h; ⟨H0, es, b⟩⟩
 rintro σ' Hb ⟨bl, Bs, rfl, sb, hbl, BA⟩
 have lBs : Bs.length = cols.length := Paired.length BA
 refine ⟨_, rfl, m, _, _, _, rfl, rfl, qT_ (sb _ _ M.tup), rfl, fun x dx hx hdx ne => ?_⟩
 have up : ∀ b u, Hb b = some u -> (upd (upd Hb dx (HO.own x)) x (HO.ins C dx [])) b = some u := fun b u h => by rw [ae (aq h hx), ae (aq h hdx)]; exact h
 refine ⟨x, dx, g, signs, rfl, ab, up _ _ (sb _ _ M.sgn), by omega, fun H1 go ms wt iw ds0 kk f1 f2 f3 f4 f5 S1 => ⟨rfl, ?_⟩⟩
 have s1' : Same Hb H1 := fun b u h => kk b u (aq h hx) (up b u h)
 have fr : ∀ {b}, (upd (upd Hb dx (HO.own x)) x (HO.ins C dx [])) b = none -> Hb b = none := fun {b} h => by
  cases e : Hb b with
  | none => rfl
  | some u => rw [up b u e] at h; cases h
 rw [ls] at S1
 obtain ⟨RR, eRR⟩ : ∃ RR : Int -> Int -> Prop, (fun x y => ao many x /\ ao many y /\ AllAg rows wide signs x y) = RR := ⟨_, rfl⟩
 have lk := CO.likes (signs := signs) R
 rw [eRR] at lk
 have room := CO.room R
 have sym : ∀ x y, RR x y -> RR y x := fun x y h => by rw [<- eRR] at h ⊢; exact ⟨h.2.1, h.1, h.2.2.symm⟩
 have fg := fr f1
 have fms := fr f2
 have fw := fr f3
 have fi := fr f4
 have hop0 : Hop many (cols.map gp) (My.sgn signs) RR (aR (di signs)) (fun g => g ∈ (List.range ds0.length).map fun i : Nat => (i : Int)) := by
  refine Hop.start lk (fun a b ha hb => ?_) (fun a ha => ?_) room
  ·have la : ao signs.length a := by rw [ls]; exact ha
   have lb : ao signs.length b := by rw [ls]; exact hb
   rw [mJ la.1 la.2, mJ lb.1 lb.2]
   exact zP la lb
  ·have v := S1.val a ha
   exact List.mem_map.mpr ⟨(aR (di signs) a).toNat, List.mem_range.mpr (by omega), Int.toNat_of_nonneg v.1⟩
 try dsimp only [bR, dZ]
 refine dN (t := n9 _ _) (fun σ' H' => ∃ (gs ws : LI) (ds : List Addr) (v4 v5 v6 v7 : OV), σ' = [some (.ref m), some (.ref dl), some (.ref bl), some (.ref x), v4, v5, v6, v7] /\ Same Hb H' /\ PtS H' C x go ms wt iw many gs ds ws /\ ∀ a b, ao many a -> ao many b -> (aR gs a = aR gs b ↔ AllAg rows wide signs a b)) ?_ (fun D' nxt => ?_)
 rotate_left
 ·refine oX (fun mm σ' H' => ∃ (gs ws : LI) (ds : List Addr) (v4 v5 v6 v7 : OV), mm = 2 * many + ws.length - 2 * ds.length /\ σ' = [some (.ref m), some (.ref dl), some (.ref bl), some (.ref x), v4, v5, v6, v7] /\ Same Hb H' /\ PtS H' C x go ms wt iw many gs ds ws /\ (∀ d ∈ ds, Hb d = none) /\ Hop many (cols.map gp) (My.sgn signs) RR (aR gs) (fun g => g ∈ ws))
   ⟨_, di signs, _, ds0, none, none, none, none, rfl, rfl, s1', S1, fun d hd => fr (f5 d hd), hop0⟩ ?_
  rintro mm σ' H2 ⟨gs, ws, ds, v4, v5, v6, v7, emm, rfl, s2, S2, fd2, hop⟩
  obtain ⟨dx2, hx2⟩ := S2.pt.ob
  have few2 := S2.few
  rw [<- eRR] at hop
  by_cases en : ws = []
  ·subst en
   refine ⟨_, rfl, x, C, dx2, _, _, rfl, hx2, pc.cl, pc.nw, rfl, _, .inl ⟨_, qL_ S2.wt_, rfl⟩, jt (jt ?_)⟩
   exact nxt _ _ ⟨gs, [], ds, v4, v5, v6, v7, rfl, s2, S2, fun a b ha hb => xQ CO R hop (hop.stable (fun _ _ z => by cases z) room) ha hb⟩
  refine ⟨_, rfl, x, C, dx2, _, _, rfl, hx2, pc.cl, pc.nw, rfl, _, .inl ⟨_, qL_ S2.wt_, rfl⟩, ?_⟩
  have ne' : (!(ws.map V.int).isEmpty) = true := by
   cases ws with
   | nil => exact absurd rfl en
   | cons a r => rfl
  rw [ne']
  refine uK ⟨_, rfl, x, dx2, _, rfl, hx2, rfl, x, go, ms, wt, iw, gs, ds, rfl, S2.pt, S2.go_, S2.ms_, _, rfl, oy (fun c => ?_) (fun c => ?_)⟩
  ·refine ⟨fun σ' H' => ∃ m', m' < mm /\ ∃ (gs ws : LI) (ds : List Addr) (v4 v5 v6 v7 : OV), m' = 2 * many + ws.length - 2 * ds.length /\ σ' = [some (.ref m), some (.ref dl), some (.ref bl), some (.ref x), v4, v5, v6, v7] /\ Same Hb H' /\ PtS H' C x go ms wt iw many gs ds ws /\ (∀ d ∈ ds, Hb d = none) /\ Hop many (cols.map gp) (My.sgn signs) RR (aR gs) (fun g => g ∈ ws), fun _ _ h => h, ?_⟩
   rw [eRR] at hop
   obtain ⟨ws0, s, ews⟩ : ∃ ws0 s, ws = ws0 ++ [s] := ⟨ws.dropLast, ws.getLast en, (List.dropLast_concat_getLast en).symm⟩
   subst ews
   have sv := S2.wv s (List.mem_append_right _ List.mem_cons_self)
   have sl' : s.toNat < ds.length := by omega
   obtain ⟨da, hda0⟩ : ∃ da, ds[s.toNat]? = some da := ⟨_, List.getElem?_eq_getElem sl'⟩
   obtain ⟨mem, hda, ndm, nem, hm⟩ := S2.mem s.toNat da hda0
   rw [Int.toNat_of_nonneg sv.1] at hm
   have fewM : mem.length <= many := aX many ndm fun q hq => ((hm q).mp hq).1
   refine ⟨_, rfl, x, dx2, _, rfl, hx2, rfl, x, go, ms, wt, iw, da, s, ws0, ws0 ++ [s], mem, ds, rfl, S2.pt, S2.wt_, S2.iw_, List.mem_append_right _ List.mem_cons_self, S2.ms_, sv.1, hda0, S2.n3, hda, (fun z => S2.ndi (z ▸ mq_ hda0)), by omega, fun sl hsl => ?_⟩
   have S3 := S2.pop (mem := mem) hsl
   obtain ⟨H3, eH3⟩ : ∃ H3, upd (upd (upd H2 wt (HO.lst (ws0.map V.int))) iw (HO.dK (kvT ((ws0 ++ [s]).filter fun k => decide (k ≠ s))))) sl (HO.lst (mem.map V.int)) = H3 := ⟨_, rfl⟩
   have ne3 : ∀ c u, Hb c = some u -> c ≠ go /\ c ≠ ms /\ c ≠ wt /\ c ≠ iw := fun c u e => ⟨fun z => (by rw [z, fg] at e; cases e), fun z => (by rw [z, fms] at e; cases e), fun z => (by rw [z, fw] at e; cases e), fun z => (by rw [z, fi] at e; cases e)⟩
   have s3 : Same Hb H3 := fun c u e => by
    have n := ne3 c u e
    rw [<- eH3, ae (aq (s2 _ _ e) hsl), ae n.2.2.2, ae n.2.2.1]
    exact s2 _ _ e
   have hsl3 : H3 sl = some (.lst (mem.map V.int)) := by rw [<- eH3, ab]
   rw [eH3] at S3 ⊢
   have q1 : sl ≠ go := fun z => by rw [z, S2.go_] at hsl; cases hsl
   have q2 : sl ≠ ms := fun z => by rw [z, S2.ms_] at hsl; cases hsl
   have q3 : sl ≠ wt := fun z => by rw [z, S2.wt_] at hsl; cases hsl
   have hs0 : HopS many (cols.map gp) (My.sgn signs) RR (aR gs) (fun g => g ∈ ws0) (fun q => aR gs q = s) 0 := (hop.pop room s).mono fun g h => by
    rcases ma_.mp h.1 with z | z
    ·exact z
    ·exact absurd (List.mem_singleton.mp z) h.2
   refine ⟨_, rfl, bl, rfl, ⟨_, qL_ (s3 _ _ hbl)⟩, ?_⟩
   refine cL (K := K) (xs := Bs.map V.ref) (fun k σ' H' => ∃ (gs' ws' : LI) (ds' : List Addr) (v5 v6 v7 : OV), σ' = [some (.ref m), some (.ref dl), some (.ref bl), some (.ref x), some (.ref sl), v5, v6, v7] /\ Same Hb H' /\ PtS H' C x go ms wt iw many gs' ds' ws' /\ (∀ d ∈ ds', Hb d = none) /\ H' sl = some (.lst (mem.map V.int)) /\ HopS many (cols.map gp) (My.sgn signs) RR (aR gs') (fun g => g ∈ ws') (fun q => aR gs q = s) k /\ (ws'.length : Int) - 2 * (ds'.length : Int) <= (ws0.length : Int) - 2 * (ds.length : Int))
    ⟨gs, ws0, ds, _, _, _, rfl, s3, S3, fd2, hsl3, hs0, Int.le_refl _⟩ (fun i σ' H' _ ⟨_, _, _, _, _, _, _, e, _⟩ => qL_ (e _ _ hbl)) ?_ ?_
   ·rintro k y σ' H4 hk ⟨gs', ws', ds', v5, v6, v7, rfl, s4, S4, fd4, hsl4, hs4, me4⟩
    have kl : k < cols.length := by
     have := (gi_ hk).1
     rw [lm_] at this
     omega
    obtain ⟨B, hB, H0, es, bo⟩ := e7 BA (List.getElem?_eq_getElem kl)
    have ey : y = .ref B := by rw [List.getElem?_map, hB] at hk; exact (Option.some.inj hk).symm
    subst ey
    obtain ⟨col, ecol⟩ : ∃ col, cols[k] = col := ⟨_, rfl⟩
    rw [ecol] at bo
    have hcm : col ∈ cols := ecol ▸ List.getElem_mem kl
    have ci := xP R ((hc _).mp hcm)
    have hkc : (cols.map gp)[k]? = some (gp col) := by rw [List.getElem?_map, List.getElem?_eq_getElem kl, ecol]; rfl
    have cmm := mq_ hkc
    have lm : ∀ {x : Int}, x ∈ mem.flatMap (cw col) ↔ ao many x /\ gp col x ∈ mem := fun {x} => uW ci.1
    obtain ⟨dx4, hx4⟩ := S4.pt.ob
    refine ⟨(by show 0 <= sizeLine; decide), fun La hLa => ?_⟩
    have sLa := ah hLa (HO.lst [])
    try dsimp only [bR, dZ]
    refine dN (t := oQ _ _ _) (fun σ' H' => ∃ v7 : OV, σ' = [some (.ref m), some (.ref dl), some (.ref bl), some (.ref x), some (.ref sl), some (.ref B), some (.ref La), v7] /\ Same H4 H' /\ H' La = some (.lst ((mem.flatMap (cw col)).map V.int))) ?_ (fun D'' nxt' => ?_)
    rotate_left
    ·refine ⟨_, rfl, sl, rfl, ⟨_, qL_ (sLa _ _ hsl4)⟩, ?_⟩
     refine cL (K := K) (xs := mem.map V.int) (fun i σ' H' => ∃ v7 : OV, σ' = [some (.ref m), some (.ref dl), some (.ref bl), some (.ref x), some (.ref sl), some (.ref B), some (.ref La), v7] /\ Same H4 H' /\ H' La = some (.lst (((mem.take i).flatMap (cw col)).map V.int))) ⟨_, rfl, sLa, ab⟩ (fun i σ' H' _ ⟨_, _, e, _⟩ => qL_ (e _ _ hsl4)) ?_ ?_
     ·rintro i y σ' H5 hi ⟨v7, rfl, s5, hL5⟩
      obtain ⟨q, rfl, hq⟩ := aY hi
      have b5 := bo.same (s4.trans s5)
      refine ⟨_, rfl, .inl ⟨rfl, _, qL_ hL5⟩, _, rfl, B, rfl, .inl ⟨_, .inl b5.at_⟩, _, rfl, (by show 0 <= sizeLine; decide), fun t0 ht0 => ?_⟩
      have st0 := ah ht0 (HO.tup [])
      have b6 := b5.same st0
      refine ⟨_, DGet.k (k := Sum.inl q) b6.at_, ?_⟩
      have hL6 := st0 _ _ hL5
      have et : (mem.take (i + 1)).flatMap (cw col) = (mem.take i).flatMap (cw col) ++ cw col q := by
       rw [List.take_add_one, hq, List.flatMap_append]
       show _ ++ [q].flatMap (cw col) = _
       rw [List.flatMap_cons, List.flatMap_nil, List.append_nil]
      have len : (((mem.take i).flatMap (cw col)).map V.int).length + ((cw col q).map V.int).length <= sizeLine := by
       have nd := sY col (ms := mem.take (i + 1)) ((List.take_sublist _ _).nodup ndm)
       have fw' := aX many nd fun z hz => ((uW ci.1).mp hz).1
       rw [et, List.length_append] at fw'
       rw [lm_, lm_]
       exact small (by omega)
      cases hv : dk (kvL es) (Sum.inl q) with
      | none =>
       have hq' : q ∉ es.map Prod.fst := fun z => by
        obtain ⟨e, he, ee⟩ := List.mem_map.mp z
        obtain ⟨jj, hjj⟩ := List.mem_iff_getElem?.mp he
        have := jr b6.nd (q := e.1) (a := e.2) hjj
        rw [ee, hv] at this
        cases this
       have e0 := b6.non _ hq'
       rw [<- e0] at et
       rw [<- e0] at len
       refine .inr ⟨La, t0, _, [], rfl, rfl, hL6, ab, len, ?_⟩
       exact ⟨_, rfl, au (s5.trans st0) hLa, by rw [ab, et, List.map_append]; rfl⟩
      | some v =>
       obtain ⟨la, ls', rfl, hm', hla, hp⟩ := b6.get hv
       rw [<- hp] at et
       rw [<- hp] at len
       refine .inl ⟨La, la, _, _, rfl, rfl, hL6, hla, len, ?_⟩
       exact ⟨_, rfl, au (s5.trans st0) hLa, by rw [ab, et, List.map_append]⟩
     ·rintro σ' H5 ⟨v7, rfl, s5, hL5⟩
      rw [lm_, List.take_length] at hL5
      exact nxt' _ _ ⟨v7, rfl, s5, hL5⟩
    rintro σ' H5 ⟨v7, rfl, s5, hL5⟩
    have S5 := S4.same s5
    have memS : ∀ q, ao many q -> (q ∈ mem ↔ aR gs q = s) := fun q hq => ⟨fun z => ((hm q).mp z).2, fun z => (hm q).mpr ⟨hq, z⟩⟩
    have inL : ∀ a, ao many a -> (a ∈ mem.flatMap (cw col) ↔ aR gs (gp col a) = s) := fun a ha => by
     rw [lm, memS _ (room a ha _ cmm)]
     exact ⟨fun z => z.2, fun z => ⟨ha, z⟩⟩
    refine ⟨_, rfl, x, dx4, _, rfl, s5 _ _ hx4, rfl, _, rfl, x, go, ms, wt, iw, La, many, gs', ws', mem.flatMap (cw col), ds', fun gs1 n1 ws1 => HopS many (cols.map gp) (My.sgn signs) RR (aR gs1) (fun g => g ∈ ws1) (fun q => aR gs q = s) k /\ (ws1.length : Int) - 2 * (n1 : Int) <= (ws0.length : Int) - 2 * (ds.length : Int), rfl, S5, n1, hL5, ⟨fun z => (by rw [z, S4.go_] at hLa; cases hLa), fun z => (by rw [z, S4.ms_] at hLa; cases hLa), fun z => (by rw [z, S4.wt_] at hLa; cases hLa)⟩, sY col ndm, fun q hq => (lm.mp hq).1, ⟨hs4, me4⟩, ?_, ?_⟩
    ·rintro gs1 n1 ws1 gs2 ws2 ⟨h1, h2⟩ val ⟨b, nw, rfl, e1, e2, e3, e4⟩
     refine ⟨h1.split sym room (L := fun a => a ∈ mem.flatMap (cw col)) (b := b) (n := (n1 : Int)) (fun a c ha hc' r hl => ?_) (fun a ha z => ?_) (fun g hg => List.mem_append_left _ hg) (fun hb => ?_) ?_ e3 e4, ?_⟩
     ·rw [inL a ha] at hl
      rw [inL c hc']
      exact h1.whole _ _ (room a ha _ cmm) (room c hc' _ cmm) (lk.led a c r _ cmm) hl
     ·have := val a ha
      omega
     ·rw [<- e2 hb]
      exact List.mem_append_right _ List.mem_cons_self
     ·rcases e1 with e1 | e1
      ·exact .inl (by rw [<- e1]; exact List.mem_append_right _ List.mem_cons_self)
      ·exact .inr (by rw [<- e1]; exact List.mem_append_right _ List.mem_cons_self)
     ·rw [List.length_append, List.length_singleton]
      omega
    ·intro H6 gs6 ws6 more S6 j6 nc fm kp
     have s6 : Same Hb H6 := fun c u e => by
      have n := ne3 c u e
      exact kp c u n.1 n.2.1 n.2.2.1 n.2.2.2 (fun z => by rw [fd4 c z] at e; cases e) (s5 _ _ (s4 _ _ e))
     have hsl5 := s5 _ _ hsl4
     refine ⟨gs6, ws6, ds' ++ more, _, _, _, rfl, s6, S6, fun d hd => ?_, kp sl _ q1 q2 q3 (aB hsl5 S5.iw_ (by intro z; cases z)) (fun z => ?_) hsl5, j6.1.next hkc fun a c ha hc' e h => ?_, j6.2⟩
     ·rcases ma_.mp hd with z | z
      ·exact fd4 d z
      ·have := fm d z
       cases e : Hb d with
       | none => rfl
       | some u => rw [s5 _ _ (s4 _ _ e)] at this; cases this
     ·obtain ⟨mm', hmm⟩ := S5.at_ z
      rw [hsl5] at hmm
      cases hmm
     ·exact (inL c hc').mp (nc a c ha hc' e ((inL a ha).mpr h))
   ·rintro σ' H4 ⟨gs', ws', ds', v5, v6, v7, rfl, s4, S4, fd4, hsl4, hs4, me4⟩
    have few4 := S4.few
    rw [lm_, lBs] at hs4
    have lcm : cols.length = (cols.map gp).length := (List.length_map _).symm
    rw [lcm] at hs4
    refine ⟨_, ?_, gs', ws', ds', _, _, _, _, rfl, rfl, s4, S4, fd4, hs4.done⟩
    rw [emm, List.length_append, List.length_singleton]
    omega
  ·refine nxt _ _ ⟨gs, ws, ds, v4, v5, v6, v7, rfl, s2, S2, fun a b ha hb => xQ CO R hop (Hop.single (S2.alone (by rw [c, S2.lg]))) ha hb⟩
 rintro σ' H2 ⟨gs, ws, ds, v4, v5, v6, v7, rfl, s2, S2, fin⟩
 obtain ⟨dx2, hx2⟩ := S2.pt.ob
 exact ⟨_, rfl, x, C, dx2, _, _, rfl, hx2, pc.cl, pc.ng, rfl, k go gs H2 (sb.trans s2) (sb.free fg) S2.go_ S2.lg fin⟩
end
def tE (K : PySem.W.Frag) : Sp := fun vs H Q E => o7 K C8 vs H Q E \/ o7 K Dd vs H Q E
theorem qd (xs : LI) (g : Int) : kvN (xs ++ [g]) 0 = kvN xs 0 ++ [(Sum.inl g, V.int (xs.length : Int))] := by
 unfold kvN
 rw [List.zipIdx_append, List.map_append, Nat.zero_add]
 rfl
theorem sI {qs : LI} (nd : qs.Nodup) : ∀ i, cQ [] (kvN (qs.take i) 0) = kvN (qs.take i) 0
 | 0 => by rw [List.take_zero]; rfl
 | i + 1 => by
  have ih := sI nd i
  cases e : qs[i]? with
  | none =>
   rw [List.take_add_one, e]
   show cQ [] (kvN (qs.take i ++ []) 0) = kvN (qs.take i ++ []) 0
   rw [List.append_nil]
   exact ih
  | some g =>
   have et : qs.take (i + 1) = qs.take i ++ [g] := by rw [List.take_add_one, e]; rfl
   have il := gi_ e
   have hg : g ∉ qs.take i := fun z => by
    obtain ⟨j, hj, ej⟩ := List.getElem_of_mem z
    rw [List.length_take] at hj
    rw [List.getElem_take] at ej
    have := (List.getElem_inj nd).mp (ej.trans il.2.symm)
    omega
   rw [et]
   show cQ [] (kvN (qs.take i ++ [g]) 0) = _
   have m : cQ [] (kvN (qs.take i) 0 ++ [(Sum.inl g, V.int ((qs.take i).length : Int))]) = putK (cQ [] (kvN (qs.take i) 0)) (Sum.inl g) (V.int ((qs.take i).length : Int)) := by
    unfold cQ
    rw [List.foldl_append]
    rfl
   rw [qd, m, ih, tR hg, qd]
theorem oz (φ : Int -> Int) (n : Nat) : bw φ (n + 1) = bw φ n ++ (if φ (n : Int) = (aI φ n : Int) then [n] else []) := by
 unfold bw
 rw [List.range_succ, List.filter_append]
 congr 1
 by_cases c : φ (n : Int) = (aI φ n : Int)
 ·rw [if_pos c, List.filter_cons_of_pos (by exact decide_eq_true c)]; rfl
 ·rw [if_neg c, List.filter_cons_of_neg (by rw [decide_eq_false c]; decide)]; rfl
theorem yH {φ : Int -> Int} {n q : Nat} (h : q ∈ bw φ n) : q < n := List.mem_range.mp (List.mem_filter.mp h).1
theorem lK {many wide : Nat} {rows : LL} (R : RowsOk many wide rows) {q t : Int} (h0 : 0 <= q) (h1 : q < (many : Int)) (ht : t ∈ rows.getD q.toNat []) : ∃ f : Nat, f < wide /\ t = stepI rows q f := by
 have l : q.toNat < rows.length := by rw [R.len]; omega
 rw [getD_at l] at ht
 obtain ⟨f, hf, e⟩ := List.getElem_of_mem ht
 have lr := R.row _ (List.getElem_mem l)
 refine ⟨f, by omega, ?_⟩
 unfold stepI
 rw [getD_at l, Int.toNat_natCast, getD_at hf, e]
def tN (K : PySem.W.Frag) : Sp := fun vs H Q _ => ∃ (m r g : Addr) (many wide : Nat) (rows : LL) (signs : LI), vs = [.ref m] /\ MachAt H m r g wide rows signs /\ RowsOk many wide rows /\ signs.length = many /\ (1 <= many /\ many < 1000) /\ wide <= 1000 /\
 ∀ (m' r' g' : Addr) (rows' : LL) (signs' : LI) (H' : Hp), Same H H' -> MachAt H' m' r' g' wide rows' signs' -> LeastOf wide rows rows' signs signs' -> Q (.ref m') H'
section
variable {P : Program} {w : World} {K : PySem.W.Frag} {mg : Str -> Option Value} {base : Heap} {f : Addr} {fd : FuncData} {dV : Value}
theorem AS (F : FunD K "with_rooms" "with_rooms" bI dV f fd) (aH : mg "tuple" = none) : FnOk P w K mg base CX0 1 f fd ["machine", "kept", "numbers"] (tE K) := FnOk.or (yB F aH) (yt F aH)
theorem sc_least : FnScope ["machine", "reached", "small", "numbers", "firsts", "groups", "here", "group"] ["machine"] (ak gz) := ⟨rfl, rfl, rfl, by decide +kernel, rfl, by decide +kernel, by decide +kernel⟩
theorem bk_least_0 : BlkScope ["machine", "reached", "small", "numbers", "firsts", "groups", "here", "group"] (ak gz) ["number", "here"] [none, none] { kind := ScopeKind.function, names := [(".0", NameKind.local), ("number", NameKind.local), ("here", NameKind.local)], isGenerator := false, isCoroutine := false, more := [] } := ⟨rfl, by decide +kernel, by decide +kernel, by decide +kernel, by decide +kernel, rfl, by decide +kernel⟩
theorem bk_least_1 : BlkScope ["machine", "reached", "small", "numbers", "firsts", "groups", "here", "group"] (ak gz) ["group", "numbers"] [none, some 3] { kind := ScopeKind.function, names := [(".0", NameKind.local), ("group", NameKind.local), ("numbers", NameKind.free)], isGenerator := false, isCoroutine := false, more := [] } := ⟨rfl, by decide +kernel, by decide +kernel, by decide +kernel, by decide +kernel, rfl, by decide +kernel⟩
theorem Af (F : FunD K "least" "least" gz dV f fd) (dQ : DefOk P w K mg base "reached_rooms" 1 ["machine", "start"] [.int 0] (h7 K)) (fO : DefOk P w K mg base "with_rooms" 1 ["machine", "kept", "numbers"] [] (tE K)) (ed : DefOk P w K mg base "unparted_groups" 4 ["machine"] [] (zc K))
  (aV : mg "enumerate" = none) (fq : mg "dict" = none) (aM : mg "len" = none) : FnOk P w K mg base CX0 5 f fd ["machine"] (tN K) := by
 refine F.ok sc_least (fun vs H Q E h => ?_) (fun cdv A outer s H vs Q E hr h => ?_)
 ·obtain ⟨m, r, g, many, wide, rows, signs, rfl, _⟩ := h
  rfl
 obtain ⟨m, r, g, many, wide, rows, signs, rfl, M, R, ls, ⟨n0, n1⟩, w1, k⟩ := h
 have hu := gB hr
 refine oe (aS (PSW.mk (az (i := 1) sc_least.nd rfl (Or.inl rfl) (bM dQ hr (aa (pv 0) af))))
   (aS (PSW.mk (az (i := 2) sc_least.nd rfl (Or.inl rfl) (bM fO hr (aa (pv 0) (aa (pv 1) (aa (aN (jm rfl) (by rfl) fq oT (aa (cq rfl bk_least_0 (pD rfl aV (aa (pv 1) af)) (fun _ _ _ _ => (Be K (n := 2) rfl (bt (ax (i := 0) bk_least_0.nd rfl (Or.inl rfl)) (bt (ax (i := 1) bk_least_0.nd rfl (Or.inl rfl)) fQ)))) (fun _ _ _ _ => (dD (aa (pv 1) (aa (pv 0) af))))) af)) af))))))
   (aS (PSW.mk (az (i := 3) sc_least.nd rfl (Or.inr rfl) jC))
   (aS (PSW.mk (az (i := 4) sc_least.nd rfl (Or.inl rfl) (cW af)))
   (aS (PSW.mk (az (i := 5) sc_least.nd rfl (Or.inl rfl) (bM ed hr (aa (pv 2) af))))
   (aS (PSW.mk (cf PassesOwn.never rfl (pD rfl aV (aa (pv 5) af)) (ic rfl (bt (ax (i := 6) sc_least.nd rfl (Or.inl rfl)) (bt (ax (i := 7) sc_least.nd rfl (Or.inl rfl)) fQ))) (av (dr (tW (n8 hu (pv 7) (pv 3)) (by with_unfolding_all rfl)) (aj (lV hu (pv 3) (pv 7) (aC jS (by rfl) aM bB (aa (pv 3) af)) rfl)
   (av (bD (fA PySem.F.plainAttrs_list PySem.F.slot_list_append PySem.F.type_list_append bF (pv 4) (aa (pv 6) af))))) bP))))
   (iZ (PSW.mk (bh (bM fO hr (aa (pv 2) (aa (pv 4) (aa (cq rfl bk_least_1 (bO (pv 5)) (fun _ _ _ _ => (ax (i := 0) bk_least_1.nd rfl (Or.inl rfl))) (fun _ _ _ _ => (tI hu (pv 1) (pv 0) (fun _ _ => rfl)))) af))))))))))))) ?_
 refine ⟨_, rfl, m, r, g, many, wide, rows, signs, rfl, M, R, ⟨n0, by omega⟩, fun l H1 qs s1 hl1 bf => ?_⟩
 have few := aX many bf.nd bf.inr
 have reF : ∀ q ∈ qs, ∃ row, InF wide row /\ aZ rows row 0 = q := fun q hq => (bf.re q).mp hq
 obtain ⟨R1, O1, p1, t1⟩ := pQ (signs := signs) R (by omega) bf.eq bf.nd (fun q hq => bf.inr q hq) reF
 try dsimp only [bR, dZ]
 refine dN (t := oP _ _) (fun σ' H' => ∃ m1 r1 g1 : Addr, σ' = [some (.ref m), some (.ref l), some (.ref m1), none, none, none, none, none] /\ Same H H' /\ MachAt H' m1 r1 g1 wide (aD rows (rho qs) qs) (aE signs qs)) ?_ (fun D' nxt => ?_)
 rotate_left
 ·refine ⟨_, rfl, _, rfl, _, rfl, l, rfl, ⟨_, qL_ hl1⟩, ?_⟩
  refine xm (K := K) (xs := qs.map V.int) (fun D i ys H' => Same H1 H' /\ ∃ ts, ys = ts.map V.ref /\ PairsV H' ts (kvN (qs.take i) 0)) (fun T σ H Q i x h q => ⟨T, [.int i, x], rfl, qT_ h, rfl, .int i, [x], rfl, x, [], rfl, rfl, q⟩) (fun D hD => ⟨ah hD _, [], rfl, .nil⟩) (fun D i ys H' _ ⟨e, _⟩ => qL_ (e _ _ hl1)) ?_ ?_
  ·rintro D i y ys H2 T0 Q' hD hi hy ⟨s2, ts, rfl, pv⟩ hT0 k'
   obtain ⟨q, rfl, hq⟩ := aY hi
   have il := (gi_ hq).1
   have sT0 := ah hT0 (HO.tup [V.int i, V.int q])
   refine ⟨_, rfl, _, rfl, (by show 2 <= sizeLine; decide), fun T hT => ?_⟩
   have sT := ah hT (HO.tup [V.int q, V.int i])
   obtain ⟨H3, eH3⟩ : ∃ H3, upd (upd H2 T0 (HO.tup [V.int i, V.int q])) T (HO.tup [V.int q, V.int i]) = H3 := ⟨_, rfl⟩
   have hT3 : H3 T = some (.tup [V.int q, V.int i]) := by rw [<- eH3, ab]
   rw [eH3] at sT ⊢
   have s3 := sT0.trans sT
   have hy3 := s3 _ _ hy
   have lts : ts.length = i := by
    rw [Paired.length pv, iH, List.length_take]
    omega
   refine k' _ _ hy3 (aw (by rw [lm_]; omega)) ⟨au (s2.trans s3) hD, ts ++ [T], by rw [List.map_append]; rfl, ?_⟩
   have up : ∀ b xs, H3 b = some (.tup xs) -> (upd H3 D (.lst (ts.map V.ref ++ [V.ref T]))) b = some (.tup xs) := fun b xs e => by
    rw [ae (aB e hy3 (by intro z; cases z))]; exact e
   have et : qs.take (i + 1) = qs.take i ++ [q] := by rw [List.take_add_one, hq]; rfl
   have ll : (qs.take i).length = i := by rw [List.length_take]; omega
   rw [et, qd, ll]
   exact Paired.snoc (PairsV.same pv fun b xs e => up b xs (s3 _ _ e)) (up _ _ hT3)
  ·rintro L ys H2 fL hL ⟨s2, ts, rfl, pv⟩
   rw [lm_, List.take_length] at pv
   refine ⟨L, ts, _, rfl, hL, pv, fun D hD => ?_⟩
   have mk := sI bf.nd qs.length
   rw [List.take_length] at mk
   rw [mk]
   have s3 := s2.trans (ah hD (HO.dK (kvN qs 0)))
   refine .inl ⟨m, l, D, r, g, many, wide, rows, signs, qs, rho qs, rfl, M.same fun b xs e => s3 _ _ (s1 _ _ e), R, ls, ⟨by omega, w1⟩, s3 _ _ hl1, by omega, bf.inr, ⟨_, ab, fun q hq t ht => ?_⟩, fun m1 r1 g1 H3 s4 M3 => ?_⟩
   ·have qi := bf.inr q hq
    obtain ⟨f, hf, e⟩ := lK R qi.1 qi.2 ht
    have tq : t ∈ qs := (bf.re t).mpr (by rw [e]; exact ((bf.re q).mp hq).step (by omega) (by omega))
    rw [jT, if_pos tq, Nat.zero_add]
    rfl
   ·exact nxt _ _ ⟨m1, r1, g1, rfl, (s1.trans s3).trans s4, M3⟩
 rintro σ' H2 ⟨m1, r1, g1, rfl, s2, M2⟩
 refine fun Nn hNn => ⟨(by show 0 <= sizeLine; decide), fun Fa hFa => ?_⟩
 obtain ⟨H3, eH3⟩ : ∃ H3, upd (upd H2 Nn (HO.dK [])) Fa (HO.lst []) = H3 := ⟨_, rfl⟩
 have s3 : Same H2 H3 := by rw [<- eH3]; exact (ah hNn _).trans (ah hFa _)
 have nNF : Nn ≠ Fa := aq ab hFa
 have hN3 : H3 Nn = some (.dK []) := by rw [<- eH3, ae nNF, ab]
 have hF3 : H3 Fa = some (.lst []) := by rw [<- eH3, ab]
 have fN : H Nn = none := s2.free hNn
 have fF : H Fa = none := s2.free ((ah hNn (HO.dK [])).free hFa)
 rw [eH3]
 have lsg : (aE signs qs).length = qs.length := by unfold aE; rw [lm_]
 have R1' : RowsOk qs.length wide (aD rows (rho qs) qs) := R1
 refine ⟨_, rfl, m1, r1, g1, qs.length, wide, _, _, rfl, M2.same fun b xs e => s3 _ _ e, R1', lsg, by omega, w1, fun go gs H4 s4 fgo hgo lg hg => ?_⟩
 have sH4 : Same H2 H4 := s3.trans s4
 have M4 := M2.same fun b xs e => sH4 _ _ e
 try dsimp only [bR, dZ]
 refine dN (t := oQ _ _ _) (fun σ' H' => ∃ v6 v7 : OV, σ' = [some (.ref m), some (.ref l), some (.ref m1), some (.ref Nn), some (.ref Fa), some (.ref go), v6, v7] /\ (∀ c u, c ≠ Nn -> c ≠ Fa -> H4 c = some u -> H' c = some u) /\ H' Nn = some (.dK (kvN (a7 gs) 0)) /\ H' Fa = some (.lst (((bw (phi gs) gs.length).map fun i : Nat => (i : Int)).map V.int))) ?_ (fun D' nxt => ?_)
 rotate_left
 ·have ngN : go ≠ Nn := aB hgo (s4 _ _ hN3) (by intro z; cases z)
  have ngF : go ≠ Fa := fun z => by rw [z, hF3] at fgo; cases fgo
  refine ⟨_, rfl, go, rfl, ⟨_, qL_ hgo⟩, sJ (K := K) (xs := gs.map V.int) (fun i σ' H' => ∃ v6 v7 : OV, σ' = [some (.ref m), some (.ref l), some (.ref m1), some (.ref Nn), some (.ref Fa), some (.ref go), v6, v7] /\ (∀ c u, c ≠ Nn -> c ≠ Fa -> H4 c = some u -> H' c = some u) /\ H' Nn = some (.dK (kvN (a7 (gs.take i)) 0)) /\ H' Fa = some (.lst (((bw (phi gs) i).map fun i : Nat => (i : Int)).map V.int)))
   ⟨none, none, rfl, fun _ _ _ _ e => e, s4 _ _ hN3, s4 _ _ hF3⟩ (fun i σ' H' _ ⟨_, _, _, e, _⟩ => qL_ (e _ _ ngN ngF hgo)) ?_ ?_⟩
  ·rintro i y σ' H5 T hi ⟨v6, v7, rfl, kp5, hN5, hF5⟩ hT
   obtain ⟨gg, rfl, hgg⟩ := aY hi
   have il := (gi_ hgg).1
   have sT := ah hT (HO.tup [V.int i, V.int gg])
   obtain ⟨H6, eH6⟩ : ∃ H6, upd H5 T (HO.tup [V.int i, V.int gg]) = H6 := ⟨_, rfl⟩
   have hT6 : H6 T = some (.tup [V.int i, V.int gg]) := by rw [<- eH6]; exact ab
   rw [eH6] at sT ⊢
   have hN6 := sT _ _ hN5
   have hF6 := sT _ _ hF5
   have ol := mq (gs.take i)
   rw [List.length_take] at ol
   have cp := tP gs (m := i) (by omega)
   have fl := gi (phi gs) i
   refine ⟨T, _, rfl, qT_ hT6, rfl, _, _, rfl, _, _, rfl, rfl, ?_⟩
   refine ⟨_, rfl, _, rfl, Nn, _, rfl, DGet.k (k := Sum.inl gg) hN6, _, rfl, ?_⟩
   rw [jT]
   by_cases c : gg ∈ a7 (gs.take i)
   ·rw [if_pos c]
    refine jt ⟨_, _, rfl, fun c' u c1 c2 e => sT _ _ (kp5 c' u c1 c2 e), by rw [hN6, fV hgg, gT c], ?_⟩
    have ph := o6 hgg c
    have lt := List.idxOf_lt_length_of_mem c
    rw [hF6, oz, if_neg (by rw [ph, cp]; omega), List.append_nil]
   ·rw [if_neg c]
    refine uK ⟨_, rfl, Nn, _, rfl, hN6, _, rfl, _, rfl, Nn, _, rfl, DPut.k (k := Sum.inl gg) hN6 (aw (by rw [iH]; omega)), ?_⟩
    rw [iH, tR c]
    have nFN : Fa ≠ Nn := Ne.symm nNF
    have ph := oW hgg c
    refine ⟨_, rfl, .inl ⟨rfl, _, qL_ (by rw [ae nFN]; exact hF6)⟩, _, rfl, Fa, _, _, rfl, rfl, (by rw [ae nFN]; exact hF6), aw (by rw [lm_, lm_, fl, cp]; omega), ?_⟩
    refine ⟨_, _, rfl, fun c' u c1 c2 e => by rw [ae c2, ae c1]; exact sT _ _ (kp5 c' u c1 c2 e), by rw [ae nNF, ab, fV hgg, eB c], ?_⟩
    rw [ab, oz, if_pos (by rw [ph, cp]), List.map_append, List.map_append]
    rfl
  ·rintro σ' H5 ⟨v6, v7, rfl, kp5, hN5, hF5⟩
   rw [lm_, List.take_length] at hN5
   rw [lm_] at hF5
   exact nxt _ _ ⟨v6, v7, rfl, kp5, hN5, hF5⟩
 rintro σ' H5 ⟨v6, v7, rfl, kp5, hN5, hF5⟩
 have s5 : Same H H5 := fun c u e => kp5 c u (fun z => by rw [z, fN] at e; cases e) (fun z => by rw [z, fF] at e; cases e) (sH4 _ _ (s2 _ _ e))
 have M5 : MachAt H5 m1 r1 g1 wide (aD rows (rho qs) qs) (aE signs qs) := M4.same fun b xs e => kp5 b _ (aB e (s4 _ _ hN3) (by intro z; cases z)) (aB e (s4 _ _ hF3) (by intro z; cases z)) e
 have hgo5 : H5 go = some (.lst (gs.map V.int)) := kp5 _ _ (aB hgo (s4 _ _ hN3) (by intro z; cases z)) (fun z => by rw [z, hF3] at fgo; cases fgo) hgo
 have plg : (di gs).length = gs.length := by unfold di; rw [lm_, List.length_range]
 refine ⟨_, rfl, _, rfl, _, rfl, go, rfl, ⟨_, qL_ hgo5⟩, ?_⟩
 refine dM (K := K) (xs := gs.map V.int) (fun D i ys H' => Same H5 H' /\ ys = ((di gs).take i).map V.int) (fun D hD => ⟨ah hD _, rfl⟩) (fun D i ys H' _ ⟨e, _⟩ => qL_ (e _ _ hgo5)) ?_ ?_
 ·rintro D i y ys H6 Q' hD hi hy ⟨s6, rfl⟩ k'
  obtain ⟨gg, rfl, hgg⟩ := aY hi
  have il := (gi_ hgg).1
  have om : gg ∈ a7 gs := once_mem.mpr (mq_ hgg)
  have ph : phi gs (i : Int) = (((a7 gs).idxOf gg : Nat) : Int) := by
   unfold phi
   rw [Int.toNat_natCast, List.getD_eq_getElem?_getD, hgg]
   rfl
  have dg : DGet H6 Nn (.int gg) (some (.int (phi gs (i : Int)))) := by
   have d := DGet.k (k := Sum.inl gg) (s6 _ _ hN5)
   rw [jT, if_pos om, Nat.zero_add, <- ph] at d
   exact d
  have hp : (di gs)[i]? = some (phi gs (i : Int)) := by
   unfold di
   rw [List.getElem?_map, List.getElem?_range il]
   rfl
  refine ⟨_, rfl, _, rfl, Nn, _, rfl, dg, k' _ _ hy (aw (by rw [lm_, List.length_take]; omega)) ⟨au s6 hD, ?_⟩⟩
  rw [List.take_add_one, hp, List.map_append]
  rfl
 ·rintro L ys H6 fL hL ⟨s6, rfl⟩
  rw [lm_, <- plg, List.take_length] at hL
  have fi : ∀ q ∈ (bw (phi gs) gs.length).map (fun i : Nat => (i : Int)), 0 <= q /\ q < (qs.length : Int) := fun q hq => by
   obtain ⟨i, hi, rfl⟩ := List.mem_map.mp hq
   have := yH hi
   omega
  have flen : ((bw (phi gs) gs.length).map fun i : Nat => (i : Int)).length <= 1000 := by
   rw [lm_]
   have := List.length_filter_le (fun q : Nat => decide (phi gs (q : Int) = (aI (phi gs) q : Int))) (List.range gs.length)
   rw [List.length_range] at this
   unfold bw
   omega
  refine .inr ⟨m1, Fa, L, r1, g1, qs.length, wide, _, _, _, phi gs, rfl, M5.same fun b xs e => s6 _ _ e, R1', lsg, ⟨by omega, w1⟩, s6 _ _ hF5, flen, fi, ⟨di gs, hL, fun q hq t ht => ?_⟩, fun m' r' g' H7 s7 M7 => ?_⟩
  ·have qi := fi q hq
   obtain ⟨f, hf, e⟩ := lK R1' qi.1 qi.2 ht
   have tv := dq R1' qi.1 qi.2 (f := (f : Int)) (by omega) (by omega)
   rw [<- e] at tv
   have tv1 : t < (gs.length : Int) := by rw [lg]; exact tv.2
   refine ⟨⟨tv.1, by rw [plg]; exact tv1⟩, ?_⟩
   have := mJ (gs := gs) tv.1 tv1
   unfold aR at this
   exact this.symm
  ·refine k m' r' g' _ _ H7 ((s5.trans s6).trans s7) M7 ?_
   have L := ve (signs := signs) (gs := gs) R (by omega) bf.eq bf.nd (fun q hq => bf.inr q hq) reF lg (fun x y hx hy => by
    have h := hg (x : Int) (y : Int) ⟨by omega, by omega⟩ ⟨by omega, by omega⟩
    unfold aR at h
    rw [Int.toNat_natCast, Int.toNat_natCast] at h
    exact h)
   have el : (qs.map fun q => (rows.getD q.toNat []).map (rho qs)).length = gs.length := by rw [lm_, lg]
   rw [mU, el, <- lg] at L
   have e1 : aD (aD rows (rho qs) qs) (phi gs) ((bw (phi gs) gs.length).map fun i : Nat => (i : Int)) = (bw (phi gs) gs.length).map fun i => ((qs.map fun q => (rows.getD q.toNat []).map (rho qs)).getD i []).map (phi gs) := by
    unfold aD
    rw [List.map_map]
    rfl
   have e2 : aE (aE signs qs) ((bw (phi gs) gs.length).map fun i : Nat => (i : Int)) = (bw (phi gs) gs.length).map fun q => (qs.map fun q => signs.getD q.toNat 0).getD q 0 := by
    unfold aE
    rw [List.map_map]
    rfl
   rw [e1, e2]
   exact L
end
def ar (ss : LI) (many : Nat) : LL := (List.range many).map fun q : Nat => ss.map fun s => ((q : Int) + s) % (many : Int)
def aF (s0 s1 : Int) (p many : Nat) : LI := (List.range many).map fun q : Nat => if (q : Int) % (p : Int) > 0 then s1 else s0
def wL (K : PySem.W.Frag) : Sp := fun vs H Q _ => ∃ (sa ga : Addr) (ss : LI) (s0 s1 : Int) (p many : Nat), vs = [.ref sa, .int many, .int p, .ref ga] /\ H sa = some (.lst (ss.map V.int)) /\ H ga = some (.lst [.int s0, .int s1]) /\ (1 <= p /\ p <= 1000 /\ 1 <= many /\ many <= 1000) /\ ss.length <= 1000 /\
 ∀ (m r g : Addr) (H' : Hp), Same H H' -> MachAt H' m r g ss.length (ar ss many) (aF s0 s1 p many) -> Q (.ref m) H'
theorem rR (ss : LI) (many i : Nat) (h : i < many) : (ar ss many).take (i + 1) = (ar ss many).take i ++ [ss.map fun s => ((i : Int) + s) % (many : Int)] := by
 have e : (ar ss many)[i]? = some (ss.map fun s => ((i : Int) + s) % (many : Int)) := by
  unfold ar
  rw [List.getElem?_map, List.getElem?_range h]
  rfl
 rw [List.take_add_one, e]
 rfl
theorem dW (ss : LI) (many : Nat) : (ar ss many).length = many := by unfold ar; rw [lm_, List.length_range]
theorem kd (s0 s1 : Int) (p many : Nat) : (aF s0 s1 p many).length = many := by unfold aF; rw [lm_, List.length_range]
section
variable {P : Program} {w : World} {K : PySem.W.Frag} {mg : Str -> Option Value} {base : Heap} {f : Addr} {fd : FuncData} {dV : Value}
theorem sc__law_ring : FnScope ["_law_steps", "_law_many", "_law_p", "_law_signs", "_law_rows"] ["_law_steps", "_law_many", "_law_p", "_law_signs"] (ak cA) := ⟨rfl, rfl, rfl, by decide +kernel, rfl, by decide +kernel, by decide +kernel⟩
theorem bk__law_ring_0 : BlkScope1 ["_law_steps", "_law_many", "_law_p", "_law_signs", "_law_rows"] (ak cA) ["_law_q", "_law_many", "_law_steps"] [none, some 1, some 0] { kind := ScopeKind.function, names := [(".0", NameKind.local), ("_law_q", NameKind.cell), ("tuple", NameKind.globalImplicit), ("_law_many", NameKind.free), ("_law_steps", NameKind.free)], isGenerator := false, isCoroutine := false, more := [] } "_law_q" := ⟨rfl, by decide +kernel, by decide +kernel, by decide +kernel, fun _ _ => rfl, fun _ => rfl, by decide +kernel, by decide +kernel, by decide +kernel, rfl, by decide +kernel⟩
theorem bk__law_ring_1 : BlkScope ["_law_q", "_law_many", "_law_steps"] { kind := ScopeKind.function, names := [(".0", NameKind.local), ("_law_q", NameKind.cell), ("tuple", NameKind.globalImplicit), ("_law_many", NameKind.free), ("_law_steps", NameKind.free)], isGenerator := false, isCoroutine := false, more := [] } ["_law_step", "_law_many", "_law_q"] [none, some 1, some 0] { kind := ScopeKind.function, names := [(".0", NameKind.local), ("_law_step", NameKind.local), ("_law_many", NameKind.free), ("_law_q", NameKind.free)], isGenerator := false, isCoroutine := false, more := [] } := ⟨rfl, by decide +kernel, by decide +kernel, by decide +kernel, by decide +kernel, rfl, by decide +kernel⟩
theorem bk__law_ring_2 : BlkScope ["_law_steps", "_law_many", "_law_p", "_law_signs", "_law_rows"] (ak cA) ["_law_q", "_law_p", "_law_signs"] [none, some 2, some 3] { kind := ScopeKind.function, names := [(".0", NameKind.local), ("_law_q", NameKind.local), ("int", NameKind.globalImplicit), ("_law_p", NameKind.free), ("_law_signs", NameKind.free)], isGenerator := false, isCoroutine := false, more := [] } := ⟨rfl, by decide +kernel, by decide +kernel, by decide +kernel, by decide +kernel, rfl, by decide +kernel⟩
theorem A0 (F : FunD K "_law_ring" "_law_ring" cA dV f fd) (bx : mg "range" = none) (aH : mg "tuple" = none) (aM : mg "len" = none) (mD : mg "int" = none) : FnOk P w K mg base CX0 1 f fd ["_law_steps", "_law_many", "_law_p", "_law_signs"] (wL K) := by
 refine F.ok sc__law_ring (fun vs H Q E h => ?_) (fun cdv A outer s H vs Q E hr h => ?_)
 ·obtain ⟨sa, ga, ss, s0, s1, p, many, rfl, _⟩ := h
  rfl
 obtain ⟨sa, ga, ss, s0, s1, p, many, rfl, hsa, hga, ⟨p0, p1, m0, m1⟩, lss, k⟩ := h
 refine ⟨_, (aj (u9 (i := 4) rfl sc__law_ring.nd rfl (Or.inl rfl) bk__law_ring_0 (dG rfl bx (aa (pv 1) af)) (fun _ _ _ _ _ => (z4 (i := 0) bk__law_ring_0.nd rfl bk__law_ring_0.cell)) (fun _ _ _ _ _ => (aN (pE K) (by rfl) aH bE (aa (cq rfl (BlkScope.rel bk__law_ring_1) ((zE K) (pv 2)) (fun _ _ _ _ => (ax (i := 0) bk__law_ring_1.nd rfl (Or.inl rfl))) (fun _ _ _ _ => (aU bS (aU cY (pv 2) (pv 0)) (pv 1)))) af))))
   (av (bh (dD (aa (aC aA (by rfl) aM bB (aa (pv 0) af)) (aa (aN aP (by rfl) aH bE (aa (pv 4) af)) (aa (aN aP (by rfl) aH bE (aa (cq rfl bk__law_ring_2 (dG rfl bx (aa (pv 1) af)) (fun _ _ _ _ => (ax (i := 0) bk__law_ring_2.nd rfl (Or.inl rfl))) (fun _ _ _ _ => (aO (js K) (pv 2) (aN sO (by rfl) mD vX (aa (fG uR (aU bS (pv 0) (pv 1)) ay (bQ _)) af)) (fun _ _ => rfl)))) af)) af))))))), ?_⟩
 try dsimp only [bR, dZ]
 refine dN (t := oP _ _) (fun σ' H' => ∃ (ra : Addr) (as : List Addr), σ' = [some (.ref sa), some (.int many), some (.int p), some (.ref ga), some (.ref ra)] /\ Same H H' /\ H' ra = some (.lst (as.map V.ref)) /\ RowsAt H' as (ar ss many)) ?_ (fun D' nxt => ?_)
 rotate_left
 ·refine ⟨_, rfl, (many : Int), rfl, by omega, by omega, ?_⟩
  refine eU (fun D i ys H' => Same H H' /\ ∃ as : List Addr, ys = as.map V.ref /\ RowsAt H' as ((ar ss many).take i)) (fun D hD => ⟨ah hD _, [], rfl, .nil⟩) ?_ ?_
  ·rintro D i ys H2 Q' hD hi hy ⟨s2, as, rfl, A2⟩ k'
   rw [Int.toNat_natCast] at hi
   have la : as.length = i := by rw [A2.length, List.length_take, dW]; omega
   refine ⟨_, rfl, sa, rfl, ⟨_, qL_ (s2 _ _ hsa)⟩, ?_⟩
   refine dM (K := K) (xs := ss.map V.int) (fun D' j zs H' => Same H2 H' /\ zs = ((ss.take j).map fun s => ((i : Int) + s) % (many : Int)).map V.int) (fun D' hD' => ⟨ah hD' _, rfl⟩) (fun D' j zs H' _ ⟨e, _⟩ => qL_ (e _ _ (s2 _ _ hsa))) ?_ ?_
   ·rintro D2 j y zs H3 Q2 hD2 hj hy2 ⟨s3, rfl⟩ k2
    obtain ⟨t, rfl, ht⟩ := aY hj
    have jl := (gi_ ht).1
    refine ⟨_, rfl, _, rfl, _, _, rfl, rfl, _, rfl, _, _, rfl, rfl, by omega, k2 _ _ hy2 (aw (by rw [lm_, lm_, List.length_take]; omega)) ⟨au s3 hD2, ?_⟩⟩
    rw [List.take_add_one, ht, List.map_append, List.map_append, Int.zero_add]
    rfl
   ·rintro T zs H3 hT hz ⟨s3, rfl⟩
    rw [lm_, List.take_length] at hz
    refine ⟨T, _, rfl, .inl ⟨qL_ hz, fun t ht => ?_⟩⟩
    have st := ah ht (HO.tup ((ss.map fun s => ((i : Int) + s) % (many : Int)).map V.int))
    have hy3 := st _ _ (s3 _ _ hy)
    have sT : ∀ b xs, (upd H3 t (HO.tup ((ss.map fun s => ((i : Int) + s) % (many : Int)).map V.int))) b = some (.tup xs) -> (upd (upd H3 t (HO.tup ((ss.map fun s => ((i : Int) + s) % (many : Int)).map V.int))) D (.lst (as.map V.ref ++ [V.ref t]))) b = some (.tup xs) := fun b xs e => by
     rw [ae (aB e hy3 (by intro z; cases z))]; exact e
    refine k' _ _ hy3 (aw (by rw [lm_]; omega)) ⟨au ((s2.trans s3).trans st) hD, as ++ [t], by rw [List.map_append]; rfl, ?_⟩
    rw [rR ss many i hi]
    exact RowsAt.snoc (A2.same fun b xs e => sT b xs (st _ _ (s3 _ _ e))) (sT _ _ ab)
  ·rintro D ys H2 hD hy ⟨s2, as, rfl, A2⟩
   rw [Int.toNat_natCast, List.take_of_length_le (by rw [dW]; exact Nat.le_refl _)] at A2
   exact nxt _ _ ⟨D, as, rfl, s2, hy, A2⟩
 rintro σ' H1 ⟨ra, as, rfl, s1', hra, A1⟩
 have la : as.length = many := by rw [A1.length, dW]
 refine ⟨_, rfl, sa, _, rfl, .inl (qL_ (s1' _ _ hsa)), _, rfl, ra, _, rfl, .inl ⟨qL_ hra, fun r hr' => ?_⟩⟩
 rw [lm_]
 have sr := ah hr' (HO.tup (as.map V.ref))
 obtain ⟨H2, eH2⟩ : ∃ H2, upd H1 r (HO.tup (as.map V.ref)) = H2 := ⟨_, rfl⟩
 have hr2 : H2 r = some (.tup (as.map V.ref)) := by rw [<- eH2, ab]
 rw [eH2] at sr ⊢
 have s2 := s1'.trans sr
 refine ⟨_, rfl, (many : Int), rfl, by omega, by omega, ?_⟩
 refine eU (fun D i ys H' => Same H2 H' /\ ys = ((List.range i).map fun q : Nat => if (q : Int) % (p : Int) > 0 then s1 else s0).map V.int) (fun D hD => ⟨ah hD _, rfl⟩) ?_ ?_
 ·rintro D i ys H3 Q' hD hi hy ⟨s3, rfl⟩ k'
  rw [Int.toNat_natCast] at hi
  have at' : atI [V.int s0, V.int s1] (if decide (0 < (0 + (i : Int)) % (p : Int)) = true then 1 else 0) = some (V.int (if (i : Int) % (p : Int) > 0 then s1 else s0)) := by
   rw [Int.zero_add]
   by_cases c : (0 : Int) < (i : Int) % (p : Int)
   ·rw [if_pos (decide_eq_true c), if_pos c]; rfl
   ·rw [if_neg (fun z => c (of_decide_eq_true z)), if_neg c]; rfl
  refine ⟨_, rfl, _, rfl, _, rfl, _, _, rfl, rfl, by omega, _, _, rfl, rfl, .inr ⟨_, rfl, ga, _, _, _, rfl, rfl, qL_ (s3 _ _ (s2 _ _ hga)), at', k' _ _ hy (aw (by rw [lm_, lm_, List.length_range]; omega)) ⟨au s3 hD, ?_⟩⟩⟩
  rw [List.range_succ, List.map_append, List.map_append]
  rfl
 ·rintro T ys H3 hT hy ⟨s3, rfl⟩
  rw [Int.toNat_natCast] at hy
  refine ⟨T, _, rfl, .inl ⟨qL_ hy, fun g hg => ⟨(by show 3 <= sizeLine; decide), fun m hm => ?_⟩⟩⟩
  have s4 := s3.trans (ah hg (HO.tup ((aF s0 s1 p many).map V.int)))
  have s5 := s4.trans (ah hm (HO.tup [V.int ss.length, V.ref r, V.ref g]))
  refine k m r g _ (s2.trans s5) ⟨ab, ⟨as, s5 _ _ hr2, A1.same fun b xs e => s5 _ _ (sr _ _ e)⟩, (ah hm _) _ _ ab⟩
end
theorem oE {ss : LI} {many : Nat} {q : Int} (h0 : 0 <= q) (h1 : q < (many : Int)) : (ar ss many).getD q.toNat [] = ss.map fun s => (q + s) % (many : Int) := by
 have l : q.toNat < many := by omega
 unfold ar
 rw [getD_at (by rw [lm_, List.length_range]; exact l), List.getElem_map, List.getElem_range, Int.toNat_of_nonneg h0]
theorem e8 {ss : LI} {many : Nat} (m0 : 1 <= many) : RowsOk many ss.length (ar ss many) where
 len := dW ss many
 row := fun r hr => by
  obtain ⟨q, _, rfl⟩ := List.mem_map.mp hr
  exact List.length_map _
 val := fun r hr v hv => by
  obtain ⟨q, _, rfl⟩ := List.mem_map.mp hr
  obtain ⟨s, _, rfl⟩ := List.mem_map.mp hv
  exact bX (by omega)
theorem nh {ss : LI} {many : Nat} {q f s : Int} (h0 : 0 <= q) (h1 : q < (many : Int)) (f0 : 0 <= f) (hs : ss[f.toNat]? = some s) : stepI (ar ss many) q f = (q + s) % (many : Int) := by
 have l := gi_ hs
 unfold stepI
 rw [oE h0 h1, getD_at (by rw [lm_]; exact l.1), List.getElem_map, l.2]
theorem zN {q : Int} {qs : LI} : inV (.int q) (qs.map V.int) = decide (q ∈ qs) := by
 unfold inV
 induction qs with
 | nil => rfl
 | cons k r ih =>
  rw [List.map_cons, List.any_cons, ih, show eqV (V.int k) (V.int q) = decide (k = q) from rfl]
  by_cases e : k = q
  ·subst e; simp
  ·simp [e, Ne.symm e]
theorem Found.bfs {many wide : Nat} {rows : LL} {qs : LI} (R : RowsOk many wide rows) (n0 : 1 <= many) (F : Found many wide rows qs qs) : Bfs many wide rows qs := by
 have z0 : (0 : Int) ∈ qs := by
  have := fU rows qs (s := [0]) (y := 0) List.mem_cons_self
  rw [<- F.eq] at this
  exact this
 refine ⟨F.eq, F.nd, F.inr, fun q => ⟨F.re q, fun h => ?_⟩⟩
 refine h.of (S := fun q => q ∈ qs) z0 fun q hq f f0 f1 => ?_
 have qi := F.inr q hq
 have t : stepI rows q f ∈ rows.getD q.toNat [] := by
  have l : q.toNat < rows.length := by rw [R.len]; omega
  have l2 : f.toNat < rows[q.toNat].length := by rw [R.row _ (List.getElem_mem l)]; omega
  unfold stepI
  rw [getD_at l, getD_at l2]
  exact List.getElem_mem _
 have := dI rows qs (s := [0]) hq t
 rw [<- F.eq] at this
 exact this
theorem xS {qs zs : LI} {t : Int} (h : t ∈ qs) : rho (qs ++ zs) t = rho qs t := by
 unfold rho
 rw [List.idxOf_append, if_pos h]
theorem AH {rows : LL} {qs zs ds : LI} (h : ∀ q ∈ ds, ∀ t ∈ rows.getD q.toNat [], t ∈ qs) : aD rows (rho (qs ++ zs)) ds = aD rows (rho qs) ds := by
 unfold aD
 exact List.map_congr_left fun q hq => List.map_congr_left fun t ht => xS (h q hq t ht)
def jx (K : PySem.W.Frag) : Sp := fun vs H Q _ => ∃ (sa ga : Addr) (ss : LI) (s0 s1 : Int) (p : Nat), vs = [.ref sa, .int p, .ref ga] /\ H sa = some (.lst (ss.map V.int)) /\ H ga = some (.lst [.int s0, .int s1]) /\ (1 <= p /\ p <= 1000) /\ ss.length <= 1000 /\
 ∀ (m r g : Addr) (qs : LI) (H' : Hp), Same H H' -> Bfs p ss.length (ar ss p) qs -> MachAt H' m r g ss.length (aD (ar ss p) (rho qs) qs) (aE (aF s0 s1 p p) qs) -> Q (.ref m) H'
section
variable {P : Program} {w : World} {K : PySem.W.Frag} {mg : Str -> Option Value} {base : Heap} {f : Addr} {fd : FuncData} {dV : Value}
theorem sc__law_least : FnScope ["_law_steps", "_law_p", "_law_signs", "_law_rests", "_law_at", "_law_rows", "_law_row", "_law_step", "_law_rest"] ["_law_steps", "_law_p", "_law_signs"] (ak cJ) := ⟨rfl, rfl, rfl, by decide +kernel, rfl, by decide +kernel, by decide +kernel⟩
theorem bk__law_least_0 : BlkScope ["_law_steps", "_law_p", "_law_signs", "_law_rests", "_law_at", "_law_rows", "_law_row", "_law_step", "_law_rest"] (ak cJ) ["_law_rest", "_law_signs"] [none, some 2] { kind := ScopeKind.function, names := [(".0", NameKind.local), ("_law_rest", NameKind.local), ("int", NameKind.globalImplicit), ("_law_signs", NameKind.free)], isGenerator := false, isCoroutine := false, more := [] } := ⟨rfl, by decide +kernel, by decide +kernel, by decide +kernel, by decide +kernel, rfl, by decide +kernel⟩
theorem tu (F : FunD K "_law_least" "_law_least" cJ dV f fd) (aH : mg "tuple" = none) (aM : mg "len" = none) (mD : mg "int" = none) : FnOk P w K mg base CX0 1 f fd ["_law_steps", "_law_p", "_law_signs"] (jx K) := by
 refine F.ok sc__law_least (fun vs H Q E h => ?_) (fun cdv A outer s H vs Q E hr h => ?_)
 ·obtain ⟨sa, ga, ss, s0, s1, p, rfl, _⟩ := h
  rfl
 obtain ⟨sa, ga, ss, s0, s1, p, rfl, hsa, hga, ⟨p0, p1⟩, lss, k⟩ := h
 have R := e8 (ss := ss) p0
 refine ⟨_, (aj (az (i := 3) sc__law_least.nd rfl (Or.inl rfl) (cW (aa ay af)))
   (aj (az (i := 4) sc__law_least.nd rfl (Or.inl rfl) ay)
   (aj (az (i := 5) sc__law_least.nd rfl (Or.inl rfl) (cW af))
   (aj (mY PassesOwn.never (cu AL (pv 4) (aC aA (by rfl) aM bB (aa (pv 3) af)) (bQ _)) (aj (az (i := 6) sc__law_least.nd rfl (Or.inl rfl) (cW af))
   (aj (cf PassesOwn.never rfl (bO (pv 0)) (ax (i := 7) sc__law_least.nd rfl (Or.inl rfl)) (aj (az (i := 8) sc__law_least.nd rfl (Or.inl rfl) (aU bS (aU cY (aO b9 (pv 3) (pv 4) (fun _ _ => rfl)) (pv 7)) (pv 1)))
   (aj (dr (cu sV (pv 8) (pv 3) (by with_unfolding_all rfl)) (av (bD (fA PySem.F.plainAttrs_list PySem.F.slot_list_append PySem.F.type_list_append bF (pv 3) (aa (pv 8) af)))) bP)
   (av (bD (fA PySem.F.plainAttrs_list PySem.F.slot_list_append PySem.F.type_list_append bF (pv 6) (aa (fA PySem.F.plainAttrs_list PySem.F.slot_list_index PySem.F.type_list_index yU (pv 3) (aa (pv 8) af)) af)))))))
   (aj (bD (fA PySem.F.plainAttrs_list PySem.F.slot_list_append PySem.F.type_list_append bF (pv 5) (aa (aN aP (by rfl) aH bE (aa (pv 6) af)) af)))
   (av (az (i := 4) sc__law_least.nd rfl (Or.inl rfl) (aU cY (pv 4) ay)))))))
   (av (bh (dD (aa (aC aA (by rfl) aM bB (aa (pv 0) af)) (aa (aN aP (by rfl) aH bE (aa (pv 5) af)) (aa (aN aP (by rfl) aH bE (aa (cq rfl bk__law_least_0 (bO (pv 3)) (fun _ _ _ _ => (ax (i := 0) bk__law_least_0.nd rfl (Or.inl rfl))) (fun _ _ _ _ => (aO (js K) (pv 1) (aN sO (by rfl) mD vX (aa (fG uR (pv 0) ay (bQ _)) af)) (fun _ _ => rfl)))) af)) af)))))))))), ?_⟩
 refine ⟨(by show 1 <= sizeLine; decide), fun Ra hRa => ?_⟩
 have sR := ah hRa (HO.lst [V.int 0])
 refine ⟨(by show 0 <= sizeLine; decide), fun Wa hWa => ?_⟩
 have sW := ah hWa (HO.lst [])
 have nRW : Ra ≠ Wa := aq ab hWa
 have fR : H Ra = none := hRa
 have fW : H Wa = none := sR.free hWa
 try dsimp only [bR, dZ]
 refine dN (t := n9 _ _) (fun σ' H' => ∃ (qs : LI) (as : List Addr) (at_ : Int) (v6 v7 v8 : OV), σ' = [some (.ref sa), some (.int p), some (.ref ga), some (.ref Ra), some (.int at_), some (.ref Wa), v6, v7, v8] /\ Same H H' /\ H' Ra = some (.lst (qs.map V.int)) /\ H' Wa = some (.lst (as.map V.ref)) /\ Bfs p ss.length (ar ss p) qs /\ RowsAt H' as (aD (ar ss p) (rho qs) qs)) ?_ (fun D' nxt => ?_)
 rotate_left
 ·refine oX (fun mm σ' H' => ∃ (qs : LI) (as : List Addr) (n : Nat) (v6 v7 v8 : OV), mm = p - n /\ n <= qs.length /\ σ' = [some (.ref sa), some (.int p), some (.ref ga), some (.ref Ra), some (.int n), some (.ref Wa), v6, v7, v8] /\ Same H H' /\ H' Ra = some (.lst (qs.map V.int)) /\ H' Wa = some (.lst (as.map V.ref)) /\ Found p ss.length (ar ss p) (qs.take n) qs /\ RowsAt H' as (aD (ar ss p) (rho qs) (qs.take n)))
   ⟨_, [0], [], 0, none, none, none, rfl, Nat.zero_le _, rfl, au sR fW, by rw [ae nRW, ab]; rfl, ab, ⟨rfl, by simp, fun q hq => by rw [List.mem_singleton.mp hq]; omega, fun q hq => by rw [List.mem_singleton.mp hq]; exact Reach.zero⟩, .nil⟩ ?_
  rintro mm σ' H2 ⟨qs, as, n, v6, v7, v8, emm, nq, rfl, s2, hR2, hW2, FD, A2⟩
  have few := aX p FD.nd FD.inr
  refine ⟨_, rfl, _, rfl, Ra, _, rfl, .inl (qL_ hR2), _, _, rfl, rfl, _, rfl, qV (fun c => ?_) (fun c => ?_)⟩
  ·rw [lm_] at c
   have nl : n < qs.length := by omega
   refine ⟨fun σ' H' => ∃ m', m' < mm /\ ∃ (qs : LI) (as : List Addr) (n : Nat) (v6 v7 v8 : OV), m' = p - n /\ n <= qs.length /\ σ' = [some (.ref sa), some (.int p), some (.ref ga), some (.ref Ra), some (.int n), some (.ref Wa), v6, v7, v8] /\ Same H H' /\ H' Ra = some (.lst (qs.map V.int)) /\ H' Wa = some (.lst (as.map V.ref)) /\ Found p ss.length (ar ss p) (qs.take n) qs /\ RowsAt H' as (aD (ar ss p) (rho qs) (qs.take n)), fun _ _ h => h, ?_⟩
   obtain ⟨q, eq⟩ : ∃ q, qs[n] = q := ⟨_, rfl⟩
   have hq : qs[n]? = some q := by rw [List.getElem?_eq_getElem nl, eq]
   have qm := mq_ hq
   have qi := FD.inr q qm
   have qre := FD.re q qm
   refine ⟨(by show 0 <= sizeLine; decide), fun La hLa => ?_⟩
   have sL := ah hLa (HO.lst [])
   have fL : H La = none := s2.free hLa
   have nLR : La ≠ Ra := fun z => by rw [z, hR2] at hLa; cases hLa
   have nLW : La ≠ Wa := fun z => by rw [z, hW2] at hLa; cases hLa
   have clo : ∀ d ∈ qs.take n, ∀ t ∈ (ar ss p).getD d.toNat [], t ∈ qs := fun d hd t ht => by
    have := dI (ar ss p) (qs.take n) (s := [0]) hd ht
    rw [<- FD.eq] at this
    exact this
   try dsimp only [bR, dZ]
   refine dN (t := oQ _ _ _) (fun σ' H' => ∃ (qs' : LI) (v7 v8 : OV), σ' = [some (.ref sa), some (.int p), some (.ref ga), some (.ref Ra), some (.int n), some (.ref Wa), some (.ref La), v7, v8] /\ Same H H' /\ H' Ra = some (.lst (qs'.map V.int)) /\ H' Wa = some (.lst (as.map V.ref)) /\ H' La = some (.lst ((ss.map fun s => rho qs' ((q + s) % (p : Int))).map V.int)) /\ (∃ zs, qs' = qs ++ zs) /\ Part p ss.length (ar ss p) (qs.take n) (ss.map fun s => (q + s) % (p : Int)) qs' /\ RowsAt H' as (aD (ar ss p) (rho qs) (qs.take n))) ?_ (fun D'' nxt' => ?_)
   rotate_left
   ·refine ⟨_, rfl, sa, rfl, ⟨_, qL_ (sL _ _ (s2 _ _ hsa))⟩, ?_⟩
    refine cL (K := K) (xs := ss.map V.int) (fun j σ' H' => ∃ (qs' : LI) (v7 v8 : OV), σ' = [some (.ref sa), some (.int p), some (.ref ga), some (.ref Ra), some (.int n), some (.ref Wa), some (.ref La), v7, v8] /\ Same H H' /\ H' Ra = some (.lst (qs'.map V.int)) /\ H' Wa = some (.lst (as.map V.ref)) /\ H' La = some (.lst (((ss.take j).map fun s => rho qs' ((q + s) % (p : Int))).map V.int)) /\ (∃ zs, qs' = qs ++ zs) /\ Part p ss.length (ar ss p) (qs.take n) ((ss.take j).map fun s => (q + s) % (p : Int)) qs' /\ RowsAt H' as (aD (ar ss p) (rho qs) (qs.take n)))
     ⟨qs, _, _, rfl, au s2 fL, sL _ _ hR2, sL _ _ hW2, ab, ⟨[], (List.append_nil _).symm⟩, ⟨FD.eq, FD.nd, FD.inr, FD.re⟩, A2.same fun b xs e => sL _ _ e⟩ (fun j σ' H' _ ⟨_, _, _, _, e, _⟩ => qL_ (e _ _ hsa)) ?_ ?_
    ·rintro j y σ' H3 hj ⟨qs', v7, v8, rfl, s3, hR3, hW3, hL3, ⟨zs, ez⟩, PT, A3⟩
     obtain ⟨st, rfl, hst⟩ := aY hj
     have jl := (gi_ hst).1
     have few3 := aX p PT.nd PT.inr
     have atq : atI (qs'.map V.int) (n : Int) = some (.int q) := by
      rw [cx (by omega) (by rw [ez, List.length_append]; omega), Int.toNat_natCast, ez, List.getD_eq_getElem?_getD, List.getElem?_append_left nl, hq]
      rfl
     obtain ⟨t, et⟩ : ∃ t, (q + st) % (p : Int) = t := ⟨_, rfl⟩
     have tin := bX (a := q + st) (b := (p : Int)) (by omega)
     rw [et] at tin
     have tre : Reach ss.length (ar ss p) t := by
      rw [<- et, <- nh (f := (j : Int)) qi.1 qi.2 (by omega) (by rw [Int.toNat_natCast]; exact hst)]
      exact qre.step (by omega) (by omega)
     have etk : ss.take (j + 1) = ss.take j ++ [st] := by rw [List.take_add_one, hst]; rfl
     have old : ∀ ys : LI, (ss.take j).map (fun s => rho (qs' ++ ys) ((q + s) % (p : Int))) = (ss.take j).map (fun s => rho qs' ((q + s) % (p : Int))) := fun ys => List.map_congr_left fun s hs => xS (by
      rw [PT.eq]
      exact kx _ (List.mem_map.mpr ⟨s, hs, rfl⟩))
     have nRW' : Ra ≠ Wa := nRW
     have ll : (((ss.take j).map fun s => rho qs' ((q + s) % (p : Int))).map V.int).length < sizeLine := aw (by rw [lm_, lm_, List.length_take]; omega)
     refine ⟨_, rfl, _, rfl, Ra, _, _, _, rfl, rfl, qL_ hR3, atq, _, rfl, _, _, rfl, rfl, _, rfl, _, _, rfl, rfl, by omega, ?_⟩
     try dsimp only [bR, dZ, List.set]
     rw [et]
     refine dN (t := zu _ _ _) (fun σ' H' => ∃ qs2 ys : LI, σ' = [some (.ref sa), some (.int p), some (.ref ga), some (.ref Ra), some (.int n), some (.ref Wa), some (.ref La), some (.int st), some (.int t)] /\ qs2 = qs' ++ ys /\ t ∈ qs2 /\ H' Ra = some (.lst (qs2.map V.int)) /\ (∀ c u, c ≠ Ra -> H3 c = some u -> H' c = some u) /\ Part p ss.length (ar ss p) (qs.take n) ((ss.take (j + 1)).map fun s => (q + s) % (p : Int)) qs2) ?_ (fun D3 nxt3 => ?_)
     rotate_left
     ·refine ⟨_, rfl, _, rfl, Ra, _, rfl, .inl (qL_ hR3), rfl, yL _, _, rfl, ?_⟩
      rw [if_pos rfl, zN]
      refine oy (fun c => ?_) (fun c => ?_)
      ·refine ⟨_, rfl, .inl ⟨rfl, _, qL_ hR3⟩, _, rfl, Ra, _, _, rfl, rfl, hR3, aw (by rw [lm_]; omega), nxt3 _ _ ⟨qs' ++ [t], [t], rfl, rfl, List.mem_append_right _ List.mem_cons_self, by rw [ab, List.map_append]; rfl, fun c u c1 e => by rw [ae c1]; exact e, ?_⟩⟩
       rw [etk, List.map_append]
       show Part p ss.length (ar ss p) (qs.take n) (_ ++ [(q + st) % (p : Int)]) (qs' ++ [t])
       rw [et]
       exact PT.put c tin.1 tin.2 tre
      ·refine nxt3 _ _ ⟨qs', [], rfl, (List.append_nil _).symm, c, hR3, fun _ _ _ e => e, ?_⟩
       rw [etk, List.map_append]
       show Part p ss.length (ar ss p) (qs.take n) (_ ++ [(q + st) % (p : Int)]) qs'
       rw [et]
       exact PT.old c
     rintro σ' H4 ⟨qs2, ys, rfl, e2, tm, hR4, kp4, PT4⟩
     have hL4 := kp4 _ _ nLR hL3
     refine ⟨_, rfl, .inl ⟨rfl, _, qL_ hL4⟩, _, rfl, .inl ⟨rfl, _, qL_ hR4⟩, _, rfl, Ra, qs2, t, rfl, rfl, hR4, tm, La, _, _, rfl, rfl, hL4, ll, ?_⟩
     have hW4 := kp4 _ _ (Ne.symm nRW) hW3
     refine ⟨qs2, _, _, rfl, fun c u e => ?_, by rw [ae (Ne.symm nLR)]; exact hR4, by rw [ae (Ne.symm nLW)]; exact hW4, ?_, ⟨zs ++ ys, by rw [e2, ez, List.append_assoc]⟩, PT4, A3.same fun b xs e => ?_⟩
     ·have n1 : c ≠ La := fun z => by rw [z, fL] at e; cases e
      have n2 : c ≠ Ra := fun z => by rw [z, fR] at e; cases e
      rw [ae n1]
      exact kp4 _ _ n2 (s3 _ _ e)
     ·rw [ab, etk, List.map_append, List.map_append, e2, old ys]
      show some (HO.lst (_ ++ [V.int ((List.idxOf t (qs' ++ ys) : Nat) : Int)])) = some (HO.lst (_ ++ [V.int (rho (qs' ++ ys) ((q + st) % (p : Int)))]))
      rw [et]
      rfl
     ·rw [ae (aB (kp4 _ _ (aB e hR3 (by intro z; cases z)) e) hL4 (by intro z; cases z))]
      exact kp4 _ _ (aB e hR3 (by intro z; cases z)) e
    ·rintro σ' H3 ⟨qs', v7, v8, rfl, s3, hR3, hW3, hL3, ez, PT, A3⟩
     rw [lm_, List.take_length] at hL3 PT
     exact nxt' _ _ ⟨qs', v7, v8, rfl, s3, hR3, hW3, hL3, ez, PT, A3⟩
   rintro σ' H3 ⟨qs', v7, v8, rfl, s3, hR3, hW3, hL3, ⟨zs, ez⟩, PT, A3⟩
   have la : as.length = n := by rw [A3.length]; unfold aD; rw [lm_, List.length_take]; omega
   have few3 := aX p PT.nd PT.inr
   have eRow : (ar ss p).getD q.toNat [] = ss.map fun s => (q + s) % (p : Int) := oE qi.1 qi.2
   refine ⟨_, rfl, .inl ⟨rfl, _, qL_ hW3⟩, _, rfl, La, _, rfl, .inl ⟨qL_ hL3, fun tt htt => ?_⟩⟩
   have st := ah htt (HO.tup ((ss.map fun s => rho qs' ((q + s) % (p : Int))).map V.int))
   have hW4 := st _ _ hW3
   refine ⟨Wa, _, _, rfl, rfl, hW4, aw (by rw [lm_]; omega), ?_⟩
   have tk : qs'.take (n + 1) = qs.take n ++ [q] := by
    rw [ez, List.take_append_of_le_length (by omega), List.take_add_one, hq]
    rfl
   have n1 : Ra ≠ Wa := nRW
   refine ⟨_, rfl, _, _, rfl, rfl, p - (n + 1), by rw [emm]; omega, qs', as ++ [tt], n + 1, _, _, _, rfl, by rw [ez, List.length_append]; omega, rfl, au (s3.trans st) fW, by rw [ae nRW]; exact st _ _ hR3, by rw [ab, List.map_append]; rfl, ⟨?_, PT.nd, PT.inr, PT.re⟩, ?_⟩
   ·rw [tk, List.foldl_append]
    show qs' = bN (ar ss p) ((qs.take n).foldl (bN (ar ss p)) [0]) q
    unfold bN
    rw [eRow]
    exact PT.eq
   ·have sT : ∀ b xs, (upd H3 tt (HO.tup ((ss.map fun s => rho qs' ((q + s) % (p : Int))).map V.int))) b = some (.tup xs) -> (upd (upd H3 tt (HO.tup ((ss.map fun s => rho qs' ((q + s) % (p : Int))).map V.int))) Wa (.lst (as.map V.ref ++ [V.ref tt]))) b = some (.tup xs) := fun b xs e => by
     rw [ae (aB e hW4 (by intro z; cases z))]; exact e
    have ek : aD (ar ss p) (rho qs') (qs'.take (n + 1)) = aD (ar ss p) (rho qs) (qs.take n) ++ [ss.map fun s => rho qs' ((q + s) % (p : Int))] := by
     rw [tk]
     show (qs.take n ++ [q]).map _ = _
     rw [List.map_append]
     congr 1
     ·have := AH (zs := zs) clo
      rw [<- ez] at this
      exact this
     ·show [((ar ss p).getD q.toNat []).map (rho qs')] = _
      rw [eRow, List.map_map]
      rfl
    rw [ek]
    exact RowsAt.snoc (A3.same fun b xs e => sT b xs (st _ _ e)) (sT _ _ ab)
  ·rw [lm_] at c
   have en : n = qs.length := by omega
   subst en
   rw [List.take_length] at FD A2
   exact nxt _ _ ⟨qs, as, _, v6, v7, v8, rfl, s2, hR2, hW2, FD.bfs R p0, A2⟩
 rintro σ' H1 ⟨qs, as, at_, v6, v7, v8, rfl, s1', hR1, hW1, bf, A1⟩
 have few := aX p bf.nd bf.inr
 have la : as.length = qs.length := by rw [A1.length]; unfold aD; rw [lm_]
 refine ⟨_, rfl, sa, _, rfl, .inl (qL_ (s1' _ _ hsa)), _, rfl, Wa, _, rfl, .inl ⟨qL_ hW1, fun r hr' => ?_⟩⟩
 rw [lm_]
 have sr := ah hr' (HO.tup (as.map V.ref))
 obtain ⟨H2, eH2⟩ : ∃ H2, upd H1 r (HO.tup (as.map V.ref)) = H2 := ⟨_, rfl⟩
 have hr2 : H2 r = some (.tup (as.map V.ref)) := by rw [<- eH2, ab]
 rw [eH2] at sr ⊢
 have s2 := s1'.trans sr
 refine ⟨_, rfl, Ra, rfl, ⟨_, qL_ (sr _ _ hR1)⟩, ?_⟩
 refine dM (K := K) (xs := qs.map V.int) (fun D i ys H' => Same H2 H' /\ ys = (aE (aF s0 s1 p p) (qs.take i)).map V.int) (fun D hD => ⟨ah hD _, rfl⟩) (fun D i ys H' _ ⟨e, _⟩ => qL_ (e _ _ (sr _ _ hR1))) ?_ ?_
 ·rintro D i y ys H3 Q' hD hi hy ⟨s3, rfl⟩ k'
  obtain ⟨q, rfl, hq⟩ := aY hi
  have il := (gi_ hq).1
  have qi := bf.inr q (mq_ hq)
  have sg : (aF s0 s1 p p).getD q.toNat 0 = if q > 0 then s1 else s0 := by
   have l : q.toNat < p := by omega
   unfold aF
   rw [getD_at (by rw [lm_, List.length_range]; exact l), List.getElem_map, List.getElem_range, Int.toNat_of_nonneg qi.1, Int.emod_eq_of_lt qi.1 qi.2]
  have at' : atI [V.int s0, V.int s1] (if decide (0 < q) = true then 1 else 0) = some (V.int ((aF s0 s1 p p).getD q.toNat 0)) := by
   rw [sg]
   by_cases c : (0 : Int) < q
   ·rw [if_pos (decide_eq_true c), if_pos c]; rfl
   ·rw [if_neg (fun z => c (of_decide_eq_true z)), if_neg c]; rfl
  refine ⟨_, rfl, _, rfl, _, _, rfl, rfl, .inr ⟨_, rfl, ga, _, _, _, rfl, rfl, qL_ (s3 _ _ (s2 _ _ hga)), at', k' _ _ hy (aw (by unfold aE; rw [lm_, lm_, List.length_take]; omega)) ⟨au s3 hD, ?_⟩⟩⟩
  unfold aE
  rw [List.take_add_one, hq, List.map_append, List.map_append]
  rfl
 ·rintro T ys H3 hT hy ⟨s3, rfl⟩
  rw [lm_, List.take_length] at hy
  refine ⟨T, _, rfl, .inl ⟨qL_ hy, fun g hg => ⟨(by show 3 <= sizeLine; decide), fun m hm => ?_⟩⟩⟩
  have s4 := s3.trans (ah hg (HO.tup ((aE (aF s0 s1 p p) qs).map V.int)))
  have s5 := s4.trans (ah hm (HO.tup [V.int ss.length, V.ref r, V.ref g]))
  exact k m r g qs _ (s2.trans s5) bf ⟨ab, ⟨as, s5 _ _ hr2, A1.same fun b xs e => s5 _ _ (sr _ _ e)⟩, (ah hm _) _ _ ab⟩
end
def eu (ss v : LI) : Int := AZ (v.map fun f => ss.getD f.toNat 0)
theorem foldl_add (xs : LI) : ∀ a : Int, xs.foldl (· + ·) a = a + xs.foldl (· + ·) 0 := by
 induction xs with
 | nil => intro a; simp
 | cons x xs ih =>
  intro a
  rw [List.foldl_cons, List.foldl_cons, ih (a + x), ih (0 + x)]
  omega
theorem sj (ss : LI) (f : Int) (v : LI) : eu ss (f :: v) = ss.getD f.toNat 0 + eu ss v := by
 unfold eu AZ
 rw [List.map_cons, List.foldl_cons, foldl_add, Int.zero_add]
theorem gj (a k n : Int) : (a % n + k) % n = (a + k) % n := by rw [Int.add_emod, Int.emod_emod_of_dvd _ (Int.dvd_refl n), <- Int.add_emod]
theorem nv {ss : LI} {many : Nat} (m0 : 1 <= many) : ∀ {v : LI} {a : Int}, InF ss.length v -> 0 <= a -> a < (many : Int) -> aZ (ar ss many) v a = (a + eu ss v) % (many : Int)
 | [], a, _, h0, h1 => by
  show a = (a + 0) % (many : Int)
  rw [Int.add_zero, Int.emod_eq_of_lt h0 h1]
 | f :: v, a, hv, h0, h1 => by
  have hf := hv f List.mem_cons_self
  have l : f.toNat < ss.length := by omega
  have st : stepI (ar ss many) a f = (a + ss.getD f.toNat 0) % (many : Int) := nh h0 h1 hf.1 (by rw [getD_at l]; exact List.getElem?_eq_getElem l)
  have ri := bX (a := a + ss.getD f.toNat 0) (b := (many : Int)) (by omega)
  show aZ (ar ss many) v (stepI (ar ss many) a f) = _
  rw [st, nv m0 (fun g hg => hv g (List.mem_cons_of_mem _ hg)) ri.1 ri.2, gj, sj, Int.add_assoc]
theorem vO {s0 s1 : Int} {p many : Nat} {x : Int} (h0 : 0 <= x) (h1 : x < (many : Int)) : sgn (aF s0 s1 p many) x = if x % (p : Int) > 0 then s1 else s0 := by
 have l : x.toNat < many := by omega
 unfold sgn aF
 rw [getD_at (by rw [lm_, List.length_range]; exact l), List.getElem_map, List.getElem_range, Int.toNat_of_nonneg h0]
theorem g8 {ss : LI} {s0 s1 : Int} {p many : Nat} (m0 : 1 <= many) (hd : (p : Int) ∣ (many : Int)) {v : LI} {a : Int} (hv : InF ss.length v) (h0 : 0 <= a) (h1 : a < (many : Int)) : sgn (aF s0 s1 p many) (aZ (ar ss many) v a) = if (a + eu ss v) % (p : Int) > 0 then s1 else s0 := by
 have ri := bX (a := a + eu ss v) (b := (many : Int)) (by omega)
 rw [nv m0 hv h0 h1, vO ri.1 ri.2, Int.emod_emod_of_dvd _ hd]
theorem m6 {ss : LI} {f : Nat} (hf : ss[f]? = some 1) : ∀ c : Nat, eu ss (List.replicate c (f : Int)) = (c : Int)
 | 0 => rfl
 | c + 1 => by
  rw [List.replicate_succ, sj, m6 hf c, Int.toNat_natCast, List.getD_eq_getElem?_getD, hf]
  show (1 : Int) + c = _
  omega
theorem mF {ss : LI} {f : Nat} (hf : ss[f]? = some 1) (c : Nat) : InF ss.length (List.replicate c (f : Int)) := fun g hg => by
 have := (gi_ hf).1
 rw [(List.mem_replicate.mp hg).2]
 omega
theorem rX {p : Nat} (p0 : 1 <= p) {a b : Int} (ne : a % (p : Int) ≠ b % (p : Int)) : ∃ c : Nat, c < p /\ (a + c) % (p : Int) = 0 /\ (b + c) % (p : Int) ≠ 0 := by
 have ri := bX (a := a) (b := (p : Int)) (by omega)
 have rb := bX (a := b) (b := (p : Int)) (by omega)
 refine ⟨(((p : Int) - a % (p : Int)) % (p : Int)).toNat, ?_, ?_, ?_⟩
 ·have := bX (a := (p : Int) - a % (p : Int)) (b := (p : Int)) (by omega)
  omega
 ·have h := bX (a := (p : Int) - a % (p : Int)) (b := (p : Int)) (by omega)
  rw [Int.toNat_of_nonneg h.1, Int.add_comm, gj, show (p : Int) - a % (p : Int) + a = p + (a - a % (p : Int)) by omega, Int.add_emod]
  have d : (a - a % (p : Int)) % (p : Int) = 0 := Int.emod_eq_zero_of_dvd (Int.dvd_self_sub_emod)
  rw [d, Int.emod_self]
  rfl
 ·have h := bX (a := (p : Int) - a % (p : Int)) (b := (p : Int)) (by omega)
  rw [Int.toNat_of_nonneg h.1, Int.add_comm, gj]
  intro z
  apply ne
  have e : (b - a) % (p : Int) = 0 := by
   have e1 : (p : Int) - a % (p : Int) + b = (b - a) + (p + (a - a % (p : Int))) := by omega
   have d : ((p : Int) + (a - a % (p : Int))) % (p : Int) = 0 := by
    rw [Int.add_emod, Int.emod_self, Int.emod_eq_zero_of_dvd (Int.dvd_self_sub_emod (x := a) (m := (p : Int)))]
    rfl
   rw [e1, Int.add_emod, d, Int.add_zero, Int.emod_emod_of_dvd _ (Int.dvd_refl _)] at z
   exact z
  have e2 := Int.emod_emod_of_dvd b (Int.dvd_refl (p : Int))
  have : b = a + (b - a) := by omega
  rw [this, Int.add_emod, e, Int.add_zero, Int.emod_emod_of_dvd _ (Int.dvd_refl _)]
theorem zM {qs : LI} (nd : qs.Nodup) {i : Nat} (h : i < qs.length) : rho qs qs[i] = (i : Int) := by
 unfold rho
 have l := List.idxOf_lt_length_of_mem (List.getElem_mem h)
 have q := (List.getElem_inj nd).mp (List.getElem_idxOf l)
 rw [q]
theorem vH {signs qs : LI} {q : Int} (h : q ∈ qs) : sgn (aE signs qs) (rho qs q) = sgn signs q := by
 have l := List.idxOf_lt_length_of_mem h
 unfold sgn aE rho
 rw [Int.toNat_natCast, getD_at (by rw [lm_]; exact l), List.getElem_map, List.getElem_idxOf l]
theorem w9 {ss : LI} {s0 s1 : Int} {p many : Nat} (m0 : 1 <= many) (p0 : 1 <= p) (hd : (p : Int) ∣ (many : Int)) : Tells ss.length (ar ss many) (ar ss p) (aF s0 s1 p many) (aF s0 s1 p p) 0 0 := fun v hv => by
 rw [g8 m0 hd hv (by omega) (by omega), g8 p0 (Int.dvd_refl _) hv (by omega) (by omega)]
theorem wx {ss : LI} {s0 s1 : Int} {p many f : Nat} {qs : LI} (m0 : 1 <= many) (p0 : 1 <= p) (hd : (p : Int) ∣ (many : Int)) (hf : ss[f]? = some 1) (hs : s0 ≠ s1) (bf : Bfs p ss.length (ar ss p) qs) :
  LeastOf ss.length (ar ss many) (aD (ar ss p) (rho qs) qs) (aF s0 s1 p many) (aE (aF s0 s1 p p) qs) := by
 have R := e8 (ss := ss) p0
 obtain ⟨R1, O1, p1, t1⟩ := pQ (signs := aF s0 s1 p p) R (by omega) bf.eq bf.nd (fun q hq => bf.inr q hq) fun q hq => (bf.re q).mp hq
 have el : (aD (ar ss p) (rho qs) qs).length = qs.length := by unfold aD; rw [lm_]
 refine ⟨by rw [el]; exact R1, by rw [el]; exact p1, by rw [el]; unfold aE; rw [lm_], O1, fun a b ha hb ag => ?_, (w9 m0 p0 hd).trans t1⟩
 rw [el] at ha hb
 have la : a.toNat < qs.length := by have := ha.1; have := ha.2; omega
 have lb : b.toNat < qs.length := by have := hb.1; have := hb.2; omega
 have ea := zM bf.nd la
 have eb := zM bf.nd lb
 rw [Int.toNat_of_nonneg ha.1] at ea
 rw [Int.toNat_of_nonneg hb.1] at eb
 have ma := List.getElem_mem la
 have mb := List.getElem_mem lb
 have ia := bf.inr _ ma
 have ib := bf.inr _ mb
 rw [<- ea, <- eb]
 congr 1
 refine Classical.byContradiction fun ne => ?_
 obtain ⟨c, _, c1, c2⟩ := rX (p := p) p0 (a := qs[a.toNat]) (b := qs[b.toNat]) (by rw [Int.emod_eq_of_lt ia.1 ia.2, Int.emod_eq_of_lt ib.1 ib.2]; exact ne)
 have hv := mF hf c
 have h := ag c (List.replicate c (f : Int)) hv (by rw [List.length_replicate]; exact Nat.le_refl _)
 rw [<- ea, <- eb] at h
 have wa := iL R bf.eq (fun q hq => bf.inr q hq) hv ma
 have wb := iL R bf.eq (fun q hq => bf.inr q hq) hv mb
 have h' : sgn (aE (aF s0 s1 p p) qs) (rho qs (aZ (ar ss p) (List.replicate c (f : Int)) qs[a.toNat])) = sgn (aE (aF s0 s1 p p) qs) (rho qs (aZ (ar ss p) (List.replicate c (f : Int)) qs[b.toNat])) := by
  rw [<- wa.1, <- wb.1]
  exact h
 rw [vH wa.2, vH wb.2, g8 p0 (Int.dvd_refl _) hv ia.1 ia.2, g8 p0 (Int.dvd_refl _) hv ib.1 ib.2, m6 hf, c1, if_neg (by omega), if_pos (by
  have := (bX (a := qs[b.toNat] + (c : Int)) (b := (p : Int)) (by omega)).1
  omega)] at h'
 exact hs h'
theorem ox (K : PySem.W.Frag) : PySem.W.kitOne K (.type "int") (.type "int") = some true := by with_unfolding_all rfl
theorem mG (K : PySem.W.Frag) : PySem.W.kitOne K (.type "int") (.type "bool") = some false := by with_unfolding_all rfl
def mN : Sp := fun vs H Q _ => ∃ (b : Addr) (wd : Int) (ns : LI), vs = [.ref b, .int wd] /\ H b = some (.tup (ns.map V.int)) /\ (∀ z ∈ ns, 0 <= z /\ z < wd) /\ Q (.bl true) H
def pG : Sp := fun vs H Q _ => ∃ (m r g m' r' g' : Addr) (wide : Nat) (rows : LL) (signs : LI), vs = [.ref m, .ref m'] /\ MachAt H m r g wide rows signs /\ MachAt H m' r' g' wide rows signs /\ RowsOk rows.length wide rows /\ wide <= 1000 /\ (∀ s ∈ signs, 0 <= s /\ s < 1000000) /\
 ∀ H', Same H H' -> Q (.bl true) H'
theorem sG {K : PySem.W.Frag} {H : Hp} : ∀ r : LI, Paired (EqD K H 0) (r.map V.int) (r.map V.int)
 | [] => .nil
 | i :: r => .cons ⟨i, rfl, rfl⟩ (sG r)
theorem u5 {K : PySem.W.Frag} {H : Hp} : ∀ {rows : LL} {as bs : List Addr}, RowsAt H as rows -> RowsAt H bs rows -> Paired (EqD K H 1) (as.map V.ref) (bs.map V.ref)
 | [], as, bs, h, h' => by
  cases h
  cases h'
  exact .nil
 | r :: rows, as, bs, h, h' => by
  cases h with
  | cons h t =>
   cases h' with
   | cons h' t' => exact .cons (.inr ⟨_, _, _, _, rfl, rfl, qT_ h, qT_ h', sG r⟩) (u5 t t')
theorem rW {K : PySem.W.Frag} {H : Hp} : ∀ r : LI, Paired (EqD K H 1) (r.map V.int) (r.map V.int)
 | [] => .nil
 | i :: r => .cons (.inl ⟨i, rfl, rfl⟩) (rW r)
theorem MachAt.eqD {K : PySem.W.Frag} {H : Hp} {m r g m' r' g' : Addr} {wide : Nat} {rows : LL} {signs : LI} (M : MachAt H m r g wide rows signs) (M' : MachAt H m' r' g' wide rows signs) : Paired (EqD K H 2) [.int wide, .ref r, .ref g] [.int wide, .ref r', .ref g'] := by
 obtain ⟨ras, h1, h2⟩ := M.rows
 obtain ⟨ras', h1', h2'⟩ := M'.rows
 exact .cons (.inl ⟨_, rfl, rfl⟩) (.cons (.inr ⟨_, _, _, _, rfl, rfl, qT_ h1, qT_ h1', u5 h2 h2'⟩) (.cons (.inr ⟨_, _, _, _, rfl, rfl, qT_ M.sgn, qT_ M'.sgn, rW signs⟩) .nil))
section
variable {P : Program} {w : World} {K : PySem.W.Frag} {mg : Str -> Option Value} {base : Heap} {f : Addr} {fd : FuncData} {dV : Value}
theorem sc__law_is_row : FnScope ["_law_found", "_law_wide", "_law_one"] ["_law_found", "_law_wide"] (ak cN) := ⟨rfl, rfl, rfl, by decide +kernel, rfl, by decide +kernel, by decide +kernel⟩
theorem sc__law_alike : FnScope ["_law_found", "_law_due", "_law_row"] ["_law_found", "_law_due"] (ak de) := ⟨rfl, rfl, rfl, by decide +kernel, rfl, by decide +kernel, by decide +kernel⟩
theorem yT (F : FunD K "_law_is_row" "_law_is_row" cN dV f fd) (bj : mg "isinstance" = none) (aH : mg "tuple" = none) (mD : mg "int" = none) (w6 : mg "bool" = none) : FnOk P w K mg base CX0 1 f fd ["_law_found", "_law_wide"] mN := by
 refine F.ok sc__law_is_row (fun vs H Q E h => ?_) (fun cdv A outer s H vs Q E hr h => ?_)
 ·obtain ⟨b, wd, ns, rfl, _⟩ := h
  rfl
 obtain ⟨b, wd, ns, rfl, hb, hin, q⟩ := h
 refine ⟨_, (aj (dr (gm (fc (aC g4 (by rfl) bj cM (aa (pv 0) (aa (jV (v := .ty "tuple") rfl aH bE rfl) af))))) (av (bh eA)) bP)
   (aj (cf PassesOwn.never rfl (iM (pv 0)) (ax (i := 2) sc__law_is_row.nd rfl (Or.inl rfl)) (av (dr (PW.pt (ke (gm (fc (aC g4 (by rfl) bj cM (aa (pv 2) (aa (jV (v := .ty "int") rfl mD vX rfl) af))))) (ke (fc (aC g4 (by rfl) bj cM (aa (pv 2) (aa (jV (v := .ty "bool") rfl w6 Ba rfl) af)))) (ke (cu AL (pv 2) ay (bQ _)) (ko (cu BK (pv 2) (pv 1) (bQ _))))))) (av (bh eA)) bP)))
   (av (bh eA)))), ?_⟩
 refine ⟨_, rfl, _, _, _, _, rfl, TyOf.tup hb, du K, _, rfl, jt ?_⟩
 refine ⟨_, rfl, b, rfl, ⟨_, qT_ hb⟩, tK (K := K) (xs := ns.map V.int) (fun i σ' H' => ∃ v, σ' = [some (.ref b), some (.int wd), v] /\ H' = H) ⟨none, rfl, rfl⟩ (fun i σ' H' _ ⟨_, _, e⟩ => by rw [e]; exact qT_ hb) ?_ ?_⟩
 ·rintro i y σ' H' hi ⟨v, rfl, rfl⟩
  obtain ⟨z, rfl, hz⟩ := aY hi
  have zr := hin z (mq_ hz)
  refine ⟨_, rfl, _, _, _, _, rfl, TyOf.int z, ox K, _, rfl, jt ?_⟩
  refine ⟨_, rfl, _, _, _, _, rfl, TyOf.int z, mG K, _, rfl, jt ?_⟩
  refine ⟨_, rfl, _, _, rfl, rfl, _, rfl, qV (fun c => by omega) (fun _ => ?_)⟩
  refine ⟨_, rfl, _, rfl, _, _, rfl, rfl, _, rfl, qV (fun c => by omega) (fun _ => ?_)⟩
  exact ⟨_, rfl, rfl⟩
 ·rintro σ' H' ⟨v, rfl, rfl⟩
  exact q
theorem ym (F : FunD K "_law_alike" "_law_alike" de dV f fd) (bg : DefOk P w K mg base "_law_is_row" 1 ["_law_found", "_law_wide"] [] mN) (bj : mg "isinstance" = none) (aH : mg "tuple" = none) (aM : mg "len" = none) : FnOk P w K mg base CX0 2 f fd ["_law_found", "_law_due"] pG := by
 refine F.ok sc__law_alike (fun vs H Q E h => ?_) (fun cdv A outer s H vs Q E hr h => ?_)
 ·obtain ⟨m, r, g, m', r', g', wide, rows, signs, rfl, _⟩ := h
  rfl
 obtain ⟨m, r, g, m', r', g', wide, rows, signs, rfl, M, M', R, w1, hs, k⟩ := h
 obtain ⟨ras, hr', hA⟩ := M.rows
 obtain ⟨ras', hr2, hA'⟩ := M'.rows
 have hu3 := zd hr
 refine ⟨_, (aj (dr (PW.pt (ke (gm (fc (aC g4 (by rfl) bj cM (aa (pv 0) (aa (jV (v := .ty "tuple") rfl aH bE rfl) af))))) (ke (cu sE (aC aA (by rfl) aM bB (aa (pv 0) af)) ay (bQ _)) (ko (gm (fc (aC g4 (by rfl) bj cM (aa (aO bz (pv 0) ay (fun _ _ => rfl)) (aa (jV (v := .ty "tuple") rfl aH bE rfl) af))))))))) (av (bh eA)) bP)
   (aj (cf PassesOwn.never rfl (iM (aO bz (pv 0) ay (fun _ _ => rfl))) (ax (i := 2) sc__law_alike.nd rfl (Or.inl rfl)) (av (dr (gm (fc (bM bg hr (aa (pv 2) (aa (aC aA (by rfl) aM bB (aa (aO bz (pv 1) ay (fun _ _ => rfl)) af)) af))))) (av (bh eA)) bP)))
   (av (bh (xp (bM bg hr (aa (z9 B5 (pv 0) BG (Br ay)) (aa ay af))) (xp (bM bg hr (aa (aO bz (pv 0) ay (fun _ _ => rfl)) (aa ay af))) (zI (fG ((As 2 hu3)) (pv 0) (pv 1) (bQ _))))))))), ?_⟩
 refine ⟨_, rfl, _, _, _, _, rfl, TyOf.tup M.tup, du K, _, rfl, jt ?_⟩
 refine ⟨_, rfl, m, _, rfl, .inr (qT_ M.tup), rfl, _, rfl, oy (fun z => absurd rfl z) (fun _ => ?_)⟩
 refine ⟨_, rfl, m, _, _, _, rfl, rfl, qT_ M.tup, rfl, _, _, _, _, rfl, TyOf.tup hr', du K, _, rfl, jt ?_⟩
 refine ⟨_, rfl, m, _, _, _, rfl, rfl, qT_ M.tup, rfl, r, rfl, ⟨_, qT_ hr'⟩, tK (K := K) (xs := ras.map V.ref) (fun i σ' H' => ∃ v, σ' = [some (.ref m), some (.ref m'), v] /\ H' = H) ⟨none, rfl, rfl⟩ (fun i σ' H' _ ⟨_, _, e⟩ => by rw [e]; exact qT_ hr') ?_ ?_⟩
 ·rintro i y σ' H' hi ⟨v, rfl, rfl⟩
  have jl : i < rows.length := by
   have := (gi_ hi).1
   rw [lm_, hA.length] at this
   exact this
  obtain ⟨ra, e1, e2⟩ := hA.get jl
  have ey : y = .ref ra := by rw [List.getElem?_map, e1] at hi; exact (Option.some.inj hi).symm
  subst ey
  refine ⟨_, rfl, _, rfl, m', _, _, _, rfl, rfl, qT_ M'.tup, rfl, r', _, rfl, .inr (qT_ hr2), ra, _, rows[i], rfl, e2, ?_, _, rfl, jt ⟨_, rfl, rfl⟩⟩
  rw [lm_, hA'.length]
  exact R.val _ (List.getElem_mem jl)
 ·rintro σ' H' ⟨v, rfl, rfl⟩
  refine ⟨_, rfl, 1, rfl, m, _, rfl, .inr ⟨qT_ M.tup, (fun z => by
   have e : (1 : Nat) = 3 := congrArg List.length z
   omega), fun t ht => ?_⟩⟩
  have st := ah ht (HO.tup [V.int wide])
  refine ⟨t, 1001, [(wide : Int)], rfl, ab, fun z hz => by rw [List.mem_singleton.mp hz]; omega, _, rfl, uK ?_⟩
  refine ⟨_, rfl, m, _, _, _, rfl, rfl, qT_ (st _ _ M.tup), rfl, g, 1000000, signs, rfl, st _ _ M.sgn, hs, _, rfl, uK ?_⟩
  exact ⟨_, rfl, _, rfl, m, m', _, _, rfl, rfl, qT_ (st _ _ M.tup), qT_ (st _ _ M'.tup), MachAt.eqD (M.same fun b xs e => st _ _ e) (M'.same fun b xs e => st _ _ e), k _ st⟩
end
theorem Ax {p many : Nat} {t : Nat} (h : many = p * t) : (p : Int) ∣ (many : Int) := ⟨(t : Int), by rw [h]; push_cast; rfl⟩
theorem uM {ss : LI} {s0 s1 : Int} {p many f : Nat} {a b : Int} (m0 : 1 <= many) (p0 : 1 <= p) (hd : (p : Int) ∣ (many : Int)) (hf : ss[f]? = some 1) (hs : s0 ≠ s1) (ha : 0 <= a /\ a < (many : Int)) (hb : 0 <= b /\ b < (many : Int)) :
  (PartRes (ar ss many) ss.length many (aF s0 s1 p many) a b none -> a % (p : Int) = b % (p : Int)) /\
  ∀ row, PartRes (ar ss many) ss.length many (aF s0 s1 p many) a b (some row) -> a % (p : Int) ≠ b % (p : Int) /\ InF ss.length row /\ row.length < p /\ (((a + eu ss row) % (p : Int) = 0) ↔ ¬ ((b + eu ss row) % (p : Int) = 0)) := by
 have R := e8 (ss := ss) m0
 have tell : ∀ v, InF ss.length v -> ∀ x : Int, 0 <= x /\ x < (many : Int) -> sgn (aF s0 s1 p many) (aZ (ar ss many) v x) = if (x + eu ss v) % (p : Int) > 0 then s1 else s0 := fun v hv x hx => g8 m0 hd hv hx.1 hx.2
 have unl : a % (p : Int) ≠ b % (p : Int) -> ∃ c : Nat, c < p /\ sgn (aF s0 s1 p many) (aZ (ar ss many) (List.replicate c (f : Int)) a) ≠ sgn (aF s0 s1 p many) (aZ (ar ss many) (List.replicate c (f : Int)) b) := fun ne => by
  obtain ⟨c, c0, c1, c2⟩ := rX p0 ne
  refine ⟨c, c0, ?_⟩
  rw [tell _ (mF hf c) a ha, tell _ (mF hf c) b hb, m6 hf, c1, if_neg (by omega), if_pos (by
   have := (bX (a := b + (c : Int)) (b := (p : Int)) (by omega)).1
   omega)]
  exact hs
 refine ⟨fun h => Classical.byContradiction fun ne => ?_, fun row h => ?_⟩
 ·obtain ⟨c, _, z⟩ := unl ne
  exact z (PartRes.none_all R ha hb h _ (mF hf c))
 ·obtain ⟨h1, h2, h3⟩ := PartRes.sound R ha hb h
  rw [tell _ h1 a ha, tell _ h1 b hb] at h2
  have ma := bX (a := a + eu ss row) (b := (p : Int)) (by omega)
  have mb := bX (a := b + eu ss row) (b := (p : Int)) (by omega)
  have ne : a % (p : Int) ≠ b % (p : Int) := fun e => by
   have e2 : (a + eu ss row) % (p : Int) = (b + eu ss row) % (p : Int) := by rw [<- gj a, e, gj]
   rw [e2] at h2
   exact h2 rfl
  obtain ⟨c, c0, z⟩ := unl ne
  have l := h3 _ (mF hf c) z
  rw [List.length_replicate] at l
  refine ⟨ne, h1, by omega, ?_⟩
  by_cases x : (a + eu ss row) % (p : Int) > 0
  ·by_cases y : (b + eu ss row) % (p : Int) > 0
   ·rw [if_pos x, if_pos y] at h2
    exact absurd rfl h2
   ·constructor <;> intro z <;> omega
  ·by_cases y : (b + eu ss row) % (p : Int) > 0
   ·constructor <;> intro z <;> omega
   ·rw [if_neg x, if_neg y] at h2
    exact absurd rfl h2
theorem sM {ss : LI} {many f : Nat} {ks : LI} {ls : LL} (m0 : 1 <= many) (hf : ss[f]? = some 1) (L : LeadI ss.length (ar ss many) ks.length 0 ks ls) : ∀ q : Nat, q < many -> ∃ (j : Nat) (l : LI), ks[j]? = some (q : Int) /\ ls[j]? = some l /\ l.length <= q /\ InF ss.length l /\ eu ss l % (many : Int) = (q : Int)
 | q, hq => by
  have key : ∀ (j : Nat) (l : LI), ks[j]? = some (q : Int) -> ls[j]? = some l -> InF ss.length l /\ eu ss l % (many : Int) = (q : Int) := fun j l h1 h2 => by
   obtain ⟨w1, w2⟩ := L.wlk j q l h1 h2
   rw [nv m0 w2 (by omega) (by omega), Int.zero_add] at w1
   exact ⟨w2, w1⟩
  match q, hq, key with
  | 0, _, key => exact ⟨0, [], L.k0, L.l0, Nat.le_refl _, key 0 [] L.k0 L.l0⟩
  | q + 1, hq, key =>
   obtain ⟨j, l, h1, h2, h3, _⟩ := sM m0 hf L q (by omega)
   have jl := (gi_ h1).1
   have fl := (gi_ hf).1
   obtain ⟨j', l', k1, k2, k3⟩ := L.done j f q l (.inl ⟨jl, fl⟩) h1 h2
   have st : stepI (ar ss many) (q : Int) (f : Int) = ((q + 1 : Nat) : Int) := by
    rw [nh (by omega) (by omega) (by omega) (by rw [Int.toNat_natCast]; exact hf), Int.emod_eq_of_lt (by omega) (by omega)]
    omega
   rw [st] at k1
   refine ⟨j', l', k1, k2, ?_, key j' l' k1 k2⟩
   unfold b7 at k3
   rw [List.length_append, List.length_singleton] at k3
   by_cases e : l'.length = l.length + 1
   ·omega
   ·rw [if_neg e] at k3
    have := of_decide_eq_false k3
    omega
def ny (K : PySem.W.Frag) : Sp := fun vs H Q _ => ∃ (m r g sa : Addr) (ss : LI) (s0 s1 a b : Int) (p many f : Nat), vs = [.ref m, .ref sa, .int p, .int a, .int b] /\ MachAt H m r g ss.length (ar ss many) (aF s0 s1 p many) /\ H sa = some (.lst (ss.map V.int)) /\ (1 <= many /\ many <= 1000 /\ 1 <= p) /\ (p : Int) ∣ (many : Int) /\ ss.length <= 1000 /\ ss[f]? = some 1 /\ s0 ≠ s1 /\ (0 <= a /\ a < (many : Int)) /\ (0 <= b /\ b < (many : Int)) /\
 ∀ H', Same H H' -> Q (.bl true) H'
def xu (K : PySem.W.Frag) : Sp := fun vs H Q _ => ∃ (m r g sa t : Addr) (ss : LI) (s0 s1 : Int) (p many f : Nat) (ks : LI) (ls : LL) (us : List V), vs = [.ref m, .ref sa, .ref t] /\ MachAt H m r g ss.length (ar ss many) (aF s0 s1 p many) /\ H sa = some (.lst (ss.map V.int)) /\ (1 <= many /\ many <= 1000) /\ ss.length <= 1000 /\ ss[f]? = some 1 /\ LeadI ss.length (ar ss many) ks.length 0 ks ls /\ H t = some (.tup us) /\ us.length = many /\
 (∀ (j : Nat) (q : Int) (l : LI), ks[j]? = some q -> ls[j]? = some l -> ∃ a, us[q.toNat]? = some (.ref a) /\ H a = some (.tup (l.map V.int))) /\ ∀ H', Same H H' -> Q (.bl true) H'
section
variable {P : Program} {w : World} {K : PySem.W.Frag} {mg : Str -> Option Value} {base : Heap} {f : Addr} {fd : FuncData} {dV : Value}
theorem sc__law_parted : FnScope ["_law_ring_here", "_law_steps", "_law_p", "_law_one", "_law_other", "_law_row", "_law_far"] ["_law_ring_here", "_law_steps", "_law_p", "_law_one", "_law_other"] (ak cv) := ⟨rfl, rfl, rfl, by decide +kernel, rfl, by decide +kernel, by decide +kernel⟩
theorem bk__law_parted_0 : BlkScope ["_law_ring_here", "_law_steps", "_law_p", "_law_one", "_law_other", "_law_row", "_law_far"] (ak cv) ["_law_figure", "_law_steps"] [none, some 1] { kind := ScopeKind.function, names := [(".0", NameKind.local), ("_law_figure", NameKind.local), ("_law_steps", NameKind.free)], isGenerator := false, isCoroutine := false, more := [] } := ⟨rfl, by decide +kernel, by decide +kernel, by decide +kernel, by decide +kernel, rfl, by decide +kernel⟩
theorem sc__law_led : FnScope ["_law_ring_here", "_law_steps", "_law_found", "_law_many", "_law_q", "_law_row"] ["_law_ring_here", "_law_steps", "_law_found"] (ak dF) := ⟨rfl, rfl, rfl, by decide +kernel, rfl, by decide +kernel, by decide +kernel⟩
theorem bk__law_led_0 : BlkScope ["_law_ring_here", "_law_steps", "_law_found", "_law_many", "_law_q", "_law_row"] (ak dF) ["_law_figure", "_law_steps"] [none, some 1] { kind := ScopeKind.function, names := [(".0", NameKind.local), ("_law_figure", NameKind.local), ("_law_steps", NameKind.free)], isGenerator := false, isCoroutine := false, more := [] } := ⟨rfl, by decide +kernel, by decide +kernel, by decide +kernel, by decide +kernel, rfl, by decide +kernel⟩
theorem xb (F : FunD K "_law_parted" "_law_parted" cv dV f fd) (nN : DefOk P w K mg base "parting" 3 ["machine", "one", "other"] [] (nK K)) (bg : DefOk P w K mg base "_law_is_row" 1 ["_law_found", "_law_wide"] [] mN) (aM : mg "len" = none) (rT : mg "sum" = none) : FnOk P w K mg base CX0 4 f fd ["_law_ring_here", "_law_steps", "_law_p", "_law_one", "_law_other"] (ny K) := by
 refine F.ok sc__law_parted (fun vs H Q E h => ?_) (fun cdv A outer s H vs Q E hr h => ?_)
 ·obtain ⟨m, r, g, sa, ss, s0, s1, a, b, p, many, fi, rfl, _⟩ := h
  rfl
 obtain ⟨m, r, g, sa, ss, s0, s1, a, b, p, many, fi, rfl, M, hsa, ⟨m0, m1, p0⟩, hd, lss, hf, hs, ha, hb, k⟩ := h
 have RP := uM m0 p0 hd hf hs ha hb
 refine ⟨_, (aj (az (i := 5) sc__law_parted.nd rfl (Or.inl rfl) (bM nN hr (aa (pv 0) (aa (pv 3) (aa (pv 4) af)))))
   (aj (dr (cu vf (aU bS (pv 3) (pv 2)) (aU bS (pv 4) (pv 2)) (bQ _)) (av (bh (fG B0 (pv 5) zL (bQ _)))) bP)
   (aj (dr (PW.pt (ke (gm (fc (bM bg hr (aa (pv 5) (aa (aC aA (by rfl) aM bB (aa (pv 1) af)) af))))) (ko (cu BK (aC aA (by rfl) aM bB (aa (pv 5) af)) (pv 2) (bQ _))))) (av (bh eA)) bP)
   (aj (az (i := 6) sc__law_parted.nd rfl (Or.inl rfl) (aC ((sm rfl)) (by rfl) rT zt (aa (cq rfl bk__law_parted_0 (iM (pv 5)) (fun _ _ _ _ => (ax (i := 0) bk__law_parted_0.nd rfl (Or.inl rfl))) (fun _ _ _ _ => (aO (js K) (pv 1) (pv 0) (fun _ _ => rfl)))) af)))
   (av (bh (fG sE (fG vf (aU bS (aU cY (pv 3) (pv 6)) (pv 2)) ay (bQ _)) (fG vf (aU bS (aU cY (pv 4) (pv 6)) (pv 2)) ay (bQ _)) (bQ _)))))))), ?_⟩
 refine ⟨_, rfl, _, rfl, _, rfl, m, r, g, many, ss.length, _, _, a, b, rfl, M, e8 m0, kd _ _ _ _, m1, ha, hb, fun H1 s1' pr => ?_, fun H1 ra row s1' hra pr => ?_⟩
 ·have e := RP.1 pr
  refine ⟨_, rfl, _, rfl, _, _, rfl, rfl, by omega, _, rfl, _, rfl, _, _, rfl, rfl, by omega, rfl, _, rfl, B2 (fun c => ?_) (fun c => absurd e c)⟩
  exact ⟨_, rfl, rfl, by rw [decide_eq_true (rfl : V.non = V.non)]; exact k _ s1'⟩
 ·obtain ⟨ne, inf, lt, iff⟩ := RP.2 row pr
  refine ⟨_, rfl, _, rfl, _, _, rfl, rfl, by omega, _, rfl, _, rfl, _, _, rfl, rfl, by omega, rfl, _, rfl, B2 (fun c => absurd c ne) (fun c => ?_)⟩
  refine ⟨_, rfl, _, rfl, sa, _, rfl, .inl (qL_ (s1' _ _ hsa)), ra, _, row, rfl, hra, by rw [lm_]; exact inf, _, rfl, jt ?_⟩
  refine ⟨_, rfl, ra, _, rfl, .inr (qT_ hra), _, rfl, _, _, rfl, rfl, _, rfl, qV (fun c => by rw [lm_] at c; omega) (fun _ => ?_)⟩
  refine ⟨_, rfl, ra, rfl, ⟨_, qT_ hra⟩, ?_⟩
  refine gX (K := K) (xs := row.map V.int) (fun D i ys H' => Same H1 H' /\ ys = ((row.take i).map fun f => ss.getD f.toNat 0).map V.int) (fun D hD => ⟨ah hD _, rfl⟩) (fun D i ys H' _ ⟨e, _⟩ => qT_ (e _ _ hra)) ?_ ?_
  ·rintro D i y ys H2 Q' hD hi hy ⟨s2, rfl⟩ k'
   obtain ⟨fg, rfl, hfg⟩ := aY hi
   have il := (gi_ hfg).1
   have fr := inf fg (mq_ hfg)
   have hdl := Int.le_of_dvd (by omega) hd
   refine ⟨_, rfl, _, rfl, sa, _, _, _, rfl, rfl, qL_ (s2 _ _ (s1' _ _ hsa)), cx fr.1 fr.2, k' _ _ hy (aw (by rw [lm_, lm_, List.length_take]; omega)) ⟨au s2 hD, ?_⟩⟩
   rw [List.take_add_one, hfg, List.map_append, List.map_append]
   rfl
  ·rintro D ys H2 hD hy ⟨s2, rfl⟩
   rw [lm_, List.take_length] at hy
   refine ⟨D, _, rfl, qL_ hy, ?_⟩
   refine ⟨_, rfl, _, rfl, _, _, rfl, rfl, _, rfl, _, _, rfl, rfl, by omega, rfl, _, rfl, _, rfl, _, _, rfl, rfl, _, rfl, _, _, rfl, rfl, by omega, rfl, rfl, ?_⟩
   have e : (!decide (V.bl (decide (V.int ((a + eu ss row) % (p : Int)) = V.int 0)) = V.bl (decide (V.int ((b + eu ss row) % (p : Int)) = V.int 0)))) = true := by
    by_cases x : (a + eu ss row) % (p : Int) = 0
    ·have y := iff.mp x
     have dx : decide (V.int ((a + eu ss row) % (p : Int)) = V.int 0) = true := decide_eq_true (by rw [x])
     have dy : decide (V.int ((b + eu ss row) % (p : Int)) = V.int 0) = false := decide_eq_false fun z => y (V.int.inj z)
     rw [dx, dy]
     rfl
    ·have y : (b + eu ss row) % (p : Int) = 0 := Classical.byContradiction fun z => x (iff.mpr z)
     have dx : decide (V.int ((a + eu ss row) % (p : Int)) = V.int 0) = false := decide_eq_false fun z => x (V.int.inj z)
     have dy : decide (V.int ((b + eu ss row) % (p : Int)) = V.int 0) = true := decide_eq_true (by rw [y])
     rw [dx, dy]
     rfl
   have q := k _ (s1'.trans s2)
   rw [<- e] at q
   exact q
theorem Bi (F : FunD K "_law_led" "_law_led" dF dV f fd) (bg : DefOk P w K mg base "_law_is_row" 1 ["_law_found", "_law_wide"] [] mN) (aM : mg "len" = none) (rT : mg "sum" = none) (bx : mg "range" = none) (bj : mg "isinstance" = none) (aH : mg "tuple" = none) : FnOk P w K mg base CX0 2 f fd ["_law_ring_here", "_law_steps", "_law_found"] (xu K) := by
 refine F.ok sc__law_led (fun vs H Q E h => ?_) (fun cdv A outer s H vs Q E hr h => ?_)
 ·obtain ⟨m, r, g, sa, t, ss, s0, s1, p, many, fi, ks, ls, us, rfl, _⟩ := h
  rfl
 obtain ⟨m, r, g, sa, t, ss, s0, s1, p, many, fi, ks, ls, us, rfl, M, hsa, ⟨m0, m1⟩, lss, hf, L, ht, lu, uS, k⟩ := h
 obtain ⟨ras, hr', hA⟩ := M.rows
 have lras : ras.length = many := by rw [hA.length, dW]
 refine ⟨_, (aj (az (i := 3) sc__law_led.nd rfl (Or.inl rfl) (aC aA (by rfl) aM bB (aa (aO bz (pv 0) ay (fun _ _ => rfl)) af)))
   (aj (dr (PW.pt (ke (gm (fc (aC g4 (by rfl) bj cM (aa (pv 2) (aa (jV (v := .ty "tuple") rfl aH bE rfl) af))))) (ko (cu sE (aC aA (by rfl) aM bB (aa (pv 2) af)) (pv 3) (bQ _))))) (av (bh eA)) bP)
   (aj (cf PassesOwn.never rfl (dG rfl bx (aa (pv 3) af)) (ax (i := 4) sc__law_led.nd rfl (Or.inl rfl)) (aj (az (i := 5) sc__law_led.nd rfl (Or.inl rfl) (aO bz (pv 2) (pv 4) (fun _ _ => rfl)))
   (aj (dr (PW.pt (ke (gm (fc (bM bg hr (aa (pv 5) (aa (aC aA (by rfl) aM bB (aa (pv 1) af)) af))))) (ko (cu uR (aC aA (by rfl) aM bB (aa (pv 5) af)) (pv 4) (bQ _))))) (av (bh eA)) bP)
   (av (dr (cu sE (aU bS (aC ((sm rfl)) (by rfl) rT zt (aa (cq rfl bk__law_led_0 (iM (pv 5)) (fun _ _ _ _ => (ax (i := 0) bk__law_led_0.nd rfl (Or.inl rfl))) (fun _ _ _ _ => (aO (js K) (pv 1) (pv 0) (fun _ _ => rfl)))) af)) (pv 3)) (pv 4) (bQ _)) (av (bh eA)) bP)))))
   (av (bh eA))))), ?_⟩
 refine ⟨_, rfl, m, _, _, _, rfl, rfl, qT_ M.tup, rfl, r, _, rfl, .inr (qT_ hr'), ?_⟩
 rw [lm_, lras]
 refine ⟨_, rfl, _, _, _, _, rfl, TyOf.tup ht, du K, _, rfl, jt ?_⟩
 refine ⟨_, rfl, t, _, rfl, .inr (qT_ ht), _, rfl, rfl, _, rfl, oy (fun z => absurd (by rw [lu]) z) (fun _ => ?_)⟩
 refine ⟨_, rfl, (many : Int), rfl, by omega, by omega, ?_⟩
 refine rU (fun i σ' H' => ∃ v4 v5, σ' = [some (.ref m), some (.ref sa), some (.ref t), some (.int many), v4, v5] /\ Same H H') ⟨none, none, rfl, Same.refl _⟩ ?_ ?_
 ·rintro i σ' H2 hi ⟨v4, v5, rfl, s2⟩
  rw [Int.toNat_natCast] at hi
  rw [Int.zero_add]
  obtain ⟨j, l, h1, h2, h3, h4, h5⟩ := sM m0 hf L i hi
  obtain ⟨a, ua, haa⟩ := uS j i l h1 h2
  rw [Int.toNat_natCast] at ua
  have haa2 := s2 _ _ haa
  refine ⟨_, rfl, _, rfl, t, _, _, _, rfl, rfl, qT_ (s2 _ _ ht), jW ua, ?_⟩
  refine ⟨_, rfl, _, rfl, sa, _, rfl, .inl (qL_ (s2 _ _ hsa)), a, _, l, rfl, haa2, by rw [lm_]; exact h4, _, rfl, jt ?_⟩
  refine ⟨_, rfl, a, _, rfl, .inr (qT_ haa2), _, rfl, _, _, rfl, rfl, _, rfl, qV (fun c => by rw [lm_] at c; omega) (fun _ => ?_)⟩
  refine ⟨_, rfl, a, rfl, ⟨_, qT_ haa2⟩, ?_⟩
  refine gX (K := K) (xs := l.map V.int) (fun D i ys H' => Same H2 H' /\ ys = ((l.take i).map fun f => ss.getD f.toNat 0).map V.int) (fun D hD => ⟨ah hD _, rfl⟩) (fun D i ys H' _ ⟨e, _⟩ => qT_ (e _ _ haa2)) ?_ ?_
  ·rintro D i2 y ys H3 Q' hD hi2 hy ⟨s3, rfl⟩ k'
   obtain ⟨fg, rfl, hfg⟩ := aY hi2
   have il := (gi_ hfg).1
   have fr := h4 fg (mq_ hfg)
   refine ⟨_, rfl, _, rfl, sa, _, _, _, rfl, rfl, qL_ (s3 _ _ (s2 _ _ hsa)), cx fr.1 fr.2, k' _ _ hy (aw (by rw [lm_, lm_, List.length_take]; omega)) ⟨au s3 hD, ?_⟩⟩
   rw [List.take_add_one, hfg, List.map_append, List.map_append]
   rfl
  ·rintro D ys H3 hD hy ⟨s3, rfl⟩
   rw [lm_, List.take_length] at hy
   refine ⟨D, _, rfl, qL_ hy, _, rfl, _, _, rfl, rfl, by omega, _, rfl, rfl, _, rfl, oy (fun z => absurd (show V.int (eu ss l % (many : Int)) = V.int (i : Int) from by rw [h5]) z) (fun _ => ⟨_, _, rfl, s2.trans s3⟩)⟩
 ·rintro σ' H2 ⟨v4, v5, rfl, s2⟩
  exact k _ s2
end
def wK (K : PySem.W.Frag) : Sp := fun vs H Q _ => ∃ (a : Addr) (k : Int) (ns : LI), vs = [.ref a, .int k] /\ SqL K H a (ns.map V.int) /\ ns.length <= 63 /\ 0 <= k /\ k < 2147483648 /\
 ∀ v : Int, 0 <= v -> v < 2147483629 -> Q (.int v) H
section
variable {P : Program} {w : World} {K : PySem.W.Frag} {mg : Str -> Option Value} {base : Heap} {f : Addr} {fd : FuncData} {dV : Value}
theorem sc__law_draw : FnScope ["_law_script", "_law_k", "_law_cell"] ["_law_script", "_law_k"] (ak dP) := ⟨rfl, rfl, rfl, by decide +kernel, rfl, by decide +kernel, by decide +kernel⟩
theorem Bk (F : FunD K "_law_draw" "_law_draw" dP dV f fd) (aM : mg "len" = none) : FnOk P w K mg base CX0 1 f fd ["_law_script", "_law_k"] (wK K) := by
 refine F.ok sc__law_draw (fun vs H Q E h => ?_) (fun cdv A outer s H vs Q E hr h => ?_)
 ·obtain ⟨a, k, ns, rfl, _⟩ := h
  rfl
 obtain ⟨a, k, ns, rfl, hS, h63, h0, h1, q⟩ := h
 have hl : (ns.map V.int).length = ns.length := List.length_map _
 refine ⟨_, (aj (az (i := 2) sc__law_draw.nd rfl (Or.inl rfl) (aU cY (aU kX ay (pv 1)) ay))
   (aj (dr (cu uR (aC aA (by rfl) aM bB (aa (pv 0) af)) ay (bQ _)) (av (az (i := 2) sc__law_draw.nd rfl (Or.inl rfl) (aU cY (aU cY (aU bS (aO b9 (pv 0) (aU bS (pv 1) (aC aA (by rfl) aM bB (aa (pv 0) af))) (fun _ _ => rfl)) ay) (aU kX (aU A9 (pv 1) (aC aA (by rfl) aM bB (aa (pv 0) af))) ay)) ay))) bP)
   (aj (az (i := 2) sc__law_draw.nd rfl (Or.inl rfl) (aU bS (aU cY (aU cY (aU kX (pv 2) ay) (aU kX (aU kX (pv 1) (pv 1)) ay)) ay) ay))
   (av (bh (aU bS (aU kX (pv 2) (pv 2)) ay)))))), ?_⟩
 have fin : ∀ c : Int, (-(2 ^ 64) < k /\ k < 2 ^ 64) -> Q (.int (((c * 48271 + k * k * 16807 + 3) % 2147483647) * ((c * 48271 + k * k * 16807 + 3) % 2147483647) % 2147483629)) H := fun c _ => q _ (Int.emod_nonneg _ (by decide)) (Int.emod_lt_of_pos _ (by decide))
 have hk : -(2 ^ 64) < k /\ k < 2 ^ 64 := ⟨by omega, by omega⟩
 have hc : ∀ c : Int, -(2 ^ 64) < (c * 48271 + k * k * 16807 + 3) % 2147483647 /\ (c * 48271 + k * k * 16807 + 3) % 2147483647 < 2 ^ 64 := fun c => by
  have a1 := Int.emod_nonneg (c * 48271 + k * k * 16807 + 3) (show (2147483647 : Int) ≠ 0 by decide)
  have a2 := Int.emod_lt_of_pos (c * 48271 + k * k * 16807 + 3) (show (0 : Int) < 2147483647 by decide)
  exact ⟨by omega, by omega⟩
 refine ⟨_, rfl, _, _, rfl, rfl, .inl ⟨by decide, by decide⟩, _, _, rfl, rfl, ?_⟩
 refine ⟨_, rfl, a, _, rfl, .inl hS, _, _, rfl, rfl, _, rfl, ?_⟩
 refine Cj (fun c => ?_) (fun c => ?_)
 ·have c' : (0 : Int) < (((ns.map V.int).length : Nat) : Int) := of_decide_eq_true c
  rw [hl] at c'
  have c2 : (0 : Int) < (((ns.map V.int).length : Nat) : Int) := by rw [hl]; exact c'
  have c3 : (((ns.map V.int).length : Nat) : Int) < 1073741824 := by rw [hl]; omega
  have m0 := Int.emod_nonneg k (show (((ns.map V.int).length : Nat) : Int) ≠ 0 by omega)
  have m1 := Int.emod_lt_of_pos k c2
  refine ⟨_, rfl, _, rfl, _, rfl, a, _, rfl, .inl hS, _, _, rfl, rfl, c2, a, _, _, _, rfl, rfl, hS, cx m0 (by rw [hl] at m1; rw [hl]; exact m1), _, _, rfl, rfl, (by show (0 : Int) < 2147483629; decide),
   _, rfl, _, rfl, a, _, rfl, .inl hS, _, _, rfl, rfl, ⟨c2, c3⟩, _, _, rfl, rfl, .inr ⟨by decide, by decide⟩, _, _, rfl, rfl, _, _, rfl, rfl, ?_⟩
  refine ⟨_, rfl, _, _, rfl, rfl, .inr ⟨by decide, by decide⟩, _, rfl, _, rfl, _, _, rfl, rfl, .inl hk, _, _, rfl, rfl, .inr ⟨by decide, by decide⟩, _, _, rfl, rfl, _, _, rfl, rfl, _, _, rfl, rfl, (by show (0 : Int) < 2147483647; decide), ?_⟩
  exact ⟨_, rfl, _, rfl, _, _, rfl, rfl, .inl (hc _), _, _, rfl, rfl, (by show (0 : Int) < 2147483629; decide), fin _ hk⟩
 ·refine ⟨_, rfl, _, _, rfl, rfl, .inr ⟨by decide, by decide⟩, _, rfl, _, rfl, _, _, rfl, rfl, .inl hk, _, _, rfl, rfl, .inr ⟨by decide, by decide⟩, _, _, rfl, rfl, _, _, rfl, rfl, _, _, rfl, rfl, (by show (0 : Int) < 2147483647; decide), ?_⟩
  exact ⟨_, rfl, _, rfl, _, _, rfl, rfl, .inl (hc _), _, _, rfl, rfl, (by show (0 : Int) < 2147483629; decide), fin _ hk⟩
end
def xO (K : PySem.W.Frag) : Sp := fun vs H Q _ => ∃ (a : Addr) (ns : LI), vs = [.ref a] /\ SqL K H a (ns.map V.int) /\ ns.length <= 63 /\ ∀ H', Q (.bl true) H'
theorem xk {x : Int} (h : 1 <= x) : ∃ n : Nat, x = (n : Int) /\ 1 <= n := ⟨x.toNat, by omega, by omega⟩
section
variable {P : Program} {w : World} {K : PySem.W.Frag} {mg : Str -> Option Value} {base : Heap} {f : Addr} {fd : FuncData} {dV : Value}
theorem sc_law : FnScope ["_law_script", "_law_p", "_law_wide", "_law_many", "_law_steps", "_law_sign", "_law_signs", "_law_ring_here", "_law_due", "_law_one", "_law_other"] ["_law_script"] (ak ki) := ⟨rfl, rfl, rfl, by decide +kernel, rfl, by decide +kernel, by decide +kernel⟩
theorem bk_law_0 : BlkScope ["_law_script", "_law_p", "_law_wide", "_law_many", "_law_steps", "_law_sign", "_law_signs", "_law_ring_here", "_law_due", "_law_one", "_law_other"] (ak ki) ["_law_f", "_law_many", "_law_script"] [none, some 3, some 0] { kind := ScopeKind.function, names := [(".0", NameKind.local), ("_law_f", NameKind.local), ("_law_draw", NameKind.globalImplicit), ("_law_many", NameKind.free), ("_law_script", NameKind.free)], isGenerator := false, isCoroutine := false, more := [] } := ⟨rfl, by decide +kernel, by decide +kernel, by decide +kernel, by decide +kernel, rfl, by decide +kernel⟩
theorem CA (F : FunD K "law" "law" ki dV f fd) (bu : DefOk P w K mg base "_law_draw" 1 ["_law_script", "_law_k"] [] (wK K)) (jK : DefOk P w K mg base "_law_ring" 1 ["_law_steps", "_law_many", "_law_p", "_law_signs"] [] (wL K)) (jd : DefOk P w K mg base "_law_least" 1 ["_law_steps", "_law_p", "_law_signs"] [] (jx K))
  (i4 : DefOk P w K mg base "_law_alike" 2 ["_law_found", "_law_due"] [] pG) (oZ : DefOk P w K mg base "least" 5 ["machine"] [] (tN K)) (kJ : DefOk P w K mg base "_law_led" 2 ["_law_ring_here", "_law_steps", "_law_found"] [] (xu K)) (uJ : DefOk P w K mg base "leads" 3 ["machine"] [] (uk K))
  (gN : DefOk P w K mg base "_law_parted" 4 ["_law_ring_here", "_law_steps", "_law_p", "_law_one", "_law_other"] [] (ny K)) (bx : mg "range" = none) : FnOk P w K mg base CX0 6 f fd ["_law_script"] (xO K) := by
 refine F.ok sc_law (fun vs H Q E h => ?_) (fun cdv A outer s H vs Q E hr h => ?_)
 ·obtain ⟨a, ns, rfl, _⟩ := h
  rfl
 obtain ⟨a, ns, rfl, hS, h63, k⟩ := h
 have hu3 := zd hr
 refine oe (aS (PSW.mk (az (i := 1) sc_law.nd rfl (Or.inl rfl) (aU cY ay (aU bS (bM bu hr (aa (pv 0) (aa ay af))) ay))))
   (aS (PSW.mk (az (i := 2) sc_law.nd rfl (Or.inl rfl) (aU cY ay (aU bS (bM bu hr (aa (pv 0) (aa ay af))) ay))))
   (aS (PSW.mk (dr (cu vf (aU bS (bM bu hr (aa (pv 0) (aa ay af))) ay) ay (bQ _)) (aj (az (i := 1) sc_law.nd rfl (Or.inl rfl) (aU cY ay (aU bS (bM bu hr (aa (pv 0) (aa ay af))) ay)))
   (av (az (i := 2) sc_law.nd rfl (Or.inl rfl) ay))) bP))
   (aS (PSW.mk (az (i := 3) sc_law.nd rfl (Or.inr rfl) (aU kX (pv 1) (aU cY ay (aU bS (bM bu hr (aa (pv 0) (aa ay af))) ay)))))
   (aS (PSW.mk (jb (i := 4) rfl sc_law.nd rfl (Or.inl rfl) bk_law_0 (dG rfl bx (aa (pv 2) af)) (fun _ _ _ _ => (ax (i := 0) bk_law_0.nd rfl (Or.inl rfl))) (fun _ _ _ _ => (aU bS (bM bu hr (aa (pv 2) (aa (aU cY ay (pv 0)) af))) (pv 1)))))
   (aS (PSW.mk (uF ay (uH (pv 4) (aU bS (bM bu hr (aa (pv 0) (aa ay af))) (pv 2)) set_list)))
   (aS (PSW.mk (az (i := 5) sc_law.nd rfl (Or.inl rfl) (aU bS (bM bu hr (aa (pv 0) (aa ay af))) ay)))
   (aS (CM (i := 6) sc_law.nd rfl (Or.inl rfl) (CQ (x9 (PEW.mk (pv 5)) (x9 (PEW.mk (aU bS (aU cY (aU cY (pv 5) ay) (aU bS (bM bu hr (aa (pv 0) (aa ay af))) ay)) ay)) BV))))
   (aS (PSW.mk (az (i := 7) sc_law.nd rfl (Or.inl rfl) (bM jK hr (aa (pv 4) (aa (pv 3) (aa (pv 1) (aa (pv 6) af)))))))
   (aS (PSW.mk (az (i := 8) sc_law.nd rfl (Or.inl rfl) (bM jd hr (aa (pv 4) (aa (pv 1) (aa (pv 6) af))))))
   (aS (PSW.mk (dr (PW.pt (ke (gm (fc (bM i4 hr (aa (bM oZ hr (aa (pv 7) af)) (aa (pv 8) af))))) (ko (gm (fc (bM kJ hr (aa (pv 7) (aa (pv 4) (aa (bM uJ hr (aa (pv 7) af)) af))))))))) (av (bh eA)) bP))
   (aS (PSW.mk (az (i := 9) sc_law.nd rfl (Or.inl rfl) (aU bS (bM bu hr (aa (pv 0) (aa ay af))) (pv 3))))
   (aS (PSW.mk (az (i := 10) sc_law.nd rfl (Or.inl rfl) (aU bS (bM bu hr (aa (pv 0) (aa ay af))) (pv 3))))
   (iZ (PSW.mk (bh (xp (bM gN hr (aa (pv 7) (aa (pv 4) (aa (pv 1) (aa (pv 9) (aa (pv 10) af)))))) (zI (fG ((As 2 hu3)) (bM oZ hr (aa (pv 8) af)) (pv 8) (bQ _)))))))))))))))))))) ?_
 refine ⟨_, rfl, a, 0, ns, rfl, hS, h63, by omega, by omega, fun v v0 v1 => ⟨_, _, rfl, rfl, (by show (0 : Int) < 30; decide), _, _, rfl, rfl, ?_⟩⟩
 have r1 := bX (a := v) (b := 30) (by decide)
 refine ⟨_, rfl, a, 1, ns, rfl, hS, h63, by omega, by omega, fun v' v0' v1' => ⟨_, _, rfl, rfl, (by show (0 : Int) < 3; decide), _, _, rfl, rfl, ?_⟩⟩
 have r2 := bX (a := v') (b := 3) (by decide)
 try dsimp only [bR, dZ, List.set]
 refine dN (t := zu _ _ _) (fun σ' H' => ∃ p wide : Int, σ' = [some (.ref a), some (.int p), some (.int wide), none, none, none, none, none, none, none, none] /\ H' = H /\ (1 <= p /\ p <= 30) /\ (1 <= wide /\ wide <= 40)) ?_ (fun D' nxt => ?_)
 rotate_left
 ·refine ⟨_, rfl, a, 2, ns, rfl, hS, h63, by omega, by omega, fun u u0 u1 => ⟨_, _, rfl, rfl, (by show (0 : Int) < 8; decide), rfl, _, rfl, B2 (fun _ => ?_) (fun _ => ?_)⟩⟩
  ·refine ⟨_, rfl, a, 0, ns, rfl, hS, h63, by omega, by omega, fun u' u0' u1' => ⟨_, _, rfl, rfl, (by show (0 : Int) < 5; decide), _, _, rfl, rfl, ?_⟩⟩
   have r3 := bX (a := u') (b := 5) (by decide)
   exact nxt _ _ ⟨_, _, rfl, rfl, ⟨by omega, by omega⟩, ⟨by omega, by omega⟩⟩
  ·exact nxt _ _ ⟨_, _, rfl, rfl, ⟨by omega, by omega⟩, ⟨by omega, by omega⟩⟩
 rintro σ' H1 ⟨p', wide', rfl, rfl, ⟨p0', p1'⟩, ⟨w0', w1'⟩⟩
 obtain ⟨p, rfl, p0⟩ := xk p0'
 obtain ⟨wide, rfl, w0⟩ := xk w0'
 refine ⟨_, rfl, _, rfl, a, 3, ns, rfl, hS, h63, by omega, by omega, fun v3 v30 v31 => ⟨_, _, rfl, rfl, (by show (0 : Int) < 2; decide), _, _, rfl, rfl, _, _, rfl, rfl, .inl ⟨by omega, by omega⟩, ?_⟩⟩
 have r3 := bX (a := v3) (b := 2) (by decide)
 obtain ⟨t, et, t0⟩ := xk (x := 1 + v3 % 2) (by omega)
 rw [et]
 have t1 : t <= 2 := by omega
 obtain ⟨many, emany⟩ : ∃ many : Nat, many = p * t := ⟨_, rfl⟩
 have em : ((p : Int) * (t : Int)) = (many : Int) := by rw [emany]; push_cast; rfl
 have m0 : 1 <= many := by rw [emany]; exact Nat.mul_pos p0 t0
 have m1 : many <= 60 := by
  rw [emany]
  exact Nat.le_trans (Nat.mul_le_mul (show p <= 30 by omega) t1) (by decide)
 have hd := Ax emany
 try dsimp only [bR, dZ, List.set]
 rw [em]
 refine dN (t := oP _ _) (fun σ' H' => ∃ (sa : Addr) (zs : LI), σ' = [some (.ref a), some (.int p), some (.int wide), some (.int many), some (.ref sa), none, none, none, none, none, none] /\ Same H1 H' /\ H1 sa = none /\ H' sa = some (.lst (zs.map V.int)) /\ zs.length = wide) ?_ (fun D' nxt => ?_)
 rotate_left
 ·refine ⟨_, rfl, (wide : Int), rfl, by omega, by omega, ?_⟩
  refine eU (fun D i ys H' => Same H1 H' /\ ∃ zs : LI, ys = zs.map V.int /\ zs.length = i) (fun D hD => ⟨ah hD _, [], rfl, rfl⟩) ?_ ?_
  ·rintro D i ys H2 Q' hD hi hy ⟨s2, zs, rfl, lz⟩ k'
   rw [Int.toNat_natCast] at hi
   refine ⟨_, rfl, _, rfl, _, _, rfl, rfl, a, _, ns, rfl, s2.seq hS, h63, by omega, by omega, fun u u0 u1 => ⟨_, rfl, _, _, rfl, rfl, by omega, k' _ _ hy (aw (by rw [lm_]; omega)) ⟨au s2 hD, zs ++ [u % (many : Int)], by rw [List.map_append]; rfl, by rw [List.length_append, List.length_singleton, lz]⟩⟩⟩
  ·rintro D ys H2 hD hy ⟨s2, zs, rfl, lz⟩
   rw [Int.toNat_natCast] at lz
   exact nxt _ _ ⟨D, zs, rfl, s2, hD, hy, lz⟩
 rintro σ' H2 ⟨sa, zs, rfl, s2, fsa, hsa2, lz⟩
 refine ⟨_, rfl, _, rfl, a, 4, ns, rfl, s2.seq hS, h63, by omega, by omega, fun v4 v40 v41 => ⟨_, rfl, _, _, rfl, rfl, by omega, ?_⟩⟩
 have r4 := bX (a := v4) (b := (wide : Int)) (by omega)
 obtain ⟨fi, efi⟩ : ∃ fi : Nat, v4 % (wide : Int) = (fi : Int) := ⟨(v4 % (wide : Int)).toNat, by omega⟩
 refine ⟨sa, _, _, fi, rfl, rfl, hsa2, by rw [lm_, lz, efi]; exact xF (by omega), ?_⟩
 obtain ⟨ss, ess⟩ : ∃ ss, zs.set fi 1 = ss := ⟨_, rfl⟩
 have lss : ss.length = wide := by rw [<- ess, List.length_set, lz]
 have hf : ss[fi]? = some 1 := by rw [<- ess, List.getElem?_set_self (by omega)]
 have em2 : (zs.map V.int).set fi (V.int 1) = ss.map V.int := by rw [<- ess, List.map_set]
 rw [em2]
 obtain ⟨H3, eH3⟩ : ∃ H3, upd H2 sa (HO.lst (ss.map V.int)) = H3 := ⟨_, rfl⟩
 have hsa3 : H3 sa = some (.lst (ss.map V.int)) := by rw [<- eH3, ab]
 rw [eH3]
 have s3 : Same H1 H3 := by rw [<- eH3]; exact au s2 fsa
 have hS3 : SqL K H3 a (ns.map V.int) := s3.seq hS
 refine ⟨_, rfl, a, 5, ns, rfl, hS3, h63, by omega, by omega, fun v5 v50 v51 => ⟨_, _, rfl, rfl, (by show (0 : Int) < 1000000; decide), ?_⟩⟩
 have r5 := bX (a := v5) (b := 1000000) (by decide)
 refine ⟨_, rfl, _, rfl, _, _, rfl, rfl, _, rfl, a, 6, ns, rfl, hS3, h63, by omega, by omega, fun v6 v60 v61 => ⟨_, _, rfl, rfl, (by show (0 : Int) < 1000; decide), _, _, rfl, rfl, _, _, rfl, rfl, (by show (0 : Int) < 1000000; decide), (by show 2 <= sizeLine; decide), fun ga hga => ?_⟩⟩
 have r6 := bX (a := v6) (b := 1000) (by decide)
 obtain ⟨s0, es0⟩ : ∃ s0, v5 % 1000000 = s0 := ⟨_, rfl⟩
 obtain ⟨s1, es1⟩ : ∃ s1, (v5 % 1000000 + 1 + v6 % 1000) % 1000000 = s1 := ⟨_, rfl⟩
 have r7 := bX (a := v5 % 1000000 + 1 + v6 % 1000) (b := 1000000) (by decide)
 have hs : s0 ≠ s1 := by omega
 try dsimp only [bR, dZ, List.set]
 obtain ⟨H4, eH4⟩ : ∃ H4, upd H3 ga (HO.lst [V.int (v5 % 1000000), V.int ((v5 % 1000000 + 1 + v6 % 1000) % 1000000)]) = H4 := ⟨_, rfl⟩
 have s4 : Same H3 H4 := by rw [<- eH4]; exact ah hga _
 have hga4 : H4 ga = some (.lst [V.int s0, V.int s1]) := by rw [<- eH4, ab, es1, es0]
 rw [eH4]
 refine ⟨_, rfl, _, rfl, _, rfl, _, rfl, sa, ga, ss, s0, s1, p, many, rfl, s4 _ _ hsa3, hga4, ⟨p0, by omega, m0, by omega⟩, by omega, fun m r g H5 s5 M5 => ?_⟩
 refine ⟨_, rfl, _, rfl, _, rfl, sa, ga, ss, s0, s1, p, rfl, s5 _ _ (s4 _ _ hsa3), s5 _ _ hga4, ⟨p0, by omega⟩, by omega, fun md rd gd qs H6 s6 bf M6 => ?_⟩
 have few := aX p bf.nd bf.inr
 have Rm := e8 (ss := ss) m0
 have L0 := wx (s0 := s0) (s1 := s1) m0 p0 hd hf hs bf
 have el : (aD (ar ss p) (rho qs) qs).length = qs.length := by unfold aD; rw [lm_]
 have M5' := M5.same fun b xs e => s6 _ _ e
 have sg : ∀ z ∈ aE (aF s0 s1 p p) qs, 0 <= z /\ z < 1000000 := fun z hz => by
  unfold aE at hz
  obtain ⟨q, hq, rfl⟩ := List.mem_map.mp hz
  have qi := bf.inr q hq
  have e := vO (s0 := s0) (s1 := s1) (p := p) (many := p) qi.1 qi.2
  unfold sgn at e
  rw [e]
  split <;> omega
 refine ⟨_, rfl, m, r, g, many, ss.length, _, _, rfl, M5', Rm, kd _ _ _ _, ⟨m0, by omega⟩, by omega, fun m1' r1' g1' rows' signs' H7 s7 M7 L7 => ?_⟩
 obtain ⟨e1, e2⟩ := LeastOf.one L7 L0 (fun _ _ => rfl)
 rw [e1, e2] at M7
 refine ⟨_, rfl, m1', r1', g1', md, rd, gd, ss.length, _, _, rfl, M7, M6.same fun b xs e => s7 _ _ e, L0.ok, by omega, sg, fun H8 s8 => ⟨_, rfl, jt ?_⟩⟩
 have s58 : Same H5 H8 := (s6.trans s7).trans s8
 have M8 := M5.same fun b xs e => s58 _ _ e
 have hsa8 := s58 _ _ (s5 _ _ (s4 _ _ hsa3))
 refine ⟨_, rfl, _, rfl, _, rfl, m, r, g, many, ss.length, _, _, rfl, M8, Rm, ⟨m0, by omega⟩, fun tt H9 ks ls us s9 B L _ htt lu uN uS => ?_⟩
 refine ⟨m, r, g, sa, tt, ss, s0, s1, p, many, fi, ks, ls, us, rfl, M8.same fun b xs e => s9 _ _ e, s9 _ _ hsa8, ⟨m0, by omega⟩, by omega, hf, L, htt, lu, uS, fun Ha sa' => ⟨_, rfl, jt ?_⟩⟩
 have s5a : Same H5 Ha := (s58.trans s9).trans sa'
 have s1a : Same H1 Ha := ((s3.trans s4).trans s5).trans s5a
 refine ⟨_, rfl, a, 7, ns, rfl, s1a.seq hS, h63, by omega, by omega, fun v7 v70 v71 => ⟨_, rfl, _, _, rfl, rfl, by omega, ?_⟩⟩
 have r8 := bX (a := v7) (b := (many : Int)) (by omega)
 refine ⟨_, rfl, a, 8, ns, rfl, s1a.seq hS, h63, by omega, by omega, fun v8 v80 v81 => ⟨_, rfl, _, _, rfl, rfl, by omega, ?_⟩⟩
 have r9 := bX (a := v8) (b := (many : Int)) (by omega)
 refine ⟨_, rfl, _, rfl, _, rfl, _, rfl, _, rfl, m, r, g, sa, ss, s0, s1, _, _, p, many, fi, rfl, M5.same fun b xs e => s5a _ _ e, s5a _ _ (s5 _ _ (s4 _ _ hsa3)), ⟨m0, by omega, p0⟩, hd, by omega, hf, hs, r8, r9, fun Hb sb => ⟨_, rfl, uK ?_⟩⟩
 have s6b : Same H6 Hb := ((((s7.trans s8).trans s9).trans sa')).trans sb
 have Mb := M6.same fun b xs e => s6b _ _ e
 have pq : 0 < qs.length := by rw [<- el]; exact L0.pos
 refine ⟨_, rfl, md, rd, gd, qs.length, ss.length, _, _, rfl, Mb, by rw [<- el]; exact L0.ok, by rw [<- el]; exact L0.sgn, ⟨by omega, by omega⟩, by omega, fun m2 r2 g2 rows2 signs2 Hc sc Mc Lc => ?_⟩
 obtain ⟨e3, e4⟩ := LeastOf.one Lc (LeastOf.self L0.ok L0.pos L0.sgn L0.ord L0.apart) (fun _ _ => rfl)
 rw [e3, e4] at Mc
 have Md := Mb.same fun b xs e => sc _ _ e
 exact ⟨_, rfl, m2, md, _, _, rfl, rfl, qT_ Mc.tup, qT_ Md.tup, MachAt.eqD Mc Md, k _⟩
end
@[elab_as_elim] theorem uw {motive : List Value -> Prop} {us : List Value} (hl : us.length = 1) (h : ∀ a0, motive [a0]) : motive us := match us, hl with | [a0], _ => h _
@[elab_as_elim] theorem uC {motive : List Value -> Prop} {us : List Value} (hl : us.length = 2) (h : ∀ a0 a1, motive [a0, a1]) : motive us := match us, hl with | [a0, a1], _ => h _ _
@[elab_as_elim] theorem w5 {motive : List Value -> Prop} {us : List Value} (hl : us.length = 3) (h : ∀ a0 a1 a2, motive [a0, a1, a2]) : motive us := match us, hl with | [a0, a1, a2], _ => h _ _ _
@[elab_as_elim] theorem Dw {motive : List Value -> Prop} {us : List Value} (hl : us.length = 4) (h : ∀ a0 a1 a2 a3, motive [a0, a1, a2, a3]) : motive us := match us, hl with | [a0, a1, a2, a3], _ => h _ _ _ _
@[elab_as_elim] theorem Ds {motive : List Value -> Prop} {us : List Value} (hl : us.length = 5) (h : ∀ a0 a1 a2 a3 a4, motive [a0, a1, a2, a3, a4]) : motive us := match us, hl with | [a0, a1, a2, a3, a4], _ => h _ _ _ _ _
@[elab_as_elim] theorem DH {motive : List Value -> Prop} {us : List Value} (hl : us.length = 6) (h : ∀ a0 a1 a2 a3 a4 a5, motive [a0, a1, a2, a3, a4, a5]) : motive us := match us, hl with | [a0, a1, a2, a3, a4, a5], _ => h _ _ _ _ _ _
@[elab_as_elim] theorem DI {motive : List Value -> Prop} {us : List Value} (hl : us.length = 7) (h : ∀ a0 a1 a2 a3 a4 a5 a6, motive [a0, a1, a2, a3, a4, a5, a6]) : motive us := match us, hl with | [a0, a1, a2, a3, a4, a5, a6], _ => h _ _ _ _ _ _ _
theorem all_mk {l : PySem.W.OpenLaw} {w : World} {K : PySem.W.Frag} {h : Heap} {mg : Str -> Option Value} {fa : Addr} (X : K.In h) (G : h.Ns mainGlobals mg) (hfa : mg "law" = some (.ref fa))
  {ff je tU cz cc p3 nZ ik iC nu ck c8 cU bU cB dh d3 uA ju gL jn iU iV gH kB zX : Addr} {og nM qK rJ Ag zQ mP mR jf iq yX yp wV wR rP rh rD qL xj wH lD lF m5 mE kH kW gY hU j8 j4 mS mx kP kE zp AR uB ud pP pJ tT ur qF rG qN qI px qA vC vN Cc AQ : Option Addr} {oa rH zJ l7 jc yy w4 rq qS xr lJ lX kU gR j7 l5 ku zW tf pO uc rK qX pV uY Ci : Array (Option Value)} {m8 oh nr nV hX nA qY qH rN rM kg rE zk AG zi zF vm AN mr lU mW mB gA mi iI iJ ij iX dS i5 yz yn yr yN sF yM wA vV wu xg pw xo rf rS qO rC kn qJ qD rL qR rF kf qP vS wo xn wy qz xi lG kQ kO kR f7 kD mj lQ lP mw gx mL lh k9 ky k6 gn kC gW gS h8 hV dH hJ j5 jZ j9 ka fz kb l8 mV mQ mT gw mH k7 kK kF lC f9 kL AD Aj zv zU vo y9 uL uE uu t5 mh ug qj qv qw qu jv pf tL um ui t8 l4 ux qE rp rn qZ km qW rj q8 q5 qG kh q9 pW pX qf qq jy qe vd vc uP uT ou vG Ck Av Ai zG wg zg : Value}
  {T_reached_rooms tn_reached_rooms : Nat} {tc_reached_rooms : Value} {td_reached_rooms : Option Addr} {tsl_reached_rooms : Array (Option Value)} {tk0_reached_rooms : Tok}
  (ft : PySem.W.nsIn K mainGlobals "reached_rooms" = some (some (.ref ff))) (fh : K.lookup ff = some ⟨m8, og, .func (PySem.W.fnOf "reached_rooms" "reached_rooms" (aL cj) (aK cj) (ak cj) (.ref T_reached_rooms) oh nr nV nM hX nA), oa⟩) (fu : PySem.W.codeIn K hX "reached_rooms" = true) (cK : PySem.W.keepIn K (.ref ff) = true)
  (dv : K.lookup T_reached_rooms = some ⟨tc_reached_rooms, td_reached_rooms, .seq #[Value.int 0 tk0_reached_rooms] tn_reached_rooms, tsl_reached_rooms⟩)
  (iG : PySem.W.nsIn K mainGlobals "first_rows" = some (some (.ref je))) (ie : K.lookup je = some ⟨qY, qK, .func (PySem.W.fnOf "first_rows" "first_rows" (aL cZ) (aK cZ) (ak cZ) .none qH rN rM rJ kg rE), rH⟩) (i7 : PySem.W.codeIn K kg "first_rows" = true) (fT : PySem.W.keepIn K (.ref je) = true)
  (t6 : PySem.W.nsIn K mainGlobals "leads" = some (some (.ref tU))) (uD : K.lookup tU = some ⟨zk, Ag, .func (PySem.W.fnOf "leads" "leads" (aL iT) (aK iT) (ak iT) .none AG zi zF zQ vm AN), zJ⟩) (t4 : PySem.W.codeIn K vm "leads" = true) (o5 : PySem.W.keepIn K (.ref tU) = true)
  (pZ : PySem.W.nsIn K mainGlobals "led_on" = some (some (.ref p3))) (pH : K.lookup p3 = some ⟨yz, yX, .func (PySem.W.fnOf "led_on" "led_on" (aL gZ) (aK gZ) (ak gZ) .none yn yr yN yp sF yM), yy⟩) (pe : PySem.W.codeIn K sF "led_on" = true) (lS : PySem.W.keepIn K (.ref p3) = true)
  (m9 : PySem.W.nsIn K mainGlobals "parting" = some (some (.ref nZ))) (nk : K.lookup nZ = some ⟨wA, wV, .func (PySem.W.fnOf "parting" "parting" (aL fZ) (aK fZ) (ak fZ) .none vV wu xg wR pw xo), w4⟩) (nW : PySem.W.codeIn K pw "parting" = true) (jP : PySem.W.keepIn K (.ref nZ) = true)
  (iY : PySem.W.nsIn K mainGlobals "with_rooms" = some (some (.ref ik))) (jg : K.lookup ik = some ⟨rf, rP, .func (PySem.W.fnOf "with_rooms" "with_rooms" (aL bI) (aK bI) (ak bI) .none rS qO rC rh kn qJ), rq⟩) (iB : PySem.W.codeIn K kn "with_rooms" = true) (fS : PySem.W.keepIn K (.ref ik) = true)
  (ig : PySem.W.nsIn K mainGlobals "columns_of" = some (some (.ref iC))) (iP : K.lookup iC = some ⟨qD, rD, .func (PySem.W.fnOf "columns_of" "columns_of" (aL cI) (aK cI) (ak cI) .none rL qR rF qL kf qP), qS⟩) (iu : PySem.W.codeIn K kf "columns_of" = true) (fJ : PySem.W.keepIn K (.ref iC) = true)
  (nB : PySem.W.nsIn K mainGlobals "back_of" = some (some (.ref nu))) (nP : K.lookup nu = some ⟨vS, xj, .func (PySem.W.fnOf "back_of" "back_of" (aL fY) (aK fY) (ak fY) .none wo xn wy wH qz xi), xr⟩) (nS : PySem.W.codeIn K qz "back_of" = true) (jR : PySem.W.keepIn K (.ref nu) = true)
  (d0 : PySem.W.nsIn K mainGlobals "unparted_groups" = some (some (.ref d3))) (dU : K.lookup d3 = some ⟨k7, kP, .func (PySem.W.fnOf "unparted_groups" "unparted_groups" (aL bb) (aK bb) (ak bb) .none kK kF lC kE f9 kL), ku⟩) (d8 : PySem.W.codeIn K f9 "unparted_groups" = true) (cS : PySem.W.keepIn K (.ref d3) = true)
  (uI : PySem.W.nsIn K mainGlobals "least" = some (some (.ref uA))) (tJ : K.lookup uA = some ⟨AD, zp, .func (PySem.W.fnOf "least" "least" (aL gz) (aK gz) (ak gz) .none Aj zv zU AR vo y9), zW⟩) (tX : PySem.W.codeIn K vo "least" = true) (oY : PySem.W.keepIn K (.ref uA) = true)
  (jB : PySem.W.nsIn K mainGlobals "_law_draw" = some (some (.ref ju))) (jH : K.lookup ju = some ⟨uL, uB, .func (PySem.W.fnOf "_law_draw" "_law_draw" (aL dP) (aK dP) (ak dP) .none uE uu t5 ud mh ug), tf⟩) (jE : PySem.W.codeIn K mh "_law_draw" = true) (gu : PySem.W.keepIn K (.ref ju) = true)
  (gD : PySem.W.nsIn K mainGlobals "_law_is_row" = some (some (.ref gL))) (gG : K.lookup gL = some ⟨qj, pP, .func (PySem.W.fnOf "_law_is_row" "_law_is_row" (aL cN) (aK cN) (ak cN) .none qv qw qu pJ jv pf), pO⟩) (gF : PySem.W.codeIn K jv "_law_is_row" = true) (eZ : PySem.W.keepIn K (.ref gL) = true)
  (jF : PySem.W.nsIn K mainGlobals "_law_ring" = some (some (.ref jn))) (jz : K.lookup jn = some ⟨tL, tT, .func (PySem.W.fnOf "_law_ring" "_law_ring" (aL cA) (aK cA) (ak cA) .none um ui t8 ur l4 ux), uc⟩) (jJ : PySem.W.codeIn K l4 "_law_ring" = true) (gq : PySem.W.keepIn K (.ref jn) = true)
  (iQ : PySem.W.nsIn K mainGlobals "_law_least" = some (some (.ref iU))) (iK : K.lookup iU = some ⟨qE, qF, .func (PySem.W.fnOf "_law_least" "_law_least" (aL cJ) (aK cJ) (ak cJ) .none rp rn qZ rG km qW), rK⟩) (ir : PySem.W.codeIn K km "_law_least" = true) (fP : PySem.W.keepIn K (.ref iU) = true)
  (h9 : PySem.W.nsIn K mainGlobals "_law_alike" = some (some (.ref iV))) (i8 : K.lookup iV = some ⟨rj, qN, .func (PySem.W.fnOf "_law_alike" "_law_alike" (aL de) (aK de) (ak de) .none q8 q5 qG qI kh q9), qX⟩) (i6 : PySem.W.codeIn K kh "_law_alike" = true) (fI : PySem.W.keepIn K (.ref iV) = true)
  (gK : PySem.W.nsIn K mainGlobals "_law_parted" = some (some (.ref gH))) (gP : K.lookup gH = some ⟨pW, px, .func (PySem.W.fnOf "_law_parted" "_law_parted" (aL cv) (aK cv) (ak cv) .none pX qf qq qA jy qe), pV⟩) (gM : PySem.W.codeIn K jy "_law_parted" = true) (e6 : PySem.W.keepIn K (.ref gH) = true)
  (lH : PySem.W.nsIn K mainGlobals "_law_led" = some (some (.ref kB))) (k8 : K.lookup kB = some ⟨vd, vC, .func (PySem.W.fnOf "_law_led" "_law_led" (aL dF) (aK dF) (ak dF) .none vc uP uT vN ou vG), uY⟩) (kA : PySem.W.codeIn K ou "_law_led" = true) (i0 : PySem.W.keepIn K (.ref kB) = true)
  (xW : PySem.W.nsIn K mainGlobals "law" = some (some (.ref zX))) (Ak : K.lookup zX = some ⟨Ck, Cc, .func (PySem.W.fnOf "law" "law" (aL ki) (aK ki) (ak ki) .none Av Ai zG AQ wg zg), Ci⟩) (zh : PySem.W.codeIn K wg "law" = true) (zy : PySem.W.keepIn K (.ref zX) = true)
  (ze : PySem.W.nsIn K mainGlobals "len" = some none)
  (uf : PySem.W.nsIn K mainGlobals "range" = some none)
  (wU : PySem.W.nsIn K mainGlobals "list" = some none)
  (tZ : PySem.W.nsIn K mainGlobals "tuple" = some none)
  (wF : PySem.W.nsIn K mainGlobals "dict" = some none)
  (jq : PySem.W.nsIn K mainGlobals "enumerate" = some none)
  (AI : PySem.W.nsIn K mainGlobals "int" = some none)
  (iO : PySem.W.nsIn K mainGlobals "isinstance" = some none)
  (y_bool : PySem.W.nsIn K mainGlobals "bool" = some none)
  (AM : PySem.W.nsIn K mainGlobals "sum" = some none)
  {b8 : Addr} (p7 : PySem.W.nsIn K mainGlobals "Alike" = some (some (.ref b8)))
  {aG : Addr} (nO : PySem.W.nsIn K mainGlobals "Parted" = some (some (.ref aG)))
  (eM : PySem.W.findIn K (.ref b8) "__init__" = some (some (.ref cz))) (eJ : K.lookup cz = some ⟨mr, mP, .func (PySem.W.fnOf "__init__" "Alike.__init__" (aL bG) (aK bG) (ak bG) .none lU mW mB mR gA mi), l7⟩) (eL : PySem.W.codeIn K gA "Alike.__init__" = true) (eT : PySem.W.keepIn K (.ref cz) = true)
  (cR : PySem.W.findIn K (.ref b8) "take_as_alike" = some (some (.ref cc))) (cO : K.lookup cc = some ⟨iI, jf, .func (PySem.W.fnOf "take_as_alike" "Alike.take_as_alike" (aL bc) (aK bc) (ak bc) .none iJ ij iX iq dS i5), jc⟩) (cP : PySem.W.codeIn K dS "Alike.take_as_alike" = true) (b4 : PySem.W.keepIn K (.ref cc) = true)
  (d6 : PySem.W.findIn K (.ref aG) "__init__" = some (some (.ref ck))) (dR : K.lookup ck = some ⟨lG, lD, .func (PySem.W.fnOf "__init__" "Parted.__init__" (aL aW) (aK aW) (ak aW) .none kQ kO kR lF f7 kD), lJ⟩) (d7 : PySem.W.codeIn K f7 "Parted.__init__" = true) (eo : PySem.W.keepIn K (.ref ck) = true)
  (eD : PySem.W.findIn K (.ref aG) "is_done" = some (some (.ref c8))) (eX : K.lookup c8 = some ⟨mj, m5, .func (PySem.W.fnOf "is_done" "Parted.is_done" (aL bV) (aK bV) (ak bV) .none lQ lP mw mE gx mL), lX⟩) (eC : PySem.W.codeIn K gx "Parted.is_done" = true) (c6 : PySem.W.keepIn K (.ref c8) = true)
  (d9 : PySem.W.findIn K (.ref aG) "wait_for" = some (some (.ref cU))) (d5 : K.lookup cU = some ⟨lh, kH, .func (PySem.W.fnOf "wait_for" "Parted.wait_for" (aL bL) (aK bL) (ak bL) .none k9 ky k6 kW gn kC), kU⟩) (dX : PySem.W.codeIn K gn "Parted.wait_for" = true) (cT : PySem.W.keepIn K (.ref cU) = true)
  (cD : PySem.W.findIn K (.ref aG) "next_splitter" = some (some (.ref bU))) (cF : K.lookup bU = some ⟨gW, gY, .func (PySem.W.fnOf "next_splitter" "Parted.next_splitter" (aL a8) (aK a8) (ak a8) .none gS h8 hV hU dH hJ), gR⟩) (cE : PySem.W.codeIn K dH "Parted.next_splitter" = true) (bT : PySem.W.keepIn K (.ref bU) = true)
  (dE : PySem.W.findIn K (.ref aG) "split_off" = some (some (.ref cB))) (dC : K.lookup cB = some ⟨j5, j8, .func (PySem.W.fnOf "split_off" "Parted.split_off" (aL br) (aK br) (ak br) .none jZ j9 ka j4 fz kb), j7⟩) (dA : PySem.W.codeIn K fz "Parted.split_off" = true) (cC : PySem.W.keepIn K (.ref cB) = true)
  (eI : PySem.W.findIn K (.ref aG) "part_by" = some (some (.ref dh))) (eW : K.lookup dh = some ⟨l8, mS, .func (PySem.W.fnOf "part_by" "Parted.part_by" (aL bW) (aK bW) (ak bW) .none mV mQ mT mx gw mH), l5⟩) (eK : PySem.W.codeIn K gw "Parted.part_by" = true) (df : PySem.W.keepIn K (.ref dh) = true)
  (c_pg : PySem.W.plainGet K b8 Str.empty = true)
  (c_hd : PySem.W.hasDictIn K b8 = true)
  (c_po : PySem.W.plainOver K b8 = true)
  (c_sa : PySem.W.findIn K (.ref b8) "__setattr__" = some (some (.builtin "object.__setattr__")))
  (c_n1 : PySem.W.findIn K (.ref b8) "group_of" = some none)
  (c_n2 : PySem.W.findIn K (.ref b8) "members" = some none)
  (c_mk : PySem.W.makesIn K b8 = true)
  (c_fi : PySem.W.isFn K (.ref cz) = true)
  (c_kp : PySem.W.keepIn K (.ref b8) = true)
  (cH : PySem.W.isFn K (.ref cc) = true)
  (d_pg : PySem.W.plainGet K aG Str.empty = true)
  (d_hd : PySem.W.hasDictIn K aG = true)
  (d_po : PySem.W.plainOver K aG = true)
  (d_sa : PySem.W.findIn K (.ref aG) "__setattr__" = some (some (.builtin "object.__setattr__")))
  (d_n1 : PySem.W.findIn K (.ref aG) "group_of" = some none)
  (d_n2 : PySem.W.findIn K (.ref aG) "members" = some none)
  (d_n3 : PySem.W.findIn K (.ref aG) "waiting" = some none)
  (d_n4 : PySem.W.findIn K (.ref aG) "is_waiting" = some none)
  (d_mk : PySem.W.makesIn K aG = true)
  (d_fi : PySem.W.isFn K (.ref ck) = true)
  (d_kp : PySem.W.keepIn K (.ref aG) = true)
  (dY : PySem.W.isFn K (.ref c8) = true)
  (cy : PySem.W.isFn K (.ref bU) = true)
  (d4 : PySem.W.isFn K (.ref dh) = true)
  (dm : PySem.W.isFn K (.ref cB) = true)
  (dB : PySem.W.isFn K (.ref cU) = true) :
  ∃ fd : FuncData, (∀ (s : Shared) (v : Value), BindsTo s fd ⟨[v], []⟩ [("_law_script", v)]) /\ ∀ base : Heap, K.In base -> base.Ns mainGlobals mg -> FnOk l.prog w K mg base CX0 6 fa fd ["_law_script"] (xO K) := by
 have e := hfa.symm.trans (PySem.W.mg_of X G xW)
 cases e
 have F_reached_rooms := a9 (st := cj) fh fu cK
 have b_reached_rooms : Binds K _ ["machine", "start"] [] := F_reached_rooms.bindsD dv rfl 2 rfl fun _ _ _ _ _ _ us hl => uC hl fun _ _ => ⟨_, rfl, rfl⟩
 have b_reached_rooms_d : Binds K _ ["machine", "start"] [Value.int 0 tk0_reached_rooms] := F_reached_rooms.bindsD dv rfl 1 rfl fun _ _ _ _ _ _ us hl => uw hl fun _ => ⟨_, rfl, rfl⟩
 have jh := PySem.W.mg_of X G ft
 have F_first_rows := a9 (st := cZ) ie i7 fT
 have b_first_rows := F_first_rows.binds (ps := ["machine", "start"]) fun _ _ _ _ _ _ us hl => uC hl fun _ _ => rfl
 have tY := PySem.W.mg_of X G iG
 have F_leads := a9 (st := iT) uD t4 o5
 have b_leads := F_leads.binds (ps := ["machine"]) fun _ _ _ _ _ _ us hl => uw hl fun _ => rfl
 have Bl := PySem.W.mg_of X G t6
 have F_Alike___init__ := a9 (st := bG) eJ eL eT
 have b_Alike___init__ := F_Alike___init__.binds (ps := ["self", "many"]) fun _ _ _ _ _ _ us hl => uC hl fun _ _ => rfl
 have F_Alike_take_as_alike := a9 (st := bc) cO cP b4
 have b_Alike_take_as_alike := F_Alike_take_as_alike.binds (ps := ["self", "one", "other"]) fun _ _ _ _ _ _ us hl => w5 hl fun _ _ _ => rfl
 have F_led_on := a9 (st := gZ) pH pe lS
 have b_led_on := F_led_on.binds (ps := ["rows", "alike", "level"]) fun _ _ _ _ _ _ us hl => w5 hl fun _ _ _ => rfl
 have AJ := PySem.W.mg_of X G pZ
 have F_parting := a9 (st := fZ) nk nW jP
 have b_parting := F_parting.binds (ps := ["machine", "one", "other"]) fun _ _ _ _ _ _ us hl => w5 hl fun _ _ _ => rfl
 have yh := PySem.W.mg_of X G m9
 have F_with_rooms := a9 (st := bI) jg iB fS
 have b_with_rooms := F_with_rooms.binds (ps := ["machine", "kept", "numbers"]) fun _ _ _ _ _ _ us hl => w5 hl fun _ _ _ => rfl
 have tQ := PySem.W.mg_of X G iY
 have F_columns_of := a9 (st := cI) iP iu fJ
 have b_columns_of := F_columns_of.binds (ps := ["machine"]) fun _ _ _ _ _ _ us hl => uw hl fun _ => rfl
 have t7 := PySem.W.mg_of X G ig
 have F_back_of := a9 (st := fY) nP nS jR
 have b_back_of := F_back_of.binds (ps := ["column"]) fun _ _ _ _ _ _ us hl => uw hl fun _ => rfl
 have yl := PySem.W.mg_of X G nB
 have F_Parted___init__ := a9 (st := aW) dR d7 eo
 have b_Parted___init__ := F_Parted___init__.binds (ps := ["self", "signs"]) fun _ _ _ _ _ _ us hl => uC hl fun _ _ => rfl
 have F_Parted_is_done := a9 (st := bV) eX eC c6
 have b_Parted_is_done := F_Parted_is_done.binds (ps := ["self"]) fun _ _ _ _ _ _ us hl => uw hl fun _ => rfl
 have F_Parted_wait_for := a9 (st := bL) d5 dX cT
 have b_Parted_wait_for := F_Parted_wait_for.binds (ps := ["self", "group"]) fun _ _ _ _ _ _ us hl => uC hl fun _ _ => rfl
 have F_Parted_next_splitter := a9 (st := a8) cF cE bT
 have b_Parted_next_splitter := F_Parted_next_splitter.binds (ps := ["self"]) fun _ _ _ _ _ _ us hl => uw hl fun _ => rfl
 have F_Parted_split_off := a9 (st := br) dC dA cC
 have b_Parted_split_off := F_Parted_split_off.binds (ps := ["self", "group", "inside"]) fun _ _ _ _ _ _ us hl => w5 hl fun _ _ _ => rfl
 have F_Parted_part_by := a9 (st := bW) eW eK df
 have b_Parted_part_by := F_Parted_part_by.binds (ps := ["self", "leading"]) fun _ _ _ _ _ _ us hl => uC hl fun _ _ => rfl
 have F_unparted_groups := a9 (st := bb) dU d8 cS
 have b_unparted_groups := F_unparted_groups.binds (ps := ["machine"]) fun _ _ _ _ _ _ us hl => uw hl fun _ => rfl
 have mK := PySem.W.mg_of X G d0
 have F_least := a9 (st := gz) tJ tX oY
 have b_least := F_least.binds (ps := ["machine"]) fun _ _ _ _ _ _ us hl => uw hl fun _ => rfl
 have AV := PySem.W.mg_of X G uI
 have F__law_draw := a9 (st := dP) jH jE gu
 have b__law_draw := F__law_draw.binds (ps := ["_law_script", "_law_k"]) fun _ _ _ _ _ _ us hl => uC hl fun _ _ => rfl
 have vb := PySem.W.mg_of X G jB
 have F__law_is_row := a9 (st := cN) gG gF eZ
 have b__law_is_row := F__law_is_row.binds (ps := ["_law_found", "_law_wide"]) fun _ _ _ _ _ _ us hl => uC hl fun _ _ => rfl
 have qC := PySem.W.mg_of X G gD
 have F__law_ring := a9 (st := cA) jz jJ gq
 have b__law_ring := F__law_ring.binds (ps := ["_law_steps", "_law_many", "_law_p", "_law_signs"]) fun _ _ _ _ _ _ us hl => Dw hl fun _ _ _ _ => rfl
 have uO := PySem.W.mg_of X G jF
 have F__law_least := a9 (st := cJ) iK ir fP
 have b__law_least := F__law_least.binds (ps := ["_law_steps", "_law_p", "_law_signs"]) fun _ _ _ _ _ _ us hl => w5 hl fun _ _ _ => rfl
 have uz := PySem.W.mg_of X G iQ
 have F__law_alike := a9 (st := de) i8 i6 fI
 have b__law_alike := F__law_alike.binds (ps := ["_law_found", "_law_due"]) fun _ _ _ _ _ _ us hl => uC hl fun _ _ => rfl
 have tS := PySem.W.mg_of X G h9
 have F__law_parted := a9 (st := cv) gP gM e6
 have b__law_parted := F__law_parted.binds (ps := ["_law_ring_here", "_law_steps", "_law_p", "_law_one", "_law_other"]) fun _ _ _ _ _ _ us hl => Ds hl fun _ _ _ _ _ => rfl
 have qT := PySem.W.mg_of X G gK
 have F__law_led := a9 (st := dF) k8 kA i0
 have b__law_led := F__law_led.binds (ps := ["_law_ring_here", "_law_steps", "_law_found"]) fun _ _ _ _ _ _ us hl => w5 hl fun _ _ _ => rfl
 have wY := PySem.W.mg_of X G lH
 have F_law := a9 (st := ki) Ak zh zy
 have b_law := F_law.binds (ps := ["_law_script"]) fun _ _ _ _ _ _ us hl => uw hl fun _ => rfl
 have DG := PySem.W.mg_of X G xW
 have aM := PySem.W.mg_none_of X G ze
 have bx := PySem.W.mg_none_of X G uf
 have dj := PySem.W.mg_none_of X G wU
 have aH := PySem.W.mg_none_of X G tZ
 have fq := PySem.W.mg_none_of X G wF
 have aV := PySem.W.mg_none_of X G jq
 have mD := PySem.W.mg_none_of X G AI
 have bj := PySem.W.mg_none_of X G iO
 have w6 := PySem.W.mg_none_of X G y_bool
 have rT := PySem.W.mg_none_of X G AM
 have BE := PySem.W.mg_of X G p7
 have Au := PySem.W.mg_of X G nO
 refine ⟨PySem.W.fnOf "law" "law" (aL ki) (aK ki) (ak ki) .none Av Ai zG AQ wg zg, fun s v => .of_eq rfl, fun base _ _ => ?_⟩
 have jY := (show Cls K b8 from ⟨c_pg, c_hd, c_po, c_sa⟩)
 have Ar := (show Mk K b8 cz from ⟨c_mk, eM, c_fi, c_kp⟩)
 have dz := (show Cls K aG from ⟨d_pg, d_hd, d_po, d_sa⟩)
 have yu := (show Mk K aG ck from ⟨d_mk, d6, d_fi, d_kp⟩)
 have pc := (show PCls K aG from ⟨dz, d_n1, d_n2, d_n3, d_n4⟩)
 have dQ : DefOk l.prog w K mg base "reached_rooms" 1 ["machine", "start"] [.int 0] (h7 K) := ⟨_, _, _, jh, cK, .cons ⟨_, rfl⟩ (.nil), b_reached_rooms_d, pC F_reached_rooms dj⟩
 have fj : DefOk l.prog w K mg base "reached_rooms" 1 ["machine", "start"] [] (h7 K) := ⟨_, _, [], jh, cK, .nil, b_reached_rooms, pC F_reached_rooms dj⟩
 have iA : DefOk l.prog w K mg base "first_rows" 2 ["machine", "start"] [] (qy K) := ⟨_, _, [], tY, fT, .nil, b_first_rows, yk F_first_rows fj aV⟩
 have uJ : DefOk l.prog w K mg base "leads" 3 ["machine"] [] (uk K) := ⟨_, _, [], Bl, o5, .nil, b_leads, zR F_leads iA aH bx aM⟩
 have pK : DefMk l.prog w K mg base "Alike" b8 1 ["self", "many"] (jG b8) := ⟨BE, jY, _, _, Ar, b_Alike___init__, sZ F_Alike___init__ jY c_n1 c_n2 dj bx⟩
 have GE_take_as_alike : DefMe l.prog w K mg base b8 "take_as_alike" 1 ["self", "one", "other"] (xx b8) := ⟨jY, _, _, ⟨cR, cH, b4⟩, b_Alike_take_as_alike, Bw F_Alike_take_as_alike jY c_n1 c_n2 aM⟩
 have qx : DefOk l.prog w K mg base "led_on" 2 ["rows", "alike", "level"] [] (uq b8) := ⟨_, _, [], AJ, lS, .nil, b_led_on, yY F_led_on GE_take_as_alike c_n1 aV⟩
 have nN : DefOk l.prog w K mg base "parting" 3 ["machine", "one", "other"] [] (nK K) := ⟨_, _, [], yh, jP, .nil, b_parting, vU F_parting pK qx aM⟩
 have fO : DefOk l.prog w K mg base "with_rooms" 1 ["machine", "kept", "numbers"] [] (tE K) := ⟨_, _, [], tQ, fS, .nil, b_with_rooms, AS F_with_rooms aH⟩
 have iW : DefOk l.prog w K mg base "columns_of" 1 ["machine"] [] (wI K) := ⟨_, _, [], t7, fJ, .nil, b_columns_of, Bq F_columns_of bx aH⟩
 have nz : DefOk l.prog w K mg base "back_of" 1 ["column"] [] (tj K) := ⟨_, _, [], yl, jR, .nil, b_back_of, zf F_back_of aV⟩
 have nH : DefMk l.prog w K mg base "Parted" aG 1 ["self", "signs"] (o9 aG) := ⟨Au, dz, _, _, yu, b_Parted___init__, wZ F_Parted___init__ pc aM dj bx fq aV⟩
 have kI : DefMe l.prog w K mg base aG "is_done" 1 ["self"] (pU K aG) := ⟨dz, _, _, ⟨eD, dY, c6⟩, b_Parted_is_done, yi F_Parted_is_done pc aM⟩
 have gy : DefMe l.prog w K mg base aG "wait_for" 1 ["self", "group"] (vR aG) := ⟨dz, _, _, ⟨d9, dB, cT⟩, b_Parted_wait_for, wm F_Parted_wait_for pc⟩
 have eV : DefMe l.prog w K mg base aG "next_splitter" 1 ["self"] (uG aG) := ⟨dz, _, _, ⟨cD, cy, bT⟩, b_Parted_next_splitter, Aw F_Parted_next_splitter pc dj⟩
 have i9 : DefMe l.prog w K mg base aG "split_off" 2 ["self", "group", "inside"] (tF K aG) := ⟨dz, _, _, ⟨dE, dm, cC⟩, b_Parted_split_off, zB F_Parted_split_off pc gy aM fq⟩
 have kZ : DefMe l.prog w K mg base aG "part_by" 3 ["self", "leading"] (pL aG) := ⟨dz, _, _, ⟨eI, d4, df⟩, b_Parted_part_by, y3 F_Parted_part_by pc i9 aM⟩
 have ed : DefOk l.prog w K mg base "unparted_groups" 4 ["machine"] [] (zc K) := ⟨_, _, [], mK, cS, .nil, b_unparted_groups, Cm F_unparted_groups pc iW nz nH kI eV kZ dj fq⟩
 have oZ : DefOk l.prog w K mg base "least" 5 ["machine"] [] (tN K) := ⟨_, _, [], AV, oY, .nil, b_least, Af F_least dQ fO ed aV fq aM⟩
 have bu : DefOk l.prog w K mg base "_law_draw" 1 ["_law_script", "_law_k"] [] (wK K) := ⟨_, _, [], vb, gu, .nil, b__law_draw, Bk F__law_draw aM⟩
 have bg : DefOk l.prog w K mg base "_law_is_row" 1 ["_law_found", "_law_wide"] [] (mN) := ⟨_, _, [], qC, eZ, .nil, b__law_is_row, yT F__law_is_row bj aH mD w6⟩
 have jK : DefOk l.prog w K mg base "_law_ring" 1 ["_law_steps", "_law_many", "_law_p", "_law_signs"] [] (wL K) := ⟨_, _, [], uO, gq, .nil, b__law_ring, A0 F__law_ring bx aH aM mD⟩
 have jd : DefOk l.prog w K mg base "_law_least" 1 ["_law_steps", "_law_p", "_law_signs"] [] (jx K) := ⟨_, _, [], uz, fP, .nil, b__law_least, tu F__law_least aH aM mD⟩
 have i4 : DefOk l.prog w K mg base "_law_alike" 2 ["_law_found", "_law_due"] [] (pG) := ⟨_, _, [], tS, fI, .nil, b__law_alike, ym F__law_alike bg bj aH aM⟩
 have gN : DefOk l.prog w K mg base "_law_parted" 4 ["_law_ring_here", "_law_steps", "_law_p", "_law_one", "_law_other"] [] (ny K) := ⟨_, _, [], qT, e6, .nil, b__law_parted, xb F__law_parted nN bg aM rT⟩
 have kJ : DefOk l.prog w K mg base "_law_led" 2 ["_law_ring_here", "_law_steps", "_law_found"] [] (xu K) := ⟨_, _, [], wY, i0, .nil, b__law_led, Bi F__law_led bg aM rT bx bj aH⟩
 exact CA F_law bu jK jd i4 oZ kJ uJ gN bx
theorem walk {l : PySem.W.OpenLaw} {q : Program} {loose : List Str} {XP : (Str -> Option Value) -> Heap -> Prop} {YP : World -> Heap -> Prop} {d : DefRec} {K : Params -> PySem.W.Frag} (hn : l.most = some 63) (hdf : d.params.defaults = [])
  (hY : ∀ (w : World) (h : Heap), YP w h -> (K w.params).In h)
  (F : ∀ (w : World) (mg : Str -> Option Value) (fa : Addr) (h : Heap), (K w.params).In h -> h.Ns mainGlobals mg -> mg d.name = some (.ref fa) ->
   ∃ fd : FuncData, (∀ (s : Shared) (u : Value), BindsTo s fd ⟨[u], []⟩ [("_law_script", u)]) /\ ∀ base : Heap, (K w.params).In base -> base.Ns mainGlobals mg -> FnOk l.prog w (K w.params) mg base CX0 6 fa fd ["_law_script"] (xO (K w.params))) :
  PySem.W.WalkO q loose XP YP l.row.toRowW d [] (fun f vs => PySem.call f vs) :=
 L2.walk_of (n := 63) (k := 6) (x := "_law_script") (CX := fun _ => CX0) (sp := fun w => xO (K w.params)) hn (by decide) hdf ⟨rfl, by decide, by decide⟩ hY F (fun _ _ a ns hl _ hS => ⟨a, ns, rfl, hS, hl, fun _ => rfl⟩) fun _ _ _ _ _ z => z
end My
def PySem.W.Fast.tw5777603482575666414 := 0
def PySem.W.Fast.tw10301137370755938489 := 0
def PySem.W.Fast.tw3693712545918444435 := 0
def PySem.W.Fast.tw16198695863442728370 := 0
def PySem.W.Fast.tw2318625577171463561 := 0
def PySem.W.Fast.tw536814843165191860 := 0
def PySem.W.Fast.tw3217624934390907968 := 0
def PySem.W.Fast.tw12441183642996610390 := 0
def PySem.W.Fast.tw4719225751617681973 := 0
def PySem.W.Fast.tw11298108905804699439 := 0
def PySem.W.Fast.tw7673512966741768437 := 0
def PySem.W.Fast.tw3460158573289587922 := 0
def PySem.W.Fast.tw17959424683096785187 := 0
def PySem.W.Fast.tw14463787860586954910 := 0
def PySem.W.Fast.tw12049180909539367587 := 0
def PySem.W.Fast.tw4267338119574600504 := 0
def PySem.W.Fast.tw2906186451532459909 := 0
def PySem.W.Fast.tw8433355433970499307 := 0
def PySem.W.Fast.tw15933255712746822270 := 0
def PySem.W.Fast.tw11232722739200215981 := 0
def PySem.W.Fast.tw4909198997182789454 := 0
def PySem.W.Fast.tw3327053589839855507 := 0
def PySem.W.Fast.tw3434513826398479728 := 0
def PySem.W.Fast.tw6803171558377682063 := 0
def PySem.W.Fast.tw7318067129857671440 := 0
def PySem.W.Fast.tw7262653316942908344 := 0
def PySem.W.Fast.tw1808693411058929061 := 0
def PySem.W.Fast.tw5283110556542167166 := 0
def PySem.W.Fast.tw11498641637705105118 := 0
def PySem.W.Fast.tw15859341521484302166 := 0
def PySem.W.Fast.tw559163372532847879 := 0
def PySem.W.Fast.tw5578932539485923579 := 0
def PySem.W.Fast.tw11939386208071055205 := 0
def PySem.W.Fast.tw3897346309670943285 := 0
def PySem.W.Fast.tw17785155536935711234 := 0
def PySem.W.Fast.tw12856817216640789449 := 0
def PySem.W.Fast.tw13600878236588587613 := 0
def PySem.W.Fast.tw10648595434716437835 := 0
def PySem.W.Fast.tw9259739166402718784 := 0
def PySem.W.Fast.tw2893754296451136735 := 0
def PySem.W.Fast.tw2135880796178482968 := 0
def PySem.W.Fast.tw16993722900654401525 := 0
def PySem.W.Fast.tw15234296073634824558 := 0
def PySem.W.Fast.tw6760978764729140847 := 0
def PySem.W.Fast.tw3631742041721630108 := 0
def PySem.W.Fast.tw18172966732785338994 := 0
def PySem.W.Fast.tw9016395155621022097 := 0
def PySem.W.Fast.tw15794311460293951339 := 0
def PySem.W.Fast.tw4211683275994110260 := 0
def PySem.W.Fast.tw11979656737237446842 := 0
def PySem.W.Fast.tw15591836732840010136 := 0
def PySem.W.Fast.tw9867367825480621606 := 0
def PySem.W.Fast.tw10891928576288050378 := 0
def PySem.W.Fast.tw9453862106192791214 := 0
def PySem.W.Fast.tw7793364057265124943 := 0
def PySem.W.Fast.tw18243873335208305210 := 0
def PySem.W.Fast.tw6856065743910805962 := 0
def PySem.W.Fast.tw7345119941021184336 := 0
def PySem.W.Fast.tw3428530408861863511 := 0
def PySem.W.Fast.tw13585317530530359564 := 0
def PySem.W.Fast.tw2173156917946219343 := 0
def PySem.W.Fast.tw14531032701028103149 := 0
def PySem.W.Fast.tw4091117182228588194 := 0
open PySem PySem.W PyProof.Rows
set_option maxRecDepth 100000 in
set_option maxHeartbeats 0 in
theorem PySem.Challenge.cw_figuretell_k17_rings_of_rooms_holds : PySem.Challenge.rw_figuretell_k17_rings_of_rooms.Holds := by
 w_on; o_law; k_head; (case hw => w_witness2)
 k_fill
 refine My.walk (l := PySem.Challenge.rw_figuretell_k17_rings_of_rooms) rfl rfl (fun w h Y => PySem.W.kIn_of Y) ?F
 case F =>
  intro w mg fa h KX G hmg
  refine' My.all_mk KX G hmg ?ft ?fh ?fu ?cK ?dv ?iG ?ie ?i7 ?fT ?t6 ?uD ?t4 ?o5 ?pZ ?pH ?pe ?lS ?m9 ?nk ?nW ?jP ?iY ?jg ?iB ?fS ?ig ?iP ?iu ?fJ ?nB ?nP ?nS ?jR ?d0 ?dU ?d8 ?cS ?uI ?tJ ?tX ?oY ?jB ?jH ?jE ?gu ?gD ?gG ?gF ?eZ ?jF ?jz ?jJ ?gq ?iQ ?iK ?ir ?fP ?h9 ?i8 ?i6 ?fI ?gK ?gP ?gM ?e6 ?lH ?k8 ?kA ?i0 ?xW ?Ak ?zh ?zy ?ze ?uf ?wU ?tZ ?wF ?jq ?AI ?iO ?y_bool ?AM ?p7 ?nO ?eM ?eJ ?eL ?eT ?cR ?cO ?cP ?b4 ?d6 ?dR ?d7 ?eo ?eD ?eX ?eC ?c6 ?d9 ?d5 ?dX ?cT ?cD ?cF ?cE ?bT ?dE ?dC ?dA ?cC ?eI ?eW ?eK ?df ?c_pg ?c_hd ?c_po ?c_sa ?c_n1 ?c_n2 ?c_mk ?c_fi ?c_kp ?cH ?d_pg ?d_hd ?d_po ?d_sa ?d_n1 ?d_n2 ?d_n3 ?d_n4 ?d_mk ?d_fi ?d_kp ?dY ?cy ?d4 ?dm ?dB
  (case ft => k_is); (case fh => k_is); (case fu => k_is); (case cK => k_is); (case dv => k_is)
  (case iG => k_is); (case ie => k_is); (case i7 => k_is); (case fT => k_is)
  (case t6 => k_is); (case uD => k_is); (case t4 => k_is); (case o5 => k_is)
  (case pZ => k_is); (case pH => k_is); (case pe => k_is); (case lS => k_is)
  (case m9 => k_is); (case nk => k_is); (case nW => k_is); (case jP => k_is)
  (case iY => k_is); (case jg => k_is); (case iB => k_is); (case fS => k_is)
  (case ig => k_is); (case iP => k_is); (case iu => k_is); (case fJ => k_is)
  (case nB => k_is); (case nP => k_is); (case nS => k_is); (case jR => k_is)
  (case d0 => k_is); (case dU => k_is); (case d8 => k_is); (case cS => k_is)
  (case uI => k_is); (case tJ => k_is); (case tX => k_is); (case oY => k_is)
  (case jB => k_is); (case jH => k_is); (case jE => k_is); (case gu => k_is)
  (case gD => k_is); (case gG => k_is); (case gF => k_is); (case eZ => k_is)
  (case jF => k_is); (case jz => k_is); (case jJ => k_is); (case gq => k_is)
  (case iQ => k_is); (case iK => k_is); (case ir => k_is); (case fP => k_is)
  (case h9 => k_is); (case i8 => k_is); (case i6 => k_is); (case fI => k_is)
  (case gK => k_is); (case gP => k_is); (case gM => k_is); (case e6 => k_is)
  (case lH => k_is); (case k8 => k_is); (case kA => k_is); (case i0 => k_is)
  (case xW => k_is); (case Ak => k_is); (case zh => k_is); (case zy => k_is)
  (case ze => k_is); (case uf => k_is); (case wU => k_is); (case tZ => k_is); (case wF => k_is); (case jq => k_is); (case AI => k_is); (case iO => k_is); (case y_bool => k_is); (case AM => k_is)
  (case p7 => k_is)
  (case nO => k_is)
  (case eM => k_is); (case eJ => k_is); (case eL => k_is); (case eT => k_is)
  (case cR => k_is); (case cO => k_is); (case cP => k_is); (case b4 => k_is)
  (case d6 => k_is); (case dR => k_is); (case d7 => k_is); (case eo => k_is)
  (case eD => k_is); (case eX => k_is); (case eC => k_is); (case c6 => k_is)
  (case d9 => k_is); (case d5 => k_is); (case dX => k_is); (case cT => k_is)
  (case cD => k_is); (case cF => k_is); (case cE => k_is); (case bT => k_is)
  (case dE => k_is); (case dC => k_is); (case dA => k_is); (case cC => k_is)
  (case eI => k_is); (case eW => k_is); (case eK => k_is); (case df => k_is)
  (case c_pg => first | k_is | k_exc | decide | kernel_rfl)
  (case c_hd => first | k_is | k_exc | decide | kernel_rfl)
  (case c_po => first | k_is | k_exc | decide | kernel_rfl)
  (case c_sa => first | k_is | k_exc | decide | kernel_rfl)
  (case c_n1 => first | k_is | k_exc | decide | kernel_rfl)
  (case c_n2 => first | k_is | k_exc | decide | kernel_rfl)
  (case c_mk => first | k_is | k_exc | decide | kernel_rfl)
  (case c_fi => first | k_is | k_exc | decide | kernel_rfl)
  (case c_kp => first | k_is | k_exc | decide | kernel_rfl)
  (case cH => first | k_is | k_exc | decide | kernel_rfl)
  (case d_pg => first | k_is | k_exc | decide | kernel_rfl)
  (case d_hd => first | k_is | k_exc | decide | kernel_rfl)
  (case d_po => first | k_is | k_exc | decide | kernel_rfl)
  (case d_sa => first | k_is | k_exc | decide | kernel_rfl)
  (case d_n1 => first | k_is | k_exc | decide | kernel_rfl)
  (case d_n2 => first | k_is | k_exc | decide | kernel_rfl)
  (case d_n3 => first | k_is | k_exc | decide | kernel_rfl)
  (case d_n4 => first | k_is | k_exc | decide | kernel_rfl)
  (case d_mk => first | k_is | k_exc | decide | kernel_rfl)
  (case d_fi => first | k_is | k_exc | decide | kernel_rfl)
  (case d_kp => first | k_is | k_exc | decide | kernel_rfl)
  (case dY => first | k_is | k_exc | decide | kernel_rfl)
  (case cy => first | k_is | k_exc | decide | kernel_rfl)
  (case d4 => first | k_is | k_exc | decide | kernel_rfl)
  (case dm => first | k_is | k_exc | decide | kernel_rfl)
  (case dB => first | k_is | k_exc | decide | kernel_rfl)
