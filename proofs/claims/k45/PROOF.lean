import PyProof.Rows.All
import Wide.All
import OpenK.AllK
import Wide.FinOn
import Lean
import PyProof.EqAt
import PyProof.EqKinds
import PyProof.TupleCall
import PyProof.NeKinds
import PyProof.ExcBaseAll.ValueError
import PyProof.ExcClass3
import OpenK.KOwn
import PyProof.Rows.FStr
import KE.KTryMore
import PyProof.ExcAttrAll.ValueError
import KE.KDictList
import PyProof.CompMap
import PyProof.Draws
import PyProof.ListRange
import PyProof.ZipIter
import PyProof.EnumMake
import PyProof.CollectIter
import PyProof.SetRoads
import PyProof.Rows.SortShell
import PyProof.Rows.SortWalk
import PySem.Challenge.RW_figuretell_k45_last_number_and_endless
set_option Elab.async false
set_option linter.all false
set_option maxRecDepth 100000
namespace L2
open PySem PySem.Spec PyProof.Rows
abbrev Key := Sum Int Str
def keyIs : Key -> Value -> Bool
  | .inl k, v => Value.isInt k v
  | .inr x, v => Value.isStrOf x v
def keyH (w : World) : Key -> Int
  | .inl k => hashInt k
  | .inr x => hashStr w x
theorem keyIs_shape : ∀ {k : Key} {v : Value}, keyIs k v = true -> (∃ i t, k = Sum.inl i /\ v = Value.int i t) \/ (∃ x t, k = Sum.inr x /\ v = Value.str x t)
  | .inl i, v, h => by
    obtain ⟨t, e⟩ := Value.isInt_shape (k := i) (v := v) h
    exact .inl ⟨i, t, rfl, e⟩
  | .inr x, v, h => by
    obtain ⟨t, e⟩ := Value.isStrOf_shape (x := x) (v := v) h
    exact .inr ⟨x, t, rfl, e⟩
theorem keyIs_int (i : Int) (t : Tok) : keyIs (.inl i) (.int i t) = true := by simp [keyIs, Value.isInt]
theorem keyIs_str (x : Str) (t : Tok) : keyIs (.inr x) (.str x t) = true := by simp [keyIs, Value.isStrOf]
theorem key_ll (a b : Int) : decide ((Sum.inl a : Key) = Sum.inl b) = (a == b) := by
  by_cases e : a = b
  · subst e; simp
  · have h : ¬ (Sum.inl a : Key) = Sum.inl b := fun q => e (Sum.inl.inj q)
    rw [decide_eq_false h]
    exact (beq_eq_false_iff_ne.mpr e).symm
theorem key_rr (a b : Str) : decide ((Sum.inr a : Key) = Sum.inr b) = decide (a = b) := by
  by_cases e : a = b
  · subst e; simp
  · have h : ¬ (Sum.inr a : Key) = Sum.inr b := fun q => e (Sum.inr.inj q)
    rw [decide_eq_false h, decide_eq_false e]
theorem key_lr (a : Int) (b : Str) : decide ((Sum.inl a : Key) = Sum.inr b) = false := decide_eq_false (fun q => nomatch q)
theorem key_rl (a : Str) (b : Int) : decide ((Sum.inr a : Key) = Sum.inl b) = false := decide_eq_false (fun q => nomatch q)
def mixKind (prog : Program) (w : World) : PySem.KeyKind prog w Key where
  is := keyIs
  hash := keyH w
  inj := fun v a b ha hb => by
    rcases keyIs_shape ha with ⟨i, t, rfl, rfl⟩ | ⟨x, t, rfl, rfl⟩
    · rcases keyIs_shape hb with ⟨j, u, rfl, e⟩ | ⟨y, u, rfl, e⟩
      · injection e with e1 _; rw [e1]
      · exact nomatch e
    · rcases keyIs_shape hb with ⟨j, u, rfl, e⟩ | ⟨y, u, rfl, e⟩
      · exact nomatch e
      · injection e with e1 _; rw [e1]
  byValue := fun k v h => by
    rcases keyIs_shape h with ⟨i, t, rfl, rfl⟩ | ⟨x, t, rfl, rfl⟩ <;> rfl
  pyHash := fun hv h => by
    rcases keyIs_shape hv with ⟨i, t, rfl, rfl⟩ | ⟨x, t, rfl, rfl⟩
    · exact wpAny_pyHash_int h
    · exact wpAny_pyHash_str h
  eqBool := fun hu hv h => by
    rcases keyIs_shape hu with ⟨i, t, rfl, rfl⟩ | ⟨x, t, rfl, rfl⟩
    · rcases keyIs_shape hv with ⟨j, u, rfl, rfl⟩ | ⟨y, u, rfl, rfl⟩
      · rw [key_ll] at h; exact wpAny_eqBool_int h
      · rw [key_lr] at h; exact SeqAt.EqAt.int_str i t y u _ _ _ _ h
    · rcases keyIs_shape hv with ⟨j, u, rfl, rfl⟩ | ⟨y, u, rfl, rfl⟩
      · rw [key_rl] at h; exact SeqAt.EqAt.str_int x t j u _ _ _ _ h
      · rw [key_rr] at h; exact wpAny_eqBool_str h
  «strs» := fun k x t v h => by
    rcases keyIs_shape h with ⟨i, u, rfl, e⟩ | ⟨y, u, rfl, e⟩
    · exact nomatch e
    · injection e with e1 _
      subst e1
      cases v <;> rfl
theorem mixKind_int (prog : Program) (w : World) (i : Int) (t : Tok) : (mixKind prog w).is (.inl i) (.int i t) = true := keyIs_int i t
theorem mixKind_str (prog : Program) (w : World) (x : Str) (t : Tok) : (mixKind prog w).is (.inr x) (.str x t) = true := keyIs_str x t
end L2
namespace L2
open PySem PySem.Spec PyProof.Rows
inductive V where
  | non | bl (b : Bool) | int (i : Int) | str (x : Str) | byt (b : Array UInt8) | flt (b : UInt64) | ref (a : Addr) | ty (n : String)
  deriving DecidableEq
def RelV : V -> Value -> Prop
  | .non, u => u = Value.none
  | .bl b, u => u = Value.bool b
  | .int i, u => ∃ t, u = Value.int i t
  | .str x, u => ∃ t, u = Value.str x t
  | .byt b, u => ∃ t, u = Value.bytes b t
  | .flt b, u => ∃ t, u = Value.float b t
  | .ref a, u => u = Value.ref a
  | .ty n, u => u = Value.type n
abbrev Vals : List V -> List Value -> Prop := Paired RelV
theorem Vals.length {xs : List V} {us : List Value} (r : Vals xs us) : xs.length = us.length := Paired.length r
theorem Vals.get : ∀ {xs : List V} {us : List Value} {i : Nat} {x : V}, Vals xs us -> xs[i]? = some x -> ∃ u, us[i]? = some u /\ RelV x u
  | _, _, _, _, .nil, e => by simp at e
  | _, _, 0, _, .cons r _, e => by simp at e; subst e; exact ⟨_, rfl, r⟩
  | _, _, i + 1, x, .cons _ t, e => by
    obtain ⟨u, h1, h2⟩ := Vals.get (i := i) (x := x) t (by simpa using e)
    exact ⟨u, by simpa using h1, h2⟩
theorem Vals.set {x : V} {u : Value} (r : RelV x u) : ∀ {xs : List V} {us : List Value} (i : Nat), Vals xs us -> Vals (xs.set i x) (us.set i u)
  | _, _, _, .nil => .nil
  | _, _, 0, .cons _ t => .cons r t
  | _, _, i + 1, .cons q t => .cons q (Vals.set r i t)
theorem Vals.append : ∀ {xs ys : List V} {us ws : List Value}, Vals xs us -> Vals ys ws -> Vals (xs ++ ys) (us ++ ws)
  | _, _, _, _, .nil, s => s
  | _, _, _, _, .cons r t, s => .cons r (Vals.append t s)
theorem Vals.take : ∀ {xs : List V} {us : List Value} (n : Nat), Vals xs us -> Vals (xs.take n) (us.take n)
  | _, _, 0, _ => .nil
  | _, _, _ + 1, .nil => .nil
  | _, _, n + 1, .cons r t => .cons r (Vals.take n t)
theorem Vals.drop : ∀ {xs : List V} {us : List Value} (n : Nat), Vals xs us -> Vals (xs.drop n) (us.drop n)
  | _, _, 0, r => r
  | _, _, _ + 1, .nil => .nil
  | _, _, n + 1, .cons _ t => Vals.drop n t
def RelO : Option V -> Option Value -> Prop
  | some v, some u => RelV v u
  | none, none => True
  | _, _ => False
def KV {κ : Type} : List (κ × V) -> List (κ × Value) -> Prop := Paired fun (p : κ × V) (q : κ × Value) => p.1 = q.1 /\ RelV p.2 q.2
def kV : Key -> V
  | .inl i => .int i
  | .inr x => .str x
inductive HO where
    | lst (xs : List V)
    | tup (xs : List V)
    | dK (kvs : List (Key × V)) | dT (kvs : List (List Key × V))
    | set (S : Int -> Bool) (n : Nat)
    | ins (C dx : Addr) (fs : List (Str × V))
    | own (x : Addr)
    | xd (fs : List (Str × V))
    | met (f x : Addr)
    | rng (lo hi : Int)
    | frz (o : Obj) (u : HO)
    | tbl (ps : Array Value)
    | ext (φ : Heap -> Prop)
abbrev Hp := Addr -> Option HO
def upd (H : Hp) (a : Addr) (o : HO) : Hp := fun b => if b = a then some o else H b
theorem upd_same {H : Hp} {a : Addr} {o : HO} : upd H a o a = some o := by unfold upd; rw [if_pos rfl]
theorem upd_ne {H : Hp} {a b : Addr} {o : HO} (h : b ≠ a) : upd H a o b = H b := by unfold upd; rw [if_neg h]
theorem upd_upd {H : Hp} {a : Addr} {o u : HO} : upd (upd H a o) a u = upd H a u := by
  funext b; unfold upd; split <;> rfl
theorem ne_of {H : Hp} {a b : Addr} {o u : HO} (h : H a = some o) (h' : H b = some u) (d : o ≠ u) : a ≠ b := by
  intro e; subst e; rw [h] at h'; exact d (Option.some.inj h')
theorem ne_of_none {H : Hp} {a b : Addr} {o : HO} (h : H a = some o) (h' : H b = none) : a ≠ b := by
  intro e; subst e; rw [h] at h'; cases h'
section
variable (P : Program) (w : World)
def ObjOk (H : Hp) (h : Heap) (a : Addr) : HO -> Prop
  | .lst xs => xs.length <= sizeLine /\ ∃ (its : List Value) (n : Nat), Vals xs its /\ h.get? a = some { cls := .type "list", data := .seq its.toArray n }
  | .tup xs => xs.length <= sizeLine /\ ∃ its : List Value, Vals xs its /\ IsTup h a its.toArray
  | .dK kvs => kvs.length <= sizeLine /\ (a == sysModules) = false /\ ∃ vs, KV kvs vs /\ h.DictOf (mixKind P w) a vs
  | .dT kvs => kvs.length <= sizeLine /\ (a == sysModules) = false /\ ∃ xs : List (List Key × Addr × Value),
      Paired (fun (p : List Key × V) (q : List Key × Addr × Value) => p.1 = q.1 /\ H q.2.1 = some (.tup (p.1.map kV)) /\ RelV p.2 q.2.2) kvs xs /\
      ∃ o es ep, h.get? a = some o /\ o.ExactDict /\ o.data = .dict es ep /\ es.toList = xs.map (entryOfKey (tupleKind (mixKind P w))) /\ (xs.map (·.1)).Nodup
  | .set S n => h.SetOf (intKind P w) a S n
  | .ins C dx fs => H dx = some (.own a) /\ fs.length <= 1000 /\ dx ≠ a /\ h.get? a = some (PySem.W.instObj C dx) /\
      ∃ mA, h.Ns1 dx mA /\ (∀ f, RelO (fs.lookup f) (mA f)) /\ PySem.Within mA (fs.map (·.1))
  | .own _ => ∃ o, h.get? a = some o
  | .xd fs => ∃ mA, h.Ns1 a mA /\ ∀ f, RelO (fs.lookup f) (mA f)
  | .rng lo hi => ∃ t u v, h.get? a = some { cls := .type "range", data := .fields #[.int lo t, .int hi u, .int 1 v] }
  | .frz o u => h.get? a = some o /\ ObjOk H h a u
  | .tbl ps => h.get? a = some { cls := .none, data := .fields ps }
  | .met f x => h.get? a = some (PySem.W.methodObj (.ref f) (.ref x))
  | .ext φ => φ h /\ (∃ o, h.get? a = some o) /\ ∀ h1 h2 : Heap, φ h1 -> (∀ o, h1.get? a = some o -> h2.get? a = some o) -> φ h2
def HOk (H : Hp) (h : Heap) : Prop := ∀ a o, H a = some o -> ObjOk P w H h a o
end
section
variable {P : Program} {w : World} {H H' : Hp} {h h' : Heap} {a : Addr} {o : HO}
theorem ObjOk.lt (x : ObjOk P w H h a o) : a < h.objs.size := by
  cases o with
  | lst xs => obtain ⟨_, _, _, _, e⟩ := x; exact Heap.lt_size e
  | tup xs => obtain ⟨_, _, _, p⟩ := x; exact p.lt
  | dK kvs => obtain ⟨_, _, _, _, o, _, _, e, _⟩ := x; exact Heap.lt_size e
  | dT kvs => obtain ⟨_, _, _, _, o, _, _, e, _⟩ := x; exact Heap.lt_size e
  | set S n => obtain ⟨o, _, _, _, e, _⟩ := x; exact Heap.lt_size e
  | ins C dx fs => obtain ⟨_, _, _, e, _⟩ := x; exact Heap.lt_size e
  | own y => obtain ⟨_, e⟩ := x; exact Heap.lt_size e
  | xd fs => obtain ⟨_, ⟨_, _, _, e, _⟩, _⟩ := x; exact Heap.lt_size e
  | rng lo hi => obtain ⟨_, _, _, e⟩ := x; exact Heap.lt_size e
  | frz ob u => obtain ⟨e, _⟩ := x; exact Heap.lt_size e
  | tbl ps => exact Heap.lt_size (show h.get? a = some _ from x)
  | met f y => exact Heap.lt_size (show h.get? a = some _ from x)
  | ext φ => obtain ⟨_, ⟨_, e⟩, _⟩ := x; exact Heap.lt_size e
theorem Paired.mapP {α β : Type} {F G : α -> β -> Prop} : ∀ {l₁ : List α} {l₂ : List β}, Paired F l₁ l₂ -> (∀ a b, F a b -> G a b) -> Paired G l₁ l₂
  | _, _, .nil, _ => .nil
  | _, _, .cons r t, f => .cons (f _ _ r) (Paired.mapP t f)
theorem ObjOk.stay (x : ObjOk P w H h a o) (k : ∀ b u, (b = a \/ H b = some (.own a)) -> h.get? b = some u -> h'.get? b = some u)
    (ho : ∀ b, H b = some (.own a) -> H' b = some (.own a)) (ht : ∀ b xs, H b = some (.tup xs) -> H' b = some (.tup xs)) : ObjOk P w H' h' a o := by
  induction o with
  | lst xs => obtain ⟨z, its, n, r, e⟩ := x; exact ⟨z, its, n, r, k _ _ (.inl rfl) e⟩
  | tup xs => obtain ⟨z, its, r, ob, e, c⟩ := x; exact ⟨z, its, r, ob, k _ _ (.inl rfl) e, c⟩
  | dK kvs => obtain ⟨z, y, vs, r, ob, es, ep, e, c⟩ := x; exact ⟨z, y, vs, r, ob, es, ep, k _ _ (.inl rfl) e, c⟩
  | dT kvs =>
    obtain ⟨z, y, xs, r, ob, es, ep, e, c⟩ := x
    exact ⟨z, y, xs, Paired.mapP r fun p q z => ⟨z.1, ht _ _ z.2.1, z.2.2⟩, ob, es, ep, k _ _ (.inl rfl) e, c⟩
  | set S n => obtain ⟨ob, es, ep, t, e, c⟩ := x; exact ⟨ob, es, ep, t, k _ _ (.inl rfl) e, c⟩
  | ins C dx fs =>
    obtain ⟨d, z, ne, e, mA, ⟨od, es, ep, e2, c⟩, r⟩ := x
    exact ⟨ho _ d, z, ne, k _ _ (.inl rfl) e, mA, ⟨od, es, ep, k _ _ (.inr d) e2, c⟩, r⟩
  | own y => obtain ⟨ob, e⟩ := x; exact ⟨ob, k _ _ (.inl rfl) e⟩
  | xd fs => obtain ⟨mA, ⟨od, es, ep, e, c⟩, r⟩ := x; exact ⟨mA, ⟨od, es, ep, k _ _ (.inl rfl) e, c⟩, r⟩
  | rng lo hi => obtain ⟨t, u, v, e⟩ := x; exact ⟨t, u, v, k _ _ (.inl rfl) e⟩
  | frz ob u ih => obtain ⟨e, q⟩ := x; exact ⟨k _ _ (.inl rfl) e, ih q⟩
  | tbl ps =>
    have e : h.get? a = some { cls := .none, data := .fields ps } := x
    show h'.get? a = some { cls := .none, data := .fields ps }
    exact k a _ (.inl rfl) e
  | met f y =>
    have e : h.get? a = some (PySem.W.methodObj (.ref f) (.ref y)) := x
    show h'.get? a = some (PySem.W.methodObj (.ref f) (.ref y))
    exact k a _ (.inl rfl) e
  | ext φ => obtain ⟨p, ⟨o, e⟩, st⟩ := x; exact ⟨st _ _ p fun o q => k _ _ (.inl rfl) q, ⟨o, k _ _ (.inl rfl) e⟩, st⟩
theorem HOk.lt (x : HOk P w H h) (e : H a = some o) : a < h.objs.size := (x a o e).lt
theorem HOk.fresh (x : HOk P w H h) (e : h.objs.size <= a) : H a = none := by
  cases q : H a with
  | none => rfl
  | some u => exact absurd (Nat.lt_of_lt_of_le (x.lt q) e) (Nat.lt_irrefl _)
theorem HOk.kept (x : HOk P w H h) (k : ∀ b u, h.get? b = some u -> h'.get? b = some u) : HOk P w H h' := fun a o e =>
  (x a o e).stay (fun b u _ q => k b u q) (fun _ q => q) fun _ _ q => q
theorem HOk.laid (x : HOk P w H h) (k : ∀ b u, h.get? b = some u -> h'.get? b = some u) (hp : h.objs.size <= a) (new : ObjOk P w (upd H a o) h' a o) : HOk P w (upd H a o) h' := fun b u e => by
  have hn := x.fresh hp
  by_cases hb : b = a
  · subst hb; rw [upd_same] at e; cases e; exact new
  · rw [upd_ne hb] at e
    exact (x b u e).stay (fun c v _ q => k c v q) (fun c q => by rw [upd_ne (ne_of_none q hn)]; exact q) fun c xs q => by rw [upd_ne (ne_of_none q hn)]; exact q
end
def Rd (H : Hp) (a : Addr) (u : HO) : Prop := H a = some u \/ ∃ o, H a = some (.frz o u)
theorem Rd.ok {P : Program} {w : World} {H : Hp} {h : Heap} {a : Addr} {u : HO} (r : Rd H a u) (x : HOk P w H h) : ObjOk P w H h a u := by
  rcases r with r | ⟨o, r⟩
  · exact x a u r
  · obtain ⟨_, q⟩ := x a _ r
    exact q
def Mut : Option HO -> Prop
  | some (.lst _) => True
  | some (.dK _) => True
  | some (.dT _) => True
  | some (.set _ _) => True
  | some (.ins _ _ _) => True
  | some (.ext _) => True
  | _ => False
section
variable {P : Program} {w : World} {H : Hp} {h h' : Heap} {x e : Addr} {o' : HO}
theorem HOk.write (ok : HOk P w H h) (mu : Mut (H x)) (he : e = x \/ H e = some (.own x)) (k : ∀ b u, b ≠ e -> h.get? b = some u -> h'.get? b = some u) (heo : ∃ u, h'.get? e = some u)
    (new : ObjOk P w (upd H x o') h' x o') : HOk P w (upd H x o') h' := fun b u q => by
  have nown : ∀ c y, H c = some (.own y) -> c ≠ x := fun c y r z => by subst z; rw [r] at mu; exact mu
  have ntup : ∀ c xs, H c = some (.tup xs) -> c ≠ x := fun c xs r z => by subst z; rw [r] at mu; exact mu
  by_cases hb : b = x
  · subst hb; rw [upd_same] at q; cases q; exact new
  · rw [upd_ne hb] at q
    by_cases hbe : b = e
    · have q' : H b = some (.own x) := by
        rcases he with z | z
        · exact absurd (hbe.trans z) hb
        · rw [hbe]; exact z
      rw [q] at q'; cases q'
      obtain ⟨v, hv⟩ := heo
      exact ⟨v, by rw [hbe]; exact hv⟩
    · refine (ok b u q).stay (fun c v hc r => k c v ?_ r) (fun c r => by rw [upd_ne (nown c b r)]; exact r) fun c xs r => by rw [upd_ne (ntup c xs r)]; exact r
      rcases hc with rfl | hc
      · exact hbe
      · rintro rfl
        rcases he with z | z
        · exact nown c b hc z
        · rw [hc] at z; cases z; exact hb rfl
end
structure Un (fs ex : List Addr) (H H' : Hp) (h h' : Heap) : Prop where
  keep : ∀ b o, h.get? b = some o -> H b = none -> b ∉ fs -> b ∉ ex -> h'.get? b = some o
  slot : ∀ b o, h.get? b = some o -> H b = none -> b ∈ fs -> b ∉ ex -> ∃ sl, h'.get? b = some { o with slots := sl }
  free : ∀ b o, h.get? b = some o -> H b = none -> b ∉ ex -> H' b = none
  there : ∀ b o, h.get? b = some o -> b ∉ ex -> ∃ o', h'.get? b = some o'
  tups : ∀ b xs, H b = some (.tup xs) -> H' b = some (.tup xs)
  frzs : ∀ b o u, H b = some (.frz o u) -> H' b = some (.frz o u)
  tbls : ∀ b ps, H b = some (.tbl ps) -> ∃ more, H' b = some (.tbl (ps ++ more))
section
variable {fs fs' ex ex' : List Addr} {H H1 H2 : Hp} {h h1 h2 h' : Heap} {a x e : Addr} {o : HO}
theorem Un.any (u : Un fs ex H H1 h h1) {b : Addr} {ob : Obj} (q : h.get? b = some ob) (n : H b = none) (hx : b ∉ ex) : ∃ sl, h1.get? b = some { ob with slots := sl } := by
  by_cases hb : b ∈ fs
  · exact u.slot b ob q n hb hx
  · exact ⟨ob.slots, u.keep b ob q n hb hx⟩
theorem Un.kept (k : ∀ b u, h.get? b = some u -> h'.get? b = some u) : Un fs ex H H h h' :=
  ⟨fun b ob q _ _ _ => k b ob q, fun b ob q _ _ _ => ⟨ob.slots, k b ob q⟩, fun _ _ _ n _ => n, fun b ob q _ => ⟨ob, k b ob q⟩, fun _ _ q => q, fun _ _ _ q => q, fun _ ps q => ⟨#[], by rw [q]; simp⟩⟩
theorem Un.refl : Un fs ex H H h h := Un.kept fun _ _ q => q
theorem Un.laid (k : ∀ b u, h.get? b = some u -> h'.get? b = some u) (hp : h.objs.size <= a) (hn : H a = none) : Un fs ex H (upd H a o) h h' where
  keep := fun b u q _ _ _ => k b u q
  slot := fun b u q _ _ _ => ⟨u.slots, k b u q⟩
  free := fun b u q n _ => by rw [upd_ne (Nat.ne_of_lt (Nat.lt_of_lt_of_le (Heap.lt_size q) hp))]; exact n
  there := fun b u q _ => ⟨u, k b u q⟩
  tups := fun b xs q => by rw [upd_ne (ne_of_none q hn)]; exact q
  frzs := fun b u xs q => by rw [upd_ne (ne_of_none q hn)]; exact q
  tbls := fun b ps q => ⟨#[], by rw [upd_ne (ne_of_none q hn), q]; simp⟩
theorem Un.write (mu : Mut (H x)) (he : e = x \/ H e = some (.own x)) (k : ∀ b u, b ≠ e -> h.get? b = some u -> h'.get? b = some u) (heo : ∃ u, h'.get? e = some u) : Un fs ex H (upd H x o) h h' := by
  have hx : ∀ b, H b = none -> b ≠ x := fun b n z => by subst z; rw [n] at mu; exact mu
  have hb : ∀ b, H b = none -> b ≠ e := fun b n z => by
    subst z
    rcases he with r | r
    · exact hx b n r
    · rw [n] at r; cases r
  have hm : ∀ b u, H b = some u -> ¬ Mut (some u) -> b ≠ x := fun b u q nm z => by subst z; rw [q] at mu; exact nm mu
  refine ⟨fun b u q n _ _ => k b u (hb b n) q, fun b u q n _ _ => ⟨u.slots, k b u (hb b n) q⟩, fun b u q n _ => by rw [upd_ne (hx b n)]; exact n, fun b u q _ => ?_,
    fun b xs q => by rw [upd_ne (hm b _ q fun z => z)]; exact q, fun b u xs q => by rw [upd_ne (hm b _ q fun z => z)]; exact q, fun b ps q => ⟨#[], by rw [upd_ne (hm b _ q fun z => z), q]; simp⟩⟩
  by_cases hbe : b = e
  · subst hbe; exact heo
  · exact ⟨u, k b u hbe q⟩
end
def trk (h : Heap) (H : Hp) : List Addr := (List.range h.objs.size).filter fun a => (H a).isSome
def hidT (h : Heap) (H : Hp) : Heap := PySem.W.hideAll h (trk h H)
theorem hidT_size (h : Heap) (H : Hp) : (hidT h H).objs.size = h.objs.size := PySem.W.hideAll_size _ _
theorem hidT_get {h : Heap} {H : Hp} {b : Addr} {o : Obj} (e : h.get? b = some o) (n : H b = none) : (hidT h H).get? b = some o :=
  PySem.W.hideAll_get _ e fun hm => by
    have q : (H b).isSome = true := (List.mem_filter.mp hm).2
    rw [n] at q; simp at q
theorem of_hidT {h : Heap} {H : Hp} {b : Addr} {o : Obj} (e : (hidT h H).get? b = some o) : h.get? b = some o /\ H b = none := by
  have e' : h.get? b = some o := PySem.W.of_hideAll (trk h H) e
  refine ⟨e', ?_⟩
  cases q : H b with
  | none => rfl
  | some x =>
    have hm : b ∈ trk h H := List.mem_filter.mpr ⟨List.mem_range.mpr (Heap.lt_size e'), by simp [q]⟩
    have z : (hidT h H).get? b = none := PySem.W.hideAll_none (trk h H) hm
    rw [z] at e; cases e
def allNews (g h : Heap) (L : Addr) : List (Addr × Obj) := (List.range h.objs.size).filterMap fun a => if a = L \/ (g.get? a).isSome = true then none else (h.get? a).map fun o => (a, o)
def rest (g h : Heap) (L d : Addr) : List (Addr × Obj) := (allNews g h L).filter fun p => decide (p.1 ≠ d)
end L2
namespace L2
open PySem PySem.Spec PyProof.Rows
structure Mod (K : PySem.W.Frag) (mg : Str -> Option Value) (base : Heap) : Prop where
  kin : K.In base
  glob : base.Ns mainGlobals mg
  blt : ∃ mb, base.Ns builtinsNs mb /\ ∀ x : Str, x ≠ "__name__" -> mb x = bootBuiltins x
  nolimit : base.NoLimit
structure Cx where
  prog : Program
  w : World
  K : PySem.W.Frag
  mg : Str -> Option Value
  base : Heap
  A : Around
  N : List Str
  s₀ : Shared
  H₀ : Hp
  env : Env
  outer : List Env
  stack : List Env
  ex : List Addr
  fn : Str -> Bool
  calm : Bool
  pn : List (Addr × Obj)
  xe : Value -> Shared -> Prop
def frs (l : List Env) : List Addr := l.filterMap (·.frame)
abbrev Cx.fs (X : Cx) : List Addr := frs X.outer
def Vis (sc : Scope) (x : Str) : Prop := sc.names.lookup x = some .local \/ sc.names.lookup x = some .cell \/ sc.names.lookup x = some .free
def Loc (sc : Scope) (x : Str) : Prop := sc.names.lookup x = some .local \/ sc.names.lookup x = some .cell
def Look (env : Env) (h : Heap) (m : Str -> Option Value) (x : Str) (u : Value) : Prop :=
  (env.kindOf x = some .local /\ m x = some u) \/ ((env.kindOf x = some .cell \/ env.kindOf x = some .free) /\ ∃ c, env.cells.lookup x = some c /\ h.IsCell c (some u))
structure Cx.Ok (X : Cx) : Prop where
  mod : Mod X.K X.mg X.base
  kind : X.env.scope.kind = .function
  glob : X.env.globals = mainGlobals
  blt : X.env.builtins = builtinsNs
  above : X.s₀.heap.objs.size <= X.env.locals
  inj : ∀ x y c, X.env.cells.lookup x = some c -> X.env.cells.lookup y = some c -> x = y
  has : ∀ x, (X.env.kindOf x = some .cell \/ X.env.kindOf x = some .free) -> ∃ c, X.env.cells.lookup x = some c
  cab : ∀ x c, X.fn x = true -> X.env.cells.lookup x = some c -> X.s₀.heap.objs.size <= c
  hd : X.calm = true -> X.A.handled = none
  frames : X.A.frames = some X.stack
  stk : X.stack = X.outer \/ (X.stack = X.env :: X.outer /\ X.env.frame = some X.env.locals)
  exf : ∀ b ∈ X.ex, b ≠ X.env.locals /\ ∀ x c, X.env.cells.lookup x = some c -> c ≠ b
  bs : ∀ b o, X.base.get? b = some o -> X.s₀.heap.get? b = some o /\ X.H₀ b = none
  bsz : X.base.objs.size <= X.s₀.heap.objs.size
  noex : ∀ b o, X.base.get? b = some o -> b ∉ X.ex
  exfs : ∀ b ∈ X.ex, b ∉ X.fs
  funs : X.s₀.heap.FunFrames X.base X.outer
  frf : ∀ b ∈ X.fs, X.H₀ b = none
structure Inv (X : Cx) (pins : List (Addr × Obj)) (σ : List (Option V)) (H : Hp) (s : Shared) : Prop where
  ok : X.Ok
  os : s.os = X.s₀.os
  bare : AllBare s.gens
  base : Un X.fs X.ex X.H₀ H X.s₀.heap s.heap
  loc : ∃ m, s.heap.Ns X.env.locals m /\ ∀ (i : Nat) (x : Str) (v : V), X.N[i]? = some x -> σ[i]? = some (some v) -> Vis X.env.scope x -> ∃ u, RelV v u /\ Look X.env s.heap m x u
  cell : ∀ x c, X.env.cells.lookup x = some c -> ∃ v, s.heap.IsCell c v
  free : H X.env.locals = none
  freeC : ∀ x c, X.env.cells.lookup x = some c -> H c = none
  pin : ∀ p ∈ X.pn ++ pins, s.heap.get? p.1 = some p.2 /\ H p.1 = none /\ p.1 ≠ X.env.locals /\ p.1 ∉ X.fs /\ ∀ v, p.2.data ≠ .cell v
  hok : HOk X.prog X.w H s.heap
  len : σ.length = X.N.length
section
variable {X : Cx} {pins : List (Addr × Obj)} {σ : List (Option V)} {H H' : Hp} {s : Shared} {h' : Heap}
theorem Cx.Ok.nofr (ok : X.Ok) {b : Addr} {o : Obj} (e : X.base.get? b = some o) : b ∉ X.fs := fun hb => by
  have := (ok.funs.mem hb).1
  rw [e] at this; cases this
theorem Inv.bs (I : Inv X pins σ H s) : ∀ b o, X.base.get? b = some o -> s.heap.get? b = some o /\ H b = none := fun b o e =>
  ⟨I.base.keep b o (I.ok.bs b o e).1 (I.ok.bs b o e).2 (I.ok.nofr e) (I.ok.noex b o e), I.base.free b o (I.ok.bs b o e).1 (I.ok.bs b o e).2 (I.ok.noex b o e)⟩
theorem Inv.bk (I : Inv X pins σ H s) : ∀ b o, X.base.get? b = some o -> s.heap.get? b = some o := fun b o e => (I.bs b o e).1
theorem Inv.mod (I : Inv X pins σ H s) : Mod X.K X.mg X.base := I.ok.mod
theorem Inv.kIn (I : Inv X pins σ H s) : X.K.In s.heap := I.ok.mod.kin.keeps I.bk
theorem Inv.lt (I : Inv X pins σ H s) : X.env.locals < s.heap.objs.size := let ⟨_, hn, _⟩ := I.loc; hn.lt
theorem Inv.sz (I : Inv X pins σ H s) : X.s₀.heap.objs.size <= s.heap.objs.size := Nat.le_trans I.ok.above (Nat.le_of_lt I.lt)
theorem Inv.nofs (I : Inv X pins σ H s) {a : Addr} (h : s.heap.objs.size <= a) : a ∉ X.fs := fun hb => by
  obtain ⟨_, o, ho, _⟩ := I.ok.funs.mem hb
  exact absurd (Nat.lt_of_lt_of_le (Heap.lt_size ho) (Nat.le_trans I.sz h)) (Nat.lt_irrefl _)
theorem Inv.cne (I : Inv X pins σ H s) : ∀ x c, X.env.cells.lookup x = some c -> c ≠ X.env.locals := fun x c e z => by
  obtain ⟨v, o, ho, hd⟩ := I.cell x c e
  obtain ⟨m, ⟨o', es, ep, ho', hd', _⟩, _⟩ := I.loc
  rw [z, ho'] at ho; cases ho; rw [hd'] at hd; cases hd
theorem Inv.funs (I : Inv X pins σ H s) : s.heap.FunFrames X.base X.outer := by
  have all : ∀ (l : List Env), (∀ b ∈ frs l, b ∈ X.fs) -> X.s₀.heap.FunFrames X.base l -> s.heap.FunFrames X.base l := by
    intro l
    induction l with
    | nil => intro _ _; trivial
    | cons env r ih =>
      intro hs hl
      obtain ⟨hk, ⟨L, o, hf, hn, ho, hd⟩, hr⟩ := hl
      have hL : L ∈ X.fs := hs L (by unfold frs; rw [List.filterMap_cons, hf]; exact List.mem_cons_self)
      obtain ⟨sl, e⟩ := I.base.slot L o ho (I.ok.frf L hL) hL fun z => I.ok.exfs L z hL
      exact ⟨hk, ⟨L, _, hf, hn, e, hd⟩, ih (fun b hb => hs b (by unfold frs; rw [List.filterMap_cons, hf]; exact List.mem_cons_of_mem _ hb)) hr⟩
  exact all X.outer (fun _ hb => hb) I.ok.funs
theorem Inv.stack (I : Inv X pins σ H s) : s.heap.FunFrames X.base X.stack := by
  rcases I.ok.stk with e | ⟨e, hf⟩
  · rw [e]; exact I.funs
  · rw [e]
    obtain ⟨m, hn, _⟩ := I.loc
    refine .cons (by rw [I.ok.kind]; decide) hf hn ?_ I.funs
    exact Heap.get?_none_of_le (Nat.le_trans I.ok.bsz I.ok.above)
theorem Inv.stkSub (I : Inv X pins σ H s) : ∀ b ∈ frs X.stack, b ∈ X.env.locals :: X.fs := fun b hb => by
  rcases I.ok.stk with e | ⟨e, hf⟩
  · rw [e] at hb; exact List.mem_cons_of_mem _ hb
  · rw [e] at hb
    unfold frs at hb
    rw [List.filterMap_cons, hf] at hb
    exact hb
theorem Inv.stkFree (I : Inv X pins σ H s) : ∀ b ∈ frs X.stack, H b = none := fun b hb => by
  rcases List.mem_cons.mp (I.stkSub b hb) with e | hb
  · rw [e]; exact I.free
  · obtain ⟨_, o, ho, _⟩ := I.ok.funs.mem hb
    exact I.base.free b o ho (I.ok.frf b hb) fun z => I.ok.exfs b z hb
theorem Inv.step {g' : Array GenState} {t' : Nat} {d' : Drawn} {ch : List Addr} (I : Inv X pins σ H s)
    (hch : ∀ b ∈ ch, (b ∈ X.ex \/ X.s₀.heap.objs.size <= b) /\ b ≠ X.env.locals /\ (∀ x c, X.env.cells.lookup x = some c -> c ≠ b) /\ ∀ p ∈ X.pn ++ pins, p.1 ≠ b)
    (keep : ∀ b o, b ≠ X.env.locals -> b ∉ X.fs -> b ∉ ch -> s.heap.get? b = some o -> H b = none -> h'.get? b = some o)
    (slot : ∀ b o, b ≠ X.env.locals -> b ∈ X.fs -> b ∉ ch -> s.heap.get? b = some o -> H b = none -> ∃ sl, h'.get? b = some { o with slots := sl }) (free : ∀ b o, b ∉ ch -> s.heap.get? b = some o -> H b = none -> H' b = none)
    (there : ∀ b o, b ∉ ch -> s.heap.get? b = some o -> ∃ o', h'.get? b = some o')
    (tups : ∀ b xs, H b = some (.tup xs) -> H' b = some (.tup xs)) (frzs : ∀ b o u, H b = some (.frz o u) -> H' b = some (.frz o u)) (tbls : ∀ b ps, H b = some (.tbl ps) -> ∃ more, H' b = some (.tbl (ps ++ more)))
    (ns : ∀ m, s.heap.Ns X.env.locals m -> h'.Ns X.env.locals m) (hok : HOk X.prog X.w H' h') (hg : AllBare g') :
    Inv X pins σ H' { s with heap := h', gens := g', drawn := d', toks := t' } := by
  have neL : ∀ b o, X.s₀.heap.get? b = some o -> b ≠ X.env.locals := fun b o e => Nat.ne_of_lt (Nat.lt_of_lt_of_le (Heap.lt_size e) I.ok.above)
  have neC : ∀ b o, X.s₀.heap.get? b = some o -> b ∉ X.ex -> b ∉ ch := fun b o e hx hb => by
    rcases (hch b hb).1 with z | z
    · exact hx z
    · exact absurd (Nat.lt_of_lt_of_le (Heap.lt_size e) z) (Nat.lt_irrefl _)
  have cellK : ∀ x c, X.env.cells.lookup x = some c -> ∀ v, s.heap.IsCell c v -> h'.IsCell c v := fun x c e v ⟨o, ho, hd⟩ => by
    have nch : c ∉ ch := fun z => (hch c z).2.2.1 x c e rfl
    by_cases hc : c ∈ X.fs
    · obtain ⟨sl, q⟩ := slot c o (I.cne x c e) hc nch ho (I.freeC x c e)
      exact ⟨_, q, hd⟩
    · exact ⟨o, keep c o (I.cne x c e) hc nch ho (I.freeC x c e), hd⟩
  refine ⟨I.ok, I.os, hg, ⟨fun b o e n hb hx => ?_, fun b o e n hb hx => ?_, fun b o e n hx => ?_, fun b o e hx => ?_, fun b xs e => tups b xs (I.base.tups b xs e), fun b o xs e => frzs b o xs (I.base.frzs b o xs e), fun b ps e => ?_⟩, ?_, fun x c e => ?_, ?_, fun x c e => ?_, fun p hp => ?_, hok, I.len⟩
  · exact keep b o (neL b o e) hb (neC b o e hx) (I.base.keep b o e n hb hx) (I.base.free b o e n hx)
  · obtain ⟨sl, e1⟩ := I.base.slot b o e n hb hx
    obtain ⟨sl', e2⟩ := slot b _ (neL b o e) hb (neC b o e hx) e1 (I.base.free b o e n hx)
    exact ⟨sl', e2⟩
  · obtain ⟨o', e1⟩ := I.base.there b o e hx
    exact free b o' (neC b o e hx) e1 (I.base.free b o e n hx)
  · obtain ⟨o', e1⟩ := I.base.there b o e hx
    exact there b o' (neC b o e hx) e1
  · obtain ⟨m1, e1⟩ := I.base.tbls b ps e
    obtain ⟨m2, e2⟩ := tbls b _ e1
    exact ⟨m1 ++ m2, by rw [e2, Array.append_assoc]⟩
  · obtain ⟨m, hn, hl⟩ := I.loc
    refine ⟨m, ns m hn, fun i x v e1 e2 e3 => ?_⟩
    obtain ⟨u, r, l⟩ := hl i x v e1 e2 e3
    refine ⟨u, r, ?_⟩
    rcases l with l | ⟨k, c, e, z⟩
    · exact .inl l
    · exact .inr ⟨k, c, e, cellK x c e _ z⟩
  · obtain ⟨v, z⟩ := I.cell x c e
    exact ⟨v, cellK x c e v z⟩
  · obtain ⟨m, ⟨o, _, _, ho, _⟩, _⟩ := I.loc
    exact free _ o (fun z => (hch _ z).2.1 rfl) ho I.free
  · obtain ⟨v, o, ho, hd⟩ := I.cell x c e
    exact free c o (fun z => (hch c z).2.2.1 x c e rfl) ho (I.freeC x c e)
  · obtain ⟨e, n, ne, nf, d⟩ := I.pin p hp
    have nch : p.1 ∉ ch := fun z => (hch p.1 z).2.2.2 p hp rfl
    exact ⟨keep p.1 p.2 ne nf nch e n, free p.1 p.2 nch e n, ne, nf, d⟩
theorem Inv.un {t' : Nat} (I : Inv X pins σ H s) (u : Un X.fs [] H H' s.heap h') (hok : HOk X.prog X.w H' h') : Inv X pins σ H' { s with heap := h', toks := t' } := by
  obtain ⟨m, ⟨o, es, ep, ho, r⟩, _⟩ := id I.loc
  obtain ⟨sl, hL⟩ := u.any ho I.free (by simp)
  exact I.step (g' := s.gens) (d' := s.drawn) (ch := []) (fun _ z => nomatch z) (fun b o _ hb _ e n => u.keep b o e n hb (by simp)) (fun b o _ hb _ e n => u.slot b o e n hb (by simp)) (fun b o _ e n => u.free b o e n (by simp)) (fun b o _ e => u.there b o e (by simp)) u.tups u.frzs u.tbls (fun m' hm => by
    obtain ⟨o', es', ep', ho', r'⟩ := hm
    rw [ho] at ho'; cases ho'
    exact ⟨_, es', ep', hL, r'⟩) hok I.bare
theorem Inv.call {g' : Array GenState} {t' : Nat} {d' : Drawn} {ch : List Addr} (I : Inv X pins σ H s) (u : Un (frs X.stack) ch H H' s.heap h') (hok : HOk X.prog X.w H' h') (hg : AllBare g')
    (hch : ∀ b ∈ ch, (b ∈ X.ex \/ X.s₀.heap.objs.size <= b) /\ b ≠ X.env.locals /\ (∀ x c, X.env.cells.lookup x = some c -> c ≠ b) /\ ∀ p ∈ X.pn ++ pins, p.1 ≠ b) :
    Inv X pins σ H' { s with heap := h', gens := g', drawn := d', toks := t' } := by
  obtain ⟨m, ⟨o, es, ep, ho, r⟩, _⟩ := id I.loc
  obtain ⟨sl, hL⟩ := u.any ho I.free fun z => (hch _ z).2.1 rfl
  exact I.step (ch := ch) hch (fun b o hL hb hc e n => u.keep b o e n (fun z => (List.mem_cons.mp (I.stkSub b z)).elim hL hb) hc) (fun b o _ _ hc e n => u.any e n hc) (fun b o hc e n => u.free b o e n hc) (fun b o hc e => u.there b o e hc) u.tups u.frzs u.tbls (fun m' hm => by
    obtain ⟨o', es', ep', ho', r'⟩ := hm
    rw [ho] at ho'; cases ho'
    exact ⟨_, es', ep', hL, r'⟩) hok hg
theorem Inv.turned {t' : Nat} {it : Addr} (I : Inv X pins σ H s) (k : ∀ b o, b ≠ it -> s.heap.get? b = some o -> h'.get? b = some o) (hn : H it = none) (hL : it ≠ X.env.locals)
    (h1 : it ∈ X.ex \/ X.s₀.heap.objs.size <= it) (h2 : ∀ x c, X.env.cells.lookup x = some c -> c ≠ it) (h3 : ∀ p ∈ X.pn ++ pins, p.1 ≠ it) : Inv X pins σ H { s with heap := h', toks := t' } := by
  have nit : ∀ b u, H b = some u -> b ≠ it := fun b u e z => by rw [z, hn] at e; cases e
  refine I.step (g' := s.gens) (d' := s.drawn) (ch := [it]) (fun b hb => ?_) (fun b o _ _ hc e _ => k b o (fun z => hc (by simp [z])) e) (fun b o _ _ hc e _ => ⟨o.slots, k b o (fun z => hc (by simp [z])) e⟩) (fun _ _ _ _ n => n)
    (fun b o hc e => ⟨o, k b o (fun z => hc (by simp [z])) e⟩) (fun _ _ e => e) (fun _ _ _ e => e) (fun b ps e => ⟨#[], by rw [e]; simp⟩) (fun m hm => ?_) (fun b u e => ?_) I.bare
  · have e : b = it := by simpa using hb
    subst e
    exact ⟨h1, hL, h2, h3⟩
  · obtain ⟨o, es, ep, ho, r⟩ := hm
    exact ⟨o, es, ep, k _ o (Ne.symm hL) ho, r⟩
  · refine (I.hok b u e).stay (fun c v hc q => k c v ?_ q) (fun _ q => q) fun _ _ q => q
    rcases hc with z | z
    · rw [z]; exact nit b u e
    · exact nit c _ z
theorem Inv.tok (I : Inv X pins σ H s) (t : Nat) : Inv X pins σ H { s with toks := t } := I.un (h' := s.heap) (t' := t) Un.refl I.hok
theorem Inv.kept {t' : Nat} (I : Inv X pins σ H s) (k : ∀ b u, s.heap.get? b = some u -> h'.get? b = some u) : Inv X pins σ H { s with heap := h', toks := t' } := I.un (Un.kept k) (I.hok.kept k)
theorem Inv.laid {a : Addr} {o : HO} {t' : Nat} (I : Inv X pins σ H s) (k : ∀ b u, s.heap.get? b = some u -> h'.get? b = some u) (hp : s.heap.objs.size <= a) (new : ObjOk X.prog X.w (upd H a o) h' a o) :
    Inv X pins σ (upd H a o) { s with heap := h', toks := t' } := I.un (Un.laid k hp (I.hok.fresh hp)) (I.hok.laid k hp new)
theorem Inv.write {x e : Addr} {o : HO} {t' : Nat} (I : Inv X pins σ H s) (mu : Mut (H x)) (he : e = x \/ H e = some (.own x)) (k : ∀ b u, b ≠ e -> s.heap.get? b = some u -> h'.get? b = some u) (heo : ∃ u, h'.get? e = some u)
    (new : ObjOk X.prog X.w (upd H x o) h' x o) : Inv X pins σ (upd H x o) { s with heap := h', toks := t' } := I.un (Un.write mu he k heo) (I.hok.write mu he k heo new)
theorem Inv.pins_of {pins' : List (Addr × Obj)} (I : Inv X pins σ H s) (h : ∀ p ∈ pins', s.heap.get? p.1 = some p.2 /\ H p.1 = none /\ p.1 ≠ X.env.locals /\ p.1 ∉ X.fs /\ ∀ v, p.2.data ≠ .cell v) : Inv X pins' σ H s :=
  ⟨I.ok, I.os, I.bare, I.base, I.loc, I.cell, I.free, I.freeC, fun p hp => (List.mem_append.mp hp).elim (fun z => I.pin p (List.mem_append_left _ z)) (h p), I.hok, I.len⟩
theorem nodup_ix {N : List Str} (hN : N.Nodup) {i j : Nat} {x : Str} (a : N[i]? = some x) (b : N[j]? = some x) : i = j := by
  obtain ⟨h1, e1⟩ := List.getElem?_eq_some_iff.mp a
  obtain ⟨h2, e2⟩ := List.getElem?_eq_some_iff.mp b
  exact (List.getElem_inj hN).mp (e1.trans e2.symm)
theorem store_ok2 {M : Model} {A : Around} {E : Value -> Shared -> Prop} {i : Nat} {x : Str} {v : V} {u : Value} {Q : Unit -> Shared -> Prop} (I : Inv X pins σ H s) (hN : X.N.Nodup) (hi : X.N[i]? = some x) (hx : Loc X.env.scope x) (r : RelV v u)
    (h : ∀ s', Inv X pins (σ.set i (some v)) H s' -> (∃ a, Heap.SameBut a s.heap s'.heap /\ (a = X.env.locals \/ X.env.cells.lookup x = some a)) -> Q () s') (hf : X.fn x = true \/ X.env.scope.names.lookup x = some .local := by first | exact .inl rfl | exact .inr rfl | assumption) : wpAny M A (storeName X.env x u) Q E s := by
  obtain ⟨m, hn, hl⟩ := id I.loc
  have hcls : (X.env.scope.kind == .class || (X.env.scope.kind == .module && X.env.locals != X.env.globals)) = false := by rw [I.ok.kind]; rfl
  have hiσ : i < σ.length := by rw [I.len]; exact (List.getElem?_eq_some_iff.mp hi).1
  have cne := I.cne
  have tracked : ∀ {a : Addr} {h' : Heap}, (∃ o, s.heap.get? a = some o /\ H a = none) -> Heap.SameBut a s.heap h' -> HOk X.prog X.w H h' := fun {a h'} ha hs b ob e => by
    obtain ⟨_, _, hfree⟩ := ha
    refine (I.hok b ob e).stay (fun c w' hc q => (hs.2 c ?_).trans q) (fun _ q => q) fun _ _ q => q
    rintro rfl
    rcases hc with rfl | hc
    · rw [hfree] at e; cases e
    · rw [hfree] at hc; cases hc
  rcases hx with hk | hk
  · refine wpAny_storeName_local hk hn (fun h' hn' hs => ?_) hcls
    obtain ⟨oL, _, _, hoL, _⟩ := id hn
    refine h _ ⟨I.ok, I.os, I.bare, ⟨fun b o e n hb hx => ?_, fun b o e n hb hx => ?_, I.base.free, fun b o e hx => ?_, I.base.tups, I.base.frzs, I.base.tbls⟩, ⟨_, hn', fun j y v' e1 e2 e3 => ?_⟩, fun y c e => ?_, I.free, I.freeC, fun p hp => ?_, tracked ⟨oL, hoL, I.free⟩ hs, by simpa using I.len⟩ ⟨_, hs, .inl rfl⟩
    · exact (hs.2 b (Nat.ne_of_lt (Nat.lt_of_lt_of_le (Heap.lt_size e) I.ok.above))).trans (I.base.keep b o e n hb hx)
    · obtain ⟨sl, e1⟩ := I.base.slot b o e n hb hx
      exact ⟨sl, (hs.2 b (Nat.ne_of_lt (Nat.lt_of_lt_of_le (Heap.lt_size e) I.ok.above))).trans e1⟩
    · obtain ⟨o', e1⟩ := I.base.there b o e hx
      exact ⟨o', (hs.2 b (Nat.ne_of_lt (Nat.lt_of_lt_of_le (Heap.lt_size e) I.ok.above))).trans e1⟩
    · by_cases hj : j = i
      · subst hj
        rw [hi] at e1; cases e1
        rw [List.getElem?_set_self hiσ] at e2
        cases e2
        exact ⟨u, r, .inl ⟨hk, by simp⟩⟩
      · rw [List.getElem?_set_ne (Ne.symm hj)] at e2
        obtain ⟨u', r', q⟩ := hl j y v' e1 e2 e3
        refine ⟨u', r', ?_⟩
        rcases q with ⟨k, e⟩ | ⟨k, c, e, z⟩
        · refine .inl ⟨k, ?_⟩
          have : y ≠ x := fun e => hj (nodup_ix hN e1 (e ▸ hi))
          simp [this, e]
        · exact .inr ⟨k, c, e, z.sameBut hs (cne y c e)⟩
    · obtain ⟨w', z⟩ := I.cell y c e
      exact ⟨w', z.sameBut hs (cne y c e)⟩
    · obtain ⟨e, n, ne, nf, d⟩ := I.pin p hp
      exact ⟨(hs.2 p.1 ne).trans e, n, ne, nf, d⟩
  · have hfn : X.fn x = true := by
      rcases hf with z | z
      · exact z
      · rw [z] at hk; cases hk
    obtain ⟨c, hc⟩ := I.ok.has x (.inl hk)
    obtain ⟨w', z⟩ := I.cell x c hc
    refine wpAny_storeName_cell I.ok.kind hk hc z (fun h' hc' hs => ?_)
    obtain ⟨oc, hoc, hocd⟩ := id z
    refine h { s with heap := h' } ⟨I.ok, I.os, I.bare, ⟨fun b o e n hb hx => ?_, fun b o e n hb hx => ?_, I.base.free, fun b o e hx => ?_, I.base.tups, I.base.frzs, I.base.tbls⟩, ⟨m, hn.sameBut hs (Ne.symm (cne x c hc)), fun j y v' e1 e2 e3 => ?_⟩, fun y c' e => ?_, I.free, I.freeC, fun p hp => ?_, tracked ⟨oc, hoc, I.freeC x c hc⟩ hs, by simpa using I.len⟩ ⟨c, hs, .inr hc⟩
    · exact (hs.2 b (Nat.ne_of_lt (Nat.lt_of_lt_of_le (Heap.lt_size e) (I.ok.cab x c hfn hc)))).trans (I.base.keep b o e n hb hx)
    · obtain ⟨sl, e1⟩ := I.base.slot b o e n hb hx
      exact ⟨sl, (hs.2 b (Nat.ne_of_lt (Nat.lt_of_lt_of_le (Heap.lt_size e) (I.ok.cab x c hfn hc)))).trans e1⟩
    · obtain ⟨o', e1⟩ := I.base.there b o e hx
      exact ⟨o', (hs.2 b (Nat.ne_of_lt (Nat.lt_of_lt_of_le (Heap.lt_size e) (I.ok.cab x c hfn hc)))).trans e1⟩
    · by_cases hj : j = i
      · subst hj
        rw [hi] at e1; cases e1
        rw [List.getElem?_set_self hiσ] at e2
        cases e2
        exact ⟨u, r, .inr ⟨.inl hk, c, hc, hc'⟩⟩
      · rw [List.getElem?_set_ne (Ne.symm hj)] at e2
        obtain ⟨u', r', q⟩ := hl j y v' e1 e2 e3
        refine ⟨u', r', ?_⟩
        rcases q with q | ⟨k, c', e, z'⟩
        · exact .inl q
        · refine .inr ⟨k, c', e, z'.sameBut hs ?_⟩
          rintro rfl
          exact hj (nodup_ix hN e1 (I.ok.inj _ _ _ e hc ▸ hi))
    · by_cases hcc : c' = c
      · subst hcc; exact ⟨_, hc'⟩
      · obtain ⟨w2, z2⟩ := I.cell y c' e
        exact ⟨w2, z2.sameBut hs hcc⟩
    · obtain ⟨e, n, ne, nf, d⟩ := I.pin p hp
      refine ⟨(hs.2 p.1 ?_).trans e, n, ne, nf, d⟩
      intro q
      rw [q, hoc] at e
      have q' : oc = p.2 := Option.some.inj e
      exact d w' (by rw [<- q']; exact hocd)
theorem store_ok {M : Model} {A : Around} {E : Value -> Shared -> Prop} {i : Nat} {x : Str} {v : V} {u : Value} {Q : Unit -> Shared -> Prop} (I : Inv X pins σ H s) (hN : X.N.Nodup) (hi : X.N[i]? = some x) (hx : Loc X.env.scope x) (r : RelV v u)
    (h : ∀ s', Inv X pins (σ.set i (some v)) H s' -> Q () s') (hf : X.fn x = true \/ X.env.scope.names.lookup x = some .local := by first | exact .inl rfl | exact .inr rfl | assumption) : wpAny M A (storeName X.env x u) Q E s :=
  store_ok2 I hN hi hx r (fun s' I' _ => h s' I') hf
theorem Inv.call' {s' : Shared} {ch : List Addr} (I : Inv X pins σ H s) (ho : s'.os = s.os) (u : Un (frs X.stack) ch H H' s.heap s'.heap) (hok : HOk X.prog X.w H' s'.heap) (hg : AllBare s'.gens)
    (hch : ∀ b ∈ ch, (b ∈ X.ex \/ X.s₀.heap.objs.size <= b) /\ b ≠ X.env.locals /\ (∀ x c, X.env.cells.lookup x = some c -> c ≠ b) /\ ∀ p ∈ X.pn ++ pins, p.1 ≠ b) : Inv X pins σ H' s' := by
  obtain ⟨h', g', d', t', o'⟩ := s'
  have e : o' = s.os := ho
  subst e
  exact I.call (g' := g') (t' := t') (d' := d') u hok hg hch
end
abbrev XK := Value -> Option Addr -> Hp -> Prop
abbrev St := List (Option V)
abbrev VK := V -> Hp -> Prop
abbrev TE := St -> Hp -> VK -> Prop
abbrev TT := St -> Hp -> (Bool -> Hp -> Prop) -> Prop
abbrev TA := St -> Hp -> (List V -> Hp -> Prop) -> Prop
structure Ends where
  nx : St -> Hp -> Prop
  rt : VK
  bk : St -> Hp -> Prop := fun _ _ => False
  ct : St -> Hp -> Prop := fun _ _ => False
abbrev TS := Ends -> St -> Hp -> Prop
def EP (X : Cx) (pins : List (Addr × Obj)) (σ : St) (Q : VK) (u : Value) (s' : Shared) : Prop := ∃ v H', Inv X pins σ H' s' /\ RelV v u /\ Q v H'
def TP (X : Cx) (pins : List (Addr × Obj)) (σ : St) (Q : Bool -> Hp -> Prop) (b : Bool) (s' : Shared) : Prop := ∃ H', Inv X pins σ H' s' /\ Q b H'
def AP (X : Cx) (pins : List (Addr × Obj)) (σ : St) (Q : List V -> Hp -> Prop) (us : List Value) (s' : Shared) : Prop := ∃ vs H', Inv X pins σ H' s' /\ Vals vs us /\ Q vs H'
def SP (X : Cx) (pins : List (Addr × Obj)) (D : Ends) (f : Flow) (s' : Shared) : Prop :=
  match f with
  | .next => ∃ σ' H', Inv X pins σ' H' s' /\ D.nx σ' H'
  | .brk => ∃ σ' H', Inv X pins σ' H' s' /\ D.bk σ' H'
  | .cont => ∃ σ' H', Inv X pins σ' H' s' /\ D.ct σ' H'
  | .ret u => ∃ v σ' H', Inv X pins σ' H' s' /\ RelV v u /\ D.rt v H'
def PE (X : Cx) (e : Expr) (t : TE) : Prop :=
  ∀ (pins : List (Addr × Obj)) (s : Shared) (σ : St) (H : Hp) (Q : VK), Inv X pins σ H s -> t σ H Q -> wpAny (model X.prog X.w) X.A (eval e X.env) (EP X pins σ Q) X.xe s
def PT (X : Cx) (e : Expr) (t : TT) : Prop :=
  ∀ (pins : List (Addr × Obj)) (s : Shared) (σ : St) (H : Hp) (Q : Bool -> Hp -> Prop), Inv X pins σ H s -> t σ H Q -> wpAny (model X.prog X.w) X.A (isTrue e X.env (eval e X.env)) (TP X pins σ Q) X.xe s
def PW (X : Cx) (e : Expr) (t : TT) : Prop :=
  ∀ (whole : Sem Value) (pins : List (Addr × Obj)) (s : Shared) (σ : St) (H : Hp) (Q : Bool -> Hp -> Prop), Inv X pins σ H s -> t σ H Q -> wpAny (model X.prog X.w) X.A (isTrue e X.env whole) (TP X pins σ Q) X.xe s
theorem PW.pt {X : Cx} {e : Expr} {t : TT} (h : PW X e t) : PT X e t := h _
def PA (X : Cx) (es : List Expr) (t : TA) : Prop :=
  ∀ (pos : Pos) (pins : List (Addr × Obj)) (s : Shared) (σ : St) (H : Hp) (Q : List V -> Hp -> Prop), Inv X pins σ H s -> t σ H Q -> wpAny (model X.prog X.w) X.A (spliced (backTo pos (starEach es X.env))) (AP X pins σ Q) X.xe s
def PS (X : Cx) (st : Stmt) (t : TS) : Prop :=
  ∀ (pins : List (Addr × Obj)) (s : Shared) (σ : St) (H : Hp) (D : Ends), Inv X pins σ H s -> t D σ H -> wpAny (model X.prog X.w) X.A (exec st X.env) (SP X pins D) X.xe s
def PSs (X : Cx) (st : List Stmt) (t : TS) : Prop :=
  ∀ (pins : List (Addr × Obj)) (s : Shared) (σ : St) (H : Hp) (D : Ends), Inv X pins σ H s -> t D σ H -> wpAny (model X.prog X.w) X.A (execs st X.env) (SP X pins D) X.xe s
theorem thn {α : Type} {t : Sem α} {Q Q' : α -> Shared -> Prop} {M : Model} {A : Around} {E : Value -> Shared -> Prop} {s : Shared} (h : wpAny M A t Q E s) (hQ : ∀ a s, Q a s -> Q' a s) : wpAny M A t Q' E s := wpAny_mono h hQ fun _ _ x => x
end L2
namespace L2
open PySem PySem.Spec PyProof.Rows
section
variable {X : Cx}
def tVar (i : Nat) : TE := fun σ H Q => ∃ v, σ[i]? = some (some v) /\ Q v H
def tC (v : V) : TE := fun _ H Q => Q v H
theorem pe_var {i : Nat} {x : Str} {pos : Pos} (hN : X.N[i]? = some x) (hv : Vis X.env.scope x) (hd : (x == ("__debug__" : Str)) = false := by decide) (hcd : (x == ("__classdict__" : Str)) = false := by decide) : PE X (.Name x pos) (tVar i) := by
  intro pins s σ H Q I h
  obtain ⟨v, e, h⟩ := h
  obtain ⟨m, hn, hl⟩ := I.loc
  obtain ⟨u, r, l⟩ := hl i x v hN e hv
  have fin : EP X pins σ Q u s := ⟨v, H, I, r, h⟩
  rcases l with ⟨hk, hm⟩ | ⟨hk, c, hc, hcell⟩
  · exact wpAny_Name (wpAny_loadName_local I.ok.kind hk hn hm fin) hd
  · rcases hk with hk | hk
    · exact wpAny_Name (wpAny_loadName_cell I.ok.kind hk hc hcell fin) hd
    · exact wpAny_Name (wpAny_loadName_free I.ok.kind hk hc hcell fin hcd) hd
theorem pe_int {i j pos} : PE X (.Constant (.int i) j pos) (tC (.int i)) := fun _ _ _ H _ I h => wpAny_Constant_int ⟨.int i, H, I.tok _, ⟨_, rfl⟩, h⟩
theorem pe_bl {b j pos} : PE X (.Constant (.bool b) j pos) (tC (.bl b)) := fun _ _ _ H _ I h => Constant_bool ⟨.bl b, H, I, rfl, h⟩
theorem pe_non {j pos} : PE X (.Constant .none j pos) (tC .non) := fun _ _ _ H _ I h => Constant_none ⟨.non, H, I, rfl, h⟩
theorem pe_str {x j pos} : PE X (.Constant (.str x) j pos) (tC (.str x)) := fun _ _ _ H _ I h => Calls.Constant_str ⟨.str x, H, I.tok _, ⟨_, rfl⟩, h⟩
def Gl (X : Cx) (x : Str) : Prop := X.env.kindOf x = some .globalImplicit
theorem ld_glob {E : Value -> Shared -> Prop} {pins : List (Addr × Obj)} {s : Shared} {σ : St} {H : Hp} {x : Str} {u : Value} {pos : Pos} {Q : Value -> Shared -> Prop} (I : Inv X pins σ H s) (hg : Gl X x) (hm : X.mg x = some u) (h : Q u s)
    (hd : (x == ("__debug__" : Str)) = false := by decide) : wpAny (model X.prog X.w) X.A (eval (.Name x pos) X.env) Q E s :=
  Calls.Name_function_global I.ok.kind hg (Calls.loadGlobal_global (by rw [I.ok.glob]; exact I.mod.glob.keeps I.bk) hm h) hd
theorem ld_blt {E : Value -> Shared -> Prop} {pins : List (Addr × Obj)} {s : Shared} {σ : St} {H : Hp} {x : Str} {u : Value} {pos : Pos} {Q : Value -> Shared -> Prop} (I : Inv X pins σ H s) (hg : Gl X x) (hm : X.mg x = none) (hv : bootBuiltins x = some u) (h : Q u s)
    (hn : x ≠ "__name__" := by decide) (hd : (x == ("__debug__" : Str)) = false := by decide) : wpAny (model X.prog X.w) X.A (eval (.Name x pos) X.env) Q E s := by
  obtain ⟨mb, h1, h2⟩ := I.mod.blt
  exact Calls.Name_function_global I.ok.kind hg (Calls.loadGlobal_builtin (by rw [I.ok.glob]; exact I.mod.glob.keeps I.bk) hm (by rw [I.ok.blt]; exact h1.keeps I.bk) ((h2 x hn).trans hv) h) hd
theorem pe_bltn {x : Str} {v : V} {u : Value} {pos : Pos} (hg : Gl X x) (hm : X.mg x = none) (hv : bootBuiltins x = some u) (r : RelV v u) (hn : x ≠ "__name__" := by decide) (hd : (x == ("__debug__" : Str)) = false := by decide) : PE X (.Name x pos) (tC v) :=
  fun _ _ _ H _ I h => ld_blt I hg hm hv ⟨v, H, I, r, h⟩ hn hd
variable {a b : Expr} {ta tb : TE} {pos : Pos}
def PC (X : Cx) (op : CmpOp) (a b : Expr) (t : TE) : Prop :=
  ∀ (pins : List (Addr × Obj)) (s : Shared) (σ : St) (H : Hp) (Q : VK), Inv X pins σ H s -> t σ H Q ->
    wpAny (model X.prog X.w) X.A (eval a X.env) (fun v s₁ => wpAny (model X.prog X.w) X.A (eval b X.env) (fun u s₂ => wpAny (model X.prog X.w) X.A (compareOp op v u) (EP X pins σ Q) X.xe s₂) X.xe s₁) X.xe s
theorem nobehind (b : Expr) {op : CmpOp} (h : op ≠ .In) (h2 : op ≠ .NotIn) : behindInMarks op b = false := by
  have e1 : (op == CmpOp.In) = false := by cases op <;> first | rfl | exact absurd rfl h
  have e2 : (op == CmpOp.NotIn) = false := by cases op <;> first | rfl | exact absurd rfl h2
  cases b <;> simp [behindInMarks, e1, e2]
def tB (t : TE) : TT := fun σ H Q => t σ H fun x H1 => ∃ c, x = .bl c /\ Q c H1
theorem pe_cmp {op : CmpOp} {t : TE} (h : PC X op a b t) (h1 : behindInMarks op b = false := by first | exact nobehind _ (by decide) (by decide) | rfl) : PE X (.Compare a [op] [b] pos) t := fun pins s σ H Q I hw => wpAny_Compare1 (h pins s σ H Q I hw) h1
theorem pt_cmp {op : CmpOp} {t : TE} (h : PC X op a b t) (h1 : behindInMarks op b = false := by first | exact nobehind _ (by decide) (by decide) | rfl) : PT X (.Compare a [op] [b] pos) (tB t) := by
  intro pins s σ H Q I hw
  refine wpAny_isTrue_Compare1 (thn (h pins s σ H _ I hw) fun v s1 h1 => thn h1 fun u s2 h2 => thn h2 fun c s3 ⟨x, H1, I1, r1, q1⟩ => ?_) h1
  obtain ⟨d, rfl, q⟩ := q1
  cases r1
  exact wpAny_truthy_bool ⟨H1, I1, q⟩
theorem pt_val {e : Expr} {t : TE} (h : PE X e t) (he : ∀ whole, isTrue e X.env whole = (do let v <- whole; standAt e.pos; holding [v] (truthy v)) := by intro _; rfl) : PT X e (tB t) := by
  intro pins s σ H Q I hw
  refine isTrue_plain (thn (h pins s σ H _ I hw) fun v s1 ⟨x, H1, I1, r1, q1⟩ => ?_) (he _)
  obtain ⟨d, rfl, q⟩ := q1
  cases r1
  exact wpAny_truthy_bool ⟨H1, I1, q⟩
variable {tA tB' : TT} {rest : List Expr}
def tAnd (t u : TT) : TT := fun σ H Q => t σ H fun c H1 => if c = true then u σ H1 Q else Q false H1
def tOr (t u : TT) : TT := fun σ H Q => t σ H fun c H1 => if c = true then Q true H1 else u σ H1 Q
def tNot (t : TT) : TT := fun σ H Q => t σ H fun c H1 => Q (!c) H1
theorem pw_and1 (ha : PT X a tA) : PW X (.BoolOp .And [a] pos) tA := by
  intro wh pins s σ H Q I h
  refine isTrue_and (thn (ha pins s σ H Q I h) fun c s1 e => ?_)
  cases c with
  | true => exact isTrue_and_nil e
  | false => exact e
theorem pw_or1 (ha : PT X a tA) : PW X (.BoolOp .Or [a] pos) tA := by
  intro wh pins s σ H Q I h
  refine isTrue_or (thn (ha pins s σ H Q I h) fun c s1 e => ?_)
  cases c with
  | false => exact isTrue_or_nil e
  | true => exact e
theorem pw_and (ha : PT X a tA) (hb : PW X (.BoolOp .And (b :: rest) pos) tB') : PW X (.BoolOp .And (a :: b :: rest) pos) (tAnd tA tB') := by
  intro wh pins s σ H Q I h
  refine isTrue_and (thn (ha pins s σ H _ I h) fun c s1 ⟨H1, I1, q1⟩ => ?_)
  cases c with
  | true => exact hb wh pins s1 σ H1 Q I1 q1
  | false => exact ⟨H1, I1, q1⟩
theorem pw_or (ha : PT X a tA) (hb : PW X (.BoolOp .Or (b :: rest) pos) tB') : PW X (.BoolOp .Or (a :: b :: rest) pos) (tOr tA tB') := by
  intro wh pins s σ H Q I h
  refine isTrue_or (thn (ha pins s σ H _ I h) fun c s1 ⟨H1, I1, q1⟩ => ?_)
  cases c with
  | true => exact ⟨H1, I1, q1⟩
  | false => exact hb wh pins s1 σ H1 Q I1 q1
theorem pt_not (ha : PT X a tA) : PT X (.UnaryOp .Not a pos) (tNot tA) := by
  intro pins s σ H Q I h
  exact isTrue_not (ha pins s σ H (fun c H1 => Q (!c) H1) I h)
def tAndV (ta tb : TE) : TE := fun σ H Q => ta σ H fun x H1 => ∃ c, x = .bl c /\ if c = true then tb σ H1 Q else Q (.bl false) H1
def tNotV (ta : TE) : TE := fun σ H Q => ta σ H fun x H1 => ∃ c, x = .bl c /\ Q (.bl (!c)) H1
theorem pe_one {op} {t : TE} (h : PE X a t) : PE X (.BoolOp op [a] pos) t := fun pins s σ H Q I hw => BoolOp_one (h pins s σ H Q I hw)
theorem pe_and (ha : PE X a ta) (hb : PE X (.BoolOp .And (b :: rest) pos) tb) : PE X (.BoolOp .And (a :: b :: rest) pos) (tAndV ta tb) := by
  intro pins s σ H Q I h
  refine BoolOp_and (thn (ha pins s σ H _ I h) fun v s1 ⟨x, H1, I1, r1, q1⟩ => ?_)
  obtain ⟨c, rfl, q1⟩ := q1
  cases r1
  refine wpAny_truthy_bool ?_
  cases c with
  | true => exact hb pins s1 σ H1 Q I1 q1
  | false => exact ⟨.bl false, H1, I1, rfl, q1⟩
theorem pe_not (ha : PE X a ta) : PE X (.UnaryOp .Not a pos) (tNotV ta) := by
  intro pins s σ H Q I h
  refine UnaryOp_ (thn (ha pins s σ H _ I h) fun v s1 ⟨x, H1, I1, r1, q1⟩ => ?_)
  obtain ⟨c, rfl, q1⟩ := q1
  cases r1
  exact not_of (wpAny_truthy_bool ⟨.bl (!c), H1, I1, rfl, q1⟩)
def tIf (t : TT) (ta tb : TE) : TE := fun σ H Q => t σ H fun c H1 => if c = true then ta σ H1 Q else tb σ H1 Q
theorem pe_ifExp {c : Expr} (hc : PT X c tA) (ha : PE X a ta) (hb : PE X b tb) : PE X (.IfExp c a b pos) (tIf tA ta tb) := by
  intro pins s σ H Q I h
  refine wpAny_IfExp (thn (hc pins s σ H _ I h) fun d s1 ⟨H1, I1, q1⟩ => ?_)
  cases d with
  | true => exact ha pins s1 σ H1 Q I1 q1
  | false => exact hb pins s1 σ H1 Q I1 q1
end
end L2
namespace L2
open PySem PySem.Spec PyProof.Rows
def SqL (K : PySem.W.Frag) (H : Hp) (a : Addr) (xs : List V) : Prop :=
  Rd H a (.lst xs) \/
    ∃ (o : Obj) (its : Array Value) (n : Nat), K.lookup a = some o /\ o.cls = .type "list" /\ o.dict = none /\ o.data = .seq its n /\ its.size <= sizeLine /\ Vals xs its.toList
def SqT (K : PySem.W.Frag) (H : Hp) (a : Addr) (xs : List V) : Prop :=
  Rd H a (.tup xs) \/
    ∃ (o : Obj) (its : Array Value) (n : Nat), K.lookup a = some o /\ o.cls = .type "tuple" /\ o.data = .seq its n /\ its.size <= sizeLine /\ Vals xs its.toList
def absV : Value -> Option V
  | .none => some .non
  | .bool b => some (.bl b)
  | .int i _ => some (.int i)
  | .str x _ => some (.str x)
  | .bytes b _ => some (.byt b)
  | .float b _ => some (.flt b)
  | .ref a => some (.ref a)
  | .type n => some (.ty n)
  | _ => none
theorem RelV.abs {x : V} {u : Value} (r : RelV x u) : absV u = some x := by
  cases x with
  | non => cases r; rfl
  | bl _ => cases r; rfl
  | int _ => obtain ⟨t, rfl⟩ := r; rfl
  | str _ => obtain ⟨t, rfl⟩ := r; rfl
  | byt _ => obtain ⟨t, rfl⟩ := r; rfl
  | flt _ => obtain ⟨t, rfl⟩ := r; rfl
  | ref _ => cases r; rfl
  | ty _ => cases r; rfl
theorem RelV.inj {x y : V} {u : Value} (r : RelV x u) (q : RelV y u) : x = y := Option.some.inj (r.abs.symm.trans q.abs)
theorem Vals.inj : ∀ {xs ys : List V} {us : List Value}, Vals xs us -> Vals ys us -> xs = ys
  | _, _, _, .nil, .nil => rfl
  | _, _, _, .cons r t, .cons r' t' => by rw [r.inj r', Vals.inj t t']
section
variable {X : Cx} {pins : List (Addr × Obj)} {σ : St} {H : Hp} {s : Shared} {a : Addr} {xs ys : List V}
theorem SqL.of {K : PySem.W.Frag} (h : H a = some (.lst xs)) : SqL K H a xs := .inl (.inl h)
theorem SqT.of {K : PySem.W.Frag} (h : H a = some (.tup xs)) : SqT K H a xs := .inl (.inl h)
theorem Inv.list (I : Inv X pins σ H s) (h : SqL X.K H a xs) : ∃ its : List Value, Vals xs its /\ PlainL s.heap a its.toArray /\ xs.length <= sizeLine := by
  rcases h with h | ⟨o, its, n, hk, hc, hd, hs, hz, r⟩
  · obtain ⟨z, its, n, r, e⟩ := h.ok I.hok
    exact ⟨its, r, ⟨_, n, e, rfl, rfl, rfl⟩, z⟩
  · refine ⟨its.toList, r, ⟨o, n, I.kIn a o hk, hc, hd, by simpa using hs⟩, ?_⟩
    have e := r.length
    simp only [Array.length_toList] at e
    omega
theorem Inv.tuple (I : Inv X pins σ H s) (h : SqT X.K H a xs) : ∃ its : List Value, Vals xs its /\ IsTup s.heap a its.toArray /\ xs.length <= sizeLine := by
  rcases h with h | ⟨o, its, n, hk, hc, hs, hz, r⟩
  · obtain ⟨z, its, r, p⟩ := h.ok I.hok
    exact ⟨its, r, p, z⟩
  · refine ⟨its.toList, r, ⟨o, I.kIn a o hk, hc, n, by simpa using hs⟩, ?_⟩
    have e := r.length
    simp only [Array.length_toList] at e
    omega
theorem Inv.list_inj (I : Inv X pins σ H s) (h : SqL X.K H a xs) (h' : SqL X.K H a ys) : xs = ys := by
  obtain ⟨its, r, ⟨o, n, e, _, _, d⟩, _⟩ := I.list h
  obtain ⟨its', r', ⟨o', n', e', _, _, d'⟩, _⟩ := I.list h'
  rw [e] at e'; cases e'
  rw [d] at d'
  injection d' with d1 _
  have : its = its' := by simpa using congrArg Array.toList d1
  subst this
  exact r.inj r'
theorem Inv.tuple_inj (I : Inv X pins σ H s) (h : SqT X.K H a xs) (h' : SqT X.K H a ys) : xs = ys := by
  obtain ⟨its, r, ⟨o, e, _, n, d⟩, _⟩ := I.tuple h
  obtain ⟨its', r', ⟨o', e', _, n', d'⟩, _⟩ := I.tuple h'
  rw [e] at e'; cases e'
  rw [d] at d'
  injection d' with d1 _
  have : its = its' := by simpa using congrArg Array.toList d1
  subst this
  exact r.inj r'
end
abbrev Cx.wish (X : Cx) (E : Value -> Shared -> Prop) : Cx := { X with xe := E }
abbrev Cx.nox (X : Cx) : Cx := X.wish fun _ _ => False
theorem Cx.Ok.wish {X : Cx} (ok : X.Ok) (E : Value -> Shared -> Prop) : (X.wish E).Ok :=
  ⟨ok.mod, ok.kind, ok.glob, ok.blt, ok.above, ok.inj, ok.has, ok.cab, ok.hd, ok.frames, ok.stk, ok.exf, ok.bs, ok.bsz, ok.noex, ok.exfs, ok.funs, ok.frf⟩
theorem Cx.Ok.unwish {X : Cx} {E : Value -> Shared -> Prop} (ok : (X.wish E).Ok) : X.Ok :=
  ⟨ok.mod, ok.kind, ok.glob, ok.blt, ok.above, ok.inj, ok.has, ok.cab, ok.hd, ok.frames, ok.stk, ok.exf, ok.bs, ok.bsz, ok.noex, ok.exfs, ok.funs, ok.frf⟩
section
variable {X : Cx} {pins : List (Addr × Obj)} {σ : St} {H : Hp} {s : Shared} {E : Value -> Shared -> Prop}
theorem Inv.wish (I : Inv X pins σ H s) (E : Value -> Shared -> Prop) : Inv (X.wish E) pins σ H s := ⟨I.ok.wish E, I.os, I.bare, I.base, I.loc, I.cell, I.free, I.freeC, I.pin, I.hok, I.len⟩
theorem Inv.unwish (I : Inv (X.wish E) pins σ H s) : Inv X pins σ H s := ⟨I.ok.unwish, I.os, I.bare, I.base, I.loc, I.cell, I.free, I.freeC, I.pin, I.hok, I.len⟩
theorem SP.unwish {D : Ends} {f : Flow} {s' : Shared} (h : SP (X.wish E) pins D f s') : SP X pins D f s' := by
  cases f with
  | next => obtain ⟨σ', H', I, q⟩ := h; exact ⟨σ', H', I.unwish, q⟩
  | brk => obtain ⟨σ', H', I, q⟩ := h; exact ⟨σ', H', I.unwish, q⟩
  | cont => obtain ⟨σ', H', I, q⟩ := h; exact ⟨σ', H', I.unwish, q⟩
  | ret u => obtain ⟨v, σ', H', I, r, q⟩ := h; exact ⟨v, σ', H', I.unwish, r, q⟩
theorem PSs.nox {st : List Stmt} {t : TS} (h : PSs X.nox st t) : PSs X st t := fun pins s σ H D I hw =>
  wpAny_mono (h pins s σ H D (I.wish _) hw) (fun _ _ q => q.unwish) fun _ _ z => False.elim z
end
section
variable {X : Cx} {st : Stmt} {rest : List Stmt} {t u : TS} {e : Expr} {te : TE} {pos : Pos}
def tNext : TS := fun D σ H => D.nx σ H
def tSeq (t u : TS) : TS := fun D σ H => t { D with nx := u D } σ H
theorem pss_nil : PSs X [] tNext := fun _ _ σ H _ I h => wpAny_execs_nil ⟨σ, H, I, h⟩
theorem pss_cons (h1 : PS X st t) (h2 : PSs X rest u) : PSs X (st :: rest) (tSeq t u) := by
  intro pins s σ H D I h
  refine wpAny_execs_cons (thn (h1 pins s σ H { D with nx := u D } I h) fun f s1 q => ?_)
  cases f with
  | next =>
    obtain ⟨σ', H', I', q⟩ := q
    exact h2 pins s1 σ' H' D I' q
  | ret v => exact q
  | brk => exact q
  | cont => exact q
theorem pss_one (h1 : PS X st t) : PSs X [st] t := by
  intro pins s σ H D I h
  refine wpAny_execs_cons (thn (h1 pins s σ H D I h) fun f s1 q => ?_)
  cases f with
  | next => exact wpAny_execs_nil q
  | ret v => exact q
  | brk => exact q
  | cont => exact q
theorem Inv.quiet {pins : List (Addr × Obj)} {σ : St} {H : Hp} {s : Shared} (I : Inv X pins σ H s) : interactive X.env = false := by simp [interactive, I.ok.kind]
def tDrop (te : TE) : TS := fun D σ H => te σ H fun _ H1 => D.nx σ H1
theorem ps_expr (he : PE X e te) (hs : swapsWith e none pos.line X.env = pure false := by rfl) : PS X (.Expr e pos) (tDrop te) := by
  intro pins s σ H D I h
  exact wpAny_Expr_any (thn (he pins s σ H _ I h) fun v s1 ⟨x, H1, I1, r1, q1⟩ => ⟨σ, H1, I1, q1⟩) I.quiet hs
def tRet (te : TE) : TS := fun D σ H => te σ H D.rt
theorem ps_ret (he : PE X e te) : PS X (.Return (some e) pos) (tRet te) := by
  intro pins s σ H D I h
  exact wpAny_Return_some (thn (he pins s σ H _ I h) fun v s1 ⟨x, H1, I1, r1, q1⟩ => ⟨x, σ, H1, I1, r1, q1⟩)
def tIfS (c : TT) (t u : TS) : TS := fun D σ H => c σ H fun b H1 => if b = true then t D σ H1 else u D σ H1
theorem ps_if {c : Expr} {a b : List Stmt} {tc : TT} (hc : PT X c tc) (ha : PSs X a t) (hb : PSs X b u) : PS X (.If c a b pos) (tIfS tc t u) := by
  intro pins s σ H D I h
  refine wpAny_If (thn (hc pins s σ H _ I h) fun d s1 ⟨H1, I1, q1⟩ => ?_)
  cases d with
  | true => exact ha pins s1 σ H1 D I1 q1
  | false => exact hb pins s1 σ H1 D I1 q1
def tNever : TS := fun _ _ _ => False
theorem ps_never : PS X st tNever := fun _ _ _ _ _ _ h => h.elim
end
abbrev TG := V -> St -> Hp -> (St -> Hp -> Prop) -> Prop
abbrev TGs := List V -> St -> Hp -> (St -> Hp -> Prop) -> Prop
def PG (X : Cx) (target : Expr) (t : TG) : Prop :=
  ∀ (pins : List (Addr × Obj)) (s : Shared) (σ : St) (H : Hp) (v : V) (u : Value) (Q : St -> Hp -> Prop), Inv X pins σ H s -> RelV v u -> t v σ H Q ->
    wpAny (model X.prog X.w) X.A (assign target X.env u) (fun _ s' => ∃ σ' H', Inv X pins σ' H' s' /\ Q σ' H') X.xe s
def PGs (X : Cx) (ts : List Expr) (t : TGs) : Prop :=
  ∀ (pins : List (Addr × Obj)) (s : Shared) (σ : St) (H : Hp) (vs : List V) (us : List Value) (Q : St -> Hp -> Prop), Inv X pins σ H s -> Vals vs us -> t vs σ H Q ->
    wpAny (model X.prog X.w) X.A (assignInOrder ((assignEach ts X.env).map (·.2)) us) (fun _ s' => ∃ σ' H', Inv X pins σ' H' s' /\ Q σ' H') X.xe s
abbrev TSet := V -> V -> V -> Hp -> (Hp -> Prop) -> Prop
def PSet (X : Cx) (t : TSet) : Prop :=
  ∀ (pins : List (Addr × Obj)) (s : Shared) (σ : St) (H : Hp) (o i v : V) (ov iv u : Value) (Q : Hp -> Prop), Inv X pins σ H s -> RelV o ov -> RelV i iv -> RelV v u -> t o i v H Q ->
    wpAny (model X.prog X.w) X.A (setItem ov iv u) (fun _ s' => ∃ H', Inv X pins σ H' s' /\ Q H') X.xe s
section
variable {X : Cx} {pos : Pos}
def gName (i : Nat) : TG := fun v σ H Q => Q (σ.set i (some v)) H
theorem pg_name {i : Nat} {x : Str} (hN : X.N.Nodup) (hi : X.N[i]? = some x) (hx : Loc X.env.scope x) (hf : X.fn x = true \/ X.env.scope.names.lookup x = some .local := by first | exact .inl rfl | exact .inr rfl | assumption) : PG X (.Name x pos) (gName i) := by
  intro pins s σ H v u Q I r h
  exact wpAny_assign_Name (store_ok I hN hi hx r (fun s' I' => ⟨_, H, I', h⟩) hf)
def gNil : TGs := fun vs σ H Q => vs = [] /\ Q σ H
def gCons (t : TG) (u : TGs) : TGs := fun vs σ H Q => ∃ v r, vs = v :: r /\ t v σ H fun σ' H' => u r σ' H' Q
theorem pgs_nil : PGs X [] gNil := by
  intro pins s σ H vs us Q I r h
  obtain ⟨e, h⟩ := h
  subst e
  cases r
  exact assignInOrder_nil ⟨σ, H, I, h⟩
theorem pgs_cons {e : Expr} {es : List Expr} {t : TG} {u : TGs} (h1 : PG X e t) (h2 : PGs X es u)
    (hs : (assignEach (e :: es) X.env).map (·.2) = assign e X.env :: (assignEach es X.env).map (·.2) := by rfl) : PGs X (e :: es) (gCons t u) := by
  intro pins s σ H vs us Q I r h
  obtain ⟨v, vr, e1, h⟩ := h
  subst e1
  cases r with
  | cons r rr =>
    rw [hs]
    refine assignInOrder_cons (thn (h1 pins s σ H _ _ _ I r h) fun _ s1 ⟨σ1, H1, I1, q1⟩ => ?_)
    exact h2 pins s1 σ1 H1 _ _ Q I1 rr q1
def gTup (K : PySem.W.Frag) (n : Nat) (t : TGs) : TG := fun v σ H Q => ∃ a xs, v = .ref a /\ SqT K H a xs /\ xs.length = n /\ t xs σ H Q
theorem pg_tup {es : List Expr} {k : Nat} {t : TGs} {n : Nat} (hc : X.calm = true) (h : PGs X es t)
    (hn : (assignEach es X.env).length = n := by rfl) (hst : (assignEach es X.env).findIdx? (·.1) = none := by rfl) : PG X (.Tuple es k pos) (gTup X.K n t) := by
  intro pins s σ H v u Q I r hw
  obtain ⟨a, xs, e1, hq, hl, hw⟩ := hw
  subst e1
  cases r
  obtain ⟨its, rv, ht, hz⟩ := I.tuple hq
  refine assign_Tuple_tuple (I.ok.hd hc) ht (by simp [hn, <- hl, rv.length]) hst fun h' hx => ?_
  have I1 : Inv X pins σ H { s with heap := h' } := I.kept (t' := s.toks) fun b o e => hx b o (Nat.ne_of_lt (Heap.lt_size e)) e
  exact h pins _ σ H xs _ Q I1 (by simpa using rv) hw
def gSub (to ti : TE) (t : TSet) : TG := fun v σ H Q => to σ H fun o H1 => ti σ H1 fun i H2 => t o i v H2 fun H3 => Q σ H3
theorem pg_sub {o i : Expr} {to ti : TE} {t : TSet} (ho : PE X o to) (hi : PE X i ti) (hs : PSet X t)
    (ha : ∀ v, assign (.Subscript o i pos) X.env v = (do
      let ov <- holding [v] (eval o X.env)
      let iv <- holding [v, ov] (eval i X.env)
      standAt pos
      holding [v, ov, iv] (setItem ov iv v)
      release [v, ov, iv] []) := by intro _; rfl) : PG X (.Subscript o i pos) (gSub to ti t) := by
  intro pins s σ H v u Q I r h
  rw [ha]
  refine wpAny_bind (wpAny_holding (thn (ho pins s σ H _ I h) fun ov s1 ⟨x, H1, I1, r1, q1⟩ => ?_))
  refine wpAny_bind (wpAny_holding (thn (hi pins s1 σ H1 _ I1 q1) fun iv s2 ⟨y, H2, I2, r2, q2⟩ => ?_))
  refine wpAny_bind (wpAny_standAt (wpAny_bind (wpAny_holding (thn (hs pins s2 σ H2 x y v ov iv u _ I2 r1 r2 r q2) fun _ s3 ⟨H3, I3, q3⟩ => ?_))))
  exact wpAny_release ⟨σ, H3, I3, q3⟩
def tAsg (te : TE) (g : TG) : TS := fun D σ H => te σ H fun x H1 => g x σ H1 D.nx
theorem ps_asg {tg e : Expr} {te : TE} {g : TG} (he : PE X e te) (hg : PG X tg g) (hs : swapsWithSole [tg] e pos.line X.env = pure false := by rfl) (hw : swappedStores [tg] e X.env = pure none := by rfl)
    (h1 : (assignEach [tg] X.env).map (·.2) = [assign tg X.env] := by rfl) : PS X (.Assign [tg] e pos) (tAsg te g) := by
  intro pins s σ H D I h
  refine wpAny_Assign_stores (thn (he pins s σ H _ I h) fun v s1 ⟨x, H1, I1, r1, q1⟩ => ?_) hs hw
  rw [h1]
  exact thn (hg pins s1 σ H1 x v _ I1 r1 q1) fun _ s2 q => q
theorem ps_set {i : Nat} {x : Str} {e : Expr} {te : TE} {pos' : Pos} (hN : X.N.Nodup) (hi : X.N[i]? = some x) (hx : Loc X.env.scope x) (he : PE X e te) (hs : swapsWith e (some (.Name x pos')) pos.line X.env = pure false := by rfl) (hf : X.fn x = true \/ X.env.scope.names.lookup x = some .local := by first | exact .inl rfl | exact .inr rfl | assumption) :
    PS X (.Assign [.Name x pos'] e pos) (tAsg te (gName i)) := by
  intro pins s σ H D I h
  refine wpAny_Assign_Name (thn (he pins s σ H _ I h) fun v s1 ⟨y, H1, I1, r1, q1⟩ => ?_) hs
  exact store_ok I1 hN hi hx r1 (fun s2 I2 => ⟨_, H1, I2, q1⟩) hf
end
section
variable {X : Cx} {pos : Pos}
def tWhile (c : TT) (tb : TS) : TS := fun D σ H => ∃ W : Nat -> St -> Hp -> Prop, (∃ m, W m σ H) /\ ∀ m σ H, W m σ H ->
  c σ H fun b H1 => if b = true then ∃ N : St -> Hp -> Prop, (∀ σ' H', N σ' H' -> ∃ m', m' < m /\ W m' σ' H') /\ tb { D with nx := N, ct := N, bk := D.nx } σ H1 else D.nx σ H1
theorem ps_while {c : Expr} {body : List Stmt} {tc : TT} {tb : TS} (hp : PassesOwn (model X.prog X.w) X.A X.env X.xe) (hc : PT X c tc) (hb : PSs X body tb) : PS X (.While c body [] pos) (tWhile tc tb) := by
  intro pins s σ H D I h
  obtain ⟨W, ⟨m0, w0⟩, turn⟩ := h
  refine wpAny_While (codeAny_whileLoop (fun n s' => ∃ σ' H', Inv X pins σ' H' s' /\ W n σ' H') ?_ m0 ⟨σ, H, I, w0⟩)
  rintro n s1 ⟨σ1, H1, I1, w1⟩
  refine wpAny_passesOwn hp (thn (hc pins s1 σ1 H1 _ I1 (turn n σ1 H1 w1)) fun b s2 ⟨H2, I2, q2⟩ => ?_)
  cases b with
  | true =>
    obtain ⟨N, hN, q2⟩ := q2
    rw [if_pos rfl]
    refine wpAny_passesOwn hp (thn (hb pins s2 σ1 H2 _ I2 q2) fun f s3 q3 => ?_)
    cases f with
    | next =>
      obtain ⟨σ3, H3, I3, n3⟩ := q3
      obtain ⟨m', hm, w3⟩ := hN σ3 H3 n3
      exact ⟨m', hm, σ3, H3, I3, w3⟩
    | cont =>
      obtain ⟨σ3, H3, I3, n3⟩ := q3
      obtain ⟨m', hm, w3⟩ := hN σ3 H3 n3
      exact ⟨m', hm, σ3, H3, I3, w3⟩
    | brk => exact q3
    | ret v => exact q3
  | false =>
    rw [if_neg Bool.false_ne_true]
    exact wpAny_execs_nil ⟨σ1, H2, I2, q2⟩
end
structure It where
  go : Nat -> Hp -> Prop
  yld : Nat -> Hp -> V -> Hp -> Prop
  stop : Nat -> Hp -> Prop
def FpOk (X : Cx) (pins : List (Addr × Obj)) (H : Hp) (b : Addr) : Prop :=
  H b = none /\ b ≠ X.env.locals /\ b ∉ X.fs /\ (b ∈ X.ex \/ X.s₀.heap.objs.size <= b) /\ (∀ x c, X.env.cells.lookup x = some c -> c ≠ b) /\ ∀ p ∈ X.pn ++ pins, p.1 ≠ b
theorem Inv.fpOk {X : Cx} {pins : List (Addr × Obj)} {σ : St} {H H' : Hp} {s : Shared} {b : Addr} (I : Inv X pins σ H s) (hb : s.heap.objs.size <= b) (hn : H' b = none) : FpOk X pins H' b := by
  refine ⟨hn, Nat.ne_of_gt (Nat.lt_of_lt_of_le I.lt hb), I.nofs hb, .inr (Nat.le_trans I.sz hb), fun x c e z => ?_, fun p hp z => ?_⟩
  · obtain ⟨v, q⟩ := I.cell x c e
    exact absurd (Nat.lt_of_lt_of_le q.lt (by rw [z]; exact hb)) (Nat.lt_irrefl _)
  · exact absurd (Nat.lt_of_lt_of_le (Heap.lt_size (I.pin p hp).1) (by rw [z]; exact hb)) (Nat.lt_irrefl _)
structure Turn (P : Program) (w : World) (K : PySem.W.Frag) (tg : Expr) (J : It) (fp : List Addr) (it : Addr) (tn : Nat -> Heap -> Prop) : Prop where
  mem : it ∈ fp
  obj : ∀ i h, tn i h -> ∀ b ∈ fp, ∃ o, h.get? b = some o /\ ∀ v, o.data ≠ .cell v
  keep : ∀ i h h', tn i h -> (∀ b ∈ fp, ∀ o, h.get? b = some o -> h'.get? b = some o) -> tn i h'
  item : ∀ (X : Cx), X.prog = P -> X.w = w -> X.K = K -> X.calm = true -> ∀ (i : Nat) (pins : List (Addr × Obj)) (s : Shared) (σ : St) (H : Hp) (E : Value -> Shared -> Prop), Inv X pins σ H s -> (∀ b ∈ fp, FpOk X pins H b) -> tn i s.heap -> J.go i H ->
    wpAny (model P w) X.A (pyNext (.ref it)) (fun r s1 => ∃ u, r = some u /\
      wpAny (model P w) X.A (letOwnedTupleGo tg (.ref it) u) (fun _ s2 => ∃ x H', Inv X pins σ H' s2 /\ RelV x u /\ J.yld i H x H' /\ tn (i + 1) s2.heap /\ ∀ b ∈ fp, H' b = none) E s1) E s
  done : ∀ (X : Cx), X.prog = P -> X.w = w -> X.K = K -> X.calm = true -> ∀ (i : Nat) (pins : List (Addr × Obj)) (s : Shared) (σ : St) (H : Hp) (E : Value -> Shared -> Prop), Inv X pins σ H s -> (∀ b ∈ fp, FpOk X pins H b) -> tn i s.heap -> J.stop i H ->
    wpAny (model P w) X.A (pyNext (.ref it)) (fun r s1 => r = none /\ Inv X pins σ H s1) E s
  self : ∀ (A : Around) (i : Nat) (s : Shared) (Q : Value -> Shared -> Prop) (E : Value -> Shared -> Prop), tn i s.heap -> Q (.ref it) s -> wpAny (model P w) A (pyIter (.ref it)) Q E s
abbrev TI := St -> Hp -> (It -> Hp -> Prop) -> Prop
def PIE (X : Cx) (pins : List (Addr × Obj)) (σ : St) (tg : Expr) (R : It -> Hp -> Prop) (itv : Value) (s2 : Shared) : Prop :=
  ∃ (it : Addr) (fp : List Addr) (tn : Nat -> Heap -> Prop) (J : It) (H' : Hp), itv = .ref it /\ Inv X pins σ H' s2 /\ Turn X.prog X.w X.K tg J fp it tn /\ tn 0 s2.heap /\ (∀ b ∈ fp, FpOk X pins H' b) /\ R J H'
def PI (X : Cx) (tg iter : Expr) (wi : TI) : Prop :=
  ∀ (pins : List (Addr × Obj)) (s : Shared) (σ : St) (H : Hp) (R : It -> Hp -> Prop), Inv X pins σ H s -> wi σ H R ->
    wpAny (model X.prog X.w) X.A (eval iter X.env) (fun v s1 => wpAny (model X.prog X.w) X.A (pyIter v) (PIE X pins σ tg R) X.xe s1) X.xe s
theorem go_of {M : Model} {A : Around} {E : Value -> Shared -> Prop} {s : Shared} {tg : Expr} {it : Addr} {u : Value} {o : Obj} {n : String} {vs : Array Value} {Q : Unit -> Shared -> Prop} (ho : s.heap.get? it = some o) (hc : o.cls = .type n) (hd : o.data = .fields vs)
    (hn : ["enumerate", "zip", "dict_itemiterator", "dict_reverseitemiterator", "odict_iterator", "itertools.zip_longest", "itertools.pairwise"].contains n = false) (hQ : Q () s) : wpAny M A (letOwnedTupleGo tg (.ref it) u) Q E s := by
  unfold letOwnedTupleGo
  cases tg <;> first
    | exact wpAny_pure hQ
    | (cases u <;> first
        | exact wpAny_pure hQ
        | (refine wpAny_bind (wpAny_load ho ?_)
           rw [hc, hd]
           show wpAny M A (if (["enumerate", "zip", "dict_itemiterator", "dict_reverseitemiterator", "odict_iterator", "itertools.zip_longest", "itertools.pairwise"].contains n && vs[0]? == some (rawInt _)) = true then _ else _) Q E s
           rw [if_neg (by intro h; rw [hn, Bool.false_and] at h; cases h)]
           exact wpAny_pure hQ))
def Itl (K : PySem.W.Frag) (a : Addr) : It :=
  ⟨fun i H => ∃ xs x, SqL K H a xs /\ xs[i]? = some x, fun i H x H' => H' = H /\ ∀ xs, SqL K H a xs -> xs[i]? = some x, fun i H => ∃ xs, SqL K H a xs /\ xs.length <= i⟩
def Itt (K : PySem.W.Frag) (a : Addr) : It :=
  ⟨fun i H => ∃ xs x, SqT K H a xs /\ xs[i]? = some x, fun i H x H' => H' = H /\ ∀ xs, SqT K H a xs -> xs[i]? = some x, fun i H => ∃ xs, SqT K H a xs /\ xs.length <= i⟩
def Itr (lo : Int) (n : Nat) : It := ⟨fun i _ => i < n, fun i H x H' => H' = H /\ x = .int (lo + i), fun i _ => n <= i⟩
theorem turn_list {P : Program} {w : World} {K : PySem.W.Frag} {tg : Expr} (a it : Addr) : Turn P w K tg (Itl K a) [it] it (fun i h => h.IsListIter it a i) where
  mem := by simp
  obj := fun i h st b hb => by
    have e : b = it := by simpa using hb
    subst e
    obtain ⟨o, e, c, d⟩ := st
    exact ⟨o, e, fun v z => by rw [d] at z; cases z⟩
  keep := fun i h h' st k => st.at fun o e => k it (by simp) o e
  item := by
    intro X hP hw hK hc i pins s σ H E I hf st hg
    subst hP hw hK
    obtain ⟨xs, x, hq, hx⟩ := hg
    obtain ⟨its, rv, p, hz⟩ := I.list hq
    obtain ⟨u, hu, ru⟩ := rv.get hx
    obtain ⟨f0, f1, f2, f3, f4, f5⟩ := hf it (by simp)
    refine wpAny_pyNext_list_item st p.isList (x := u) (by simpa using hu) fun h' st' sb => ?_
    have I1 : Inv X pins σ H { s with heap := h' } := I.turned (t' := s.toks) (fun b o hb e => (sb.2 b hb).trans e) f0 f1 f3 f4 f5
    obtain ⟨o, e, c, d⟩ := id st'
    exact ⟨u, rfl, go_of (s := { s with heap := h' }) e c d (by decide) ⟨x, H, I1, ru, ⟨rfl, fun ys hy => by rw [I.list_inj hy hq]; exact hx⟩, st', fun b hb => (hf b hb).1⟩⟩
  done := by
    intro X hP hw hK hc i pins s σ H E I hf st hg
    subst hP hw hK
    obtain ⟨xs, hq, hx⟩ := hg
    obtain ⟨its, rv, p, hz⟩ := I.list hq
    obtain ⟨f0, f1, f2, f3, f4, f5⟩ := hf it (by simp)
    have hl := rv.length
    exact wpAny_pyNext_list_end (I.ok.hd hc) st p.isList (by simp; omega) fun h' eb => ⟨rfl, I.turned (t' := s.toks) (fun b o hb e => eb b o hb e) f0 f1 f3 f4 f5⟩
  self := fun _ _ _ _ _ st h => wpAny_pyIter_listiter st h
theorem turn_tuple {P : Program} {w : World} {K : PySem.W.Frag} {tg : Expr} (a it : Addr) : Turn P w K tg (Itt K a) [it] it (fun i h => h.IsTupleIter it a i) where
  mem := by simp
  obj := fun i h st b hb => by
    have e : b = it := by simpa using hb
    subst e
    obtain ⟨o, e, c, d⟩ := st
    exact ⟨o, e, fun v z => by rw [d] at z; cases z⟩
  keep := fun i h h' st k => st.at fun o e => k it (by simp) o e
  item := by
    intro X hP hw hK hc i pins s σ H E I hf st hg
    subst hP hw hK
    obtain ⟨xs, x, hq, hx⟩ := hg
    obtain ⟨its, rv, p, hz⟩ := I.tuple hq
    obtain ⟨u, hu, ru⟩ := rv.get hx
    obtain ⟨f0, f1, f2, f3, f4, f5⟩ := hf it (by simp)
    refine wpAny_pyNext_tuple_item st (show s.heap.IsTuple a its.toArray from p) (x := u) (by simpa using hu) fun h' st' sb => ?_
    have I1 : Inv X pins σ H { s with heap := h' } := I.turned (t' := s.toks) (fun b o hb e => (sb.2 b hb).trans e) f0 f1 f3 f4 f5
    obtain ⟨o, e, c, d⟩ := id st'
    exact ⟨u, rfl, go_of (s := { s with heap := h' }) e c d (by decide) ⟨x, H, I1, ru, ⟨rfl, fun ys hy => by rw [I.tuple_inj hy hq]; exact hx⟩, st', fun b hb => (hf b hb).1⟩⟩
  done := by
    intro X hP hw hK hc i pins s σ H E I hf st hg
    subst hP hw hK
    obtain ⟨xs, hq, hx⟩ := hg
    obtain ⟨its, rv, p, hz⟩ := I.tuple hq
    obtain ⟨f0, f1, f2, f3, f4, f5⟩ := hf it (by simp)
    have hl := rv.length
    exact wpAny_pyNext_tuple_end (I.ok.hd hc) st (show s.heap.IsTuple a its.toArray from p) (by simp; omega) fun h' eb => ⟨rfl, I.turned (t' := s.toks) (fun b o hb e => eb b o hb e) f0 f1 f3 f4 f5⟩
  self := fun _ _ _ _ _ st h => wpAny_pyIter_tupleiter st h
theorem turn_range {P : Program} {w : World} {K : PySem.W.Frag} {tg : Expr} (it : Addr) (lo : Int) (n : Nat) : Turn P w K tg (Itr lo n) [it] it (fun i h => IsRangeIter h it (lo + (i : Nat) * 1) ((n : Int) - (i : Nat)) 1) where
  mem := by simp
  obj := fun i h st b hb => by
    have e : b = it := by simpa using hb
    subst e
    exact ⟨_, st, fun v z => by
      have z' : Data.fields _ = Data.cell v := z
      cases z'⟩
  keep := fun i h h' st k => k it (by simp) _ st
  item := by
    intro X hP hw hK hc i pins s σ H E I hf st hg
    subst hP hw hK
    obtain ⟨f0, f1, f2, f3, f4, f5⟩ := hf it (by simp)
    have W := Walks.range (prog := X.prog) (w := X.w) (I.ok.hd hc) it lo 1 n
    refine W.item i s _ _ hg st fun v h' tk hv st' kk => ?_
    obtain ⟨t, rfl⟩ := hv
    have I1 : Inv X pins σ H { s with heap := h', toks := tk } := I.turned (fun b o hb e => kk b o (by simpa using hb) e) f0 f1 f3 f4 f5
    refine ⟨_, rfl, go_of (s := { s with heap := h', toks := tk }) (n := "range_iterator") st' rfl rfl (by decide) ⟨.int (lo + i), H, I1, ⟨t, ?_⟩, ⟨rfl, rfl⟩, st', fun b hb => (hf b hb).1⟩⟩
    rw [Int.mul_one]
  done := by
    intro X hP hw hK hc i pins s σ H E I hf st hg
    subst hP hw hK
    obtain ⟨f0, f1, f2, f3, f4, f5⟩ := hf it (by simp)
    exact wpAny_pyNext_range_end (I.ok.hd hc) st (by have : n <= i := hg; omega) fun h' eb => ⟨rfl, I.turned (t' := s.toks) (fun b o hb e => eb b o hb e) f0 f1 f3 f4 f5⟩
  self := fun _ _ _ _ _ st h => wpAny_pyIter_rangeiter st h
end L2
namespace L2
open PySem PySem.Spec PyProof.Rows
section
variable {X : Cx} {tg : Expr}
def iList (K : PySem.W.Frag) (tl : TE) : TI := fun σ H R => tl σ H fun x H1 => ∃ a, x = .ref a /\ (∃ xs, SqL K H1 a xs) /\ R (Itl K a) H1
def iTup (K : PySem.W.Frag) (tl : TE) : TI := fun σ H R => tl σ H fun x H1 => ∃ a, x = .ref a /\ (∃ xs, SqT K H1 a xs) /\ R (Itt K a) H1
theorem pi_list {l : Expr} {tl : TE} (hl : PE X l tl) : PI X tg l (iList X.K tl) := by
  intro pins s σ H R I h
  refine thn (hl pins s σ H _ I h) fun v s1 ⟨x, H1, I1, r1, q1⟩ => ?_
  obtain ⟨a, e, ⟨xs, hq⟩, q⟩ := q1
  subst e
  cases r1
  obtain ⟨its, rv, p, hz⟩ := I1.list hq
  refine wpAny_pyIter_list p.isList ?_
  refine ⟨s1.heap.objs.size, [s1.heap.objs.size], _, _, H1, rfl, I1.kept (t' := s1.toks) fun b o e => Heap.get?_push_of_some _ e, turn_list a _, ⟨_, Heap.get?_push_size _ rfl, rfl, rfl⟩, fun b hb => ?_, q⟩
  have e : b = s1.heap.objs.size := by simpa using hb
  subst e
  exact I1.fpOk (Nat.le_refl _) (I1.hok.fresh (Nat.le_refl _))
theorem pi_tup {l : Expr} {tl : TE} (hl : PE X l tl) : PI X tg l (iTup X.K tl) := by
  intro pins s σ H R I h
  refine thn (hl pins s σ H _ I h) fun v s1 ⟨x, H1, I1, r1, q1⟩ => ?_
  obtain ⟨a, e, ⟨xs, hq⟩, q⟩ := q1
  subst e
  cases r1
  obtain ⟨its, rv, p, hz⟩ := I1.tuple hq
  refine wpAny_pyIter_tuple (show s1.heap.IsTuple a its.toArray from p) ?_
  refine ⟨s1.heap.objs.size, [s1.heap.objs.size], _, _, H1, rfl, I1.kept (t' := s1.toks) fun b o e => Heap.get?_push_of_some _ e, turn_tuple a _, ⟨_, Heap.get?_push_size _ rfl, rfl, rfl⟩, fun b hb => ?_, q⟩
  have e : b = s1.heap.objs.size := by simpa using hb
  subst e
  exact I1.fpOk (Nat.le_refl _) (I1.hok.fresh (Nat.le_refl _))
theorem range_it {pins : List (Addr × Obj)} {σ : St} {H : Hp} {s : Shared} {R : It -> Hp -> Prop} {E : Value -> Shared -> Prop} {lo hi : Int} {t u v : Tok} {tk : Nat} (I : Inv X pins σ H s) (h1 : -(2 ^ 62) <= lo) (h2 : lo < 2 ^ 62) (h3 : -(2 ^ 62) <= hi) (h4 : hi < 2 ^ 62)
    (q : R (Itr lo (hi - lo).toNat) H) : wpAny (model X.prog X.w) X.A (pyIter (.ref s.heap.objs.size)) (PIE X pins σ tg R) E { s with heap := s.heap.push { cls := .type "range", data := .fields #[.int lo t, .int hi u, .int 1 v] }, toks := tk } := by
  refine wpAny_pyIter_range (IsRange.new ..) (small_one h1 h2 h3 h4) ?_
  have I1 : Inv X pins σ H { s with heap := s.heap.push { cls := .type "range", data := .fields #[.int lo t, .int hi u, .int 1 v] }, toks := tk } := I.kept fun b o e => Heap.get?_push_of_some _ e
  refine ⟨(s.heap.push { cls := .type "range", data := .fields #[.int lo t, .int hi u, .int 1 v] }).objs.size, [(s.heap.push { cls := .type "range", data := .fields #[.int lo t, .int hi u, .int 1 v] }).objs.size], _, _, H, rfl,
    I1.kept (t' := tk) fun b o e => Heap.get?_push_of_some _ e, turn_range _ lo (hi - lo).toNat, ?_, fun b hb => ?_, q⟩
  · have e1 : lo + ((0 : Nat) : Int) * 1 = lo := by simp
    have e2 : (((hi - lo).toNat : Nat) : Int) - ((0 : Nat) : Int) = Builtin.Range.rangeSize lo hi 1 := by rw [rangeSize_one]; split <;> omega
    show IsRangeIter _ _ (lo + ((0 : Nat) : Int) * 1) ((((hi - lo).toNat : Nat) : Int) - ((0 : Nat) : Int)) 1
    rw [e1, e2]
    exact Heap.get?_push_size _ rfl
  · have e : b = (s.heap.push { cls := .type "range", data := .fields #[.int lo t, .int hi u, .int 1 v] }).objs.size := by simpa using hb
    subst e
    exact I1.fpOk (Nat.le_refl _) (I1.hok.fresh (Nat.le_refl _))
def iRng1 (ta : TA) : TI := fun σ H R => ta σ H fun vs H1 => ∃ j : Int, vs = [.int j] /\ -(2 ^ 62) <= j /\ j < 2 ^ 62 /\ R (Itr 0 j.toNat) H1
theorem pi_range1 {a : Expr} {ta : TA} {p pos : Pos} (hg : Gl X "range") (hm : X.mg "range" = none) (ha : PA X [a] ta) (hs : starEach [a] X.env = [(false, eval a X.env)] := by rfl) : PI X tg (.Call (.Name "range" p) [a] [] pos) (iRng1 ta) := by
  intro pins s σ H R I h
  refine Call_ (ld_blt I hg hm boot_range (PyProof.Rows.callWith_type1 (thn (ha pos pins s σ H _ I h) fun us s1 ⟨vs, H1, I1, r1, q1⟩ => ?_) hs rfl))
  obtain ⟨j, e, q1, q2, q⟩ := q1
  subst e
  cases r1 with
  | cons r rr =>
    cases rr
    obtain ⟨t, rfl⟩ := r
    exact call_range_1 (range_it I1 (by omega) (by omega) q1 q2 (by simpa using q))
def tFor (wi : TI) (g : TG) (tb : TS) : TS := fun D σ H => wi σ H fun J H1 => ∃ W : Nat -> Nat -> St -> Hp -> Prop, (∃ m, W 0 m σ H1) /\ ∀ i m σ H, W i m σ H ->
  (J.stop i H /\ D.nx σ H) \/ (J.go i H /\ ∃ N : St -> Hp -> Prop, (∀ σ' H', N σ' H' -> ∃ m', m' < m /\ W (i + 1) m' σ' H') /\ ∀ x H', J.yld i H x H' -> g x σ H' fun σ2 H2 => tb { D with nx := N, ct := N, bk := D.nx } σ2 H2)
def pinsAt (fp : List Addr) (h : Heap) : List (Addr × Obj) := fp.filterMap fun b => (h.get? b).map fun o => (b, o)
theorem mem_pinsAt {fp : List Addr} {h : Heap} {b : Addr} {o : Obj} (hb : b ∈ fp) (e : h.get? b = some o) : (b, o) ∈ pinsAt fp h := List.mem_filterMap.mpr ⟨b, hb, by rw [e]; rfl⟩
theorem of_pinsAt {fp : List Addr} {h : Heap} {p : Addr × Obj} (hp : p ∈ pinsAt fp h) : p.1 ∈ fp /\ h.get? p.1 = some p.2 := by
  obtain ⟨b, hb, e⟩ := List.mem_filterMap.mp hp
  cases q : h.get? b with
  | none => rw [q] at e; cases e
  | some o =>
    rw [q] at e
    have e' : (b, o) = p := Option.some.inj e
    subst e'
    exact ⟨hb, q⟩
theorem Inv.pinned {pins : List (Addr × Obj)} {σ : St} {H : Hp} {s : Shared} {fp : List Addr} (I : Inv X pins σ H s) (hf : ∀ b ∈ fp, FpOk X pins H b) (ho : ∀ b ∈ fp, ∃ o, s.heap.get? b = some o /\ ∀ v, o.data ≠ .cell v) : Inv X (pins ++ pinsAt fp s.heap) σ H s :=
  I.pins_of fun p hp => (List.mem_append.mp hp).elim (fun z => I.pin p (List.mem_append_right _ z)) fun z => by
    obtain ⟨hb, e⟩ := of_pinsAt z
    obtain ⟨f0, f1, f2, _⟩ := hf p.1 hb
    obtain ⟨o, e', d⟩ := ho p.1 hb
    rw [e] at e'; cases e'
    exact ⟨e, f0, f1, f2, d⟩
theorem Inv.unpinned {pins pl : List (Addr × Obj)} {σ : St} {H : Hp} {s : Shared} (I : Inv X (pins ++ pl) σ H s) : Inv X pins σ H s := I.pins_of fun p hp => I.pin p (List.mem_append_right _ (List.mem_append_left _ hp))
theorem ps_for {iter : Expr} {body : List Stmt} {wi : TI} {g : TG} {tb : TS} {pos : Pos} (hp : PassesOwn (model X.prog X.w) X.A X.env X.xe) (hc : X.calm = true) (hi : PI X tg iter wi) (hg : PG X tg g) (hb : PSs X body tb)
    (hs : ∀ x, foldedSetIterable iter X.env x = pure x := by intro _; rfl) : PS X (.For tg iter body [] pos) (tFor wi g tb) := by
  intro pins s σ H D I h
  refine wpAny_For (thn (hi pins s σ H _ I h) fun v s1 h1 => thn h1 fun itv s2 h2 => ?_) hs
  obtain ⟨it, fp, tn, J, H2, e, I2, T, st2, f2, W, ⟨m0, w0⟩, turn⟩ := h2
  subst e
  have stat : ∀ {H' : Hp}, (∀ b ∈ fp, H' b = none) -> ∀ b ∈ fp, FpOk X pins H' b := fun hn b hb => ⟨hn b hb, (f2 b hb).2⟩
  refine codeAny_forLoop_any (fun n s' => ∃ i σ' H', Inv X pins σ' H' s' /\ tn i s'.heap /\ (∀ b ∈ fp, H' b = none) /\ W i n σ' H') ?_ m0 ⟨0, σ, H2, I2, st2, fun b hb => (f2 b hb).1, w0⟩
  rintro n s3 ⟨i, σ3, H3, I3, st3, fr3, w3⟩
  rcases turn i n σ3 H3 w3 with ⟨stop, qn⟩ | ⟨go, N, hN, step⟩
  · refine wpAny_passesOwn hp (thn (T.done X rfl rfl rfl hc i pins s3 σ3 H3 X.xe I3 (stat fr3) st3 stop) fun r s4 ⟨hr, I4⟩ => ?_)
    subst hr
    exact wpAny_execs_nil ⟨σ3, H3, I4, qn⟩
  · refine wpAny_passesOwn hp (thn (T.item X rfl rfl rfl hc i pins s3 σ3 H3 X.xe I3 (stat fr3) st3 go) fun r s4 ⟨u, hr, h4⟩ => ?_)
    subst hr
    refine wpAny_passesOwn hp (thn h4 fun _ s5 ⟨x, H5, I5, r5, y5, st5, fr5⟩ => ?_)
    have I5' := I5.pinned (stat fr5) (T.obj _ _ st5)
    refine wpAny_passesOwn hp (thn (hg _ s5 σ3 H5 x u _ I5' r5 (step x H5 y5)) fun _ s6 ⟨σ6, H6, I6, q6⟩ => ?_)
    refine wpAny_passesOwn hp (thn (hb _ s6 σ6 H6 _ I6 q6) fun f s7 q7 => ?_)
    have again : ∀ {σ7 : St} {H7 : Hp}, Inv X (pins ++ pinsAt fp s5.heap) σ7 H7 s7 -> N σ7 H7 -> ∃ m, m < n /\ ∃ i σ' H', Inv X pins σ' H' s7 /\ tn i s7.heap /\ (∀ b ∈ fp, H' b = none) /\ W i m σ' H' := fun {σ7 H7} I7 n7 => by
      obtain ⟨m', hm, w7⟩ := hN σ7 H7 n7
      refine ⟨m', hm, i + 1, σ7, H7, I7.unpinned, T.keep _ _ _ st5 fun b hb o e => (I7.pin (b, o) (List.mem_append_right _ (List.mem_append_right _ (mem_pinsAt hb e)))).1, fun b hb => ?_, w7⟩
      obtain ⟨o, e, d⟩ := T.obj _ _ st5 b hb
      exact (I7.pin (b, o) (List.mem_append_right _ (List.mem_append_right _ (mem_pinsAt hb e)))).2.1
    cases f with
    | next => obtain ⟨σ7, H7, I7, n7⟩ := q7; exact again I7 n7
    | cont => obtain ⟨σ7, H7, I7, n7⟩ := q7; exact again I7 n7
    | brk => obtain ⟨σ7, H7, I7, q7⟩ := q7; exact ⟨σ7, H7, I7.unpinned, q7⟩
    | ret v => obtain ⟨x7, σ7, H7, I7, r7, q7⟩ := q7; exact ⟨x7, σ7, H7, I7.unpinned, r7, q7⟩
end
theorem for_list {K : PySem.W.Frag} {a : Addr} {xs : List V} {g : TG} {tb : TS} {D : Ends} {σ : St} {H : Hp} (Pv : Nat -> St -> Hp -> Prop) (h0 : Pv 0 σ H) (hl : ∀ i σ H, i <= xs.length -> Pv i σ H -> SqL K H a xs)
    (hs : ∀ i x σ H, xs[i]? = some x -> Pv i σ H -> g x σ H fun σ2 H2 => tb { D with nx := Pv (i + 1), ct := Pv (i + 1), bk := D.nx } σ2 H2) (hd : ∀ σ H, Pv xs.length σ H -> D.nx σ H) :
    ∃ W : Nat -> Nat -> St -> Hp -> Prop, (∃ m, W 0 m σ H) /\ ∀ i m σ H, W i m σ H ->
      ((Itl K a).stop i H /\ D.nx σ H) \/ ((Itl K a).go i H /\ ∃ N : St -> Hp -> Prop, (∀ σ' H', N σ' H' -> ∃ m', m' < m /\ W (i + 1) m' σ' H') /\ ∀ x H', (Itl K a).yld i H x H' -> g x σ H' fun σ2 H2 => tb { D with nx := N, ct := N, bk := D.nx } σ2 H2) := by
  refine ⟨fun i m σ H => m = xs.length - i /\ i <= xs.length /\ Pv i σ H, ⟨xs.length, by simp, Nat.zero_le _, h0⟩, ?_⟩
  rintro i m σ H ⟨rfl, hi, p⟩
  have q := hl i σ H hi p
  by_cases hlt : i < xs.length
  · refine .inr ⟨⟨xs, xs[i], q, by simp [hlt]⟩, Pv (i + 1), fun σ' H' p' => ⟨xs.length - (i + 1), by omega, rfl, hlt, p'⟩, fun x H' y => ?_⟩
    obtain ⟨e, y⟩ := y
    subst e
    exact hs i x σ _ (y xs q) p
  · have e : i = xs.length := by omega
    subst e
    exact .inl ⟨⟨xs, q, Nat.le_refl _⟩, hd σ H p⟩
theorem for_tup {K : PySem.W.Frag} {a : Addr} {xs : List V} {g : TG} {tb : TS} {D : Ends} {σ : St} {H : Hp} (Pv : Nat -> St -> Hp -> Prop) (h0 : Pv 0 σ H) (hl : ∀ i σ H, i <= xs.length -> Pv i σ H -> SqT K H a xs)
    (hs : ∀ i x σ H, xs[i]? = some x -> Pv i σ H -> g x σ H fun σ2 H2 => tb { D with nx := Pv (i + 1), ct := Pv (i + 1), bk := D.nx } σ2 H2) (hd : ∀ σ H, Pv xs.length σ H -> D.nx σ H) :
    ∃ W : Nat -> Nat -> St -> Hp -> Prop, (∃ m, W 0 m σ H) /\ ∀ i m σ H, W i m σ H ->
      ((Itt K a).stop i H /\ D.nx σ H) \/ ((Itt K a).go i H /\ ∃ N : St -> Hp -> Prop, (∀ σ' H', N σ' H' -> ∃ m', m' < m /\ W (i + 1) m' σ' H') /\ ∀ x H', (Itt K a).yld i H x H' -> g x σ H' fun σ2 H2 => tb { D with nx := N, ct := N, bk := D.nx } σ2 H2) := by
  refine ⟨fun i m σ H => m = xs.length - i /\ i <= xs.length /\ Pv i σ H, ⟨xs.length, by simp, Nat.zero_le _, h0⟩, ?_⟩
  rintro i m σ H ⟨rfl, hi, p⟩
  have q := hl i σ H hi p
  by_cases hlt : i < xs.length
  · refine .inr ⟨⟨xs, xs[i], q, by simp [hlt]⟩, Pv (i + 1), fun σ' H' p' => ⟨xs.length - (i + 1), by omega, rfl, hlt, p'⟩, fun x H' y => ?_⟩
    obtain ⟨e, y⟩ := y
    subst e
    exact hs i x σ _ (y xs q) p
  · have e : i = xs.length := by omega
    subst e
    exact .inl ⟨⟨xs, q, Nat.le_refl _⟩, hd σ H p⟩
theorem for_range {lo : Int} {n : Nat} {g : TG} {tb : TS} {D : Ends} {σ : St} {H : Hp} (Pv : Nat -> St -> Hp -> Prop) (h0 : Pv 0 σ H)
    (hs : ∀ i σ H, i < n -> Pv i σ H -> g (.int (lo + i)) σ H fun σ2 H2 => tb { D with nx := Pv (i + 1), ct := Pv (i + 1), bk := D.nx } σ2 H2) (hd : ∀ σ H, Pv n σ H -> D.nx σ H) :
    ∃ W : Nat -> Nat -> St -> Hp -> Prop, (∃ m, W 0 m σ H) /\ ∀ i m σ H, W i m σ H ->
      ((Itr lo n).stop i H /\ D.nx σ H) \/ ((Itr lo n).go i H /\ ∃ N : St -> Hp -> Prop, (∀ σ' H', N σ' H' -> ∃ m', m' < m /\ W (i + 1) m' σ' H') /\ ∀ x H', (Itr lo n).yld i H x H' -> g x σ H' fun σ2 H2 => tb { D with nx := N, ct := N, bk := D.nx } σ2 H2) := by
  refine ⟨fun i m σ H => m = n - i /\ i <= n /\ Pv i σ H, ⟨n, by simp, Nat.zero_le _, h0⟩, ?_⟩
  rintro i m σ H ⟨rfl, hi, p⟩
  by_cases hlt : i < n
  · refine .inr ⟨hlt, Pv (i + 1), fun σ' H' p' => ⟨n - (i + 1), by omega, rfl, hlt, p'⟩, fun x H' y => ?_⟩
    obtain ⟨e, y⟩ := y
    subst e y
    exact hs i σ _ hlt p
  · have e : i = n := by omega
    subst e
    exact .inl ⟨Nat.le_refl _, hd σ H p⟩
end L2
namespace L2
open PySem PySem.Spec PyProof.Rows
abbrev R2 := V -> V -> Hp -> VK -> Prop
def OpR (X : Cx) (f : Value -> Value -> Sem Value) (r : R2) : Prop :=
  ∀ (pins : List (Addr × Obj)) (s : Shared) (σ : St) (H : Hp) (x y : V) (v u : Value) (Q : VK), Inv X pins σ H s -> RelV x v -> RelV y u -> r x y H Q ->
    wpAny (model X.prog X.w) X.A (f v u) (EP X pins σ Q) X.xe s
def UnR (X : Cx) (f : Value -> Sem Value) (r : V -> Hp -> VK -> Prop) : Prop :=
  ∀ (pins : List (Addr × Obj)) (s : Shared) (σ : St) (H : Hp) (x : V) (v : Value) (Q : VK), Inv X pins σ H s -> RelV x v -> r x H Q ->
    wpAny (model X.prog X.w) X.A (f v) (EP X pins σ Q) X.xe s
def CallR (X : Cx) (f : Value) (r : List V -> Hp -> VK -> Prop) : Prop :=
  ∀ (pins : List (Addr × Obj)) (s : Shared) (σ : St) (H : Hp) (xs : List V) (us : List Value) (Q : VK), Inv X pins σ H s -> Vals xs us -> r xs H Q ->
    wpAny (model X.prog X.w) X.A (call f us) (EP X pins σ Q) X.xe s
def TruR (X : Cx) (r : V -> Hp -> (Bool -> Hp -> Prop) -> Prop) : Prop :=
  ∀ (pins : List (Addr × Obj)) (s : Shared) (σ : St) (H : Hp) (x : V) (v : Value) (Q : Bool -> Hp -> Prop), Inv X pins σ H s -> RelV x v -> r x H Q ->
    wpAny (model X.prog X.w) X.A (truthy v) (TP X pins σ Q) X.xe s
def tOp (r : R2) (ta tb : TE) : TE := fun σ H Q => ta σ H fun x H1 => tb σ H1 fun y H2 => r x y H2 Q
def tUn (r : V -> Hp -> VK -> Prop) (ta : TE) : TE := fun σ H Q => ta σ H fun x H1 => r x H1 Q
def rI (C : Int -> Int -> Prop) (g : Int -> Int -> V) : R2 := fun x y H Q => ∃ i j, x = .int i /\ y = .int j /\ C i j /\ Q (g i j) H
def rI0 (g : Int -> Int -> V) : R2 := fun x y H Q => ∃ i j, x = .int i /\ y = .int j /\ Q (g i j) H
def rU (g : Int -> V) : V -> Hp -> VK -> Prop := fun x H Q => ∃ i, x = .int i /\ Q (g i) H
section
variable {X : Cx} {a b c : Expr} {ta tb tc : TE} {pos : Pos}
theorem binT (ha : PE X a ta) (hb : PE X b tb) {pins : List (Addr × Obj)} {s : Shared} {σ : St} {H : Hp} {R : V -> V -> Hp -> Prop} (I : Inv X pins σ H s)
    (h : ta σ H fun x H1 => tb σ H1 fun y H2 => R x y H2) {Q : Value -> Shared -> Prop} {f : Value -> Value -> Sem Value}
    (hf : ∀ v u s2 x y H2, Inv X pins σ H2 s2 -> RelV x v -> RelV y u -> R x y H2 -> wpAny (model X.prog X.w) X.A (f v u) Q X.xe s2) :
    wpAny (model X.prog X.w) X.A (eval a X.env) (fun v s₁ => wpAny (model X.prog X.w) X.A (eval b X.env) (fun u s₂ => wpAny (model X.prog X.w) X.A (f v u) Q X.xe s₂) X.xe s₁) X.xe s := by
  refine thn (ha pins s σ H _ I h) fun v s1 ⟨x, H1, I1, r1, q1⟩ => ?_
  refine thn (hb pins s1 σ H1 _ I1 q1) fun u s2 ⟨y, H2, I2, r2, q2⟩ => ?_
  exact hf v u s2 x y H2 I2 r1 r2 q2
theorem pe_op {op : Operator} {r : R2} (ho : OpR X (binaryOp op) r) (ha : PE X a ta) (hb : PE X b tb) : PE X (.BinOp a op b pos) (tOp r ta tb) := by
  intro pins s σ H Q I h
  exact wpAny_BinOp (binT ha hb I h fun v u s2 x y H2 I2 rx ry q => ho pins s2 σ H2 x y v u Q I2 rx ry q)
theorem pe_un {op : UnaryOp} {r : V -> Hp -> VK -> Prop} (ho : UnR X (unaryOp op) r) (ha : PE X a ta) : PE X (.UnaryOp op a pos) (tUn r ta) := by
  intro pins s σ H Q I h
  exact UnaryOp_ (thn (ha pins s σ H _ I h) fun v s1 ⟨x, H1, I1, r1, q1⟩ => ho pins s1 σ H1 x v Q I1 r1 q1)
theorem opI {f : Value -> Value -> Sem Value} {C : Int -> Int -> Prop} {g : Int -> Int -> Int}
    (rule : ∀ (i j : Int) (t u : Tok) (s : Shared) (Q : Value -> Shared -> Prop) (E : Value -> Shared -> Prop), C i j -> Q (.int (g i j) s.toks) { s with toks := s.toks + 1 } -> wpAny (model X.prog X.w) X.A (f (.int i t) (.int j u)) Q E s) :
    OpR X f (rI C fun i j => .int (g i j)) := by
  intro pins s σ H x y v u Q I rx ry h
  obtain ⟨i, j, rfl, rfl, hc, q⟩ := h
  obtain ⟨t, rfl⟩ := rx
  obtain ⟨t', rfl⟩ := ry
  exact rule i j t t' s _ _ hc ⟨.int (g i j), H, I.tok _, ⟨_, rfl⟩, q⟩
theorem opI0 {f : Value -> Value -> Sem Value} {g : Int -> Int -> Int}
    (rule : ∀ (i j : Int) (t u : Tok) (s : Shared) (Q : Value -> Shared -> Prop) (E : Value -> Shared -> Prop), Q (.int (g i j) s.toks) { s with toks := s.toks + 1 } -> wpAny (model X.prog X.w) X.A (f (.int i t) (.int j u)) Q E s) :
    OpR X f (rI0 fun i j => .int (g i j)) := by
  intro pins s σ H x y v u Q I rx ry h
  obtain ⟨i, j, rfl, rfl, q⟩ := h
  obtain ⟨t, rfl⟩ := rx
  obtain ⟨t', rfl⟩ := ry
  exact rule i j t t' s _ _ ⟨.int (g i j), H, I.tok _, ⟨_, rfl⟩, q⟩
theorem opB0 {f : Value -> Value -> Sem Value} {g : Int -> Int -> Bool}
    (rule : ∀ (i j : Int) (t u : Tok) (s : Shared) (Q : Value -> Shared -> Prop) (E : Value -> Shared -> Prop), Q (.bool (g i j)) s -> wpAny (model X.prog X.w) X.A (f (.int i t) (.int j u)) Q E s) :
    OpR X f (rI0 fun i j => .bl (g i j)) := by
  intro pins s σ H x y v u Q I rx ry h
  obtain ⟨i, j, rfl, rfl, q⟩ := h
  obtain ⟨t, rfl⟩ := rx
  obtain ⟨t', rfl⟩ := ry
  exact rule i j t t' s _ _ ⟨.bl (g i j), H, I, rfl, q⟩
def CDiv (i j : Int) : Prop := 0 < j /\ j < 1073741824
def CPow (i j : Int) : Prop := 0 <= j /\ j <= 1000000 /\ i.natAbs < 2 ^ 64
def CMul (i j : Int) : Prop := (-(2 ^ 64) < i /\ i < 2 ^ 64) \/ (-(2 ^ 64) < j /\ j < 2 ^ 64)
theorem CMul.ok {i j : Int} (h : CMul i j) : IntMulOk i j := by
  rcases h with ⟨h1, h2⟩ | ⟨h1, h2⟩
  · exact .of_left (intBits_le_64 h1 h2)
  · exact .of_right (intBits_le_64 h1 h2)
theorem op_add : OpR X (binaryOp .Add) (rI0 fun i j => .int (i + j)) := opI0 fun _ _ _ _ _ _ _ q => add_int q
theorem op_sub : OpR X (binaryOp .Sub) (rI0 fun i j => .int (i - j)) := opI0 fun _ _ _ _ _ _ _ q => sub_int q
theorem op_mul : OpR X (binaryOp .Mult) (rI CMul fun i j => .int (i * j)) := opI fun _ _ _ _ _ _ _ hc q => mul_int q hc.ok
theorem op_fdiv : OpR X (binaryOp .FloorDiv) (rI CDiv fun i j => .int (i / j)) := opI fun i j _ _ _ _ _ hc q => by
  have h1 : (0 : Int) < j := hc.1
  have h2 : j < 1073741824 := hc.2
  exact floordiv_int (by omega) (by rw [Int.fdiv_eq_ediv_of_nonneg i (by omega)]; exact q) (.inl (PyProof.noPylong_small (by omega)))
theorem op_mod : OpR X (binaryOp .Mod) (rI (fun _ j => 0 < j) fun i j => .int (i % j)) := opI fun i j _ _ _ _ _ hc q => by
  have h1 : (0 : Int) < j := hc
  exact mod_int' (by omega) (by rw [Int.fmod_eq_emod_of_nonneg i (by omega)]; exact q)
theorem op_pow : OpR X (binaryOp .Pow) (rI CPow fun i j => .int (i ^ j.toNat)) := opI fun _ _ _ _ _ _ _ hc q => pow_int_small hc.1 hc.2.1 hc.2.2 q
theorem unI {f : Value -> Sem Value} {g : Int -> Int}
    (rule : ∀ (i : Int) (t : Tok) (s : Shared) (Q : Value -> Shared -> Prop) (E : Value -> Shared -> Prop), Q (.int (g i) s.toks) { s with toks := s.toks + 1 } -> wpAny (model X.prog X.w) X.A (f (.int i t)) Q E s) :
    UnR X f (rU fun i => .int (g i)) := by
  intro pins s σ H x v Q I rx h
  obtain ⟨i, rfl, q⟩ := h
  obtain ⟨t, rfl⟩ := rx
  exact rule i t s _ _ ⟨.int (g i), H, I.tok _, ⟨_, rfl⟩, q⟩
theorem un_neg : UnR X (unaryOp .USub) (rU fun i => .int (-i)) := unI fun _ _ _ _ _ q => neg_int q
end
def scal : V -> V -> Bool
  | .non, .non => true | .non, .int _ => true | .int _, .non => true | .non, .bl _ => true | .bl _, .non => true | .non, .str _ => true | .str _, .non => true
  | .int _, .int _ => true | .bl _, .bl _ => true | .str _, .str _ => true | .byt _, .byt _ => true
  | .int _, .str _ => true | .str _, .int _ => true | .bl _, .str _ => true | .str _, .bl _ => true
  | _, _ => false
def rEq : R2 := fun x y H Q => scal x y = true /\ Q (.bl (decide (x = y))) H
def rNe : R2 := fun x y H Q => scal x y = true /\ Q (.bl (!decide (x = y))) H
theorem dec_int {i j : Int} : decide (V.int i = V.int j) = (i == j) := by
  rw [Bool.eq_iff_iff]
  simp
theorem dec_bl {i j : Bool} : decide (V.bl i = V.bl j) = (i == j) := by
  rw [Bool.eq_iff_iff]
  simp
theorem dec_str {i j : Str} : decide (V.str i = V.str j) = (i == j) := by
  rw [Bool.eq_iff_iff]
  simp
theorem dec_byt {i j : Array UInt8} : decide (V.byt i = V.byt j) = (i.toList == j.toList) := by
  rw [Bool.eq_iff_iff]
  cases i
  cases j
  simp
section
variable {X : Cx} {a b c : Expr} {ta tb tc : TE} {pos : Pos}
theorem fin_bl {pins : List (Addr × Obj)} {σ : St} {H : Hp} {s : Shared} {Q : VK} {k k' : Bool} (I : Inv X pins σ H s) (q : Q (.bl k) H) (e : k = k') : EP X pins σ Q (.bool k') s := by
  subst e
  exact ⟨.bl k, H, I, rfl, q⟩
theorem op_eq : OpR X (compareOp .Eq) rEq := by
  intro pins s σ H x y v u Q I rx ry h
  obtain ⟨hs, q⟩ := h
  cases x with
  | non =>
    cases rx
    cases y with
    | non => cases ry; exact PySem.EqNone.eq_none_none (fin_bl I q (by simp))
    | bl j => cases ry; exact PySem.EqNone.eq_none_bool (fin_bl I q (by simp))
    | int j => obtain ⟨t', rfl⟩ := ry; exact PySem.EqNone.eq_none_int (fin_bl I q (by simp))
    | str j => obtain ⟨t', rfl⟩ := ry; exact PySem.EqNone.eq_none_str (fin_bl I q (by simp))
    | _ => exact absurd (show false = true from hs) Bool.false_ne_true
  | bl i =>
    cases rx
    cases y with
    | non => cases ry; exact PySem.EqNone.eq_bool_none (fin_bl I q (by simp))
    | bl j => cases ry; exact eq_bool (fin_bl I q dec_bl)
    | str j => obtain ⟨t', rfl⟩ := ry; exact PySem.EqMixed.eq_bool_str (fin_bl I q (by simp))
    | _ => exact absurd (show false = true from hs) Bool.false_ne_true
  | int i =>
    obtain ⟨t, rfl⟩ := rx
    cases y with
    | non => cases ry; exact PySem.EqNone.eq_int_none (fin_bl I q (by simp))
    | int j => obtain ⟨t', rfl⟩ := ry; exact eq_int (fin_bl I q dec_int)
    | str j => obtain ⟨t', rfl⟩ := ry; exact PySem.EqMixed.eq_int_str (fin_bl I q (by simp))
    | _ => exact absurd (show false = true from hs) Bool.false_ne_true
  | str i =>
    obtain ⟨t, rfl⟩ := rx
    cases y with
    | non => cases ry; exact PySem.EqNone.eq_str_none (fin_bl I q (by simp))
    | bl j => cases ry; exact PySem.EqMixed.eq_str_bool (fin_bl I q (by simp))
    | int j => obtain ⟨t', rfl⟩ := ry; exact PySem.EqMixed.eq_str_int (fin_bl I q (by simp))
    | str j => obtain ⟨t', rfl⟩ := ry; exact eq_str (fin_bl I q dec_str)
    | _ => exact absurd (show false = true from hs) Bool.false_ne_true
  | byt i =>
    obtain ⟨t, rfl⟩ := rx
    cases y with
    | byt j => obtain ⟨t', rfl⟩ := ry; exact PySem.W.eq_bytes (fin_bl I q dec_byt)
    | _ => exact absurd (show false = true from hs) Bool.false_ne_true
  | _ => cases y <;> exact absurd (show false = true from hs) Bool.false_ne_true
theorem op_ne : OpR X (compareOp .NotEq) rNe := by
  intro pins s σ H x y v u Q I rx ry h
  obtain ⟨hs, q⟩ := h
  cases x with
  | non =>
    cases rx
    cases y with
    | non => cases ry; exact PySem.EqNone.ne_none_none (fin_bl I q (by simp))
    | bl j => cases ry; exact PySem.EqNone.ne_none_bool (fin_bl I q (by simp))
    | int j => obtain ⟨t', rfl⟩ := ry; exact PySem.EqNone.ne_none_int (fin_bl I q (by simp))
    | str j => obtain ⟨t', rfl⟩ := ry; exact PySem.EqNone.ne_none_str (fin_bl I q (by simp))
    | _ => exact absurd (show false = true from hs) Bool.false_ne_true
  | bl i =>
    cases rx
    cases y with
    | non => cases ry; exact PySem.EqNone.ne_bool_none (fin_bl I q (by simp))
    | bl j => cases ry; exact ne_bool (fin_bl I q (congrArg not dec_bl))
    | str j => obtain ⟨t', rfl⟩ := ry; exact PySem.EqMixed.ne_bool_str (fin_bl I q (by simp))
    | _ => exact absurd (show false = true from hs) Bool.false_ne_true
  | int i =>
    obtain ⟨t, rfl⟩ := rx
    cases y with
    | non => cases ry; exact PySem.EqNone.ne_int_none (fin_bl I q (by simp))
    | int j => obtain ⟨t', rfl⟩ := ry; exact ne_int (fin_bl I q (congrArg not dec_int))
    | str j => obtain ⟨t', rfl⟩ := ry; exact PySem.EqMixed.ne_int_str (fin_bl I q (by simp))
    | _ => exact absurd (show false = true from hs) Bool.false_ne_true
  | str i =>
    obtain ⟨t, rfl⟩ := rx
    cases y with
    | non => cases ry; exact PySem.EqNone.ne_str_none (fin_bl I q (by simp))
    | bl j => cases ry; exact PySem.EqMixed.ne_str_bool (fin_bl I q (by simp))
    | int j => obtain ⟨t', rfl⟩ := ry; exact PySem.EqMixed.ne_str_int (fin_bl I q (by simp))
    | str j => obtain ⟨t', rfl⟩ := ry; exact ne_str (fin_bl I q (congrArg not dec_str))
    | _ => exact absurd (show false = true from hs) Bool.false_ne_true
  | byt i =>
    obtain ⟨t, rfl⟩ := rx
    cases y with
    | byt j => obtain ⟨t', rfl⟩ := ry; exact PySem.W.ne_bytes (fin_bl I q (congrArg not dec_byt))
    | _ => exact absurd (show false = true from hs) Bool.false_ne_true
  | _ => cases y <;> exact absurd (show false = true from hs) Bool.false_ne_true
theorem op_lt : OpR X (compareOp .Lt) (rI0 fun i j => .bl (decide (i < j))) := opB0 fun _ _ _ _ _ _ _ q => lt_int q
theorem op_le : OpR X (compareOp .LtE) (rI0 fun i j => .bl (decide (i <= j))) := opB0 fun _ _ _ _ _ _ _ q => le_int q
theorem op_gt : OpR X (compareOp .Gt) (rI0 fun i j => .bl (decide (j < i))) := opB0 fun _ _ _ _ _ _ _ q => gt_int q
theorem op_ge : OpR X (compareOp .GtE) (rI0 fun i j => .bl (decide (j <= i))) := opB0 fun _ _ _ _ _ _ _ q => ge_int q
theorem op_isN : OpR X (compareOp .Is) (fun x y H Q => y = .non /\ Q (.bl (decide (x = .non))) H) := by
  intro pins s σ H x y v u Q I rx ry h
  obtain ⟨rfl, q⟩ := h
  cases ry
  refine is_none_gen (fin_bl I q ?_)
  cases x <;> first
    | (cases rx; rfl)
    | (obtain ⟨t, rfl⟩ := rx; rfl)
theorem nomark (b : Expr) {op : CmpOp} (h : op ≠ .In := by decide) (h2 : op ≠ .NotIn := by decide) : behindInMarks op b = false := by
  have e1 : (op == CmpOp.In) = false := by cases op <;> first | rfl | exact absurd rfl h
  have e2 : (op == CmpOp.NotIn) = false := by cases op <;> first | rfl | exact absurd rfl h2
  cases b <;> simp [behindInMarks, e1, e2]
theorem pe_cmpR {op : CmpOp} {r : R2} (ho : OpR X (compareOp op) r) (ha : PE X a ta) (hb : PE X b tb) (hm : behindInMarks op b = false) : PE X (.Compare a [op] [b] pos) (tOp r ta tb) := by
  intro pins s σ H Q I h
  exact wpAny_Compare1 (binT ha hb I h fun v u s2 x y H2 I2 rx ry q => ho pins s2 σ H2 x y v u Q I2 rx ry q) hm
def tTest (t : TE) : TT := fun σ H Q => t σ H fun x H' => ∃ k, x = .bl k /\ Q k H'
theorem pt_cmpR {op : CmpOp} {r : R2} (ho : OpR X (compareOp op) r) (ha : PE X a ta) (hb : PE X b tb) (hm : behindInMarks op b = false) : PT X (.Compare a [op] [b] pos) (tTest (tOp r ta tb)) := by
  intro pins s σ H Q I h
  refine wpAny_isTrue_Compare1 (thn (ha pins s σ H _ I h) fun v s1 ⟨x, H1, I1, r1, q1⟩ => thn (hb pins s1 σ H1 _ I1 q1) fun u s2 ⟨y, H2, I2, r2, q2⟩ =>
    thn (ho pins s2 σ H2 x y v u _ I2 r1 r2 q2) fun c s3 ⟨z, H3, I3, r3, k, e, q3⟩ => ?_) hm
  subst e
  cases r3
  exact wpAny_truthy_bool ⟨H3, I3, q3⟩
def tChain (r r' : R2) (ta tb tc : TE) : TE := fun σ H Q => ta σ H fun x H1 => tb σ H1 fun y H2 => r x y H2 fun z H3 => ∃ k, z = .bl k /\
  (if k = true then tc σ H3 fun w' H4 => r' y w' H4 Q else Q (.bl false) H3)
theorem pe_chain {op op' : CmpOp} {r r' : R2} (ho : OpR X (compareOp op) r) (ho' : OpR X (compareOp op') r') (ha : PE X a ta) (hb : PE X b tb) (hc : PE X c tc)
    (hm : lastMarks [op, op'] [b, c] = false := by with_unfolding_all rfl) : PE X (.Compare a [op, op'] [b, c] pos) (tChain r r' ta tb tc) := by
  intro pins s σ H Q I h
  refine Compare_chain (thn (ha pins s σ H _ I h) fun v s1 ⟨x, H1, I1, r1, q1⟩ => chain_link (thn (hb pins s1 σ H1 _ I1 q1) fun u s2 ⟨y, H2, I2, r2, q2⟩ =>
    thn (ho pins s2 σ H2 x y v u _ I2 r1 r2 q2) fun d s3 ⟨z, H3, I3, r3, k, e, q3⟩ => ?_)) hm
  subst e
  cases r3
  refine wpAny_truthy_bool ?_
  cases k with
  | false => exact ite_ff ⟨.bl false, H3, I3, rfl, q3⟩
  | true => exact ite_tt (chain_last (thn (hc pins s3 σ H3 _ I3 q3) fun w' s4 ⟨z', H4, I4, r4, q4⟩ => ho' pins s4 σ H4 y z' u w' Q I4 r2 r4 q4))
def TruV (K : PySem.W.Frag) (x : V) (H : Hp) (k : Bool) : Prop :=
  match x with
  | .non => k = false
  | .bl b => k = b
  | .int i => k = (i != 0)
  | .str y => y.length <= sizeLine /\ k = ((y.length : Int) != 0)
  | .byt y => y.size <= sizeLine /\ k = ((y.size : Int) != 0)
  | .ref p => (∃ xs, SqL K H p xs /\ k = !xs.isEmpty) \/ (∃ xs, SqT K H p xs /\ k = !xs.isEmpty) \/ ∃ kvs, H p = some (.dK kvs) /\ k = !kvs.isEmpty
  | _ => False
theorem isEmpty_kv {κ : Type} {kvs : List (κ × V)} {vs : List (κ × Value)} (r : KV kvs vs) : (!vs.isEmpty) = !kvs.isEmpty := by
  cases r <;> rfl
theorem isEmpty_of {xs : List V} {its : List Value} (r : Vals xs its) : (!its.toArray.isEmpty) = !xs.isEmpty := by
  cases r <;> simp
theorem line63 : (sizeLine : Nat) < 2 ^ 63 := by rw [sizeLine_eq]; decide
theorem tru_ok : TruR X (fun x H Q => ∃ k, TruV X.K x H k /\ Q k H) := by
  intro pins s σ H x v Q I rx h
  obtain ⟨k, e, q⟩ := h
  have hl := line63
  have hs : sizeLine = 16777216 := sizeLine_eq
  cases x with
  | non =>
    cases rx
    have e' : k = false := e
    subst e'
    exact truthy_none ⟨H, I, q⟩
  | bl b =>
    cases rx
    have e' : k = b := e
    subst e'
    exact wpAny_truthy_bool ⟨H, I, q⟩
  | int i =>
    obtain ⟨t, rfl⟩ := rx
    have e' : k = (i != 0) := e
    subst e'
    exact PySem.P.truthy_int ⟨H, I, q⟩
  | str y =>
    obtain ⟨t, rfl⟩ := rx
    obtain ⟨hy, e'⟩ : y.length <= sizeLine /\ k = ((y.length : Int) != 0) := e
    subst e'
    exact PySem.P.truthy_str (by omega) ⟨H, I.tok _, q⟩
  | byt y =>
    obtain ⟨t, rfl⟩ := rx
    obtain ⟨hy, e'⟩ : y.size <= sizeLine /\ k = ((y.size : Int) != 0) := e
    subst e'
    exact PySem.W.truthy_bytes (by omega) ⟨H, I.tok _, q⟩
  | ref p =>
    cases rx
    have e' : (∃ xs, SqL X.K H p xs /\ k = !xs.isEmpty) \/ (∃ xs, SqT X.K H p xs /\ k = !xs.isEmpty) \/ ∃ kvs, H p = some (.dK kvs) /\ k = !kvs.isEmpty := e
    rcases e' with ⟨xs, hx, e'⟩ | ⟨xs, hx, e'⟩ | ⟨kvs, hx, e'⟩
    · subst e'
      obtain ⟨its, r, pl, hz⟩ := I.list hx
      have hlen := r.length
      exact wpAny_truthy_list pl.isList (by simp only [List.size_toArray]; omega) ⟨H, I.tok _, by rw [isEmpty_of r]; exact q⟩
    · subst e'
      obtain ⟨its, r, pl, hz⟩ := I.tuple hx
      have hlen := r.length
      exact truthy_tuple pl (by simp only [List.size_toArray]; omega) ⟨H, I.tok _, by rw [isEmpty_of r]; exact q⟩
    · subst e'
      obtain ⟨hz, hS, vs, r, m⟩ : kvs.length <= sizeLine /\ (p == sysModules) = false /\ ∃ vs, KV kvs vs /\ s.heap.DictOf (mixKind X.prog X.w) p vs := I.hok p _ hx
      have hlen : kvs.length = vs.length := Paired.length r
      exact wpAny_truthy_dict hS m (by omega) ⟨H, I.tok _, by rw [isEmpty_kv r]; exact q⟩
  | _ => exact (show False from e).elim
theorem pt_truth (ha : PE X a ta) (he : ∀ whole, isTrue a X.env whole = (do let v <- whole; standAt a.pos; holding [v] (truthy v))) :
    PT X a (fun σ H Q => ta σ H fun x H' => ∃ k, TruV X.K x H' k /\ Q k H') := by
  intro pins s σ H Q I h
  exact isTrue_plain (thn (ha pins s σ H _ I h) fun v s1 ⟨x, H1, I1, r1, q1⟩ => tru_ok pins s1 σ H1 x v Q I1 r1 q1) (he _)
theorem vals1 {x : V} {us : List Value} (r : Vals [x] us) : ∃ u, us = [u] /\ RelV x u := by
  cases r with
  | cons r1 r2 => cases r2; exact ⟨_, rfl, r1⟩
theorem vals2 {x y : V} {us : List Value} (r : Vals [x, y] us) : ∃ u w', us = [u, w'] /\ RelV x u /\ RelV y w' := by
  cases r with
  | cons r1 r2 =>
    cases r2 with
    | cons r3 r4 => cases r4; exact ⟨_, _, rfl, r1, r3⟩
theorem call_min2 (hc : X.calm = true) : CallR X (.builtin "min") (fun xs H Q => ∃ i j, xs = [.int i, .int j] /\ Q (.int (if j < i then j else i)) H) := by
  intro pins s σ H xs us Q I r h
  obtain ⟨i, j, rfl, q⟩ := h
  obtain ⟨u, w', rfl, ⟨t, rfl⟩, ⟨t', rfl⟩⟩ := vals2 r
  refine min_two_ints (I.ok.hd hc) fun h' tk k => ⟨_, H, I.kept k, ?_, q⟩
  by_cases hj : j < i
  · rw [if_pos hj, if_pos hj]; exact ⟨_, rfl⟩
  · rw [if_neg hj, if_neg hj]; exact ⟨_, rfl⟩
theorem call_int1 : CallR X (.type "int") (fun xs H Q => (∃ i, xs = [.int i] /\ Q (.int i) H) \/ ∃ k, xs = [.bl k] /\ Q (.int (if k then 1 else 0)) H) := by
  intro pins s σ H xs us Q I r h
  rcases h with ⟨i, rfl, q⟩ | ⟨k, rfl, q⟩
  · obtain ⟨u, rfl, t, rfl⟩ := vals1 r
    exact call_int_int ⟨.int i, H, I, ⟨_, rfl⟩, q⟩
  · obtain ⟨u, rfl, r1⟩ := vals1 r
    cases r1
    exact call_int_bool ⟨.int (if k then 1 else 0), H, I.tok _, ⟨_, rfl⟩, q⟩
end
end L2
namespace L2
open PySem PySem.Spec PyProof.Rows
structure ObjM (h : Heap) (x dx C : Addr) (mA : Str -> Option Value) : Prop where
  obj : h.get? x = some (PySem.W.instObj C dx)
  ns : h.Ns1 dx mA
  ne : dx ≠ x
theorem lookIn_ns {h : Heap} {dx : Addr} {mA : Str -> Option Value} (n : h.Ns1 dx mA) : ∃ od, h.get? dx = some od /\ ∀ name, PySem.W.lookIn name od = some (mA name) := by
  obtain ⟨o, es, ep, ho, hd, hk, _, hm⟩ := n
  refine ⟨o, ho, fun name => ?_⟩
  have e := hm name
  unfold nsFind findBy at e
  rw [<- Array.find?_toList] at e
  unfold PySem.W.lookIn
  rw [hd]
  dsimp only
  split
  · rename_i y q
    rw [q] at e
    exact congrArg some e
  · rename_i q
    rw [q] at e
    have a : es.toList.any (·.refKey) = false := by
      rw [List.any_eq_false]
      intro y hy
      obtain ⟨z, t, hkey⟩ := hk y (Array.mem_toList_iff.mp hy)
      simp [DictEntry.refKey, hkey]
    have a' : ¬ es.toList.any (·.refKey) = true := by rw [a]; exact Bool.false_ne_true
    rw [if_neg a']
    exact congrArg some e
theorem ObjM.look {h : Heap} {x dx C : Addr} {mA : Str -> Option Value} (I : ObjM h x dx C mA) : ∃ od, PySem.W.InstAt h x (PySem.W.instObj C dx) C (some od) /\ ∀ name, PySem.W.lookIn name od = some (mA name) :=
  let ⟨od, ho, hl⟩ := lookIn_ns I.ns
  ⟨od, ⟨I.obj, rfl, rfl, ho⟩, hl⟩
section
variable {prog : Program} {w : World} {A : Around} {E : Value -> Shared -> Prop} {s : Shared} {K : PySem.W.Frag} {x dx C f : Addr} {mA : Str -> Option Value} {name : Str} {v : Value}
end
theorem RelO.some_of {v : V} {o : Option Value} (r : RelO (some v) o) : ∃ u, o = some u /\ RelV v u := by
  cases o with
  | none => exact (show False from r).elim
  | some u => exact ⟨u, rfl, r⟩
section
variable {P : Program} {w : World} {H H' : Hp} {h h' : Heap} {a C dx : Addr} {fs fs' : List (Str × V)}
theorem ins_get (hok : HOk P w H h) (e : H a = some (.ins C dx fs)) : ∃ mA, ObjM h a dx C mA /\ (∀ f, RelO (fs.lookup f) (mA f)) /\ PySem.Within mA (fs.map (·.1)) /\ fs.length <= 1000 /\ H dx = some (.own a) := by
  obtain ⟨d, z, ne, ob, mA, n, r, q⟩ := (show ObjOk P w H h a (.ins C dx fs) from hok a _ e)
  exact ⟨mA, ⟨ob, n, ne⟩, r, q, z, d⟩
end
structure Cls (K : PySem.W.Frag) (C : Addr) : Prop where
  pg : PySem.W.plainGet K C Str.empty = true
  hd : PySem.W.hasDictIn K C = true
  po : PySem.W.plainOver K C = true
  sa : PySem.W.findIn K (.ref C) "__setattr__" = some (some (.builtin "object.__setattr__"))
theorem Cls.get {K : PySem.W.Frag} {C : Addr} (c : Cls K C) (f : Str) : PySem.W.plainGet K C f = true := c.pg
structure Con (K : PySem.W.Frag) (C : Addr) (f : Str) (v : V) (u : Value) : Prop where
  at_ : PySem.W.findIn K (.ref C) f = some (some u)
  rel : RelV v u
  get : PySem.W.specialIn K u "__get__" = some none
  cp : PySem.W.copiedNames.contains f = false
structure Meth (K : PySem.W.Frag) (C : Addr) (m : Str) (f : Addr) : Prop where
  at_ : PySem.W.findIn K (.ref C) m = some (some (.ref f))
  fn : PySem.W.isFn K (.ref f) = true
  kp : PySem.W.keepIn K (.ref f) = true
section
variable {X : Cx} {pins : List (Addr × Obj)} {σ : St} {H : Hp} {s : Shared} {a C dx : Addr} {fs : List (Str × V)} {f : Str} {v : V} {A : Around} {E : Value -> Shared -> Prop}
end
section
variable {X : Cx} {o e value : Expr} {f : Str} {pos pos' tpos : Pos} {ta tv : TE}
end
section
variable {X : Cx} {pins : List (Addr × Obj)} {σ : St} {H : Hp} {s : Shared} {A : Around} {E : Value -> Shared -> Prop} {Q : Value -> Shared -> Prop} {c : Value} {b : Bool}
inductive TyOf (K : PySem.W.Frag) (H : Hp) : V -> Value -> Prop where
  | non : TyOf K H .non (.type "NoneType")
  | bl (x : Bool) : TyOf K H (.bl x) (.type "bool")
  | int (i : Int) : TyOf K H (.int i) (.type "int")
  | str (x : Str) : TyOf K H (.str x) (.type "str")
  | flt (x : UInt64) : TyOf K H (.flt x) (.type "float")
  | lst {a : Addr} {xs : List V} (e : H a = some (.lst xs)) : TyOf K H (.ref a) (.type "list")
  | frz {a : Addr} {o : Obj} {xs : List V} (e : H a = some (.frz o (.lst xs))) : TyOf K H (.ref a) (.type "list")
  | tup {a : Addr} {xs : List V} (e : H a = some (.tup xs)) : TyOf K H (.ref a) (.type "tuple")
  | dK {a : Addr} {kvs : List (Key × V)} (e : H a = some (.dK kvs)) : TyOf K H (.ref a) (.type "dict")
  | dT {a : Addr} {kvs : List (List Key × V)} (e : H a = some (.dT kvs)) : TyOf K H (.ref a) (.type "dict")
  | ins {a C dx : Addr} {fs : List (Str × V)} (e : H a = some (.ins C dx fs)) (cl : Cls K C) (ha : PySem.W.findIn K (.ref C) "__class__" = some (some (.builtin "object.__class__")))
      (hn : PySem.W.specialIn K (.builtin "object.__class__") "__get__" = some (some (.builtin "getset_descriptor.__get__"))) (htk : PySem.W.takesIn K (.builtin "object.__class__") = some true)
      (hm : PySem.W.mroIn K C (.type "object") = some true) : TyOf K H (.ref a) (.ref C)
theorem isinst_ok {x : V} {u t : Value} (I : Inv X pins σ H s) (rx : RelV x u) (ty : TyOf X.K H x t) (e : PySem.W.kitOne X.K t c = some b) (h : ∀ tk, Q (.bool b) { s with toks := tk }) :
    wpAny (model X.prog X.w) A (call (.builtin "isinstance") [u, c]) Q E s := by
  cases ty with
  | non => cases (show u = Value.none from rx); exact PySem.W.kia_one PySem.W.kitx_none I.kIn True.intro e (fun z => nomatch z) h
  | bl y => cases (show u = Value.bool y from rx); exact PySem.W.kia_one PySem.W.kitx_bool I.kIn True.intro e (fun z => nomatch z) h
  | int i => obtain ⟨t, q⟩ := (show ∃ t, u = Value.int i t from rx); cases q; exact PySem.W.kia_one PySem.W.kitx_int I.kIn True.intro e (fun z => nomatch z) h
  | str y => obtain ⟨t, q⟩ := (show ∃ t, u = Value.str y t from rx); cases q; exact PySem.W.kia_one PySem.W.kitx_str I.kIn True.intro e (fun z => nomatch z) h
  | flt y => obtain ⟨t, q⟩ := (show ∃ t, u = Value.float y t from rx); cases q; exact PySem.W.kia_one PySem.W.kitx_float I.kIn True.intro e (fun z => nomatch z) h
  | @lst a xs ea =>
    cases (show u = Value.ref a from rx)
    obtain ⟨_, _, n, _, h1⟩ := (show ObjOk X.prog X.w H s.heap a (.lst xs) from I.hok a _ ea)
    exact PySem.W.kia_one PySem.W.kitx_list I.kIn ⟨_, h1, rfl⟩ e (fun z => nomatch z) h
  | @frz a ob xs ea =>
    cases (show u = Value.ref a from rx)
    obtain ⟨_, _, _, n, _, h1⟩ := (show ObjOk X.prog X.w H s.heap a (.frz ob (.lst xs)) from I.hok a _ ea)
    exact PySem.W.kia_one PySem.W.kitx_list I.kIn ⟨_, h1, rfl⟩ e (fun z => nomatch z) h
  | @tup a xs ea =>
    cases (show u = Value.ref a from rx)
    obtain ⟨_, _, _, p⟩ := (show ObjOk X.prog X.w H s.heap a (.tup xs) from I.hok a _ ea)
    obtain ⟨o, h1, h2, _⟩ := p
    exact PySem.W.kia_one PySem.W.kitx_tuple I.kIn ⟨o, h1, h2⟩ e (fun z => nomatch z) h
  | @dK a kvs ea =>
    cases (show u = Value.ref a from rx)
    obtain ⟨_, _, vs, _, p⟩ := (show ObjOk X.prog X.w H s.heap a (.dK kvs) from I.hok a _ ea)
    obtain ⟨o, es, ep, h1, h2, _⟩ := p
    exact PySem.W.kia_one PySem.W.kitx_dict I.kIn ⟨o, h1, h2.1⟩ e (fun z => nomatch z) h
  | @dT a kvs ea =>
    cases (show u = Value.ref a from rx)
    obtain ⟨_, _, xs, _, o, es, ep, h1, h2, _⟩ := (show ObjOk X.prog X.w H s.heap a (.dT kvs) from I.hok a _ ea)
    exact PySem.W.kia_one PySem.W.kitx_dict I.kIn ⟨o, h1, h2.1⟩ e (fun z => nomatch z) h
  | @ins a C dx fs ea cl ha hn htk hm =>
    cases (show u = Value.ref a from rx)
    obtain ⟨mA, O, _⟩ := ins_get I.hok ea
    obtain ⟨od, J, _⟩ := O.look
    exact PySem.W.kia_one (PySem.W.kitx_own (cl.get _) cl.hd ha hn htk hm) I.kIn J e (fun z => nomatch z) h
end
end L2
namespace L2
open PySem PySem.Spec PyProof.Rows
structure Room (k : Nat) (A : Around) : Prop where
  hd : A.handled = none
  dp : A.depth + 3 * k + 5 < recursionLimit
  un : A.units + 16 * k + 200 < cLine
theorem Room.mono {j k : Nat} {A : Around} (r : Room k A) (h : j <= k) : Room j A := ⟨r.hd, by have := r.dp; omega, by have := r.un; omega⟩
theorem Room.deeper {k : Nat} {A : Around} (r : Room (k + 1) A) (env : Env) : Room k (A.deeper env) :=
  ⟨r.hd, by have := r.dp; show A.depth + 1 + 3 * k + 5 < _; omega, by have := r.un; show A.units + 3 + 16 * k + 200 < _; omega⟩
theorem Room.depth {k : Nat} {A : Around} (r : Room k A) : A.depth < recursionLimit := by have := r.dp; omega
theorem Room.units {k : Nat} {A : Around} (r : Room k A) : A.units + 64 < cLine := by have := r.un; omega
def tNil : TA := fun _ H Q => Q [] H
def tCons (ta : TE) (tr : TA) : TA := fun σ H Q => ta σ H fun x H1 => tr σ H1 fun xs H2 => Q (x :: xs) H2
section
variable {X : Cx} {e : Expr} {es : List Expr} {te : TE} {t : TA} {pos : Pos}
theorem pa_nil : PA X [] tNil := fun _ _ _ _ H Q I h => Calls.spliced_nil ⟨[], H, I, .nil, h⟩
theorem pa_cons (ha : PE X e te) (hr : PA X es t) (hs : starEach (e :: es) X.env = (false, eval e X.env) :: starEach es X.env := by rfl) : PA X (e :: es) (tCons te t) := by
  intro pos pins s σ H Q I h
  rw [hs]
  show wpAny _ _ (spliced ((false, eval e X.env) :: backTo pos (starEach es X.env))) _ _ s
  refine Calls.spliced_cons (thn (ha pins s σ H _ I h) fun u s1 ⟨x, H1, I1, r1, q1⟩ => ?_)
  exact thn (hr pos pins s1 σ H1 _ I1 q1) fun us s2 ⟨xs, H2, I2, r2, q2⟩ => ⟨x :: xs, H2, I2, .cons r1 r2, q2⟩
def tTup (t : TA) : TE := fun σ H Q => t σ H fun xs H1 => xs.length <= sizeLine /\ ∀ p, H1 p = none -> Q (.ref p) (upd H1 p (.tup xs))
def tLst (t : TA) : TE := fun σ H Q => t σ H fun xs H1 => xs.length <= sizeLine /\ ∀ p, H1 p = none -> Q (.ref p) (upd H1 p (.lst xs))
theorem pe_tup {x1} (h : PA X es t) : PE X (.Tuple es x1 pos) (tTup t) := by
  intro pins s σ H Q I hq
  refine wpAny_Tuple_spliced (thn (h pos pins s σ H _ I hq) fun us s1 ⟨xs, H1, I1, r, z, q⟩ => ⟨by rw [<- r.length]; exact z, ?_⟩)
  have hf : H1 s1.heap.objs.size = none := I1.hok.fresh (Nat.le_refl _)
  refine ⟨.ref s1.heap.objs.size, upd H1 s1.heap.objs.size (.tup xs), I1.laid (t' := s1.toks) (fun b u e => Heap.get?_push_of_some _ e) (Nat.le_refl _) ?_, rfl, q _ hf⟩
  exact ⟨z, us, r, ⟨_, Heap.get?_push_size _ rfl, rfl, _, rfl⟩⟩
theorem pe_lst (h : PA X es t) : PE X (.List es pos) (tLst t) := by
  intro pins s σ H Q I hq
  refine wpAny_List_spliced (thn (h pos pins s σ H _ I hq) fun us s1 ⟨xs, H1, I1, r, z, q⟩ => ⟨by rw [<- r.length]; exact z, ?_⟩)
  have hf : H1 s1.heap.objs.size = none := I1.hok.fresh (Nat.le_refl _)
  refine ⟨.ref s1.heap.objs.size, upd H1 s1.heap.objs.size (.lst xs), I1.laid (t' := s1.toks) (fun b u e => Heap.get?_push_of_some _ e) (Nat.le_refl _) ?_, rfl, q _ hf⟩
  exact ⟨z, us, 0, r, Heap.get?_push_size _ rfl⟩
end
abbrev Sp := List V -> Hp -> VK -> XK -> Prop
abbrev CXT := List Env -> Hp -> Shared -> XK -> Value -> Shared -> Prop
structure Env0 (P : Program) (w : World) (K : PySem.W.Frag) (mg : Str -> Option Value) (base : Heap) (A : Around) (outer : List Env) (s : Shared) (H : Hp) : Prop where
  frames : A.frames = some outer
  mod : Mod K mg base
  bs : ∀ b o, base.get? b = some o -> s.heap.get? b = some o /\ H b = none
  bsz : base.objs.size <= s.heap.objs.size
  funs : s.heap.FunFrames base outer
  frf : ∀ b ∈ frs outer, H b = none
  hok : HOk P w H s.heap
  bare : AllBare s.gens
def CE (outer : List Env) (P : Program) (w : World) (H : Hp) (s : Shared) (Q : VK) (u : Value) (s' : Shared) : Prop :=
  ∃ v H', s'.os = s.os /\ AllBare s'.gens /\ Un (frs outer) [] H H' s.heap s'.heap /\ HOk P w H' s'.heap /\ RelV v u /\ Q v H'
def CR (CX : CXT) (outer : List Env) (P : Program) (w : World) (H : Hp) (s : Shared) (Q : VK) (E : XK) (r : Result) (s' : Shared) : Prop :=
  match r with
  | .ok (.ret u) => CE outer P w H s Q u s'
  | .ok _ => False
  | .error e => CX outer H s E e s'
structure FnOk (P : Program) (w : World) (K : PySem.W.Frag) (mg : Str -> Option Value) (base : Heap) (CX : CXT) (k : Nat) (f : Addr) (fd : FuncData) (ps : List Str) (sp : Sp) : Prop where
  len : ∀ vs H Q E, sp vs H Q E -> vs.length = ps.length
  run : ∀ (A : Around) (outer : List Env) (s : Shared) (H : Hp) (args : Args) (us : List Value) (vs : List V) (Q : VK) (E : XK), Room k A -> Env0 P w K mg base A outer s H -> BindsTo s fd args (ps.zip us) -> Vals vs us -> sp vs H Q E ->
    codeAny (model P w) A (.call (.ref f) args) (CR CX outer P w H s Q E) s
section
variable {X : Cx} {pins : List (Addr × Obj)} {σ : St} {H : Hp} {s s' : Shared}
theorem Inv.env0 (I : Inv X pins σ H s) : Env0 X.prog X.w X.K X.mg X.base X.A X.stack s H :=
  ⟨I.ok.frames, I.ok.mod, I.bs, Nat.le_trans I.ok.bsz I.sz, I.stack, I.stkFree, I.hok, I.bare⟩
theorem Inv.after {Q : VK} {u : Value} (I : Inv X pins σ H s) (h : CE X.stack X.prog X.w H s Q u s') : EP X pins σ Q u s' := by
  obtain ⟨v, H', os, bare, un, hok, r, q⟩ := h
  obtain ⟨hh, g, d, t, os'⟩ := s'
  obtain rfl : os' = s.os := os
  exact ⟨v, H', I.call (h' := hh) (g' := g) (d' := d) (t' := t) (ch := []) un hok bare (fun b z => absurd z (by simp)), r, q⟩
end
def tCall (sp : Sp) (dvs : List V) (E : XK) (t : TA) : TE := fun σ H Q => t σ H fun vs H1 => sp (vs ++ dvs) H1 Q E
def Binds (K : PySem.W.Frag) (fd : FuncData) (ps : List Str) (ds : List Value) : Prop :=
  ∀ (s : Shared) (us : List Value), K.In s.heap -> (us ++ ds).length = ps.length -> BindsTo s fd ⟨us, []⟩ (ps.zip (us ++ ds))
theorem Binds.all {K : PySem.W.Frag} {fd : FuncData} {ps : List Str} (h : ∀ us : List Value, us.length = ps.length -> bindArgs fd ⟨us, []⟩ = pure (ps.zip us)) : Binds K fd ps [] := fun s us _ hl => by
  rw [List.append_nil] at hl ⊢
  exact .of_eq (h us hl)
def Passes (CX : CXT) (X : Cx) (E : XK) : Prop := ∀ (pins : List (Addr × Obj)) (σ : St) (H : Hp) (s : Shared) (e : Value) (s' : Shared), Inv X pins σ H s -> CX X.stack H s E e s' -> X.xe e s'
section
variable {X : Cx} {CX : CXT} {k : Nat} {f C : Addr} {fd : FuncData} {ps : List Str} {sp : Sp} {dvs : List V} {ds : List Value} {E : XK} {x m : Str} {p pos apos : Pos} {e o : Expr} {es : List Expr} {ta : TE} {t : TA}
theorem run_fn {pins : List (Addr × Obj)} {σ : St} {H : Hp} {s : Shared} {Q : VK} {us : List Value} {vs : List V} (F : FnOk X.prog X.w X.K X.mg X.base CX k f fd ps sp) (hr : Room k X.A) (hb : Binds X.K fd ps ds) (hd : Vals dvs ds) (hx : Passes CX X E)
    (I : Inv X pins σ H s) (r : Vals vs us) (h : sp (vs ++ dvs) H Q E) : wpAny (model X.prog X.w) X.A (call (.ref f) us) (EP X pins σ Q) X.xe s := by
  have r2 : Vals (vs ++ dvs) (us ++ ds) := r.append hd
  have hl : (us ++ ds).length = ps.length := by rw [<- r2.length]; exact F.len _ _ _ _ h
  refine wpAny_call (codeAny_mono (F.run X.A X.stack s H ⟨us, []⟩ (us ++ ds) (vs ++ dvs) Q E hr I.env0 (hb s us I.kIn hl) r2 h) fun r s' hq => ?_)
  cases r with
  | error e => exact hx pins σ H s e s' I hq
  | ok fl =>
    cases fl with
    | ret u => exact I.after hq
    | next => exact False.elim hq
    | brk => exact False.elim hq
    | cont => exact False.elim hq
theorem pe_call (F : FnOk X.prog X.w X.K X.mg X.base CX k f fd ps sp) (hr : Room k X.A) (hg : Gl X x) (hm : X.mg x = some (.ref f)) (hk : PySem.W.keepIn X.K (.ref f) = true) (hb : Binds X.K fd ps ds) (hd : Vals dvs ds) (hx : Passes CX X E)
    (ha : PA X (e :: es) t) (hdb : (x == ("__debug__" : Str)) = false := by decide) (he : starEach (e :: es) X.env = (false, eval e X.env) :: starEach es X.env := by rfl) (hpl : (backTo pos (starEach es X.env)).any (·.1) = false := by rfl) :
    PE X (.Call (.Name x p) (e :: es) [] pos) (tCall sp dvs E t) := by
  intro pins s σ H Q I h
  refine wpAny_Call_Name_kw (ld_glob I hg hm ?_ hdb)
  refine PySem.W.callWith_K (h₀ := X.base) I.ok.mod.kin hk (thn (ha pos pins s σ H _ I h) fun us s1 ⟨vs, H1, I1, r, q⟩ => ⟨I1.kIn, ?_⟩) he hpl
  exact run_fn F hr hb hd hx I1 r q
structure Mk (K : PySem.W.Frag) (C f : Addr) : Prop where
  makes : PySem.W.makesIn K C = true
  init : PySem.W.findIn K (.ref C) "__init__" = some (some (.ref f))
  fn : PySem.W.isFn K (.ref f) = true
  kp : PySem.W.keepIn K (.ref C) = true
end
section
variable {X : Cx} {CX : CXT} {k : Nat} {f C : Addr} {fd : FuncData} {ps ks : List Str} {sp : Sp} {E : XK} {x m : Str} {p pos apos kpos : Pos} {e o : Expr} {es : List Expr} {kws : List Keyword} {te ta : TE} {t tk : TA} {nm : Option Str}
structure KBinds (K : PySem.W.Frag) (fd : FuncData) (ps ks : List Str) (g : List Value -> List Value -> List Value) (gV : List V -> List V -> List V) : Prop where
  to : ∀ (s : Shared) (us ws : List Value), K.In s.heap -> (g us ws).length = ps.length -> BindsTo s fd ⟨us, ks.zip ws⟩ (ps.zip (g us ws))
  rel : ∀ {vs : List V} {us : List Value} {zs : List V} {ws : List Value}, Vals vs us -> Vals zs ws -> Vals (gV vs zs) (g us ws)
variable {g : List Value -> List Value -> List Value} {gV : List V -> List V -> List V}
end
structure FnScope (N P : List Str) (sc : Scope) : Prop where
  kind : sc.kind = .function
  co : sc.isCoroutine = false
  gen : sc.isGenerator = false
  nd : N.Nodup
  pre : N.take P.length = P
  par : ∀ x ∈ P, sc.names.lookup x = some .local \/ sc.names.lookup x = some .cell
  nofree : ∀ y ∈ sc.names, y.2 ≠ .free
theorem bindL_out {kindOf : Str -> Option NameKind} {x : Str} : ∀ {binds : List (Str × Value)} {m : Str -> Option Value}, (∀ v, (x, v) ∉ binds) -> bindL kindOf binds m x = m x
  | [], _, _ => rfl
  | (n, v) :: r, m, h => by
    unfold bindL
    rw [bindL_out fun w hw => h w (List.mem_cons_of_mem _ hw)]
    split
    · have : x ≠ n := by rintro rfl; exact h v List.mem_cons_self
      simp [this]
    · rfl
theorem bindC_out {kindOf : Str -> Option NameKind} {x : Str} : ∀ {binds : List (Str × Value)} {m : Str -> Option Value}, (∀ v, (x, v) ∉ binds) -> bindC kindOf binds m x = m x
  | [], _, _ => rfl
  | (n, v) :: r, m, h => by
    unfold bindC
    rw [bindC_out fun w hw => h w (List.mem_cons_of_mem _ hw)]
    split
    · rfl
    · have : x ≠ n := by rintro rfl; exact h v List.mem_cons_self
      simp [this]
theorem bindL_get {kindOf : Str -> Option NameKind} {x : Str} {v : Value} : ∀ {P : List Str} {vs : List Value} {i : Nat} {m : Str -> Option Value}, P.Nodup -> P[i]? = some x -> vs[i]? = some v -> kindOf x = some .local ->
    bindL kindOf (P.zip vs) m x = some v
  | [], _, _, _, _, h, _, _ => by simp at h
  | _ :: _, [], _, _, _, _, h, _ => by simp at h
  | p :: P, w :: vs, 0, m, nd, h1, h2, hk => by
    simp at h1 h2; subst h1; subst h2
    show bindL kindOf ((p, w) :: P.zip vs) m p = _
    unfold bindL
    rw [bindL_out fun v hv => (List.nodup_cons.mp nd).1 (List.of_mem_zip hv).1, if_pos hk]
    simp
  | p :: P, w :: vs, i + 1, m, nd, h1, h2, hk => by
    show bindL kindOf ((p, w) :: P.zip vs) m x = _
    unfold bindL
    exact bindL_get (i := i) (List.nodup_cons.mp nd).2 (by simpa using h1) (by simpa using h2) hk
theorem bindC_get {kindOf : Str -> Option NameKind} {x : Str} {v : Value} : ∀ {P : List Str} {vs : List Value} {i : Nat} {m : Str -> Option Value}, P.Nodup -> P[i]? = some x -> vs[i]? = some v -> kindOf x ≠ some .local ->
    bindC kindOf (P.zip vs) m x = some v
  | [], _, _, _, _, h, _, _ => by simp at h
  | _ :: _, [], _, _, _, _, h, _ => by simp at h
  | p :: P, w :: vs, 0, m, nd, h1, h2, hk => by
    simp at h1 h2; subst h1; subst h2
    show bindC kindOf ((p, w) :: P.zip vs) m p = _
    unfold bindC
    rw [bindC_out fun v hv => (List.nodup_cons.mp nd).1 (List.of_mem_zip hv).1, if_neg hk]
    simp
  | p :: P, w :: vs, i + 1, m, nd, h1, h2, hk => by
    show bindC kindOf ((p, w) :: P.zip vs) m x = _
    unfold bindC
    exact bindC_get (i := i) (List.nodup_cons.mp nd).2 (by simpa using h1) (by simpa using h2) hk
def start (N : List Str) (vs : List V) : St := vs.map some ++ List.replicate (N.length - vs.length) none
def cxOf (CX : CXT) (P : Program) (w : World) (K : PySem.W.Frag) (mg : Str -> Option Value) (base : Heap) (N : List Str) (qual : Str) (scope : Scope) (f : Addr) (cd : Value) (A : Around) (outer : List Env) (s : Shared) (H : Hp) (E : XK) : Cx where
  prog := P
  w := w
  K := K
  mg := mg
  base := base
  A := A.deeper (envOfC qual scope s.heap.objs.size f cd)
  N := N
  s₀ := s
  H₀ := H
  env := envOfC qual scope s.heap.objs.size f cd
  outer := outer
  stack := envOfC qual scope s.heap.objs.size f cd :: outer
  ex := []
  calm := true
  fn := fun _ => true
  pn := []
  xe := fun e s' => wpAny (model P w) (A.deeper (envOfC qual scope s.heap.objs.size f cd)) (leaving (envOfC qual scope s.heap.objs.size f cd) e) (fun _ s'' => CX outer H s E e s'') (fun e' s'' => CX outer H s E e' s'') s'
theorem cell_has {sc : Scope} {n : Nat} {x : Str} (h : sc.names.lookup x = some .cell) : ∃ c, (cellsFrom n sc.names []).lookup x = some c := by
  have q := PySem.W.cellsFrom_some sc.names n [] (.inl h)
  exact Option.isSome_iff_exists.mp q
theorem inv_start {CX : CXT} {P : Program} {w : World} {K : PySem.W.Frag} {mg : Str -> Option Value} {base : Heap} {N ps : List Str} {qual : Str} {scope : Scope} {f : Addr} {cd : Value} {A : Around} {outer : List Env} {s s1 : Shared} {H : Hp} {E : XK} {us : List Value} {vs : List V}
    (S : FnScope N ps scope) (hd : A.handled = none) (e0 : Env0 P w K mg base A outer s H) (hl : vs.length = ps.length) (r : Vals vs us)
    (x : InCallC s s.heap.objs.size (bindL (envOfC qual scope s.heap.objs.size f cd).kindOf (ps.zip us) fun _ => none) (cellsFrom (s.heap.objs.size + 1) scope.names []) (bindC (envOfC qual scope s.heap.objs.size f cd).kindOf (ps.zip us) fun _ => none) s1) :
    Inv (cxOf CX P w K mg base N qual scope f cd A outer s H E) [] (start N vs) H s1 := by
  have hpl : ps.length <= N.length := by have := congrArg List.length S.pre; rw [List.length_take] at this; omega
  obtain ⟨h1, tk, rfl, hk⟩ := x.done
  have noA : ∀ b : Addr, b ∉ (cxOf CX P w K mg base N qual scope f cd A outer s H E).ex := fun b z => absurd (show b ∈ ([] : List Addr) from z) (by simp)
  refine ⟨⟨e0.mod, S.kind, rfl, rfl, Nat.le_refl _, fun y z c h1 h2 => ?_, fun y hy => ?_, fun y c _ h => ?_, fun _ => hd, Around.frames_deeper e0.frames, .inr ⟨rfl, rfl⟩, fun b z => absurd z (noA b), e0.bs, e0.bsz, fun b _ _ => noA b, fun b z => absurd z (noA b), e0.funs, e0.frf⟩,
    rfl, e0.bare, Un.kept hk, ⟨_, x.toInCall.ns, fun i y v h1 h2 h3 => ?_⟩, fun y c h => ⟨_, x.cell y c h⟩, e0.hok.fresh (Nat.le_refl _), fun y c h => ?_, fun p hp => absurd (show p ∈ ([] : List (Addr × Obj)) from hp) (by simp), e0.hok.kept hk, ?_⟩
  · exact name_of_addr x.apart (PySem.mem_of_lookup h1) (PySem.mem_of_lookup h2)
  · have hy : scope.names.lookup y = some .cell \/ scope.names.lookup y = some .free := hy
    rcases hy with hy | hy
    · exact cell_has hy
    · exact absurd rfl (S.nofree _ (PySem.mem_of_lookup hy))
  · exact Nat.le_of_lt (x.above y c (PySem.mem_of_lookup h))
  · have hi : i < vs.length := by
      unfold start at h2
      by_cases hi : i < vs.length
      · exact hi
      · rw [List.getElem?_append_right (by simpa using hi)] at h2
        rw [List.getElem?_replicate] at h2
        split at h2 <;> cases h2
    have ha : vs[i]? = some v := by
      unfold start at h2
      rw [List.getElem?_append_left (by simpa using hi), List.getElem?_map] at h2
      cases e : vs[i]? with
      | none => rw [e] at h2; cases h2
      | some a => rw [e] at h2; cases h2; rfl
    obtain ⟨u, hu, rv⟩ := r.get ha
    have hp : ps[i]? = some y := by
      rw [<- S.pre, List.getElem?_take_of_lt (by omega)]; exact h1
    have ndP : ps.Nodup := by rw [<- S.pre]; exact S.nd.sublist (List.take_sublist _ _)
    refine ⟨u, rv, ?_⟩
    rcases S.par y (List.mem_of_getElem? hp) with k | k
    · exact .inl ⟨k, bindL_get ndP hp hu k⟩
    · obtain ⟨c, e⟩ := cell_has (n := s.heap.objs.size + 1) k
      refine .inr ⟨.inl k, c, e, ?_⟩
      have q := x.cell y c e
      rw [bindC_get ndP hp hu (by show scope.names.lookup y ≠ _; rw [k]; decide)] at q
      exact q
  · exact e0.hok.fresh (Nat.le_of_lt (x.above y c (PySem.mem_of_lookup h)))
  · unfold start
    show _ = N.length
    rw [List.length_append, List.length_map, List.length_replicate]
    omega
theorem fn_of {CX : CXT} {P : Program} {w : World} {K : PySem.W.Frag} {mg : Str -> Option Value} {base : Heap} {k : Nat} {f : Addr} {name qual : Str} {params : Arguments} {body : List Stmt} {scope : Scope} {dV kV doc pm cdv ct oc : Value} {an od : Option Addr}
    {osl : Array (Option Value)} {N ps : List Str} {sp : Sp} (lk : K.lookup f = some ⟨oc, od, .func (PySem.W.fnOf name qual params body scope dV kV doc pm an cdv ct), osl⟩) (hcd : PySem.W.codeIn K cdv qual = true) (S : FnScope N ps scope)
    (len : ∀ vs H Q E, sp vs H Q E -> vs.length = ps.length)
    (hbody : ∀ (A : Around) (outer : List Env) (s : Shared) (H : Hp) (vs : List V) (Q : VK) (E : XK), Room k (A.deeper (envOfC qual scope s.heap.objs.size f cdv)) -> sp vs H Q E ->
      ∃ t, PSs (cxOf CX P w K mg base N qual scope f cdv A outer s H E) body t /\ t { nx := fun _ H' => Q .non H', rt := Q } (start N vs) H) :
    FnOk P w K mg base CX (k + 1) f (PySem.W.fnOf name qual params body scope dV kV doc pm an cdv ct) ps sp := by
  refine ⟨len, fun A outer s H args us vs Q E hr e0 hb r hsp => ?_⟩
  have hl := len _ _ _ _ hsp
  have KX : K.In s.heap := e0.mod.kin.keeps fun b o e => (e0.bs b o e).1
  have lim : s.heap.NoLimit := e0.mod.nolimit.keeps fun b o e => (e0.bs b o e).1
  have hkind : ∀ y ∈ ps.zip us, scope.names.lookup y.1 = some .local \/ (scope.names.lookup y.1 = some .cell /\ ((cellsFrom (s.heap.objs.size + 1) scope.names []).lookup y.1).isSome = true) := fun ⟨n, v⟩ hy => by
    rcases S.par n (List.of_mem_zip hy).1 with q | q
    · exact .inl q
    · exact .inr ⟨q, PySem.W.cellsFrom_some _ _ _ (.inl q)⟩
  refine codeAny_call_function hr.depth (KX _ _ lk) rfl S.co S.gen rfl (PySem.W.codeRec_of KX hcd) (hb _ _ _ _ ?_)
  refine wpAny_newFunctionEnv_cells S.kind hkind fun env he s1 x => ?_
  subst he
  refine ⟨lim.keeps x.toInCall.keep, codeAny_func ?_⟩
  obtain ⟨t, ht, hq⟩ := hbody A outer s H vs Q E (hr.deeper _) hsp
  have I : Inv (cxOf CX P w K mg base N qual scope f cdv A outer s H E) [] (start N vs) H s1 := inv_start S hr.hd e0 hl r x
  refine wpAny_mono (ht [] s1 (start N vs) H _ I hq) (fun fl s' hs => ?_) fun e s' hs => hs
  have fin : ∀ {σ' : St} {H' : Hp} {v : V} {u : Value}, Inv (cxOf CX P w K mg base N qual scope f cdv A outer s H E) [] σ' H' s' -> RelV v u -> Q v H' -> CE outer P w H s Q u s' :=
    fun {σ' H' v u} J rv q => ⟨v, H', J.os, J.bare, J.base, J.hok, rv, q⟩
  cases fl with
  | ret u =>
    obtain ⟨v, σ', H', J, rv, q⟩ := hs
    exact fin J rv q
  | next =>
    obtain ⟨σ', H', J, q⟩ := hs
    exact fin (v := V.non) (u := Value.none) J rfl q
  | brk =>
    obtain ⟨_, _, _, q⟩ := hs
    exact False.elim q
  | cont =>
    obtain ⟨_, _, _, q⟩ := hs
    exact False.elim q
end L2
namespace L2
open PySem PySem.Spec PyProof.Rows
section
variable {X : Cx} {x : Str} {p pos : Pos} {e : Expr} {es : List Expr} {t : TA} {id T : String} {r : List V -> Hp -> VK -> Prop}
def tCB (r : List V -> Hp -> VK -> Prop) (t : TA) : TE := fun σ H Q => t σ H fun vs H1 => r vs H1 Q
theorem pe_callB (hc : CallR X (.builtin id) r) (hg : Gl X x) (hm : X.mg x = none) (hv : bootBuiltins x = some (.builtin id)) (ha : PA X (e :: es) t) (hn : x ≠ "__name__" := by decide) (hdb : (x == ("__debug__" : Str)) = false := by decide)
    (he : starEach (e :: es) X.env = (false, eval e X.env) :: starEach es X.env := by rfl) (hpl : (backTo pos (starEach es X.env)).any (·.1) = false := by rfl) : PE X (.Call (.Name x p) (e :: es) [] pos) (tCB r t) := by
  intro pins s σ H Q I h
  refine wpAny_Call_Name_kw (ld_blt I hg hm hv ?_ hn hdb)
  exact PyProof.Rows.callWith_builtin1 (thn (ha pos pins s σ H _ I h) fun us s1 ⟨vs, H1, I1, r1, q1⟩ => hc pins s1 σ H1 vs us Q I1 r1 q1) he hpl
theorem pe_callTy (hc : CallR X (.type T) r) (hg : Gl X x) (hm : X.mg x = none) (hv : bootBuiltins x = some (.type T)) (ha : PA X (e :: es) t) (hn : x ≠ "__name__" := by decide) (hdb : (x == ("__debug__" : Str)) = false := by decide)
    (he : starEach (e :: es) X.env = (false, eval e X.env) :: starEach es X.env := by rfl) (hpl : (backTo pos (starEach es X.env)).any (·.1) = false := by rfl) : PE X (.Call (.Name x p) (e :: es) [] pos) (tCB r t) := by
  intro pins s σ H Q I h
  refine wpAny_Call_Name_kw (ld_blt I hg hm hv ?_ hn hdb)
  exact PyProof.Rows.callWith_type1 (thn (ha pos pins s σ H _ I h) fun us s1 ⟨vs, H1, I1, r1, q1⟩ => hc pins s1 σ H1 vs us Q I1 r1 q1) he hpl
end
end L2
namespace HT
open PySem PyProof.Rows
section
open PySem.SeqAt
open PySem.AutoSeq1 (wpAny_loadPart')
open PySem.MeetsSeq PySem.MeetsSeq2 PySem.MeetsSeq3
end
section
variable {prog : Program} {w : World} {A : Around} {E : Value -> Shared -> Prop} {s : Shared}
theorem cat_tup {t b : Addr} {vs ws : List Value} {Q : Value -> Shared -> Prop} (ht : IsTup s.heap t vs.toArray) (hb : IsTup s.heap b ws.toArray) (hv : vs ≠ [])
    (h1 : ws = [] -> Q (.ref t) s) (h2 : ws ≠ [] -> Q (.ref s.heap.objs.size) { s with heap := s.heap.push { cls := .type "tuple", data := .seq (vs ++ ws).toArray } })
    (hsz : vs.length + ws.length <= sizeLine) : wpAny (model prog w) A (binaryOp .Add (.ref t) (.ref b)) Q E s := by
  obtain ⟨⟨cls, dd, data, sl⟩, ho, hc, n, hd⟩ := id ht
  obtain ⟨⟨cls2, dd2, data2, sl2⟩, ho2, hc2, n2, hd2⟩ := id hb
  simp only at hc hd hc2 hd2
  subst hc hd hc2 hd2
  have e : vs.toArray ++ ws.toArray = (vs ++ ws).toArray := by simp
  by_cases hw : ws = []
  · exact concat_meets ⟨_, ho, rfl⟩ ⟨_, ho2, rfl⟩ noFill_tuple_add seq_tuple_add PySem.F.slot_tuple_add PySem.F.entry_tuple_add (PySem.F.args_tuple_add_2 _ _)
      (tuple_addW1 t b vs.toArray ws.toArray n n2 dd dd2 sl sl2 (by simpa using hv) (by simp [hw])) ⟨ho, ho2, h1 hw⟩
  · refine concat_meets ⟨_, ho, rfl⟩ ⟨_, ho2, rfl⟩ noFill_tuple_add seq_tuple_add PySem.F.slot_tuple_add PySem.F.entry_tuple_add (PySem.F.args_tuple_add_2 _ _)
      (tuple_addW2 t b vs.toArray ws.toArray n n2 dd dd2 sl sl2 (by simpa using hv) (by simpa using hw) (by rw [List.size_toArray, List.size_toArray]; exact hsz)) ⟨ho, ho2, ?_⟩
    rw [e]
    exact h2 hw
def sIx (n d : Nat) : Option Int -> Nat
  | none => d
  | some v => if v < 0 then (v + (n : Int)).toNat else min v.toNat n
theorem sIx_none (n d : Nat) : sIx n d none = d := rfl
theorem sIx_nat (n d k : Nat) : sIx n d (some (k : Int)) = min k n := by
  show (if (k : Int) < 0 then ((k : Int) + (n : Int)).toNat else min (k : Int).toNat n) = min k n
  rw [if_neg (by omega), Int.toNat_natCast]
theorem sIx_le (n d : Nat) (hd : d <= n) (o : Option Int) : sIx n d o <= n := by
  cases o with
  | none => exact hd
  | some v =>
    show (if v < 0 then (v + (n : Int)).toNat else min v.toNat n) <= n
    by_cases hv : v < 0
    · rw [if_pos hv]; omega
    · rw [if_neg hv]; exact Nat.min_le_right _ _
theorem clip_eq (v : Int) (n d : Nat) : (if v < 0 then max (v + (n : Int)) 0 else min v (n : Int)) = ((sIx n d (some v) : Nat) : Int) := by
  show (if v < 0 then max (v + (n : Int)) 0 else min v (n : Int)) = (((if v < 0 then (v + (n : Int)).toNat else min v.toNat n) : Nat) : Int)
  by_cases hv : v < 0
  · simp only [if_pos hv]; omega
  · simp only [if_neg hv]; omega
theorem adjust_gen (lo hi : Option Int) (n : Nat) : Builtin.Slice.sliceAdjust lo hi 1 (n : Int) = (((sIx n 0 lo : Nat) : Int), ((sIx n n hi : Nat) : Int)) := by
  have h1 : ¬ ((1 : Int) < 0) := by omega
  unfold Builtin.Slice.sliceAdjust
  simp only [h1, if_false]
  refine Prod.ext ?_ ?_
  · cases lo with
    | none => rfl
    | some v => exact clip_eq v n 0
  · cases hi with
    | none => rfl
    | some v => exact clip_eq v n n
theorem places_gen (i j : Nat) : Builtin.Slice.slicePlaces (i : Int) (j : Int) 1 = j - i := by
  unfold Builtin.Slice.slicePlaces
  have h1 : (1 : Int) > 0 := by omega
  simp only [h1, if_true, Int.ediv_one]
  split <;> omega
theorem slicePart_ {v : Value} {o : Option Int} {Q : Option Int -> Shared -> Prop} (p : IsPart v o) (h : Q o s) : wpAny (model prog w) A (Builtin.Slice.slicePartIndex v) Q E s := by
  cases p with
  | none => exact slicePart_none h
  | int i t => exact slicePart_int h
theorem sliceApplied_gen {sl : Addr} {vl vu : Value} {lo hi : Option Int} {n : Nat} {Q : Int × Int × Nat -> Shared -> Prop} (hs : s.heap.IsSliceOf sl vl vu .none) (pl : IsPart vl lo) (pu : IsPart vu hi)
    (h : Q (((sIx n 0 lo : Nat) : Int), 1, sIx n n hi - sIx n 0 lo) s) : wpAny (model prog w) A (Builtin.Slice.sliceApplied (.ref sl) (pure (n : Int))) Q E s := by
  obtain ⟨os, hos, hcs, hds⟩ := id hs
  unfold Builtin.Slice.sliceApplied Builtin.Slice.sliceFields
  refine wpAny_bind (wpAny_bind (wpAny_field hos hds (x := vl) rfl (wpAny_bind (wpAny_field hos hds (x := vu) rfl (wpAny_bind (wpAny_field hos hds (x := .none) rfl (wpAny_pure ?_)))))))
  refine wpAny_bind (slicePart_none ?_)
  show wpAny _ _ (if ((1 : Int) == 0) = true then _ else _) _ _ s
  rw [if_neg (by decide)]
  refine wpAny_bind (slicePart_ pl (wpAny_bind (slicePart_ pu (wpAny_bind (wpAny_pure ?_)))))
  show wpAny _ _ (match Builtin.Slice.sliceAdjust lo hi 1 (n : Int) with | (lo, hi) => pure (lo, (1 : Int), Builtin.Slice.slicePlaces lo hi 1)) _ _ s
  rw [adjust_gen lo hi n]
  show wpAny _ _ (pure (((sIx n 0 lo : Nat) : Int), (1 : Int), Builtin.Slice.slicePlaces ((sIx n 0 lo : Nat) : Int) ((sIx n n hi : Nat) : Int) 1)) _ _ s
  rw [places_gen]
  exact wpAny_pure h
theorem pick_gen (xs : Array Value) (i k : Nat) : ((List.range k).filterMap fun (m : Nat) => xs[((i : Int) + (m : Int) * 1).toNat]?).toArray = ((xs.toList.drop i).take k).toArray := by
  have e : (fun (m : Nat) => xs[((i : Int) + (m : Int) * 1).toNat]?) = fun m => xs[i + m]? := by
    funext m
    have : ((i : Int) + (m : Int) * 1).toNat = i + m := by omega
    rw [this]
  rw [e]
  have := pick_run xs i k
  rw [List.filterMap_map] at this
  have e2 : ((fun x => xs[x]?) ∘ fun x => i + x) = fun m => xs[i + m]? := rfl
  rw [e2] at this
  rw [this]
theorem getItem_tuple_cut {t sl : Addr} {items : Array Value} {vl vu : Value} {lo hi : Option Int} {Q : Value -> Shared -> Prop} (ht : IsTup s.heap t items) (hs : s.heap.IsSliceOf sl vl vu .none) (pl : IsPart vl lo) (pu : IsPart vu hi)
    (hw : ¬ (sIx items.size 0 lo = 0 /\ sIx items.size items.size hi = items.size))
    (h : Q (.ref s.heap.objs.size) { s with heap := s.heap.push { cls := .type "tuple", data := .seq ((items.toList.drop (sIx items.size 0 lo)).take (sIx items.size items.size hi - sIx items.size 0 lo)).toArray } })
    (hsz : items.size <= sizeLine) : wpAny (model prog w) A (getItem (.ref t) (.ref sl)) Q E s := by
  have htake : sizeOk (.seq ((items.toList.drop (sIx items.size 0 lo)).take (sIx items.size items.size hi - sIx items.size 0 lo)).toArray) := by
    show ((items.toList.drop (sIx items.size 0 lo)).take (sIx items.size items.size hi - sIx items.size 0 lo)).toArray.size <= sizeLine
    rw [List.size_toArray, List.length_take, List.length_drop, Array.length_toList]
    omega
  have hj : sIx items.size items.size hi <= items.size := sIx_le _ _ (Nat.le_refl _) hi
  obtain ⟨os, hos, hcs, hds⟩ := id hs
  have hTs : s.TypeIs (.ref sl) "slice" := ⟨os, hos, hcs⟩
  unfold getItem
  try with_reducible refine wpAny_holding ?_
  first | refine wpAny_bind (wpAny_pure ?_) | skip
  refine wpAny_bind (wpAny_sequenceKey ht.typeIs (by decide) ?_)
  refine wpAny_bind (wpAny_callSpecial?_slot (name := Str.ofString "__getitem__") ht.typeIs PyProof.Rows.slot_tuple_getitem
    (wpAny_call_entry PyProof.Rows.slot_tuple_getitem ht.typeIs entry_tuple_getitem ?_ (args_tuple_getitem _ _)))
  show wpAny _ _ (Builtin.Tuple.tupleItemsOf (.ref t) >>= _) _ _ s
  refine wpAny_bind (tupleItemsOf_ ht ?_)
  refine wpAny_bind (wpAny_typeOf hTs ?_)
  rw [if_pos (by decide)]
  refine wpAny_bind (sliceApplied_gen hs pl pu ?_)
  have hno : ¬ ((((sIx items.size 0 lo : Nat) : Int) == 0 && (1 : Int) == 1 && (sIx items.size items.size hi - sIx items.size 0 lo) == items.size) = true) := by
    intro q
    rw [Bool.and_eq_true, Bool.and_eq_true] at q
    have q1 : ((sIx items.size 0 lo : Nat) : Int) = 0 := eq_of_beq q.1.1
    have q2 : sIx items.size items.size hi - sIx items.size 0 lo = items.size := eq_of_beq q.2
    exact hw ⟨by omega, by omega⟩
  show wpAny _ _ (if (((sIx items.size 0 lo : Nat) : Int) == 0 && (1 : Int) == 1 && (sIx items.size items.size hi - sIx items.size 0 lo) == items.size) = true then _ else _) _ _ s
  rw [if_neg hno, pick_gen]
  first
    | exact wpAny_bind (m := Builtin.Tuple.tupleExact _) (wpAny_newObj_type (wpAny_pure ⟨_, rfl, wpAny_pure h⟩) htake)
    | exact wpAny_bind (m := Builtin.Tuple.tupleExact _) (wpAny_newObj_type (wpAny_bind (wpAny_pure (wpAny_pure ⟨_, rfl, wpAny_pure h⟩))) htake)
    | exact wpAny_bind (wpAny_bind (m := Builtin.Tuple.tupleExact _) (wpAny_newObj_type (wpAny_pure (wpAny_pure ⟨_, rfl, wpAny_pure h⟩)) htake))
    | exact wpAny_bind (wpAny_bind (m := Builtin.Tuple.tupleExact _) (wpAny_newObj_type (wpAny_pure ⟨_, rfl, wpAny_pure h⟩) htake))
end
end HT
namespace L2
open PySem PySem.Spec PyProof.Rows
abbrev TO := St -> Hp -> (Option Int -> Hp -> Prop) -> Prop
def PO (X : Cx) (e : Option Expr) (t : TO) : Prop :=
  ∀ (pins : List (Addr × Obj)) (s : Shared) (σ : St) (H : Hp) (Q : Option Int -> Hp -> Prop), Inv X pins σ H s -> t σ H Q ->
    wpAny (model X.prog X.w) X.A (evalPart e X.env) (fun u s' => ∃ o H', Inv X pins σ H' s' /\ IsPart u o /\ Q o H') X.xe s
def tNoPart : TO := fun _ H Q => Q none H
def tPart (t : TE) : TO := fun σ H Q => t σ H fun x H1 => ∃ i, x = .int i /\ Q (some i) H1
section
variable {X : Cx} {e : Expr} {te : TE} {lo hi : Option Expr} {tl th : TO} {pos p2 : Pos}
theorem po_none : PO X none tNoPart := by
  intro pins s σ H Q I h
  rw [evalPart_none]
  exact wpAny_pure ⟨none, H, I, .none, h⟩
theorem po_some (h : PE X e te) : PO X (some e) (tPart te) := by
  intro pins s σ H Q I hw
  rw [evalPart_some]
  refine thn (h pins s σ H _ I hw) fun u s1 ⟨x, H1, I1, r1, q1⟩ => ?_
  obtain ⟨i, rfl, q⟩ := q1
  obtain ⟨t, rfl⟩ := r1
  exact ⟨some i, H1, I1, .int i t, q⟩
def SlR (X : Cx) (r : V -> Option Int -> Option Int -> Hp -> VK -> Prop) : Prop :=
  ∀ (pins : List (Addr × Obj)) (s : Shared) (σ : St) (H : Hp) (x : V) (v vl vu : Value) (lo hi : Option Int) (sl : Addr) (Q : VK), Inv X pins σ H s -> RelV x v -> s.heap.IsSliceOf sl vl vu .none -> IsPart vl lo -> IsPart vu hi -> r x lo hi H Q ->
    ∃ T id, typeLookup (.type T) "__getitem__" = pure (some (.builtin id)) /\ s.TypeIs v T /\ wpAny (model X.prog X.w) X.A (getItem v (.ref sl)) (EP X pins σ Q) X.xe s
def tSl (r : V -> Option Int -> Option Int -> Hp -> VK -> Prop) (te : TE) (tl th : TO) : TE := fun σ H Q => te σ H fun x H1 => tl σ H1 fun l H2 => th σ H2 fun u H3 => r x l u H3 Q
theorem pe_slice {r : V -> Option Int -> Option Int -> Hp -> VK -> Prop} (hr : SlR X r) (he : PE X e te) (hl : PO X lo tl) (hu : PO X hi th) : PE X (.Subscript e (.Slice lo hi none p2) pos) (tSl r te tl th) := by
  intro pins s σ H Q I h
  refine Subscript_ (thn (he pins s σ H _ I h) fun v s1 ⟨x, H1, I1, r1, q1⟩ => ?_)
  refine wpAny_Slice (thn (hl pins s1 σ H1 _ I1 q1) fun vl s2 ⟨l, H2, I2, pl, q2⟩ => thn (hu pins s2 σ H2 _ I2 q2) fun vu s3 ⟨u, H3, I3, pu, q3⟩ => ?_)
  rw [evalPart_none]
  refine wpAny_pure ?_
  have I4 : Inv X pins σ H3 { s3 with heap := s3.heap.push { cls := .type "slice", data := .fields #[vl, vu, .none] } } := I3.kept (t' := s3.toks) fun b ob q => Heap.get?_push_of_some _ q
  obtain ⟨T, id, hT, ht, hg⟩ := hr pins { s3 with heap := s3.heap.push { cls := .type "slice", data := .fields #[vl, vu, .none] } } σ H3 x v vl vu l u s3.heap.objs.size Q I4 r1 (Heap.IsSliceOf.new ..) pl pu q3
  show wpAny (model X.prog X.w) X.A (subscriptTail e (.Slice lo hi none p2) v (.ref s3.heap.objs.size)) (EP X pins σ Q) X.xe { s3 with heap := s3.heap.push { cls := .type "slice", data := .fields #[vl, vu, .none] } }
  exact tail_any (ops := [.ref s3.heap.objs.size, v]) ht hT hg (by with_unfolding_all rfl)
def cutV (xs : List V) (lo hi : Option Int) : List V := (xs.drop (HT.sIx xs.length 0 lo)).take (HT.sIx xs.length xs.length hi - HT.sIx xs.length 0 lo)
theorem cutV_length (xs : List V) (lo hi : Option Int) : (cutV xs lo hi).length <= xs.length := by
  unfold cutV
  rw [List.length_take, List.length_drop]
  omega
def rSlT (K : PySem.W.Frag) : V -> Option Int -> Option Int -> Hp -> VK -> Prop := fun x lo hi H Q => ∃ a xs, x = .ref a /\ SqT K H a xs /\
  ¬ (HT.sIx xs.length 0 lo = 0 /\ HT.sIx xs.length xs.length hi = xs.length) /\ ∀ p, H p = none -> Q (.ref p) (upd H p (.tup (cutV xs lo hi)))
theorem sl_tup : SlR X (rSlT X.K) := by
  intro pins s σ H x v vl vu lo hi sl Q I rx hs pl pu h
  obtain ⟨a, xs, rfl, hx, hw, q⟩ := h
  cases rx
  obtain ⟨its, r, ht, hz⟩ := I.tuple hx
  have hlen : its.toArray.size = xs.length := by rw [List.size_toArray]; exact r.length.symm
  refine ⟨"tuple", _, PyProof.Rows.slot_tuple_getitem.lookup, ht.typeIs, ?_⟩
  refine HT.getItem_tuple_cut ht hs pl pu (by rw [hlen]; exact hw) ?_ (by rw [hlen]; exact hz)
  rw [hlen]
  refine ⟨.ref s.heap.objs.size, _, I.laid (t' := s.toks) (o := .tup (cutV xs lo hi)) (fun b ob q => Heap.get?_push_of_some _ q) (Nat.le_refl _) ?_, rfl, q _ (I.hok.fresh (Nat.le_refl _))⟩
  exact ⟨Nat.le_trans (cutV_length xs lo hi) hz, _, (r.drop (HT.sIx xs.length 0 lo)).take (HT.sIx xs.length xs.length hi - HT.sIx xs.length 0 lo), IsTup.new _ _⟩
def rCatT (K : PySem.W.Frag) : R2 := fun x y H Q => ∃ a b xs ys, x = .ref a /\ y = .ref b /\ SqT K H a xs /\ SqT K H b ys /\ xs ≠ [] /\ xs.length + ys.length <= sizeLine /\
  (ys = [] -> Q (.ref a) H) /\ (ys ≠ [] -> ∀ p, H p = none -> Q (.ref p) (upd H p (.tup (xs ++ ys))))
theorem Vals.nil_iff {xs : List V} {us : List Value} (r : Vals xs us) : us = [] ↔ xs = [] := by
  cases r with
  | nil => simp
  | cons _ _ => simp
theorem op_catT : OpR X (binaryOp .Add) (rCatT X.K) := by
  intro pins s σ H x y v u Q I rx ry h
  obtain ⟨a, b, xs, ys, rfl, rfl, ha, hb, hx, hz, q1, q2⟩ := h
  cases rx
  cases ry
  obtain ⟨its, r1, p1, _⟩ := I.tuple ha
  obtain ⟨its2, r2, p2, _⟩ := I.tuple hb
  refine HT.cat_tup p1 p2 (fun z => hx (r1.nil_iff.mp z)) (fun z => ⟨.ref a, H, I, rfl, q1 (r2.nil_iff.mp z)⟩) (fun z => ?_) (by rw [<- r1.length, <- r2.length]; exact hz)
  refine ⟨.ref s.heap.objs.size, _, I.laid (t' := s.toks) (o := .tup (xs ++ ys)) (fun b ob q => Heap.get?_push_of_some _ q) (Nat.le_refl _) ?_, rfl, q2 (fun w => z (r2.nil_iff.mpr w)) _ (I.hok.fresh (Nat.le_refl _))⟩
  exact ⟨by rw [List.length_append]; exact hz, _, r1.append r2, IsTup.new _ _⟩
end
end L2
namespace L2
open PySem PySem.Spec PyProof.Rows
def ixN (n : Nat) (i : Int) : Option Nat := if 0 <= i then (if i < n then some i.toNat else none) else if -(n : Int) <= i then some (i + n).toNat else none
def atI {α : Type} (xs : List α) (i : Int) : Option α := (ixN xs.length i).bind fun j => xs[j]?
theorem ixN_seq {n : Nat} {i : Int} {j : Nat} (h : ixN n i = some j) : seqIndex? i n = some j /\ j < n /\ -(n : Int) <= i /\ i < n := by
  unfold ixN at h
  by_cases h0 : 0 <= i
  · rw [if_pos h0] at h
    by_cases h1 : i < n
    · rw [if_pos h1] at h
      have e : i.toNat = j := Option.some.inj h
      exact ⟨by rw [seqIndex_of h0 h1, e], by omega, by omega, h1⟩
    · rw [if_neg h1] at h; cases h
  · rw [if_neg h0] at h
    by_cases h1 : -(n : Int) <= i
    · rw [if_pos h1] at h
      have e : (i + n).toNat = j := Option.some.inj h
      exact ⟨by rw [seqIndex_neg (by omega) h1, e], by omega, h1, by omega⟩
    · rw [if_neg h1] at h; cases h
theorem atI_get {α : Type} {xs : List α} {i : Int} {v : α} (h : atI xs i = some v) : ∃ j, seqIndex? i xs.length = some j /\ xs[j]? = some v /\ j < xs.length /\ -(xs.length : Int) <= i /\ i < xs.length := by
  unfold atI at h
  cases e : ixN xs.length i with
  | none => rw [e] at h; cases h
  | some j =>
    rw [e] at h
    obtain ⟨h1, h2, h3, h4⟩ := ixN_seq e
    exact ⟨j, h1, h, h2, h3, h4⟩
theorem atI_nat {α : Type} {xs : List α} {j : Nat} {v : α} (h : xs[j]? = some v) : atI xs (j : Int) = some v := by
  have hj : j < xs.length := (List.getElem?_eq_some_iff.mp h).1
  have e : ixN xs.length (j : Int) = some j := by
    unfold ixN
    rw [if_pos (by omega), if_pos (by omega)]; simp
  unfold atI; rw [e]; exact h
theorem atI_last {α : Type} (xs : List α) (v : α) : atI (xs ++ [v]) (-1) = some v := by
  have hl : (xs ++ [v]).length = xs.length + 1 := by simp
  have e : ixN (xs ++ [v]).length (-1) = some xs.length := by
    unfold ixN
    rw [hl, if_neg (by decide), if_pos (by omega)]
    congr 1
    omega
  unfold atI
  rw [e]
  show (xs ++ [v])[xs.length]? = some v
  simp
def PlainIx (b : Expr) : Prop := ∀ o i, subscripted b false o i = operate [o, i] (getItem o i)
def IxR (X : Cx) (r : R2) : Prop :=
  ∀ (value slice : Expr) (pins : List (Addr × Obj)) (s : Shared) (σ : St) (H : Hp) (x y : V) (v u : Value) (Q : VK), Inv X pins σ H s -> RelV x v -> RelV y u -> r x y H Q ->
    subscripted slice false v u = operate [v, u] (getItem v u) -> wpAny (model X.prog X.w) X.A (subscriptTail value slice v u) (EP X pins σ Q) X.xe s
def MtR (X : Cx) (id : String) (r : V -> List V -> Hp -> VK -> Prop) : Prop :=
  ∀ (pins : List (Addr × Obj)) (s : Shared) (σ : St) (H : Hp) (x : V) (xs : List V) (v : Value) (us : List Value) (Q : VK), Inv X pins σ H s -> RelV x v -> Vals xs us -> r x xs H Q ->
    wpAny (model X.prog X.w) X.A (call (.builtin id) (v :: us)) (EP X pins σ Q) X.xe s
section
variable {X : Cx} {a b : Expr} {ta tb : TE} {pos : Pos}
theorem pe_ix {r : R2} (hr : IxR X r) (ha : PE X a ta) (hb : PE X b tb) (hs : PlainIx b) : PE X (.Subscript a b pos) (tOp r ta tb) := by
  intro pins s σ H Q I h
  exact Subscript_ (binT ha hb I h fun v u s2 x y H2 I2 rx ry q => hr a b pins s2 σ H2 x y v u Q I2 rx ry q (hs _ _))
def rIxL (K : PySem.W.Frag) : R2 := fun x y H Q => ∃ p xs i v, x = .ref p /\ y = .int i /\ SqL K H p xs /\ atI xs i = some v /\ Q v H
def rIxT (K : PySem.W.Frag) : R2 := fun x y H Q => ∃ p xs i v, x = .ref p /\ y = .int i /\ SqT K H p xs /\ atI xs i = some v /\ Q v H
theorem ix_list : IxR X (rIxL X.K) := by
  intro value slice pins s σ H x y v u Q I rx ry h hs
  obtain ⟨p, xs, i, z, rfl, rfl, hq, he, q⟩ := h
  cases rx
  obtain ⟨t, rfl⟩ := ry
  obtain ⟨its, r, pl, hz⟩ := I.list hq
  obtain ⟨j, h1, h2, h3, h4, h5⟩ := atI_get he
  obtain ⟨w, ew, rw'⟩ := r.get h2
  have hl := r.length
  have hn := line63
  have fin : EP X pins σ Q w s := ⟨z, H, I, rw', q⟩
  by_cases h0 : 0 <= i
  · have hj : i.toNat = j := by
      rw [seqIndex_of h0 h5] at h1
      exact Option.some.inj h1
    exact item_listR pl.isList h0 (by omega) (by rw [hj]; simpa using ew) fin hs
  · have hj : (i + (its.toArray.size : Int)).toNat = j := by
      rw [seqIndex_neg (by omega) h4] at h1
      rw [List.size_toArray, <- hl]
      exact Option.some.inj h1
    exact subscriptTail_builtinR (x := w) pl.isList.typeIs slot_list_getitem.lookup
      (wpAny_getItem_list_neg (Q := fun r s' => r = w /\ EP X pins σ Q r s') pl.isList (by omega) (by rw [List.size_toArray] <;> omega) (by omega) (by rw [hj]; simpa using ew) ⟨rfl, fin⟩) hs
theorem ix_tup : IxR X (rIxT X.K) := by
  intro value slice pins s σ H x y v u Q I rx ry h hs
  obtain ⟨p, xs, i, z, rfl, rfl, hq, he, q⟩ := h
  cases rx
  obtain ⟨t, rfl⟩ := ry
  obtain ⟨its, r, pl, hz⟩ := I.tuple hq
  obtain ⟨j, h1, h2, h3, h4, h5⟩ := atI_get he
  obtain ⟨w, ew, rw'⟩ := r.get h2
  have hl := r.length
  have hn := line63
  have fin : EP X pins σ Q w s := ⟨z, H, I, rw', q⟩
  exact subscriptTail_builtinR (x := w) pl.typeIs slot_tuple_getitem.lookup
    (getItem_tuple (j := j) (Q := fun r s' => r = w /\ EP X pins σ Q r s') pl (by omega) (by omega) (by rw [List.size_toArray, <- hl]; exact h1) (by simpa using ew) ⟨rfl, fin⟩) hs
theorem mapSeq_set (its : List Value) (n j : Nat) (u : Value) : Obj.mapSeq (·.setIfInBounds j u) { cls := .type "list", data := .seq its.toArray n } = { cls := .type "list", data := .seq (its.set j u).toArray n } := by
  simp [Obj.mapSeq]
theorem Inv.lst {pins : List (Addr × Obj)} {σ : St} {H : Hp} {s : Shared} {p : Addr} {xs : List V} (I : Inv X pins σ H s) (h : H p = some (.lst xs)) :
    ∃ (its : List Value) (n : Nat), Vals xs its /\ s.heap.get? p = some { cls := .type "list", data := .seq its.toArray n } /\ xs.length <= sizeLine := by
  obtain ⟨z, its, n, r, e⟩ := I.hok p _ h
  exact ⟨its, n, r, e, z⟩
theorem Inv.lstUpd {pins : List (Addr × Obj)} {σ : St} {H : Hp} {s : Shared} {p : Addr} {xs ys : List V} {its its' : List Value} {n n' : Nat} {f : Obj -> Obj} (I : Inv X pins σ H s) (h : H p = some (.lst xs))
    (ho : s.heap.get? p = some { cls := .type "list", data := .seq its.toArray n }) (hf : f { cls := .type "list", data := .seq its.toArray n } = { cls := .type "list", data := .seq its'.toArray n' }) (r : Vals ys its') (hz : ys.length <= sizeLine) (t : Nat) :
    Inv X pins σ (upd H p (.lst ys)) { s with heap := s.heap.update p f, toks := t } := by
  have e : (s.heap.update p f).get? p = some { cls := .type "list", data := .seq its'.toArray n' } := by
    rw [Heap.get?_update_self f ho (by rw [hf] <;> rfl), hf]
  refine I.write (x := p) (e := p) (by rw [h]; trivial) (.inl rfl) (fun b u hb q => (Heap.get?_update_other _ _ (Ne.symm hb)).trans q) ⟨_, e⟩ ?_
  exact ⟨hz, its', n', r, e⟩
def rSetL : V -> V -> V -> Hp -> (Hp -> Prop) -> Prop := fun o i v H Q => ∃ p xs k j, o = .ref p /\ i = .int k /\ H p = some (.lst xs) /\ ixN xs.length k = some j /\ Q (upd H p (.lst (xs.set j v)))
theorem set_list : PSet X rSetL := by
  intro pins s σ H o i v ov iv u Q I ro ri rv h
  obtain ⟨p, xs, k, j, rfl, rfl, hp, hj, q⟩ := h
  cases ro
  obtain ⟨t, rfl⟩ := ri
  obtain ⟨its, n, r, ho, hz⟩ := I.lst hp
  obtain ⟨h1, h2, h3, h4⟩ := ixN_seq hj
  have hl := r.length
  have hn := line63
  have I' : Inv X pins σ (upd H p (.lst (xs.set j v))) { s with heap := s.heap.update p (Obj.mapSeq (·.setIfInBounds j u)) } :=
    I.lstUpd hp ho (mapSeq_set its n j u) (r.set rv j) (by rw [List.length_set]; exact hz) s.toks
  by_cases h0 : 0 <= k
  · have hk : k.toNat = j := by
      rw [seqIndex_of h0 h4] at h1
      exact Option.some.inj h1
    exact PySem.W.ki_setAt ho h0 (by omega) (by rw [List.size_toArray, <- hl]; exact h4) (by rw [hk]; exact ⟨_, I', q⟩)
  · have hk : (k + (its.toArray.size : Int)).toNat = j := by
      rw [seqIndex_neg (by omega) h3] at h1
      rw [List.size_toArray, <- hl]
      exact Option.some.inj h1
    exact PySem.W.ki_setBack ho (by omega) (by rw [List.size_toArray, <- hl]; exact h3) (by omega) (by rw [hk]; exact ⟨_, I', q⟩)
theorem slice_bounds (lo hi : Option Int) (n : Nat) : (sliceBounds lo hi none n).1 = ((HT.sIx n 0 lo : Nat) : Int) /\ (sliceBounds lo hi none n).2.1 = ((HT.sIx n n hi : Nat) : Int) /\ (sliceBounds lo hi none n).2.2 = 1 := by
  refine ⟨?_, ?_, rfl⟩
  · cases lo with
    | none => simp [sliceBounds, HT.sIx]
    | some i =>
      simp only [sliceBounds, HT.sIx, Option.getD_none, show (1 : Int) > 0 by decide, if_true]
      by_cases h : i < 0
      · simp only [h, if_true] <;> omega
      · simp only [h, if_false] <;> omega
  · cases hi with
    | none => simp [sliceBounds, HT.sIx]
    | some i =>
      simp only [sliceBounds, HT.sIx, Option.getD_none, show (1 : Int) > 0 by decide, if_true]
      by_cases h : i < 0
      · simp only [h, if_true] <;> omega
      · simp only [h, if_false] <;> omega
theorem slicePick_cut (its : List Value) (lo hi : Option Int) : slicePick its.toArray lo hi none = ((its.drop (HT.sIx its.length 0 lo)).take (HT.sIx its.length its.length hi - HT.sIx its.length 0 lo)).toArray := by
  obtain ⟨h1, h2, h3⟩ := slice_bounds lo hi its.toArray.size
  unfold slicePick
  rw [h1, h2, h3]
  simp only [sliceRange_one, pick_run, List.size_toArray] <;> rfl
def rSlL (K : PySem.W.Frag) : V -> Option Int -> Option Int -> Hp -> VK -> Prop := fun x lo hi H Q => ∃ a xs, x = .ref a /\ SqL K H a xs /\ ∀ p, H p = none -> Q (.ref p) (upd H p (.lst (cutV xs lo hi)))
theorem sl_list : SlR X (rSlL X.K) := by
  intro pins s σ H x v vl vu lo hi sl Q I rx hs pl pu h
  obtain ⟨a, xs, rfl, hx, q⟩ := h
  cases rx
  obtain ⟨its, r, ht, hz⟩ := I.list hx
  have hlen := r.length
  refine ⟨"list", _, slot_list_getitem.lookup, ht.isList.typeIs, ?_⟩
  refine wpAny_getItem_list_slice ht.isList hs pl pu .none (by simp) ?_ (by rw [List.size_toArray] <;> omega)
  rw [slicePick_cut, <- hlen]
  refine ⟨.ref s.heap.objs.size, _, I.laid (t' := s.toks) (o := .lst (cutV xs lo hi)) (fun b ob q => Heap.get?_push_of_some _ q) (Nat.le_refl _) ?_, rfl, q _ (I.hok.fresh (Nat.le_refl _))⟩
  exact ⟨Nat.le_trans (cutV_length xs lo hi) hz, _, 0, (r.drop (HT.sIx xs.length 0 lo)).take (HT.sIx xs.length xs.length hi - HT.sIx xs.length 0 lo), Heap.get?_push_size _ rfl⟩
def flatV : V -> Bool
  | .non => true
  | .bl _ => true
  | .int _ => true
  | .str _ => true
  | _ => false
def eqV : V -> V -> Bool
  | .non, .non => true
  | .bl a, .bl b => a == b
  | .bl a, .int b => (if a then 1 else 0) == b
  | .int a, .bl b => a == (if b then 1 else 0)
  | .int a, .int b => a == b
  | .str a, .str b => a == b
  | _, _ => false
theorem eqAt_V {A : Around} {s : Shared} {y x : V} {u v : Value} (ry : RelV y u) (rx : RelV x v) (fy : flatV y = true) (fx : flatV x = true) : SeqAt.EqAt A s u v (eqV y x) := by
  cases y with
  | non =>
    cases ry
    cases x with
    | non => cases rx; exact SeqAt.EqAt.same _
    | bl b => cases rx; exact SeqAt.EqAt.none_bool b
    | int b => obtain ⟨t, rfl⟩ := rx; exact SeqAt.EqAt.none_int b t
    | str b => obtain ⟨t, rfl⟩ := rx; exact SeqAt.EqAt.none_str b t
    | _ => exact absurd (show false = true from fx) Bool.false_ne_true
  | bl a =>
    cases ry
    cases x with
    | non => cases rx; exact SeqAt.EqAt.bool_none a
    | bl b => cases rx; exact SeqAt.EqAt.bool_bool a b
    | int b => obtain ⟨t, rfl⟩ := rx; exact SeqAt.EqAt.bool_int a b t
    | str b => obtain ⟨t, rfl⟩ := rx; exact SeqAt.EqAt.bool_str a b t
    | _ => exact absurd (show false = true from fx) Bool.false_ne_true
  | int a =>
    obtain ⟨t', rfl⟩ := ry
    cases x with
    | non => cases rx; exact SeqAt.EqAt.int_none a t'
    | bl b => cases rx; exact SeqAt.EqAt.int_bool a t' b
    | int b => obtain ⟨t, rfl⟩ := rx; exact SeqAt.EqAt.int_int a t' b t
    | str b => obtain ⟨t, rfl⟩ := rx; exact SeqAt.EqAt.int_str a t' b t
    | _ => exact absurd (show false = true from fx) Bool.false_ne_true
  | str a =>
    obtain ⟨t', rfl⟩ := ry
    cases x with
    | non => cases rx; exact SeqAt.EqAt.str_none a t'
    | bl b => cases rx; exact SeqAt.EqAt.str_bool a t' b
    | int b => obtain ⟨t, rfl⟩ := rx; exact SeqAt.EqAt.str_int a t' b t
    | str b => obtain ⟨t, rfl⟩ := rx; exact SeqAt.EqAt.str_str a t' b t
    | _ => exact absurd (show false = true from fx) Bool.false_ne_true
  | _ => exact absurd (show false = true from fy) Bool.false_ne_true
theorem call_len_seq : CallR X (.builtin "len") (fun xs H Q => ∃ p ys, xs = [.ref p] /\ (SqL X.K H p ys \/ SqT X.K H p ys) /\ Q (.int ys.length) H) := by
  intro pins s σ H xs us Q I r h
  obtain ⟨p, ys, rfl, hq, q⟩ := h
  obtain ⟨u, rfl, rx⟩ := vals1 r
  cases rx
  have hn := line63
  rcases hq with hq | hq
  · obtain ⟨its, r', pl, hz⟩ := I.list hq
    have hlen := r'.length
    exact Calls.call_len_list pl.isList (by simp only [List.size_toArray] <;> omega) ⟨.int ys.length, H, I.tok _, ⟨s.toks + 1, by rw [List.size_toArray, hlen]⟩, q⟩
  · obtain ⟨its, r', pl, hz⟩ := I.tuple hq
    have hlen := r'.length
    exact len_tuple pl (by simp only [List.size_toArray] <;> omega) ⟨.int ys.length, H, I.tok _, ⟨s.toks + 1, by rw [List.size_toArray, hlen]⟩, q⟩
theorem call_list_of : CallR X (.type "list") (fun xs H Q => ∃ p ys, xs = [.ref p] /\ (SqL X.K H p ys \/ SqT X.K H p ys) /\ ∀ l, H l = none -> Q (.ref l) (upd H l (.lst ys))) := by
  intro pins s σ H xs us Q I r h
  obtain ⟨p, ys, rfl, hq, q⟩ := h
  obtain ⟨u, rfl, rx⟩ := vals1 r
  cases rx
  have fin : ∀ (its : List Value), Vals ys its -> ys.length <= sizeLine -> ∀ (h' : Heap) (c' : Nat), (∀ b o', s.heap.get? b = some o' -> h'.get? b = some o') ->
      h'.get? s.heap.objs.size = some { cls := .type "list", dict := none, data := .seq its.toArray c', slots := #[] } -> EP X pins σ Q (.ref s.heap.objs.size) { s with heap := h' } := fun its r' hz h' c' kp e =>
    ⟨.ref s.heap.objs.size, _, I.laid (t' := s.toks) kp (Nat.le_refl _) (show ObjOk X.prog X.w _ h' _ (.lst ys) from ⟨hz, its, c', r', e⟩), rfl, q _ (I.hok.fresh (Nat.le_refl _))⟩
  rcases hq with hq | hq
  · obtain ⟨its, r', pl, hz⟩ := I.list hq
    have hlen := r'.length
    obtain ⟨o, ho, hc, n, hd⟩ := pl.isList
    exact call_list_seq p (.inl rfl) ho hc hd (fun h' c' kp e => fin its r' hz h' c' kp e) (by simp only [List.size_toArray] <;> omega)
  · obtain ⟨its, r', pl, hz⟩ := I.tuple hq
    have hlen := r'.length
    obtain ⟨o, ho, hc, n, hd⟩ := pl
    exact call_list_seq p (.inr rfl) ho hc hd (fun h' c' kp e => fin its r' hz h' c' kp e) (by simp only [List.size_toArray] <;> omega)
theorem call_tuple_of : CallR X (.type "tuple") (fun xs H Q => ∃ p ys, xs = [.ref p] /\ ((SqL X.K H p ys /\ ∀ l, H l = none -> Q (.ref l) (upd H l (.tup ys))) \/ (SqT X.K H p ys /\ Q (.ref p) H))) := by
  intro pins s σ H xs us Q I r h
  obtain ⟨p, ys, rfl, h⟩ := h
  obtain ⟨u, rfl, rx⟩ := vals1 r
  cases rx
  rcases h with ⟨hq, q⟩ | ⟨hq, q⟩
  · obtain ⟨its, r', pl, hz⟩ := I.list hq
    have hlen := r'.length
    refine call_tuple_list pl.isList (fun h' kp => ?_) (by simp only [List.size_toArray] <;> omega)
    have I1 : Inv X pins σ H { s with heap := h' } := I.kept (t' := s.toks) kp
    have I2 : Inv X pins σ (upd H h'.objs.size (.tup ys)) { s with heap := h'.push { cls := .type "tuple", data := .seq its.toArray } } :=
      I1.laid (t' := s.toks) (fun b o e => Heap.get?_push_of_some _ e) (Nat.le_refl _) (show ObjOk X.prog X.w _ _ _ (.tup ys) from ⟨hz, its, r', IsTup.new _ _⟩)
    exact ⟨.ref h'.objs.size, _, I2, rfl, q _ (I1.hok.fresh (Nat.le_refl _))⟩
  · obtain ⟨its, r', pl, hz⟩ := I.tuple hq
    exact call_tuple_same pl ⟨.ref p, H, I, rfl, q⟩
def tyV (K : PySem.W.Frag) (T : String) (x : V) (H : Hp) : Prop := match x with
  | .str _ => T = "str"
  | .int _ => T = "int"
  | .ref p => (T = "list" /\ ∃ xs, SqL K H p xs) \/ (T = "tuple" /\ ∃ o, K.lookup p = some o /\ o.cls = .type "tuple" /\ o.dict = none) \/
      (T = "dict" /\ ((∃ kvs, H p = some (.dK kvs)) \/ ∃ kvs, H p = some (.dT kvs))) \/ (T = "set" /\ ∃ S n, H p = some (.set S n))
  | _ => False
theorem tyV_is {pins : List (Addr × Obj)} {σ : St} {H : Hp} {s : Shared} {T : String} {x : V} {v : Value} (I : Inv X pins σ H s) (r : RelV x v) (ty : tyV X.K T x H) :
    s.TypeIs v T /\ ∀ a, v = .ref a -> ∃ ob, s.heap.get? a = some ob /\ ob.dict = none := by
  cases x with
  | str z =>
    obtain ⟨t, rfl⟩ := r
    cases (show T = "str" from ty)
    exact ⟨typeIs_str s z t, fun _ e => nomatch e⟩
  | int i =>
    obtain ⟨t, rfl⟩ := r
    cases (show T = "int" from ty)
    exact ⟨typeIs_int s i t, fun _ e => nomatch e⟩
  | ref p =>
    cases r
    rcases ty with ⟨rfl, xs, hq⟩ | ⟨rfl, o, hk, hc, hd⟩ | ⟨rfl, hk⟩ | ⟨rfl, S, n, hk⟩
    · obtain ⟨its, _, pl, _⟩ := I.list hq
      refine ⟨pl.isList.typeIs, fun a e => ?_⟩
      cases e
      obtain ⟨o, n, e, c, hd, _⟩ := pl
      exact ⟨o, e, hd⟩
    · refine ⟨⟨o, I.kIn p o hk, hc⟩, fun a e => ?_⟩
      cases e
      exact ⟨o, I.kIn _ o hk, hd⟩
    · have z : ∃ o, s.heap.get? p = some o /\ o.ExactDict := by
        rcases hk with ⟨kvs, hk⟩ | ⟨kvs, hk⟩
        · obtain ⟨_, _, _, _, o, _, _, e, ex, _⟩ := I.hok p _ hk
          exact ⟨o, e, ex⟩
        · obtain ⟨_, _, _, _, o, _, _, e, ex, _⟩ := I.hok p _ hk
          exact ⟨o, e, ex⟩
      obtain ⟨o, e, ex⟩ := z
      refine ⟨⟨o, e, ex.1⟩, fun a e2 => ?_⟩
      cases e2
      exact ⟨o, e, ex.2.1⟩
    · obtain ⟨o, _, _, _, e, ex, _⟩ := I.hok p _ hk
      refine ⟨⟨o, e, ex.1⟩, fun a e2 => ?_⟩
      cases e2
      exact ⟨o, e, ex.2.1⟩
  | _ => exact False.elim ty
def tBM0 (K : PySem.W.Frag) (T : String) (r : V -> List V -> Hp -> VK -> Prop) (to : TE) : TE := fun σ H Q => to σ H fun x H1 => tyV K T x H1 /\ r x [] H1 Q
def tBM (K : PySem.W.Frag) (T : String) (r : V -> List V -> Hp -> VK -> Prop) (to : TE) (t : TA) : TE := fun σ H Q => to σ H fun x H1 => tyV K T x H1 /\ t σ H1 fun xs H2 => r x xs H2 Q
variable {o e : Expr} {es : List Expr} {to : TE} {t : TA} {name : Str} {apos cpos : Pos} {T id : String} {r : V -> List V -> Hp -> VK -> Prop}
theorem pe_bm0 (pa : PlainAttrs T) (slot : Slot T name id) (hty : typeOf (.builtin id) = pure (.type "method_descriptor")) (hm : MtR X id r) (ho : PE X o to)
    (hbase : attributeBase o name X.env (eval o X.env) = eval o X.env := by rfl) (hline : (apos.endLine == cpos.line) = true := by rfl) : PE X (.Call (.Attribute o name apos) [] [] cpos) (tBM0 X.K T r to) := by
  intro pins s σ H Q I h
  refine wpAny_Call_method0_late hbase hline (thn (ho pins s σ H _ I h) fun v s1 ⟨x, H1, I1, r1, ty, q1⟩ => ?_)
  obtain ⟨h1, h2⟩ := tyV_is I1 r1 ty
  exact ⟨T, id, pa, slot, hty, h1, h2, Calls.callWith_builtin rfl (PySem.evalArgs_none (hm pins s1 σ H1 x [] v [] Q I1 r1 .nil q1))⟩
theorem pe_bm (pa : PlainAttrs T) (slot : Slot T name id) (hty : typeOf (.builtin id) = pure (.type "method_descriptor")) (hm : MtR X id r) (ho : PE X o to) (ha : PA X (e :: es) t)
    (hbase : attributeBase o name X.env (eval o X.env) = eval o X.env := by rfl)
    (hfew : ((backTo cpos (starEach (e :: es) X.env)).all (fun x => !x.1) && (backToKw cpos (keywordEach [] X.env)).all (fun x => x.1.isSome)
      && decide ((e :: es).length + ([] : List Keyword).length + (if ([] : List Keyword).isEmpty then 0 else 1) < 30)) = true := by rfl)
    (hline : (apos.endLine == cpos.line) = true := by rfl) (hs : starEach (e :: es) X.env = (false, eval e X.env) :: starEach es X.env := by rfl) (hplain : (backTo cpos (starEach es X.env)).any (·.1) = false := by rfl) :
    PE X (.Call (.Attribute o name apos) (e :: es) [] cpos) (tBM X.K T r to t) := by
  intro pins s σ H Q I h
  refine wpAny_Call_method_late hbase hfew hline rfl (thn (ho pins s σ H _ I h) fun v s1 ⟨x, H1, I1, r1, ty, q1⟩ => ?_)
  obtain ⟨h1, h2⟩ := tyV_is I1 r1 ty
  refine ⟨T, id, pa, slot, hty, h1, h2, ?_⟩
  have hA := ha cpos pins s1 σ H1 _ I1 q1
  rw [hs] at hA ⊢
  refine Calls.callWith_builtin (by show (false || (backTo cpos (starEach es X.env)).any (·.1)) = false; rw [hplain] <;> rfl) (Calls.evalArgs_plain ?_)
  exact thn hA fun us s2 ⟨vs, H2, I2, r2, q2⟩ => hm pins s2 σ H2 x vs v us Q I2 r1 r2 q2
/- xs.append(e), list.index on a module's tuple .. are MtR facts of 06m -/
end
end L2
namespace L2
open PySem PySem.Spec PyProof.Rows
def MtM (X : Cx) (id : String) (r : V -> List V -> Hp -> VK -> Prop) : Prop :=
  ∀ (pins : List (Addr × Obj)) (s : Shared) (σ : St) (H : Hp) (x : V) (xs : List V) (v : Value) (us : List Value) (Q : VK), Inv X pins σ H s -> RelV x v -> Vals xs us -> r x xs H Q ->
    wpAny (model X.prog X.w) X.A (call (.builtin id) (v :: us)) (EP X pins σ Q) X.xe s
theorem Vals.one : ∀ {x : V} {us : List Value}, Vals [x] us -> ∃ u, us = [u] /\ RelV x u
  | _, _, .cons r .nil => ⟨_, rfl, r⟩
theorem Vals.two : ∀ {x y : V} {us : List Value}, Vals [x, y] us -> ∃ u v, us = [u, v] /\ RelV x u /\ RelV y v
  | _, _, _, .cons r (.cons q .nil) => ⟨_, _, rfl, r, q⟩
theorem Vals.zero : ∀ {us : List Value}, Vals [] us -> us = []
  | _, .nil => rfl
theorem Vals.dropLast {xs : List V} {us : List Value} (h : Vals xs us) : Vals xs.dropLast us.dropLast := by
  induction h with
  | nil => exact .nil
  | cons r t ih =>
    cases t with
    | nil => exact .nil
    | cons q t' => exact .cons r ih
theorem Vals.rep {xs : List V} {us : List Value} (h : Vals xs us) : ∀ k : Nat, Vals (List.replicate k xs).flatten (List.replicate k us).flatten
  | 0 => .nil
  | k + 1 => by
    rw [List.replicate_succ, List.replicate_succ, List.flatten_cons, List.flatten_cons]
    exact Vals.append h (Vals.rep h k)
theorem erase_last {α : Type} (l : List α) : l.eraseIdx (l.length - 1) = l.dropLast := by
  induction l with
  | nil => rfl
  | cons a r ih =>
    cases r with
    | nil => rfl
    | cons b r =>
      have e : (a :: b :: r).length - 1 = ((b :: r).length - 1) + 1 := by
        have h1 : (a :: b :: r).length = r.length + 2 := rfl
        have h2 : (b :: r).length = r.length + 1 := rfl
        omega
      rw [e, List.eraseIdx_cons_succ, ih]
      all_goals rfl
theorem foldl_rep (its : List Value) : ∀ (k : Nat) (acc : List Value),
    List.foldl (fun x1 x2 => x1 ++ x2) acc.toArray (List.replicate k its.toArray) = (acc ++ (List.replicate k its).flatten).toArray
  | 0, acc => by simp
  | k + 1, acc => by
    have e : acc.toArray ++ its.toArray = (acc ++ its).toArray := by simp
    have e2 : (acc ++ its) ++ (List.replicate k its).flatten = acc ++ (List.replicate (k + 1) its).flatten := by
      rw [List.replicate_succ, List.flatten_cons, List.append_assoc]
    rw [<- e2, <- foldl_rep its k (acc ++ its), <- e, List.replicate_succ, List.foldl_cons]
section
variable {X : Cx} {pins : List (Addr × Obj)} {σ : St} {H : Hp} {s : Shared} {l b : Addr} {xs ys zs : List V}
theorem Inv.lset {its its' : List Value} {n : Nat} {f : Array Value -> Array Value} {t' : Nat} (I : Inv X pins σ H s) (hH : H l = some (.lst xs))
    (e : s.heap.get? l = some { cls := .type "list", data := .seq its.toArray n }) (hf : f its.toArray = its'.toArray) (hv : Vals ys its') (hz : ys.length <= sizeLine) :
    Inv X pins σ (upd H l (.lst ys)) { s with heap := s.heap.update l (Obj.mapSeq f), toks := t' } := by
  have q := PySem.IsL.update e f
  rw [hf] at q
  refine I.write (x := l) (e := l) (by rw [hH]; exact trivial) (.inl rfl) (fun b' u hb hu => (Heap.get?_update_other s.heap (Obj.mapSeq f) (Ne.symm hb)).trans hu) ⟨_, q⟩ ?_
  exact ⟨hz, its', _, hv, q⟩
theorem Inv.lnew {its : List Value} {t' : Nat} (I : Inv X pins σ H s) (hv : Vals ys its) (hz : ys.length <= sizeLine) :
    Inv X pins σ (upd H s.heap.objs.size (.lst ys)) { s with heap := s.heap.push { cls := .type "list", data := .seq its.toArray }, toks := t' } :=
  I.laid (fun _ _ q => Heap.get?_push_of_some _ q) (Nat.le_refl _) ⟨hz, its, 0, hv, Heap.get?_push_size _ rfl⟩
theorem Inv.fresh (I : Inv X pins σ H s) : H s.heap.objs.size = none := I.hok.fresh (Nat.le_refl _)
theorem Inv.lstM (I : Inv X pins σ H s) (hH : H l = some (.lst xs)) : xs.length <= sizeLine /\ ∃ (its : List Value) (n : Nat), Vals xs its /\ xs.length = its.length /\ s.heap.get? l = some { cls := .type "list", data := .seq its.toArray n } := by
  obtain ⟨z, its, n, r, e⟩ := I.hok l _ hH
  exact ⟨z, its, n, r, r.length, e⟩
theorem notLongL {n : Nat} (h : n <= sizeLine) : Builtin.List.listTooLong n = false := by
  unfold Builtin.List.listTooLong
  exact decide_eq_false (by omega)
end
section
variable {X : Cx}
def rAppend : V -> List V -> Hp -> VK -> Prop := fun x vs H Q => ∃ l xs y, x = .ref l /\ vs = [y] /\ H l = some (.lst xs) /\ xs.length < sizeLine /\ Q .non (upd H l (.lst (xs ++ [y])))
theorem mt_append : MtM X "list.append" rAppend := by
  intro pins s σ H x vs v us Q I rx rv h
  obtain ⟨l, xs, y, rfl, rfl, hH, hz, q⟩ := h
  cases rx
  obtain ⟨u, rfl, ru⟩ := rv.one
  obtain ⟨z, its, n, r, hl, e⟩ := I.lstM hH
  refine call_meets F.slot_list_append ⟨_, e, rfl⟩ F.entry_list_append (F.args_list_append_2 _ _) (PySem.list_append l its.toArray n u (by rw [List.size_toArray]; omega)) ⟨e, ?_⟩
  refine ⟨.non, _, I.lset (its' := its ++ [u]) hH e (by simp) (r.append (.cons ru .nil)) ?_, rfl, q⟩
  rw [List.length_append, List.length_singleton]
  omega
def rPop : V -> List V -> Hp -> VK -> Prop := fun x vs H Q => ∃ l xs y, x = .ref l /\ vs = [] /\ H l = some (.lst xs) /\ xs[xs.length - 1]? = some y /\ Q y (upd H l (.lst xs.dropLast))
theorem mt_pop : MtM X "list.pop" rPop := by
  intro pins s σ H x vs v us Q I rx rv h
  obtain ⟨l, xs, y, rfl, rfl, hH, hy, q⟩ := h
  cases rx
  have hus := rv.zero
  subst hus
  obtain ⟨z, its, n, r, hl, e⟩ := I.lstM hH
  obtain ⟨u, hu, ru⟩ := r.get hy
  have hy' : its.toArray[its.toArray.size - 1]? = some u := by
    show its.toArray[its.length - 1]? = some u
    rw [<- Array.getElem?_toList, <- hl]
    exact hu
  refine call_meets F.slot_list_pop ⟨_, e, rfl⟩ F.entry_list_pop (F.args_list_pop_1 _) (MeetsSeq.list_pop_last l its.toArray n u hy' (by rw [List.size_toArray]; omega)) ⟨e, ?_⟩
  refine ⟨y, _, I.lset (its' := its.dropLast) hH e ?_ r.dropLast ?_, ru, q⟩
  · show its.toArray.eraseIdxIfInBounds (its.toArray.size - 1) = its.dropLast.toArray
    rw [List.size_toArray, List.eraseIdxIfInBounds_toArray, erase_last]
  · rw [List.length_dropLast]
    omega
def rCat : R2 := fun x y H Q => ∃ l b xs zs, x = .ref l /\ y = .ref b /\ H l = some (.lst xs) /\ H b = some (.lst zs) /\ xs.length + zs.length <= sizeLine /\ ∀ p, H p = none -> Q (.ref p) (upd H p (.lst (xs ++ zs)))
theorem op_cat : OpR X (binaryOp .Add) rCat := by
  intro pins s σ H x y v u Q I rx ry h
  obtain ⟨l, b, xs, zs, rfl, rfl, hH, hB, hz, q⟩ := h
  cases rx
  cases ry
  obtain ⟨z, its, n, r, hl, e⟩ := I.lstM hH
  obtain ⟨z2, its2, n2, r2, hl2, e2⟩ := I.lstM hB
  refine PySem.P.add_list e e2 ?_ (by rw [List.size_toArray, List.size_toArray]; omega)
  have ea : its.toArray ++ its2.toArray = (its ++ its2).toArray := by simp
  rw [ea]
  exact ⟨.ref _, _, I.lnew (t' := s.toks) (r.append r2) (by rw [List.length_append]; omega), rfl, q _ I.fresh⟩
def rRep : R2 := fun x y H Q => ∃ l k xs, x = .ref l /\ y = .int k /\ H l = some (.lst xs) /\ -(2 ^ 63) <= k /\ k < 2 ^ 63 /\ xs.length * k.toNat <= sizeLine /\
  ∀ p, H p = none -> Q (.ref p) (upd H p (.lst (List.replicate k.toNat xs).flatten))
theorem len_rep {α : Type} (xs : List α) (k : Nat) : (List.replicate k xs).flatten.length = k * xs.length := by
  induction k with
  | zero => simp
  | succ k ih => rw [List.replicate_succ, List.flatten_cons, List.length_append, ih, Nat.succ_mul, Nat.add_comm]
theorem op_rep : OpR X (binaryOp .Mult) rRep := by
  intro pins s σ H x y v u Q I rx ry h
  obtain ⟨l, k, xs, rfl, rfl, hH, h1, h2, hz, q⟩ := h
  cases rx
  obtain ⟨t, rfl⟩ := ry
  obtain ⟨z, its, n, r, hl, e⟩ := I.lstM hH
  have hlen : its.toArray.size * k.toNat <= sizeLine := by rw [List.size_toArray, <- hl]; exact hz
  have hcap : ¬ its.toArray.size * k.toNat > (2 ^ 63 - 1) / 8 := by
    have : (sizeLine : Nat) <= (2 ^ 63 - 1) / 8 := by decide
    omega
  have hfit : ¬ (!Builtin.List.listFitsIndex k) = true := by
    rw [fitsIndex_both h1 h2]
    exact Bool.false_ne_true
  have hlong : ¬ Builtin.List.listTooLong (its.toArray.size * k.toNat) = true := by
    rw [notLongL hlen]
    exact Bool.false_ne_true
  have hnew : List.foldl (fun x1 x2 => x1 ++ x2) #[] (List.replicate (if its.toArray.isEmpty = true then 0 else k.toNat) its.toArray) = (List.replicate k.toNat its).flatten.toArray := by
    have f0 : ∀ m : Nat, List.foldl (fun x1 x2 => x1 ++ x2) #[] (List.replicate m its.toArray) = (List.replicate m its).flatten.toArray := fun m => by
      have := foldl_rep its m []
      rw [List.nil_append] at this
      exact this
    rw [f0]
    cases its with
    | nil => simp
    | cons a r' => rw [if_neg (by simp)]
  refine wpAny_binaryOp_repeat_ref (T := "list") (U := "int") (by decide) ⟨_, e, rfl⟩ (fun s' => typeIs_int s' k t) noFill_list_mul F.fills_int_mul F.slot_int_rmul repeat_list F.slot_int_index.lookup
    (call_meets F.slot_int_rmul (typeIs_int s k t) F.entry_int_rmul (F.args_int_rmul_2 _ _) (int___rmul___int_list k t l its.toArray n)
      ⟨e, rfl, ⟨_, e, rfl⟩, call_meets F.slot_list_mul ⟨_, e, rfl⟩ F.entry_list_mul (F.args_list_mul_2 _ _) (AutoListH.list___mul___list_int_3 l its.toArray n k t hfit hcap hlong) ⟨e, ?_⟩⟩)
  rw [hnew]
  exact ⟨.ref _, _, I.lnew (t' := s.toks) (r.rep k.toNat) (by rw [len_rep, Nat.mul_comm]; exact hz), rfl, q _ I.fresh⟩
end
section
variable {prog : Program} {w : World} {A : Around} {E : Value -> Shared -> Prop} {s : Shared}
end
section
variable {X : Cx}
end
end L2
namespace Att
open PySem PySem.W PySem.Calls PyProof.Rows
theorem ints_of_wellAll {P : Params} {h : Heap} : ∀ (ns : List Int) (vs : List Value), WellAll P h vs (ns.map WData.int) -> IntsAre vs ns := by
  intro ns
  induction ns with
  | nil =>
    intro vs w
    rw [List.map_nil] at w
    cases w
    exact .nil
  | cons n ns ih =>
    intro vs w
    rw [List.map_cons] at w
    cases w with
    | cons a b =>
      cases a
      exact .cons _ _ (ih _ b)
theorem script_of {l : OpenLaw} {n : Nat} (hn : l.most = some n) {P : Params} {h : Heap} {args : List WData} {vals : List Value}
    (hpre : l.row.toRowW.claim.pre args = true) (hwl : WellAll P h vals args) :
    ∃ a vs ns, vals = [Value.ref a] /\ args = [WData.list (ns.map WData.int)] /\ h.get? a = some { cls := .type "list", data := .seq vs.toArray } /\ IntsAre vs ns /\ ns.length <= n := by
  have hsh : WShape.hasAll [] args [.list .int] = true := (pre_splitW hpre).1
  have hc : l.pre.holds [] { args := args } = true := (pre_splitW hpre).2
  obtain ⟨d, r, rfl, h1, h2⟩ := hasAllW_cons hsh
  obtain rfl := hasAllW_nil h2
  obtain ⟨xs, rfl, h3⟩ := hasW_list h1
  obtain ⟨ns, rfl⟩ := items_int h3
  have hlen : ns.length <= n := by
    unfold OpenLaw.pre at hc
    have h4 : (WTm.not (.lt (.lit (.int (n : Int))) (.len (.arg 0)))).holds [] { args := [.list (ns.map .int)] } = true := by
      have h4 := (holds_andW hc).1
      rw [hn] at h4
      exact h4
    have h5 := condW_of h4 (w_not (w_lt w_lit (w_len_list (w_arg rfl))))
    rw [List.length_map] at h5
    refine Nat.le_of_not_lt fun q => ?_
    have q' : (n : Int) < ((ns.length : Nat) : Int) := by omega
    first
      | (rw [decide_eq_true q'] at h5; exact absurd h5 (by decide))
      | (simp at h5; omega)
  cases hwl with
  | cons w1 w2 =>
    cases w2
    cases w1 with
    | list ho hall => exact ⟨_, _, ns, rfl, rfl, ho, ints_of_wellAll ns _ hall, hlen⟩
theorem post_true (l : OpenLaw) (args : List WData) : l.row.toRowW.claim.post args (.bool true) args = true :=
  postW_of (r := l.row.toRowW) (X := (true == true))
    (show WShape.has [] (.bool true) .bool = true by first | rfl | decide | simp [WShape.has, WShape.arms, WShape.armsAll])
    (show (WTm.eq .res (.lit (.bool true))).value [] { args := args, res := some (.bool true), after := args } = some (.bool (true == true)) from w_eq_bool (w_res rfl) w_lit) rfl
theorem attach_call {l : OpenLaw} {n : Nat} {q : Program} {loose : List Str} {XP : (Str -> Option Value) -> Heap -> Prop} {YP : World -> Heap -> Prop} {d : DefRec}
    (hn : l.most = some n) (hdf : d.params.defaults = [])
    (call : ∀ (w : World) (s₀ s₁ : Shared) (mg mb : Str -> Option Value) (fa : Addr) (o : Obj) (pm cd doc : Value) (a : Addr) (vs : List Value) (ns : List Int),
      Ground q loose [] XP w s₀ mg mb s₁.heap -> YP w s₁.heap ->
      s₁.heap.get? fa = some o -> o.data = .func (docDef d.name d.params d.body d.scope pm cd doc) -> s₁.heap.CodeRec cd d.name -> mg d.name = some (.ref fa) ->
      s₁.heap.get? a = some { cls := .type "list", data := .seq vs.toArray } -> IntsAre vs ns -> ns.length <= n -> s₁.gens = #[] ->
      codeAny (model l.prog w) callerA (.call (.ref fa) ⟨[.ref a], []⟩) (fun r s' => r = .ok (.ret (.bool true)) /\ OldK s₁.heap s'.heap /\ s'.os = s₁.os /\ AllBare s'.gens) s₁) :
    WalkO q loose XP YP l.row.toRowW d [] (fun f vs => PySem.call f vs) := by
  intro w s₀ s₁ mg mb G Y fa o pm cd doc dV kV ho hd hcd hD hmg hg args vals as hpre hlay hrd hwl hlo
  obtain rfl : dV = .none := Dflts.none hD hdf
  obtain rfl : kV = .none := Dflts.noKw hD
  obtain ⟨a, vs, ns, rfl, rfl, hobj, hints, hlen⟩ := script_of hn hpre hwl
  refine enter_call (codeAny_mono (call w s₀ s₁ mg mb fa o pm cd doc a vs ns G Y ho (fd_plain hd) hcd hmg hobj hints hlen hg) fun r s' hq => ?_)
  obtain ⟨rfl, h2, h3, h4⟩ := hq
  exact ⟨.inl ⟨.bool true, .bool true, [], rfl, fun _ => rfl, .bool true, post_true l _, fun _ => ⟨List.Pairwise.nil, fun _ hm => (nomatch hm)⟩⟩, h2, h3, h4⟩
section
variable {prog : Program} {w : World} {A : Around} {E : Value -> Shared -> Prop} {s : Shared} {K : Frag}
def ledger (h : Heap) (L d : Addr) : List (Addr × Obj) := (List.range h.objs.size).filterMap fun a => if a = L \/ a = d then none else (h.get? a).map fun o => (a, o)
end
end Att
namespace L2
open PySem PySem.Spec PyProof.Rows
theorem vals_ints : ∀ {vs : List Value} {ns : List Int}, IntsAre vs ns -> Vals (ns.map V.int) vs
  | _, _, .nil => .nil
  | _, _, .cons n t h => .cons ⟨t, rfl⟩ (vals_ints h)
def Only (H : Hp) : Prop := ∀ b, H b = none \/ ∃ o xs, H b = some (.frz o (.lst xs))
theorem law_call {P : Program} {w : World} {K : PySem.W.Frag} {mg mb : Str -> Option Value} {CX : CXT} {k : Nat} {fa a : Addr} {fd : FuncData} {x : Str} {sp : Sp} {s₁ : Shared} {vs : List Value} {ns : List Int}
    (KX : K.In s₁.heap) (hns : s₁.heap.Ns mainGlobals mg) (hb : s₁.heap.Ns builtinsNs mb) (hbb : ∀ x : Str, x ≠ "__name__" -> mb x = bootBuiltins x) (hlim : s₁.heap.NoLimit) (hg : s₁.gens = #[])
    (ha : s₁.heap.get? a = some { cls := .type "list", data := .seq vs.toArray }) (hi : IntsAre vs ns) (hl : ns.length <= sizeLine) (hr : Room k callerA)
    (F : ∀ base : Heap, K.In base -> base.Ns mainGlobals mg -> FnOk P w K mg base CX k fa fd [x] sp) (hbind : ∀ (s : Shared) (u : Value), BindsTo s fd ⟨[u], []⟩ [(x, u)])
    (hsp : ∀ H : Hp, Only H -> SqL K H a (ns.map V.int) -> sp [.ref a] H (fun v _ => v = .bl true) fun _ _ _ => False)
    (hCX : ∀ H e s', CX [] H s₁ (fun _ _ _ => False) e s' -> False) :
    codeAny (model P w) callerA (.call (.ref fa) ⟨[.ref a], []⟩) (fun r s' => r = .ok (.ret (.bool true)) /\ OldK s₁.heap s'.heap /\ s'.os = s₁.os /\ AllBare s'.gens) s₁ := by
  have rv := vals_ints hi
  have lenV := hi.length
  have core : ∀ H : Hp, Only H -> SqL K H a (ns.map V.int) -> HOk P w H s₁.heap -> (∀ b, H b ≠ none -> b = a) -> (H a ≠ none -> K.lookup a = none) ->
      codeAny (model P w) callerA (.call (.ref fa) ⟨[.ref a], []⟩) (fun r s' => r = .ok (.ret (.bool true)) /\ OldK s₁.heap s'.heap /\ s'.os = s₁.os /\ AllBare s'.gens) s₁ := by
    intro H hO hS hok hA hK
    have base_of : ∀ {b : Addr} {o : Obj}, s₁.heap.get? b = some o -> H b = none -> (hidT s₁.heap H).get? b = some o := fun e n => hidT_get e n
    have noA : ∀ {b : Addr} {o : Obj} {es : Array DictEntry} {ep : Nat}, s₁.heap.get? b = some o -> o.data = .dict es ep -> H b = none := fun {b o es ep} e d => by
      cases q : H b with
      | none => rfl
      | some u =>
        have e' : b = a := hA b (by rw [q]; simp)
        subst e'
        rw [ha] at e; cases e
        have d' : Data.seq vs.toArray _ = Data.dict es ep := d
        cases d'
    have nsK : ∀ {b : Addr} {m : Str -> Option Value}, s₁.heap.Ns b m -> (hidT s₁.heap H).Ns b m := fun {b m} ⟨o, es, ep, e, d, r⟩ => ⟨o, es, ep, base_of e (noA e d), d, r⟩
    have hKb : K.In (hidT s₁.heap H) := fun b o e => base_of (KX b o e) (by
      cases q : H b with
      | none => rfl
      | some u =>
        have e' : b = a := hA b (by rw [q]; simp)
        subst e'
        rw [hK (by rw [q]; simp)] at e; cases e)
    have hM : Mod K mg (hidT s₁.heap H) := ⟨hKb, nsK hns, ⟨mb, nsK hb, hbb⟩, let ⟨mc, h1, h2⟩ := hlim; ⟨mc, nsK h1, h2⟩⟩
    have e0 : Env0 P w K mg (hidT s₁.heap H) callerA [] s₁ H := ⟨rfl, hM, fun b o e => of_hidT e, Nat.le_of_eq (hidT_size _ _), trivial, fun b hb => absurd (show b ∈ ([] : List Addr) from hb) (by simp), hok, .of_eq hg⟩
    refine codeAny_mono ((F _ hKb (nsK hns)).run callerA [] s₁ H ⟨[.ref a], []⟩ [.ref a] [.ref a] _ _ hr e0 (hbind s₁ (.ref a)) (.cons rfl .nil) (hsp H hO hS)) fun r s' h => ?_
    cases r with
    | error e => exact (hCX H e s' h).elim
    | ok fl =>
      cases fl with
      | next => exact False.elim h
      | brk => exact False.elim h
      | cont => exact False.elim h
      | ret u =>
        obtain ⟨v, H', os, bare, un, hok', r', q⟩ := h
        have q' : v = .bl true := q
        subst q'
        obtain rfl : u = Value.bool true := r'
        refine ⟨rfl, OldK.of_keep fun b o e => ?_, os, bare⟩
        cases q : H b with
        | none => exact un.keep b o e q (by intro z; exact absurd (show b ∈ ([] : List Addr) from z) (by simp)) (by simp)
        | some u =>
          rcases hO b with z | ⟨ob, xs, z⟩
          · rw [q] at z; cases z
          · have z2 := un.frzs b ob _ z
            obtain ⟨e1, _⟩ := hok b _ z
            obtain ⟨e2, _⟩ := hok' b _ z2
            rw [e] at e1; cases e1
            exact e2
  cases hk : K.lookup a with
  | some o =>
    have e := KX a o hk
    rw [ha] at e
    cases e
    refine core (fun _ => none) (fun _ => .inl rfl) (.inr ⟨_, vs.toArray, _, hk, rfl, rfl, rfl, by rw [List.size_toArray, lenV]; exact hl, by simpa using rv⟩) (fun b u z => by have z' : (none : Option HO) = some u := z; cases z') (fun b z => absurd rfl z) fun z => absurd rfl z
  | none =>
    refine core (fun b => if b = a then some (.frz { cls := .type "list", data := .seq vs.toArray } (.lst (ns.map V.int))) else none) (fun b => ?_) (.inl (.inr ⟨{ cls := .type "list", data := .seq vs.toArray }, if_pos rfl⟩)) (fun b u z => ?_) (fun b z => ?_) fun _ => hk
    · by_cases hb : b = a
      · exact .inr ⟨_, _, if_pos hb⟩
      · exact .inl (if_neg hb)
    · by_cases hb : b = a
      · have z' := (if_pos hb).symm.trans z
        cases z'
        subst hb
        exact ⟨ha, by rw [List.length_map]; exact hl, vs, _, rv, ha⟩
      · have z' := (if_neg hb).symm.trans z
        cases z'
    · by_cases hb : b = a
      · exact hb
      · exact absurd (if_neg hb) z
end L2
namespace L2
open PySem PySem.Spec PyProof.Rows
theorem walk_of {l : PySem.W.OpenLaw} {n k : Nat} {q : Program} {loose : List Str} {XP : (Str -> Option Value) -> Heap -> Prop} {YP : World -> Heap -> Prop} {d : DefRec} {K : Params -> PySem.W.Frag} {CX : World -> CXT} {sp : World -> Sp} {x : Str}
    (hn : l.most = some n) (hn2 : n <= sizeLine) (hdf : d.params.defaults = []) (hr : Room k callerA)
    (hY : ∀ (w : World) (h : Heap), YP w h -> (K w.params).In h)
    (F : ∀ (w : World) (mg : Str -> Option Value) (fa : Addr) (h : Heap), (K w.params).In h -> h.Ns mainGlobals mg -> mg d.name = some (.ref fa) ->
      ∃ fd : FuncData, (∀ (s : Shared) (u : Value), BindsTo s fd ⟨[u], []⟩ [(x, u)]) /\
        ∀ base : Heap, (K w.params).In base -> base.Ns mainGlobals mg -> FnOk l.prog w (K w.params) mg base (CX w) k fa fd [x] (sp w))
    (hsp : ∀ (w : World) (H : Hp) (a : Addr) (ns : List Int), ns.length <= n -> Only H -> SqL (K w.params) H a (ns.map V.int) -> sp w [.ref a] H (fun v _ => v = .bl true) fun _ _ _ => False)
    (hCX : ∀ (w : World) (H : Hp) (s : Shared) (e : Value) (s' : Shared), CX w [] H s (fun _ _ _ => False) e s' -> False) :
    PySem.W.WalkO q loose XP YP l.row.toRowW d [] (fun f vs => PySem.call f vs) := by
  refine Att.attach_call hn hdf fun w s₀ s₁ mg mb fa o pm cd doc a vs ns G Y ho hd hcd hmg hobj hints hlen hg => ?_
  have KX := hY w _ Y
  obtain ⟨fd, hb, hF⟩ := F w mg fa _ KX G.T.g hmg
  exact law_call KX G.T.g G.T.b G.T.builtins G.T.nolimit hg hobj hints (Nat.le_trans hlen hn2) hr hF hb (fun H hO hS => hsp w H a ns hlen hO hS) fun H e s' => hCX w H s₁ e s'
end L2
namespace L2
open PySem PySem.Spec PyProof.Rows
def defArgs (s : Stmt) : Arguments := match s with
  | .FunctionDef _ a _ _ _ _ _ _ _ _ => a
  | _ => { posonlyargs := [], args := [], vararg := none, kwonlyargs := [], kw_defaults := [], kwarg := none, defaults := [] }
def defBody (s : Stmt) : List Stmt := match s with
  | .FunctionDef _ _ b _ _ _ _ _ _ _ => b
  | _ => []
def defScope (s : Stmt) : Scope := match s with
  | .FunctionDef _ _ _ _ _ _ sc _ _ _ => sc
  | _ => { kind := .function, names := [], isGenerator := false, isCoroutine := false }
abbrev CX0 : CXT := fun _ _ _ _ _ _ => False
abbrev E0 : XK := fun _ _ _ => False
structure Fun (K : PySem.W.Frag) (x qual : Str) (st : Stmt) (f : Addr) (fd : FuncData) : Prop where
  ex : ∃ (oc : Value) (od : Option Addr) (kV doc pm : Value) (an : Option Addr) (cdv ct : Value) (osl : Array (Option Value)),
    fd = PySem.W.fnOf x qual (defArgs st) (defBody st) (defScope st) .none kV doc pm an cdv ct /\ K.lookup f = some ⟨oc, od, .func fd, osl⟩ /\ PySem.W.codeIn K cdv qual = true
  kp : PySem.W.keepIn K (.ref f) = true
section
variable {P : Program} {w : World} {K : PySem.W.Frag} {mg : Str -> Option Value} {base : Heap}
end
theorem hu_of {A : Around} {k : Nat} (hr : Room k A) : A.units + 1 < cLine := Nat.lt_of_le_of_lt (Nat.add_le_add_left (by decide : 1 <= 64) _) hr.units
theorem small1000 {n : Nat} (h : n <= 1000) : n < sizeLine := Nat.lt_of_le_of_lt h (by decide)
section
variable {X : Cx}
theorem pv (i : Nat) {x : Str} {pos : Pos} (hN : X.N[i]? = some x := by rfl) (hv : Vis X.env.scope x := by first | exact Or.inl rfl | exact Or.inr (Or.inl rfl) | exact Or.inr (Or.inr rfl)) (hd : (x == ("__debug__" : Str)) = false := by decide)
    (hcd : (x == ("__classdict__" : Str)) = false := by decide) : PE X (.Name x pos) (tVar i) := pe_var hN hv hd hcd
end
theorem iteF {A B : Prop} (h : B) : if false = true then A else B := by
  rw [if_neg Bool.false_ne_true]
  exact h
theorem iteT {A B : Prop} (h : A) : if true = true then A else B := by
  rw [if_pos rfl]
  exact h
theorem ite2 {c A B : Prop} [Decidable c] (h1 : c -> A) (h2 : ¬ c -> B) : if c then A else B := by
  by_cases h : c
  · rw [if_pos h]
    exact h1 h
  · rw [if_neg h]
    exact h2 h
theorem iteNS {c A B : Prop} [Decidable c] (hc : c) (h : B) : if (!decide c) = true then A else B := by
  rw [decide_eq_true hc]
  exact iteF h
def Same (H H' : Hp) : Prop := ∀ b o, H b = some o -> H' b = some o
theorem Same.refl (H : Hp) : Same H H := fun _ _ h => h
theorem Same.trans {H H1 H2 : Hp} (a : Same H H1) (b : Same H1 H2) : Same H H2 := fun c o h => b c o (a c o h)
theorem Same.free {H H' : Hp} (e : Same H H') {l : Addr} (h : H' l = Option.none) : H l = Option.none := by
  cases q : H l with
  | none => rfl
  | some o =>
    rw [e l o q] at h
    cases h
theorem Same.seq {K : PySem.W.Frag} {H H' : Hp} {a : Addr} {xs : List V} (e : Same H H') (h : SqL K H a xs) : SqL K H' a xs := by
  rcases h with (h | ⟨o, h⟩) | h
  · exact .inl (.inl (e _ _ h))
  · exact .inl (.inr ⟨o, e _ _ h⟩)
  · exact .inr h
end L2
set_option Elab.async false
set_option linter.all false
set_option maxRecDepth 100000
namespace L2
open PySem PySem.Spec PyProof.Rows
def closList (cells : List (Str × Addr)) : List (Str × NameKind) -> List (Str × Addr) -> List (Str × Addr)
  | [], cs => cs
  | (n, k) :: r, cs => closList cells r (if k == .free then (n, (cells.lookup n).getD 0) :: cs else cs)
theorem closureFor_eq {scope : Scope} {env : Env} (h : ∀ y ∈ scope.names, y.2 = .free -> ∃ c, env.cells.lookup y.1 = some c) :
    closureFor scope env = pure (closList env.cells scope.names []) := by
  have all : ∀ (ns : List (Str × NameKind)) (cs : List (Str × Addr)), (∀ y ∈ ns, y.2 = .free -> ∃ c, env.cells.lookup y.1 = some c) ->
      (forIn ns cs (fun (x : Str × NameKind) (r : List (Str × Addr)) => (match x with
        | (name, kind) => if (kind == NameKind.free) = true then (do let c <- cellOf env name; pure (ForInStep.yield ((name, c) :: r))) else pure (ForInStep.yield r) : Sem (ForInStep (List (Str × Addr))))) : Sem (List (Str × Addr)))
      = pure (closList env.cells ns cs) := by
    intro ns
    induction ns with
    | nil => intro cs _; rfl
    | cons y r ih =>
      intro cs hy
      obtain ⟨n, k⟩ := y
      rw [List.forIn_cons]
      by_cases hk : k = .free
      · subst hk
        obtain ⟨c, e⟩ := hy (n, .free) List.mem_cons_self rfl
        have e' : env.cells.lookup n = some c := e
        have e1 : cellOf env n = pure c := by unfold cellOf; rw [e']
        simp only [beq_self_eq_true, if_true, e1, pure_bind]
        rw [ih _ fun z hz => hy z (List.mem_cons_of_mem _ hz)]
        simp only [closList, beq_self_eq_true, if_true, e', Option.getD_some]
      · have hb : (k == NameKind.free) = false := by simpa using hk
        simp only [hb, Bool.false_eq_true, if_false, pure_bind]
        rw [ih _ fun z hz => hy z (List.mem_cons_of_mem _ hz)]
        simp only [closList, hb, Bool.false_eq_true, if_false]
  unfold closureFor
  have q := all scope.names [] h
  simp only [bind_pure]
  exact q
theorem closList_some (cells : List (Str × Addr)) {x : Str} {c : Addr} : ∀ (ns : List (Str × NameKind)) (cs : List (Str × Addr)), (closList cells ns cs).lookup x = some c ->
    ((x, NameKind.free) ∈ ns /\ (cells.lookup x).getD 0 = c) \/ cs.lookup x = some c
  | [], _, h => .inr h
  | (n, k) :: r, cs, h => by
    rcases closList_some cells r _ h with ⟨h1, h2⟩ | h1
    · exact .inl ⟨List.mem_cons_of_mem _ h1, h2⟩
    · by_cases hk : k = .free
      · subst hk
        simp only [beq_self_eq_true, if_true] at h1
        by_cases hx : x = n
        · subst hx
          simp only [List.lookup_cons, beq_self_eq_true] at h1
          exact .inl ⟨List.mem_cons_self, Option.some.inj h1⟩
        · have hb : (x == n) = false := by simpa using hx
          simp only [List.lookup_cons, hb] at h1
          exact .inr h1
      · have hb : (k == NameKind.free) = false := by simpa using hk
        simp only [hb, Bool.false_eq_true, if_false] at h1
        exact .inr h1
theorem closList_has (cells : List (Str × Addr)) {x : Str} {c : Addr} (e : cells.lookup x = some c) : ∀ (ns : List (Str × NameKind)) (cs : List (Str × Addr)), ((x, NameKind.free) ∈ ns \/ cs.lookup x = some c) ->
    (closList cells ns cs).lookup x = some c
  | [], _, h => by
    rcases h with h | h
    · cases h
    · exact h
  | (n, k) :: r, cs, h => by
    refine closList_has cells e r _ ?_
    rcases h with h | h
    · rcases List.mem_cons.mp h with z | z
      · cases z
        right
        simp only [beq_self_eq_true, if_true, List.lookup_cons, e, Option.getD_some]
      · exact .inl z
    · right
      by_cases hk : (k == NameKind.free) = true
      · rw [if_pos hk]
        by_cases hx : x = n
        · subst hx
          simp only [List.lookup_cons, beq_self_eq_true, e, Option.getD_some]
        · have hb : (x == n) = false := by simpa using hx
          simp only [List.lookup_cons, hb]
          exact h
      · rw [if_neg hk]
        exact h
theorem relabel_free {env : Env} : ∀ {names : List (Str × NameKind)} {x : Str}, names.lookup x = some .free ->
    (names.map fun (n, k) => if (k == NameKind.free && env.scope.kind == .function && env.kindOf n == some .cell) then (n, NameKind.cell) else (n, k)).lookup x = some .cell \/
    (names.map fun (n, k) => if (k == NameKind.free && env.scope.kind == .function && env.kindOf n == some .cell) then (n, NameKind.cell) else (n, k)).lookup x = some .free
  | [], _, h => by simp at h
  | (n, k) :: r, x, h => by
    have ih := @relabel_free env r x
    show List.lookup x ((if (k == NameKind.free && env.scope.kind == .function && env.kindOf n == some .cell) = true then (n, NameKind.cell) else (n, k)) :: _) = _ \/
      List.lookup x ((if (k == NameKind.free && env.scope.kind == .function && env.kindOf n == some .cell) = true then (n, NameKind.cell) else (n, k)) :: _) = _
    cases hx : x == n with
    | true =>
      simp only [List.lookup_cons, hx] at h
      cases h
      by_cases hc : (NameKind.free == NameKind.free && env.scope.kind == .function && env.kindOf n == some .cell) = true
      · rw [if_pos hc]; simp only [List.lookup_cons, hx]; first | exact .inl trivial | exact .inl rfl
      · rw [if_neg hc]; simp only [List.lookup_cons, hx]; first | exact .inr trivial | exact .inr rfl
    | false =>
      simp only [List.lookup_cons, hx] at h
      by_cases hc : (k == NameKind.free && env.scope.kind == .function && env.kindOf n == some .cell) = true
      · rw [if_pos hc]; simp only [List.lookup_cons, hx]; exact ih h
      · rw [if_neg hc]; simp only [List.lookup_cons, hx]; exact ih h
theorem relabel_back {env : Env} : ∀ {names : List (Str × NameKind)} {x : Str} {k' : NameKind}, k' = .cell \/ k' = .free -> (∀ y ∈ names, y.2 ≠ .cell) ->
    (names.map fun (n, k) => if (k == NameKind.free && env.scope.kind == .function && env.kindOf n == some .cell) then (n, NameKind.cell) else (n, k)).lookup x = some k' -> (x, NameKind.free) ∈ names
  | [], _, _, _, _, h => by simp at h
  | (n, k) :: r, x, k', hk', hn, h => by
    have ih := @relabel_back env r x k' hk' (fun y hy => hn y (List.mem_cons_of_mem _ hy))
    have h' : List.lookup x ((if (k == NameKind.free && env.scope.kind == .function && env.kindOf n == some .cell) = true then (n, NameKind.cell) else (n, k)) :: (r.map fun (n, k) => if (k == NameKind.free && env.scope.kind == .function && env.kindOf n == some .cell) then (n, NameKind.cell) else (n, k))) = some k' := h
    have hkc : k ≠ .cell := hn (n, k) List.mem_cons_self
    cases hx : x == n with
    | true =>
      have hxn : x = n := by simpa using hx
      subst hxn
      by_cases hc : (k == NameKind.free && env.scope.kind == .function && env.kindOf x == some .cell) = true
      · have hk : k = .free := by
          simp only [Bool.and_eq_true, beq_iff_eq] at hc
          exact hc.1.1
        subst hk
        exact List.mem_cons_self
      · rw [if_neg hc] at h'
        simp only [List.lookup_cons, beq_self_eq_true] at h'
        have hk : k = k' := Option.some.inj h'
        rcases hk' with z | z
        · exact absurd (hk.trans z) hkc
        · rw [hk, z]; exact List.mem_cons_self
    | false =>
      refine List.mem_cons_of_mem _ (ih ?_)
      by_cases hc : (k == NameKind.free && env.scope.kind == .function && env.kindOf n == some .cell) = true
      · rw [if_pos hc] at h'
        simpa only [List.lookup_cons, hx] using h'
      · rw [if_neg hc] at h'
        simpa only [List.lookup_cons, hx] using h'
def blockSt (ix : List (Option Nat)) (σ : St) : St := ix.map fun o => match o with
  | none => none
  | some i => (σ[i]?).join
structure BlkScope (NX : List Str) (scX : Scope) (N : List Str) (ix : List (Option Nat)) (sc : Scope) : Prop where
  kind : sc.kind = .function
  nd : N.Nodup
  nocell : ∀ y ∈ sc.names, y.2 ≠ .cell
  locs : ∀ y ∈ sc.names, y.2 = .local -> sc.names.lookup y.1 = some .local
  free : ∀ y ∈ sc.names, y.2 = .free -> scX.names.lookup y.1 = some .cell \/ scX.names.lookup y.1 = some .free
  len : ix.length = N.length
  at_ : ∀ p ∈ N.zip ix, ∀ i, p.2 = some i -> NX[i]? = some p.1 /\ sc.names.lookup p.1 = some .free
def cxComp (X : Cx) (N : List Str) (scope : Scope) (fp : List Addr) (s : Shared) (H : Hp) (C : Addr) : Cx :=
  { prog := X.prog, w := X.w, K := X.K, mg := X.mg, base := X.base, A := X.A, N := N, s₀ := s, H₀ := H, env := compEnvC scope (closList X.env.cells scope.names []) C X.env, outer := X.stack, stack := X.stack, ex := fp, fn := fun _ => false, calm := X.calm, pn := X.pn, xe := fun _ _ => False }
theorem mem_lookup_free {names : List (Str × NameKind)} {x : Str} (h : names.lookup x = some .free) : (x, NameKind.free) ∈ names := PySem.mem_of_lookup h
section
variable {X : Cx} {pins : List (Addr × Obj)} {σ : St} {H : Hp} {s : Shared} {N : List Str} {ix : List (Option Nat)} {scope : Scope} {fp : List Addr}
theorem BlkScope.clos (S : BlkScope X.N X.env.scope N ix scope) (ok : X.Ok) : ∀ y ∈ scope.names, y.2 = .free -> ∃ c, X.env.cells.lookup y.1 = some c := fun y hy hf => ok.has y.1 (S.free y hy hf)
theorem inv_block {D C : Addr} {h' : Heap} {tk : Nat} {m : Str -> Option Value} (I : Inv X pins σ H s) (S : BlkScope X.N X.env.scope N ix scope) (hf : ∀ b ∈ fp, FpOk X pins H b)
    (hfo : ∀ b ∈ fp, ∃ o, s.heap.get? b = some o /\ ∀ v, o.data ≠ .cell v)
    (hD : s.heap.objs.size <= D) (hC : s.heap.objs.size <= C) (hDC : D ≠ C) (hk : ∀ b o, s.heap.get? b = some o -> h'.get? b = some o) (hns : h'.Ns C m)
    (hl : ∃ n, h'.get? D = some { cls := .type "list", data := .seq ([] : List Value).toArray n }) :
    Inv (cxComp X N scope fp s H C) pins (blockSt ix σ) (upd H D (.lst [])) { s with heap := h', toks := tk } := by
  have fresh : ∀ {a : Addr}, s.heap.objs.size <= a -> H a = none := fun h => I.hok.fresh h
  have cl_of : ∀ x c, (closList X.env.cells scope.names []).lookup x = some c -> X.env.cells.lookup x = some c := fun x c e => by
    rcases closList_some _ _ _ e with ⟨h1, h2⟩ | h1
    · obtain ⟨c', e'⟩ := S.clos I.ok _ h1 rfl
      have e'' : X.env.cells.lookup x = some c' := e'
      rw [e''] at h2
      rw [e'']
      exact congrArg some h2
    · simp at h1
  have ltO : ∀ {b : Addr} {o : Obj}, s.heap.get? b = some o -> b < s.heap.objs.size := fun e => Heap.lt_size e
  have neC : ∀ {b : Addr} {o : Obj}, s.heap.get? b = some o -> b ≠ C := fun e => Nat.ne_of_lt (Nat.lt_of_lt_of_le (ltO e) hC)
  have neD : ∀ {b : Addr} {o : Obj}, s.heap.get? b = some o -> b ≠ D := fun e => Nat.ne_of_lt (Nat.lt_of_lt_of_le (ltO e) hD)
  have cellG : ∀ x c, X.env.cells.lookup x = some c -> ∃ o, s.heap.get? c = some o := fun x c e => by
    obtain ⟨v, o, ho, _⟩ := I.cell x c e
    exact ⟨o, ho⟩
  refine ⟨⟨I.ok.mod, ?_, I.ok.glob, I.ok.blt, hC, fun x y c e1 e2 => I.ok.inj x y c (cl_of x c e1) (cl_of y c e2), fun x hx => ?_, fun x c h _ => ?_, I.ok.hd, I.ok.frames, .inl rfl, fun b hb => ?_, I.bs, Nat.le_trans I.ok.bsz I.sz, fun b o e hb => ?_, fun b hb hb2 => ?_, I.stack, I.stkFree⟩,
    rfl, I.bare, Un.laid hk hD (fresh hD), ⟨m, hns, fun j x v e1 e2 e3 => ?_⟩, fun x c e => ?_, ?_, fun x c e => ?_, fun p hp => ?_, I.hok.laid hk hD ?_, ?_⟩
  · exact S.kind
  · have hx' : (x, NameKind.free) ∈ scope.names := by
      rcases hx with hx | hx
      · exact relabel_back (.inl rfl) S.nocell hx
      · exact relabel_back (.inr rfl) S.nocell hx
    obtain ⟨c, e⟩ := S.clos I.ok _ hx' rfl
    exact ⟨c, closList_has _ e _ _ (.inl hx')⟩
  · exact absurd (show false = true from h) Bool.false_ne_true
  · obtain ⟨f0, f1, f2, f3, f4, f5⟩ := hf b hb
    obtain ⟨o, e, _⟩ := hfo b hb
    exact ⟨neC e, fun x c ec => f4 x c (cl_of x c ec)⟩
  · obtain ⟨f0, f1, f2, f3, f4, f5⟩ := hf b hb
    rcases f3 with z | z
    · exact I.ok.noex b o e z
    · exact absurd (Nat.lt_of_lt_of_le (Heap.lt_size (I.ok.bs b o e).1) z) (Nat.lt_irrefl _)
  · obtain ⟨f0, f1, f2, f3, f4, f5⟩ := hf b hb
    rcases List.mem_cons.mp (I.stkSub b hb2) with z | z
    · exact f1 z
    · exact f2 z
  · -- a name's value
    obtain ⟨mX, hnX, hlX⟩ := id I.loc
    have hj : (blockSt ix σ)[j]? = some (some v) := e2
    unfold blockSt at hj
    rw [List.getElem?_map] at hj
    cases ej : ix[j]? with
    | none => rw [ej] at hj; cases hj
    | some o =>
      rw [ej] at hj
      cases o with
      | none => cases hj
      | some i =>
        have hj' : (σ[i]?).join = some v := Option.some.inj hj
        have hz : (x, some i) ∈ N.zip ix := List.mem_iff_getElem?.mpr ⟨j, by rw [List.getElem?_zip_eq_some]; exact ⟨e1, ej⟩⟩
        obtain ⟨hNi, hfr⟩ := S.at_ _ hz i rfl
        have hmem := mem_lookup_free hfr
        have hσ : σ[i]? = some (some v) := by
          cases q : σ[i]? with
          | none => rw [q] at hj'; cases hj'
          | some w' =>
            rw [q] at hj'
            have q' : w' = some v := hj'
            rw [q']
        have hvx : X.env.scope.names.lookup x = some .cell \/ X.env.scope.names.lookup x = some .free := S.free _ hmem rfl
        obtain ⟨u, r, lk⟩ := hlX i x v hNi hσ (.inr hvx)
        refine ⟨u, r, .inr ⟨?_, ?_⟩⟩
        · exact relabel_free hfr
        · rcases lk with ⟨k, _⟩ | ⟨k, c, ec, ci⟩
          · have k' : X.env.scope.names.lookup x = some .local := k
            rcases hvx with z | z
            · rw [z] at k'; cases k'
            · rw [z] at k'; cases k'
          · obtain ⟨oc, hoc, hocd⟩ := ci
            exact ⟨c, closList_has _ ec _ _ (.inl hmem), oc, hk c oc hoc, hocd⟩
  · obtain ⟨v, o, ho, hd⟩ := I.cell x c (cl_of x c e)
    exact ⟨v, o, hk c o ho, hd⟩
  · show upd H D (.lst []) C = none
    rw [upd_ne (Ne.symm hDC)]
    exact fresh hC
  · obtain ⟨o, ho⟩ := cellG x c (cl_of x c e)
    rw [upd_ne (neD ho)]
    exact I.freeC x c (cl_of x c e)
  · obtain ⟨e, n, ne, nf, d⟩ := I.pin p hp
    refine ⟨hk _ _ e, by rw [upd_ne (neD e)]; exact n, neC e, fun z => ?_, d⟩
    rcases List.mem_cons.mp (I.stkSub p.1 z) with q | q
    · exact ne q
    · exact nf q
  · obtain ⟨n, hl⟩ := hl
    exact ⟨Nat.zero_le _, [], n, .nil, hl⟩
  · show (blockSt ix σ).length = N.length
    unfold blockSt
    rw [List.length_map]
    exact S.len
end
end L2
set_option Elab.async false
set_option linter.all false
set_option maxRecDepth 100000
namespace L2
open PySem PySem.Spec PyProof.Rows
theorem compLoop_by {prog : Program} {w : World} {A : Around} {R : Result -> Shared -> Prop} {s : Shared} {elt target iter : Expr} {scope : Scope} {pos : Pos} {it acc : Value} {env : Env} (I : Nat -> Shared -> Prop)
    (turn : ∀ n s, I n s -> wpAny (model prog w) A (pyNext it) (fun r s₁ => match r with
      | none => R (.ok .next) s₁
      | some v => wpAny (model prog w) A (letOwnedTupleGo target it v) (fun _ s₁' => wpAny (model prog w) A (assign target env v) (fun _ s₂ => wpAny (model prog w) A (eval elt env) (fun x s₃ =>
          wpAny (model prog w) A (call (.builtin "list.append") [acc, x]) (fun _ s₄ => ∃ m, m < n /\ I m s₄) (fun _ _ => False) s₃)
          (fun _ _ => False) s₂) (fun _ _ => False) s₁') (fun _ _ => False) s₁) (fun _ _ => False) s)
    (n : Nat) (h : I n s) :
    codeAny (model prog w) A (.compLoop (.ListComp elt [⟨target, iter, [], 0⟩] scope pos) 0 it acc env) R s := by
  refine codeAny_loop rfl I (fun n s hI => ?_) n h
  show wpAny _ _ ((compTurn (.ListComp elt [⟨target, iter, [], 0⟩] scope pos) 0 it acc env).onRaise (fun x => do noteFrame x env; theTreesLotGoes x)) _ _ s
  refine wpAny_noted ?_
  rw [compTurn_list1]
  refine wpAny_bind (wpAny_standAt (wpAny_bind (wpAny_mono (turn n s hI) (fun r s₁ h₁ => ?_) fun _ _ h' => h'.elim)))
  cases r with
  | none => exact wpAny_pure h₁
  | some v =>
    refine wpAny_bind (wpAny_mono h₁ (fun _ s₁' h₁' => ?_) fun _ _ h' => h'.elim)
    exact wpAny_bind (wpAny_mono h₁' (fun _ s₂ h₂ => wpAny_bind (wpAny_bind (wpAny_mono h₂ (fun x s₃ h₃ => wpAny_bind (wpAny_mono h₃
      (fun _ s₄ h₄ => wpAny_pure (wpAny_pure ⟨rfl, h₄⟩)) fun _ _ h' => h'.elim)) fun _ _ h' => h'.elim))) fun _ _ h' => h'.elim)
def CompW (J : It) (ix : List (Option Nat)) (g : TG) (te : TE) (σ : St) (H : Hp) (Qd : Addr -> Hp -> Prop) : Prop :=
  ∀ D, H D = none -> ∃ W : Nat -> Nat -> St -> Hp -> Prop, (∃ m, W 0 m (blockSt ix σ) (upd H D (.lst []))) /\ ∀ i m σ' H', W i m σ' H' ->
    (J.stop i H' /\ Qd D H') \/ (J.go i H' /\ ∀ x H2, J.yld i H' x H2 -> g x σ' H2 fun σ3 H3 => te σ3 H3 fun y H4 => ∃ ys, H4 D = some (.lst ys) /\ ys.length < sizeLine /\ ∃ m', m' < m /\ W (i + 1) m' σ3 (upd H4 D (.lst (ys ++ [y]))))
section
variable {X : Cx} {pins : List (Addr × Obj)} {σ : St} {H : Hp} {s : Shared} {N : List Str} {ix : List (Option Nat)} {scope : Scope} {fp : List Addr} {tg elt iter : Expr} {pos spos : Pos} {J : It} {it : Addr} {tn : Nat -> Heap -> Prop} {g : TG} {te : TE} {wi : TI}
theorem comp_run {Qd : Addr -> Hp -> Prop} {RR : Value -> Addr -> Result -> Shared -> Prop} {E : Value -> Shared -> Prop} (I : Inv X pins σ H s) (hc : X.calm = true) (S : BlkScope X.N X.env.scope N ix scope) (T : Turn X.prog X.w X.K tg J fp it tn) (st : tn 0 s.heap) (f2 : ∀ b ∈ fp, FpOk X pins H b)
    (hg : ∀ C, PG (cxComp X N scope fp s H C) tg g) (he : ∀ C, PE (cxComp X N scope fp s H C) elt te) (hW : CompW J ix g te σ H Qd)
    (hR : ∀ D C s' H' m, Inv X pins σ H' s' -> s'.heap.Ns C m -> FpOk X pins H' C -> Qd D H' -> RR (.ref D) C (.ok .next) s') :
    wpAny (model X.prog X.w) X.A (newList []) (fun acc s₃ => wpAny (model X.prog X.w) X.A (newFunctionEnv scope X.env.globals (closList X.env.cells scope.names []) [] X.env.qual none .none (some X.env)) (fun cenv s₄ =>
      codeAny (model X.prog X.w) X.A (.compStart (.ListComp elt [⟨tg, iter, [], 0⟩] scope pos) 0 (.ref it) acc { cenv with scope := relabel scope X.env }) (RR acc cenv.locals) s₄) E s₃) E s := by
  refine wpAny_newObj_type (wpAny_newFunctionEnv S.nocell (by intro y hy; simp at hy) (fun h₁ hns₁ hsb₁ => ?_) S.kind)
  dsimp only at hns₁ hsb₁ ⊢
  generalize hH2 : s.heap.push { cls := .type "list", dict := none, data := .seq ([] : List Value).toArray } = H2 at hns₁ hsb₁ ⊢
  have hC : H2.objs.size = s.heap.objs.size + 1 := by rw [<- hH2, Heap.size_push]
  have hDC : s.heap.objs.size ≠ H2.objs.size := by rw [hC]; exact Nat.ne_of_lt (Nat.lt_succ_self _)
  have hCle : s.heap.objs.size <= H2.objs.size := by rw [hC]; exact Nat.le_succ _
  have below : ∀ b, b < s.heap.objs.size -> b ≠ H2.objs.size := fun b hb => by rw [hC]; exact Nat.ne_of_lt (Nat.lt_succ_of_lt hb)
  have old : ∀ b o, s.heap.get? b = some o -> h₁.get? b = some o := fun b o e => hsb₁.extBut b o (below b (Heap.lt_size e)) (Heap.get?_push_of_some _ (hH2 ▸ Heap.get?_push_of_some _ e))
  have hacc : ∃ n, h₁.get? s.heap.objs.size = some { cls := .type "list", data := .seq ([] : List Value).toArray n } := ⟨_, hsb₁.extBut _ _ hDC (Heap.get?_push_of_some _ (hH2 ▸ Heap.get?_push_size _ rfl))⟩
  have st1 : tn 0 h₁ := T.keep _ _ _ st fun b _ o e => old b o e
  have fo : ∀ b ∈ fp, ∃ o, s.heap.get? b = some o /\ ∀ v, o.data ≠ .cell v := T.obj _ _ st
  have I0 : Inv (cxComp X N scope fp s H H2.objs.size) pins (blockSt ix σ) (upd H s.heap.objs.size (.lst [])) { s with heap := h₁, toks := s.toks + ([] : List (Str × Value)).length } :=
    inv_block I S f2 fo (Nat.le_refl _) hCle hDC old hns₁ hacc
  have freshD : H s.heap.objs.size = none := I.hok.fresh (Nat.le_refl _)
  obtain ⟨W, ⟨m0, w0⟩, turn⟩ := hW s.heap.objs.size freshD
  have cl_ne : ∀ b ∈ fp, b ≠ H2.objs.size := fun b hb => by
    obtain ⟨o, e, _⟩ := fo b hb
    exact below b (Heap.lt_size e)
  have stat : ∀ {H' : Hp}, (∀ b ∈ fp, H' b = none) -> ∀ b ∈ fp, FpOk (cxComp X N scope fp s H H2.objs.size) pins H' b := fun hn b hb => by
    obtain ⟨f0, f1, f3, f4, f5, f6⟩ := f2 b hb
    exact ⟨hn b hb, cl_ne b hb, I0.ok.exfs b hb, .inl hb, (I0.ok.exf b hb).2, f6⟩
  have fr0 : ∀ b ∈ fp, (upd H s.heap.objs.size (.lst [])) b = none := fun b hb => by
    obtain ⟨o, e, _⟩ := fo b hb
    rw [upd_ne (Nat.ne_of_lt (Heap.lt_size e))]
    exact (f2 b hb).1
  have loop : codeAny (model X.prog X.w) X.A (.compLoop (.ListComp elt [⟨tg, iter, [], 0⟩] scope pos) 0 (.ref it) (.ref s.heap.objs.size) (compEnvC scope (closList X.env.cells scope.names []) H2.objs.size X.env))
      (RR (.ref s.heap.objs.size) H2.objs.size) { s with heap := h₁, toks := s.toks + ([] : List (Str × Value)).length } := by
    refine compLoop_by (fun n s' => ∃ i σ' H', Inv (cxComp X N scope fp s H H2.objs.size) pins σ' H' s' /\ tn i s'.heap /\ (∀ b ∈ fp, H' b = none) /\ W i n σ' H') ?_ m0 ⟨0, _, _, I0, st1, fr0, w0⟩
    rintro n s3 ⟨i, σ3, H3, I3, st3, fr3, w3⟩
    rcases turn i n σ3 H3 w3 with ⟨stop, qn⟩ | ⟨go, step⟩
    · refine thn (T.done (cxComp X N scope fp s H H2.objs.size) rfl rfl rfl hc i pins s3 σ3 H3 _ I3 (stat fr3) st3 stop) fun r s4 ⟨hr, I4⟩ => ?_
      subst hr
      obtain ⟨m4, hn4, _⟩ := id I4.loc
      refine hR _ _ s4 H3 m4 ?_ hn4 (I.fpOk hCle I4.free) qn
      exact I.call' (ch := fp) I4.os I4.base I4.hok I4.bare fun b hb => by
        obtain ⟨f0, f1, f3, f4, f5, f6⟩ := f2 b hb
        exact ⟨f4, f1, f5, f6⟩
    · refine thn (T.item (cxComp X N scope fp s H H2.objs.size) rfl rfl rfl hc i pins s3 σ3 H3 _ I3 (stat fr3) st3 go) fun r s4 ⟨u, hr, h4⟩ => ?_
      subst hr
      refine thn h4 fun _ s5 ⟨x, H5, I5, r5, y5, st5, fr5⟩ => ?_
      have I5' := I5.pinned (stat fr5) (T.obj _ _ st5)
      refine thn (hg _ _ s5 σ3 H5 x u _ I5' r5 (step x H5 y5)) fun _ s6 ⟨σ6, H6, I6, q6⟩ => ?_
      refine thn (he _ _ s6 σ6 H6 _ I6 q6) fun yv s7 ⟨y, H7, I7, r7, ys, hD7, hz7, m', hm, w7⟩ => ?_
      refine thn (mt_append (X := cxComp X N scope fp s H H2.objs.size) _ s7 σ6 H7 (.ref s.heap.objs.size) [y] (.ref s.heap.objs.size) [yv] (fun _ H8 => W (i + 1) m' σ6 H8) I7 rfl (.cons r7 .nil) ⟨_, ys, y, rfl, rfl, hD7, hz7, w7⟩) fun _ s8 ⟨_, H8, I8, _, w8⟩ => ?_
      refine ⟨m', hm, i + 1, σ6, H8, I8.unpinned, T.keep _ _ _ st5 fun b hb o e => (I8.pin (b, o) (List.mem_append_right _ (List.mem_append_right _ (mem_pinsAt hb e)))).1, fun b hb => ?_, w8⟩
      obtain ⟨o, e, d⟩ := T.obj _ _ st5 b hb
      exact (I8.pin (b, o) (List.mem_append_right _ (List.mem_append_right _ (mem_pinsAt hb e)))).2.1
  exact codeAny_compStart_list loop (T.self _ _ _ _ _ st1 loop)
def tComp (ix : List (Option Nat)) (wi : TI) (g : TG) (te : TE) : TE := fun σ H Q => wi σ H fun J H1 => CompW J ix g te σ H1 fun D H' => Q (.ref D) H'
theorem pe_comp (hc : X.calm = true) (S : BlkScope X.N X.env.scope N ix scope) (hi : PI X tg iter wi) (hg : ∀ fp s H C, PG (cxComp X N scope fp s H C) tg g) (he : ∀ fp s H C, PE (cxComp X N scope fp s H C) elt te)
    (hs : ∀ x, foldedSetIterable iter X.env x = pure x := by intro _; rfl) : PE X (.ListComp elt [⟨tg, iter, [], 0⟩] scope pos) (tComp ix wi g te) := by
  intro pins s σ H Q I h
  rw [eval_ListComp]
  refine wpAny_comprehension_free (use := none) rfl hs (closureFor_eq (S.clos I.ok)) S.kind S.locs (thn (hi pins s σ H _ I h) fun v s1 h1 => thn h1 fun itv s2 h2 => ?_)
  obtain ⟨it, fp, tn, J, H2, e, I2, T, st2, f2, hW⟩ := h2
  subst e
  refine comp_run (RR := fun acc C => compPost (model X.prog X.w) X.A X.xe none (EP X pins σ Q) acc C) I2 hc S T st2 f2 (hg _ _ _) (he _ _ _) hW ?_
  intro D C s' H' m I' hn fC q
  exact ⟨m, hn, fun h' sb => ⟨.ref D, H', I'.turned (t' := s'.toks) (fun b o hb e => (sb.2 b hb).trans e) fC.1 fC.2.1 fC.2.2.2.1 fC.2.2.2.2.1 fC.2.2.2.2.2, rfl, q⟩⟩
theorem ps_setComp {i : Nat} {y : Str} {py : Pos} (hc : X.calm = true) (hN : X.N.Nodup) (hyi : X.N[i]? = some y) (hy : Loc X.env.scope y) (S : BlkScope X.N X.env.scope N ix scope) (hi : PI X tg iter wi) (hg : ∀ fp s H C, PG (cxComp X N scope fp s H C) tg g) (he : ∀ fp s H C, PE (cxComp X N scope fp s H C) elt te)
    (hsw : swapsWith (.ListComp elt [⟨tg, iter, [], 0⟩] scope pos) (some (.Name y py)) spos.line X.env = pure true := by rfl)
    (hf : X.fn y = true \/ X.env.scope.names.lookup y = some .local := by first | exact .inl rfl | exact .inr rfl | assumption)
    (hs : ∀ x, foldedSetIterable iter X.env x = pure x := by intro _; rfl) : PS X (.Assign [.Name y py] (.ListComp elt [⟨tg, iter, [], 0⟩] scope pos) spos) (tAsg (tComp ix wi g te) (gName i)) := by
  intro pins s σ H D I h
  rw [exec_Assign_Name_used _ _ _ _ hsw]
  refine wpAny_bind (wpAny_standAt (wpAny_bind ?_))
  show wpAny _ X.A (do let _ <- comprehension (.ListComp elt [⟨tg, iter, [], 0⟩] scope pos) scope X.env _ (newList []) false (eval iter X.env) (some (assign (.Name y py) X.env))) _ _ s
  refine wpAny_bind (wpAny_mono (wpAny_comprehension_free (use := some (assign (.Name y py) X.env)) (Q := fun _ s' => SP X pins D .next s') rfl hs (closureFor_eq (S.clos I.ok)) S.kind S.locs
    (thn (hi pins s σ H _ I h) fun v s1 h1 => thn h1 fun itv s2 h2 => ?_)) (fun _ s' hq => wpAny_pure (wpAny_pure hq)) fun _ _ e => e)
  obtain ⟨it, fp, tn, J, H2, e, I2, T, st2, f2, hW⟩ := h2
  subst e
  refine comp_run (RR := fun acc C => compPost (model X.prog X.w) X.A X.xe (some (assign (.Name y py) X.env)) (fun _ s' => SP X pins D .next s') acc C) I2 hc S T st2 f2 (hg _ _ _) (he _ _ _) hW ?_
  intro Dl C s' H' m I' hn fC q
  show wpAny _ X.A (assign (.Name y py) X.env (.ref Dl)) _ _ s'
  refine wpAny_assign_Name (store_ok2 I' hN hyi hy (v := .ref Dl) rfl (fun s2 I2' hsb => ?_) hf)
  obtain ⟨a, sb, ha⟩ := hsb
  refine ⟨m, hn.sameBut sb ?_, fun h3 sb3 => ⟨_, H', I2'.turned (t' := s2.toks) (fun b o hb e => (sb3.2 b hb).trans e) fC.1 fC.2.1 fC.2.2.2.1 fC.2.2.2.2.1 fC.2.2.2.2.2, q⟩⟩
  rcases ha with z | z
  · rw [z]; exact fC.2.1
  · exact Ne.symm (fC.2.2.2.2.1 _ _ z)
end
theorem comp_range {lo : Int} {n : Nat} {ix : List (Option Nat)} {te : TE} {σ : St} {H : Hp} {Qd : Addr -> Hp -> Prop} (Pv : Addr -> Nat -> List V -> Hp -> Prop)
    (h0 : ∀ D, H D = none -> Pv D 0 [] (upd H D (.lst [])))
    (hs : ∀ D i ys H' (Q' : VK), H D = none -> i < n -> H' D = some (.lst ys) -> Pv D i ys H' -> (∀ y H4, H4 D = some (.lst ys) -> ys.length < sizeLine -> Pv D (i + 1) (ys ++ [y]) (upd H4 D (.lst (ys ++ [y]))) -> Q' y H4) ->
      te ((blockSt ix σ).set 0 (some (.int (lo + i)))) H' Q')
    (hd : ∀ D ys H', H D = none -> H' D = some (.lst ys) -> Pv D n ys H' -> Qd D H') : CompW (Itr lo n) ix (gName 0) te σ H Qd := by
  intro D hD
  refine ⟨fun i m σ' H' => m = n - i /\ i <= n /\ (σ' = blockSt ix σ \/ ∃ t, σ' = (blockSt ix σ).set 0 t) /\ ∃ ys, H' D = some (.lst ys) /\ Pv D i ys H', ⟨n, by simp, Nat.zero_le _, .inl rfl, [], upd_same, h0 D hD⟩, ?_⟩
  rintro i m σ' H' ⟨rfl, hi, hσ, ys, hy, p⟩
  by_cases hlt : i < n
  · refine .inr ⟨hlt, fun x H2 y => ?_⟩
    obtain ⟨e1, e2⟩ := y
    subst e1
    subst e2
    have es : σ'.set 0 (some (V.int (lo + i))) = (blockSt ix σ).set 0 (some (V.int (lo + i))) := by
      rcases hσ with z | ⟨t, z⟩
      · rw [z]
      · rw [z, List.set_set]
    show te (σ'.set 0 (some (V.int (lo + i)))) _ _
    rw [es]
    refine hs D i ys _ _ hD hlt hy p fun y H4 h4 hz p4 => ⟨ys, h4, hz, n - (i + 1), by omega, rfl, hlt, .inr ⟨_, rfl⟩, ys ++ [y], upd_same, p4⟩
  · have e : i = n := by omega
    subst e
    exact .inl ⟨Nat.le_refl _, hd D ys H' hD hy p⟩
theorem comp_list {K : PySem.W.Frag} {a : Addr} {xs : List V} {ix : List (Option Nat)} {te : TE} {σ : St} {H : Hp} {Qd : Addr -> Hp -> Prop} (Pv : Addr -> Nat -> List V -> Hp -> Prop)
    (h0 : ∀ D, H D = none -> Pv D 0 [] (upd H D (.lst [])))
    (hl : ∀ D i ys H', i <= xs.length -> Pv D i ys H' -> SqL K H' a xs)
    (hs : ∀ D i x ys H' (Q' : VK), H D = none -> xs[i]? = some x -> H' D = some (.lst ys) -> Pv D i ys H' -> (∀ y H4, H4 D = some (.lst ys) -> ys.length < sizeLine -> Pv D (i + 1) (ys ++ [y]) (upd H4 D (.lst (ys ++ [y]))) -> Q' y H4) ->
      te ((blockSt ix σ).set 0 (some x)) H' Q')
    (hd : ∀ D ys H', H D = none -> H' D = some (.lst ys) -> Pv D xs.length ys H' -> Qd D H') : CompW (Itl K a) ix (gName 0) te σ H Qd := by
  intro D hD
  refine ⟨fun i m σ' H' => m = xs.length - i /\ i <= xs.length /\ (σ' = blockSt ix σ \/ ∃ t, σ' = (blockSt ix σ).set 0 t) /\ ∃ ys, H' D = some (.lst ys) /\ Pv D i ys H', ⟨xs.length, by simp, Nat.zero_le _, .inl rfl, [], upd_same, h0 D hD⟩, ?_⟩
  rintro i m σ' H' ⟨rfl, hi, hσ, ys, hy, p⟩
  have q := hl D i ys H' hi p
  by_cases hlt : i < xs.length
  · refine .inr ⟨⟨xs, xs[i], q, by simp [hlt]⟩, fun x H2 y => ?_⟩
    obtain ⟨e1, e2⟩ := y
    subst e1
    have ex := e2 xs q
    have es : σ'.set 0 (some x) = (blockSt ix σ).set 0 (some x) := by
      rcases hσ with z | ⟨t, z⟩
      · rw [z]
      · rw [z, List.set_set]
    show te (σ'.set 0 (some x)) _ _
    rw [es]
    refine hs D i x ys _ _ hD ex hy p fun y H4 h4 hz p4 => ⟨ys, h4, hz, xs.length - (i + 1), by omega, rfl, hlt, .inr ⟨_, rfl⟩, ys ++ [y], upd_same, p4⟩
  · have e : i = xs.length := by omega
    subst e
    exact .inl ⟨⟨xs, q, Nat.le_refl _⟩, hd D ys H' hD hy p⟩
section
variable {X : Cx}
def rIsi (K : PySem.W.Frag) : List V -> Hp -> VK -> Prop := fun xs H Q => ∃ x n t b, xs = [x, .ty n] /\ TyOf K H x t /\ PySem.W.kitOne K t (.type n) = some b /\ Q (.bl b) H
theorem call_isi : CallR X (.builtin "isinstance") (rIsi X.K) := by
  intro pins s σ H xs us Q I r h
  obtain ⟨x, n, t, b, rfl, ty, e, q⟩ := h
  obtain ⟨u, v, rfl, ru, rv⟩ := r.two
  cases (show v = Value.type n from rv)
  exact isinst_ok I ru ty e fun tk => ⟨.bl b, H, I.tok tk, rfl, q⟩
end
section
variable {prog : Program} {w : World} {A : Around} {E : Value -> Shared -> Prop} {s : Shared}
end
section
variable {X : Cx} {pos : Pos}
end
end L2
set_option Elab.async false
set_option linter.all false
set_option maxRecDepth 100000
namespace HT
open PySem PySem.Spec PyProof.Rows
section
variable {prog : Program} {w : World} {A : Around} {E : Value -> Shared -> Prop} {s : Shared}
theorem getItem_tuple_whole {t sl : Addr} {items : Array Value} {vl vu : Value} {lo hi : Option Int} {Q : Value -> Shared -> Prop} (ht : IsTup s.heap t items) (hs : s.heap.IsSliceOf sl vl vu .none) (pl : IsPart vl lo) (pu : IsPart vu hi)
    (hw : sIx items.size 0 lo = 0 /\ sIx items.size items.size hi = items.size) (h : Q (.ref t) s) : wpAny (model prog w) A (getItem (.ref t) (.ref sl)) Q E s := by
  obtain ⟨os, hos, hcs, hds⟩ := id hs
  have hTs : s.TypeIs (.ref sl) "slice" := ⟨os, hos, hcs⟩
  unfold getItem
  try with_reducible refine wpAny_holding ?_
  first | refine wpAny_bind (wpAny_pure ?_) | skip
  refine wpAny_bind (wpAny_sequenceKey ht.typeIs (by decide) ?_)
  refine wpAny_bind (wpAny_callSpecial?_slot (name := Str.ofString "__getitem__") ht.typeIs PyProof.Rows.slot_tuple_getitem
    (wpAny_call_entry PyProof.Rows.slot_tuple_getitem ht.typeIs entry_tuple_getitem ?_ (args_tuple_getitem _ _)))
  show wpAny _ _ (Builtin.Tuple.tupleItemsOf (.ref t) >>= _) _ _ s
  refine wpAny_bind (tupleItemsOf_ ht ?_)
  refine wpAny_bind (wpAny_typeOf hTs ?_)
  rw [if_pos (by decide)]
  refine wpAny_bind (sliceApplied_gen hs pl pu ?_)
  have hyes : ((((sIx items.size 0 lo : Nat) : Int) == 0 && (1 : Int) == 1 && (sIx items.size items.size hi - sIx items.size 0 lo) == items.size) = true) := by
    rw [hw.1, hw.2]; simp
  show wpAny _ _ (if (((sIx items.size 0 lo : Nat) : Int) == 0 && (1 : Int) == 1 && (sIx items.size items.size hi - sIx items.size 0 lo) == items.size) = true then _ else _) _ _ s
  rw [if_pos hyes]
  unfold Builtin.Tuple.tupleIsExact
  refine wpAny_bind (wpAny_bind (wpAny_typeOf ht.typeIs (wpAny_pure ?_)))
  rw [if_pos (by decide)]
  first
    | exact wpAny_bind (wpAny_rule (wpAny_pure ⟨_, rfl, wpAny_pure h⟩))
    | exact wpAny_bind (wpAny_rule (wpAny_bind (wpAny_pure (wpAny_pure ⟨_, rfl, wpAny_pure h⟩))))
    | exact wpAny_bind (wpAny_bind (wpAny_rule (wpAny_pure ⟨_, rfl, wpAny_pure h⟩)))
end
end HT
namespace L2
open PySem PySem.Spec PyProof.Rows
section
variable {X : Cx}
def rSlTW (K : PySem.W.Frag) : V -> Option Int -> Option Int -> Hp -> VK -> Prop := fun x lo hi H Q => ∃ a xs, x = .ref a /\ SqT K H a xs /\
  (HT.sIx xs.length 0 lo = 0 /\ HT.sIx xs.length xs.length hi = xs.length) /\ Q (.ref a) H
theorem sl_tupW : SlR X (rSlTW X.K) := by
  intro pins s σ H x v vl vu lo hi sl Q I rx hs pl pu h
  obtain ⟨a, xs, rfl, hx, hw, q⟩ := h
  cases rx
  obtain ⟨its, r, ht, hz⟩ := I.tuple hx
  have hlen : its.toArray.size = xs.length := by rw [List.size_toArray]; exact r.length.symm
  refine ⟨"tuple", _, PyProof.Rows.slot_tuple_getitem.lookup, ht.typeIs, ?_⟩
  exact HT.getItem_tuple_whole ht hs pl pu (by rw [hlen]; exact hw) ⟨.ref a, H, I, rfl, q⟩
def rSl (K : PySem.W.Frag) : V -> Option Int -> Option Int -> Hp -> VK -> Prop := fun x lo hi H Q => ∃ a xs, x = .ref a /\
  ((SqL K H a xs /\ ∀ p, H p = none -> Q (.ref p) (upd H p (.lst (cutV xs lo hi)))) \/
   (SqT K H a xs /\ (cutV xs lo hi = xs -> Q (.ref a) H) /\ ∀ p, H p = none -> Q (.ref p) (upd H p (.tup (cutV xs lo hi)))))
theorem cutV_whole {xs : List V} {lo hi : Option Int} (h : HT.sIx xs.length 0 lo = 0 /\ HT.sIx xs.length xs.length hi = xs.length) : cutV xs lo hi = xs := by
  unfold cutV
  rw [h.1, h.2]
  simp
theorem sl_seq : SlR X (rSl X.K) := by
  intro pins s σ H x v vl vu lo hi sl Q I rx hs pl pu h
  obtain ⟨a, xs, rfl, h⟩ := h
  rcases h with ⟨hx, q⟩ | ⟨hx, q1, q2⟩
  · exact sl_list pins s σ H _ v vl vu lo hi sl Q I rx hs pl pu ⟨a, xs, rfl, hx, q⟩
  · by_cases hw : HT.sIx xs.length 0 lo = 0 /\ HT.sIx xs.length xs.length hi = xs.length
    · exact sl_tupW pins s σ H _ v vl vu lo hi sl Q I rx hs pl pu ⟨a, xs, rfl, hx, hw, q1 (cutV_whole hw)⟩
    · exact sl_tup pins s σ H _ v vl vu lo hi sl Q I rx hs pl pu ⟨a, xs, rfl, hx, hw, q2⟩
end
structure FunD (K : PySem.W.Frag) (x qual : Str) (st : Stmt) (dV : Value) (f : Addr) (fd : FuncData) : Prop where
  ex : ∃ (oc : Value) (od : Option Addr) (kV doc pm : Value) (an : Option Addr) (cdv ct : Value) (osl : Array (Option Value)),
    fd = PySem.W.fnOf x qual (defArgs st) (defBody st) (defScope st) dV kV doc pm an cdv ct /\ K.lookup f = some ⟨oc, od, .func fd, osl⟩ /\ PySem.W.codeIn K cdv qual = true
  kp : PySem.W.keepIn K (.ref f) = true
section
variable {P : Program} {w : World} {K : PySem.W.Frag} {mg : Str -> Option Value} {base : Heap}
theorem FunD.ok {x qual : Str} {st : Stmt} {dV : Value} {f : Addr} {fd : FuncData} {N ps : List Str} {k : Nat} {sp : Sp} (F : FunD K x qual st dV f fd) (S : FnScope N ps (defScope st)) (len : ∀ vs H Q E, sp vs H Q E -> vs.length = ps.length)
    (hbody : ∀ (cdv : Value) (A : Around) (outer : List Env) (s : Shared) (H : Hp) (vs : List V) (Q : VK) (E : XK), Room k (A.deeper (envOfC qual (defScope st) s.heap.objs.size f cdv)) -> sp vs H Q E ->
      ∃ t, PSs (cxOf CX0 P w K mg base N qual (defScope st) f cdv A outer s H E).nox (defBody st) t /\ t { nx := fun _ H' => Q .non H', rt := Q } (start N vs) H) : FnOk P w K mg base CX0 (k + 1) f fd ps sp := by
  obtain ⟨oc, od, kV, doc, pm, an, cdv, ct, osl, rfl, lk, hcd⟩ := F.ex
  refine fn_of lk hcd S len fun A outer s H vs Q E hr hsp => ?_
  obtain ⟨t, h, q⟩ := hbody cdv A outer s H vs Q E hr hsp
  exact ⟨t, h.nox, q⟩
theorem FunD.binds {x qual : Str} {st : Stmt} {f : Addr} {fd : FuncData} {ps : List Str} (F : FunD K x qual st .none f fd)
    (h : ∀ (kV doc pm : Value) (an : Option Addr) (cdv ct : Value) (us : List Value), us.length = ps.length -> bindArgs (PySem.W.fnOf x qual (defArgs st) (defBody st) (defScope st) .none kV doc pm an cdv ct) ⟨us, []⟩ = pure (ps.zip us)) : Binds K fd ps [] := by
  obtain ⟨oc, od, kV, doc, pm, an, cdv, ct, osl, rfl, lk, hcd⟩ := F.ex
  exact .all (h kV doc pm an cdv ct)
theorem FunD.bindsD {x qual : Str} {st : Stmt} {f T : Addr} {fd : FuncData} {ps : List Str} {ds : List Value} {o : Obj} {items : Array Value} {n : Nat} (F : FunD K x qual st (.ref T) f fd) (ho : K.lookup T = some o) (hs : o.data = .seq items n) (m : Nat) (hm : m + ds.length = ps.length)
    (h : ∀ (kV doc pm : Value) (an : Option Addr) (cdv ct : Value) (us : List Value), us.length = m -> ∃ k : Option (Array Value) -> Sem (List (Str × Value)),
      bindArgs (PySem.W.fnOf x qual (defArgs st) (defBody st) (defScope st) (.ref T) kV doc pm an cdv ct) ⟨us, []⟩ = seqItems? (.ref T) >>= k /\ k (some items) = pure (ps.zip (us ++ ds))) : Binds K fd ps ds := by
  obtain ⟨oc, od, kV, doc, pm, an, cdv, ct, osl, rfl, lk, hcd⟩ := F.ex
  intro s us X hl
  obtain ⟨k, h1, h2⟩ := h kV doc pm an cdv ct us (by rw [List.length_append] at hl; omega)
  exact BindsTo.of_defaults (fd := PySem.W.fnOf x qual (defArgs st) (defBody st) (defScope st) (.ref T) kV doc pm an cdv ct) rfl (X _ _ ho) hs h1 h2
theorem fund_mk {x qual : Str} {st : Stmt} {f : Addr} {oc : Value} {od an : Option Addr} {osl : Array (Option Value)} {dV kV doc pm cdv ct : Value} (l : K.lookup f = some ⟨oc, od, .func (PySem.W.fnOf x qual (defArgs st) (defBody st) (defScope st) dV kV doc pm an cdv ct), osl⟩)
    (c : PySem.W.codeIn K cdv qual = true) (k : PySem.W.keepIn K (.ref f) = true) : FunD K x qual st dV f (PySem.W.fnOf x qual (defArgs st) (defBody st) (defScope st) dV kV doc pm an cdv ct) := ⟨⟨oc, od, kV, doc, pm, an, cdv, ct, osl, rfl, l, c⟩, k⟩
structure DefOk (P : Program) (w : World) (K : PySem.W.Frag) (mg : Str -> Option Value) (base : Heap) (x : Str) (k : Nat) (ps : List Str) (dvs : List V) (sp : Sp) : Prop where
  ex : ∃ (f : Addr) (fd : FuncData) (ds : List Value), mg x = some (.ref f) /\ PySem.W.keepIn K (.ref f) = true /\ Vals dvs ds /\ Binds K fd ps ds /\ FnOk P w K mg base CX0 k f fd ps sp
end
section
variable {X : Cx} {x : Str} {j k : Nat} {ps : List Str} {dvs : List V} {sp : Sp} {p pos : Pos} {e : Expr} {es : List Expr} {t : TA}
theorem pe_cd (G : DefOk X.prog X.w X.K X.mg X.base x k ps dvs sp) (hr : Room j X.A) (ha : PA X (e :: es) t) (hx : ∀ e s, X.xe e s = False := by intro _ _; rfl) (hkj : k <= j := by decide) (hg : Gl X x := by rfl) (hdb : (x == ("__debug__" : Str)) = false := by decide)
    (he : starEach (e :: es) X.env = (false, eval e X.env) :: starEach es X.env := by rfl) (hpl : (backTo pos (starEach es X.env)).any (·.1) = false := by rfl) :
    PE X (.Call (.Name x p) (e :: es) [] pos) (tCall sp dvs E0 t) := by
  obtain ⟨f, fd, ds, hm, hk, hd, hb, F⟩ := G.ex
  exact pe_call F (hr.mono hkj) hg hm hk hb hd (fun _ _ _ _ _ _ _ h => h.elim) ha hdb he hpl
end
theorem kit_int_int (K : PySem.W.Frag) : PySem.W.kitOne K (.type "int") (.type "int") = some true := by with_unfolding_all rfl
theorem kit_int_bool (K : PySem.W.Frag) : PySem.W.kitOne K (.type "int") (.type "bool") = some false := by with_unfolding_all rfl
theorem same_new {H : Hp} {p : Addr} (h : H p = none) (o : HO) : Same H (upd H p o) := fun b u q => by rw [upd_ne (ne_of_none q h)]; exact q
theorem small {n : Nat} (h : n <= 1000) : n <= sizeLine := Nat.le_of_lt (small1000 h)
theorem bt_len : bootBuiltins "len" = some (.builtin "len") := by decide +kernel
theorem bt_min : bootBuiltins "min" = some (.builtin "min") := by decide +kernel
theorem bt_isinstance : bootBuiltins "isinstance" = some (.builtin "isinstance") := by decide +kernel
theorem bt_any : bootBuiltins "any" = some (.builtin "any") := by decide +kernel
theorem bt_sorted : bootBuiltins "sorted" = some (.builtin "sorted") := by decide +kernel
theorem bt_int : bootBuiltins "int" = some (.type "int") := by decide +kernel
theorem bt_bool : bootBuiltins "bool" = some (.type "bool") := by decide +kernel
theorem bt_tuple : bootBuiltins "tuple" = some (.type "tuple") := by decide +kernel
theorem bt_list : bootBuiltins "list" = some (.type "list") := by decide +kernel
theorem bt_dict : bootBuiltins "dict" = some (.type "dict") := by decide +kernel
theorem bt_set : bootBuiltins "set" = some (.type "set") := by decide +kernel
theorem bt_reversed : bootBuiltins "reversed" = some (.type "reversed") := by decide +kernel
end L2
set_option Elab.async false
set_option linter.all false
set_option maxRecDepth 100000
namespace L2
open PySem PySem.Spec PyProof.Rows
def BIG : Int := 2 ^ 4000
theorem big_bits {k : Int} (h0 : 0 <= k) (h : k < BIG) : k.natAbs.log2 < 4000 := by
  rcases Nat.eq_zero_or_pos k.natAbs with z | hp
  · rw [z]; decide +kernel
  · refine (Nat.log2_lt (by omega)).mpr ?_
    have e : BIG = ((2 ^ 4000 : Nat) : Int) := by unfold BIG; norm_cast
    rw [e] at h
    omega
def CMulB (i j : Int) : Prop := (0 <= i /\ i < BIG) /\ (0 <= j /\ j < BIG)
theorem CMulB.ok {i j : Int} (h : CMulB i j) : IntMulOk i j := by
  have one : ∀ {k : Int}, 0 <= k -> k < BIG -> Builtin.Int.intBits k <= 2 ^ 20 := fun {k} h0 h1 => by
    unfold Builtin.Int.intBits
    have := big_bits h0 h1
    split <;> omega
  exact .of_bits (one h.1.1 h.1.2) (one h.2.1 h.2.2)
def CDivB (i j : Int) : Prop := 0 < j /\ j < BIG
section
variable {X : Cx}
theorem op_mulB : OpR X (binaryOp .Mult) (rI CMulB fun i j => .int (i * j)) := opI fun _ _ _ _ _ _ _ hc q => PyProof.Rows.mul_int q hc.ok
theorem op_fdivB : OpR X (binaryOp .FloorDiv) (rI CDivB fun i j => .int (i / j)) := opI fun i j _ _ _ _ _ hc q => by
  have h1 : (0 : Int) < j := hc.1
  have h2 : j < BIG := hc.2
  have h3 := big_bits (Int.le_of_lt h1) h2
  exact floordiv_int (by omega) (by rw [Int.fdiv_eq_ediv_of_nonneg i (by omega)]; exact q) (.inl (PyProof.noPylong_of_log2 (by omega)))
end
section
variable {X : Cx} {tg : Expr}
end
theorem while_W {c : TT} {tb : TS} {D : Ends} {σ : St} {H : Hp} (Pv : Nat -> St -> Hp -> Prop) (h0 : ∃ m, Pv m σ H)
    (hs : ∀ m σ H, Pv m σ H -> c σ H fun b H1 => if b = true then ∃ N : St -> Hp -> Prop, (∀ σ' H', N σ' H' -> ∃ m', m' < m /\ Pv m' σ' H') /\ tb { D with nx := N, ct := N, bk := D.nx } σ H1 else D.nx σ H1) : tWhile c tb D σ H := ⟨Pv, h0, hs⟩
end L2
set_option Elab.async false
set_option linter.all false
set_option maxRecDepth 100000
namespace L2
open PySem PySem.Spec PyProof.Rows
section
variable {X : Cx} {pins : List (Addr × Obj)} {σ : St} {H : Hp} {s : Shared}
theorem TyOf.kit {x : V} {u t : Value} (I : Inv X pins σ H s) (rx : RelV x u) (ty : TyOf X.K H x t) : ∃ φ : Heap -> Prop, PySem.W.KitX X.K u t φ /\ φ s.heap /\ u ≠ .builtin "__main__.__loader__#opaque" := by
  cases ty with
  | non => cases (show u = Value.none from rx); exact ⟨_, PySem.W.kitx_none, True.intro, fun z => nomatch z⟩
  | bl y => cases (show u = Value.bool y from rx); exact ⟨_, PySem.W.kitx_bool, True.intro, fun z => nomatch z⟩
  | int i => obtain ⟨t, q⟩ := (show ∃ t, u = Value.int i t from rx); cases q; exact ⟨_, PySem.W.kitx_int, True.intro, fun z => nomatch z⟩
  | str y => obtain ⟨t, q⟩ := (show ∃ t, u = Value.str y t from rx); cases q; exact ⟨_, PySem.W.kitx_str, True.intro, fun z => nomatch z⟩
  | flt y => obtain ⟨t, q⟩ := (show ∃ t, u = Value.float y t from rx); cases q; exact ⟨_, PySem.W.kitx_float, True.intro, fun z => nomatch z⟩
  | @lst a xs ea =>
    cases (show u = Value.ref a from rx)
    obtain ⟨_, _, n, _, h1⟩ := (show ObjOk X.prog X.w H s.heap a (.lst xs) from I.hok a _ ea)
    exact ⟨_, PySem.W.kitx_list, ⟨_, h1, rfl⟩, fun z => nomatch z⟩
  | @frz a ob xs ea =>
    cases (show u = Value.ref a from rx)
    obtain ⟨_, _, _, n, _, h1⟩ := (show ObjOk X.prog X.w H s.heap a (.frz ob (.lst xs)) from I.hok a _ ea)
    exact ⟨_, PySem.W.kitx_list, ⟨_, h1, rfl⟩, fun z => nomatch z⟩
  | @tup a xs ea =>
    cases (show u = Value.ref a from rx)
    obtain ⟨_, _, _, p⟩ := (show ObjOk X.prog X.w H s.heap a (.tup xs) from I.hok a _ ea)
    obtain ⟨o, h1, h2, _⟩ := p
    exact ⟨_, PySem.W.kitx_tuple, ⟨o, h1, h2⟩, fun z => nomatch z⟩
  | @dK a kvs ea =>
    cases (show u = Value.ref a from rx)
    obtain ⟨_, _, vs, _, p⟩ := (show ObjOk X.prog X.w H s.heap a (.dK kvs) from I.hok a _ ea)
    obtain ⟨o, es, ep, h1, h2, _⟩ := p
    exact ⟨_, PySem.W.kitx_dict, ⟨o, h1, h2.1⟩, fun z => nomatch z⟩
  | @dT a kvs ea =>
    cases (show u = Value.ref a from rx)
    obtain ⟨_, _, xs, _, o, es, ep, h1, h2, _⟩ := (show ObjOk X.prog X.w H s.heap a (.dT kvs) from I.hok a _ ea)
    exact ⟨_, PySem.W.kitx_dict, ⟨o, h1, h2.1⟩, fun z => nomatch z⟩
  | @ins a C dx fs ea cl ha hn htk hm =>
    cases (show u = Value.ref a from rx)
    obtain ⟨mA, O, _⟩ := ins_get I.hok ea
    obtain ⟨od, J, _⟩ := O.look
    exact ⟨_, PySem.W.kitx_own (cl.get _) cl.hd ha hn htk hm, J, fun z => nomatch z⟩
theorem vals_tys : ∀ {ts : List String} {us : List Value}, Vals (ts.map V.ty) us -> us = ts.map Value.type
  | [], _, h => by cases h; rfl
  | t :: ts, _, h => by
    cases h with
    | cons r rr =>
      have e := vals_tys rr
      cases (show _ = Value.type t from r)
      rw [e]; rfl
def rIsiT (K : PySem.W.Frag) : List V -> Hp -> VK -> Prop := fun xs H Q => ∃ (x : V) (p : Addr) (ts : List String) (t : Value) (b : Bool), xs = [x, .ref p] /\ H p = some (.tup (ts.map V.ty)) /\ TyOf K H x t /\ PySem.W.kitAny K t (ts.map Value.type) = some b /\ Q (.bl b) H
theorem call_isiT : CallR X (.builtin "isinstance") (rIsiT X.K) := by
  intro pins s σ H xs us Q I r h
  obtain ⟨x, p, ts, t, b, rfl, hp, ty, e, q⟩ := h
  obtain ⟨u, v, rfl, ru, rv⟩ := r.two
  cases (show v = Value.ref p from rv)
  obtain ⟨φ, Z, z, hx⟩ := ty.kit I ru
  obtain ⟨_, its, r2, o, h1, h2, n, h3⟩ := (show ObjOk X.prog X.w H s.heap p (.tup (ts.map V.ty)) from I.hok p _ hp)
  have ei := vals_tys r2
  subst ei
  obtain ⟨oc, od, dt, sl⟩ := o
  simp only at h2 h3
  subst h2 h3
  exact PySem.W.kia_tup Z I.kIn z h1 e hx fun tk => ⟨.bl b, H, I.tok tk, rfl, q⟩
end
def Its (lo c : Int) (n : Nat) : It := ⟨fun i _ => i < n, fun i H x H' => H' = H /\ x = .int (lo + i * c), fun i _ => n <= i⟩
theorem turn_rangeS {P : Program} {w : World} {K : PySem.W.Frag} {tg : Expr} (it : Addr) (lo c : Int) (n : Nat) : Turn P w K tg (Its lo c n) [it] it (fun i h => IsRangeIter h it (lo + (i : Nat) * c) ((n : Int) - (i : Nat)) c) where
  mem := by simp
  obj := fun i h st b hb => by
    have e : b = it := by simpa using hb
    subst e
    exact ⟨_, st, fun v z => by
      have z' : Data.fields _ = Data.cell v := z
      cases z'⟩
  keep := fun i h h' st k => k it (by simp) _ st
  item := by
    intro X hP hw hK hc i pins s σ H E I hf st hg
    subst hP hw hK
    obtain ⟨f0, f1, f2, f3, f4, f5⟩ := hf it (by simp)
    have W := Walks.range (prog := X.prog) (w := X.w) (I.ok.hd hc) it lo c n
    refine W.item i s _ _ hg st fun v h' tk hv st' kk => ?_
    obtain ⟨t, rfl⟩ := hv
    have I1 : Inv X pins σ H { s with heap := h', toks := tk } := I.turned (fun b o hb e => kk b o (by simpa using hb) e) f0 f1 f3 f4 f5
    exact ⟨_, rfl, go_of (s := { s with heap := h', toks := tk }) (n := "range_iterator") st' rfl rfl (by decide) ⟨.int (lo + i * c), H, I1, ⟨t, rfl⟩, ⟨rfl, rfl⟩, st', fun b hb => (hf b hb).1⟩⟩
  done := by
    intro X hP hw hK hc i pins s σ H E I hf st hg
    subst hP hw hK
    obtain ⟨f0, f1, f2, f3, f4, f5⟩ := hf it (by simp)
    exact wpAny_pyNext_range_end (I.ok.hd hc) st (by have : n <= i := hg; omega) fun h' eb => ⟨rfl, I.turned (t' := s.toks) (fun b o hb e => eb b o hb e) f0 f1 f3 f4 f5⟩
  self := fun _ _ _ _ _ st h => wpAny_pyIter_rangeiter st h
section
variable {X : Cx} {tg : Expr}
theorem small_two {b : Int} (hb : 0 <= b) (hb' : b < 2 ^ 60) : Builtin.Range.small 0 b 2 = true := by
  unfold Builtin.Range.small Builtin.Range.rangeSize
  simp only [Builtin.Range.rangeFitsLong, Bool.and_eq_true, Bool.or_eq_true, decide_eq_true_eq, beq_iff_eq, show (2 : Int) > 0 by decide, if_true]
  split <;> omega
theorem size_two (b : Int) (hb : 0 <= b) : Builtin.Range.rangeSize 0 b 2 = ((((b + 1) / 2).toNat : Nat) : Int) := by
  unfold Builtin.Range.rangeSize
  simp only [show (2 : Int) > 0 by decide, if_true]
  split <;> omega
def iRng2s (ta : TA) : TI := fun σ H R => ta σ H fun vs H1 => ∃ j : Int, vs = [.int 0, .int j, .int 2] /\ (0 <= j /\ j < 2 ^ 60) /\ R (Its 0 2 ((j + 1) / 2).toNat) H1
theorem pi_range3 {a b c : Expr} {ta : TA} {p pos : Pos} (hg : Gl X "range") (hm : X.mg "range" = none) (ha : PA X [a, b, c] ta) (hs : starEach [a, b, c] X.env = [(false, eval a X.env), (false, eval b X.env), (false, eval c X.env)] := by rfl) (hs2 : starEach [b, c] X.env = [(false, eval b X.env), (false, eval c X.env)] := by rfl) :
    PI X tg (.Call (.Name "range" p) [a, b, c] [] pos) (iRng2s ta) := by
  intro pins s σ H R I h
  refine Call_ (ld_blt I hg hm boot_range (PyProof.Rows.callWith_type1 (thn (ha pos pins s σ H _ I h) fun us s1 ⟨vs, H1, I1, r1, q1⟩ => ?_) (by rw [hs, hs2]) (by rw [hs2]; rfl)))
  obtain ⟨j, e, ⟨q1, q2⟩, q⟩ := q1
  subst e
  cases r1 with
  | cons r rr =>
    cases rr with
    | cons r' rr =>
      cases rr with
      | cons r3 rr =>
        cases rr
        obtain ⟨t, rfl⟩ := r
        obtain ⟨t', rfl⟩ := r'
        obtain ⟨t3, rfl⟩ := r3
        refine call_range_3 (by decide) ?_ (.inl (PyProof.noPylong_small (by decide)))
        refine wpAny_pyIter_range (IsRange.new ..) (small_two q1 q2) ?_
        have I2 : Inv X pins σ H1 { s1 with heap := s1.heap.push { cls := .type "range", data := .fields #[.int 0 t, .int j t', .int 2 t3] } } := I1.kept (t' := s1.toks) fun b o e => Heap.get?_push_of_some _ e
        refine ⟨(s1.heap.push { cls := .type "range", data := .fields #[.int 0 t, .int j t', .int 2 t3] }).objs.size, [(s1.heap.push { cls := .type "range", data := .fields #[.int 0 t, .int j t', .int 2 t3] }).objs.size], _, _, H1, rfl,
          I2.kept (t' := s1.toks) fun b o e => Heap.get?_push_of_some _ e, turn_rangeS _ 0 2 ((j + 1) / 2).toNat, ?_, fun b hb => ?_, q⟩
        · have e1 : (0 : Int) + ((0 : Nat) : Int) * 2 = 0 := by simp
          have e2 : (((j + 1) / 2).toNat : Int) - ((0 : Nat) : Int) = Builtin.Range.rangeSize 0 j 2 := by rw [size_two j q1]; simp
          show IsRangeIter _ _ ((0 : Int) + ((0 : Nat) : Int) * 2) ((((j + 1) / 2).toNat : Int) - ((0 : Nat) : Int)) 2
          rw [e1, e2]
          exact Heap.get?_push_size _ rfl
        · have e : b = (s1.heap.push { cls := .type "range", data := .fields #[.int 0 t, .int j t', .int 2 t3] }).objs.size := by simpa using hb
          subst e
          exact I2.fpOk (Nat.le_refl _) (I2.hok.fresh (Nat.le_refl _))
end
theorem for_rangeS {lo c : Int} {n : Nat} {g : TG} {tb : TS} {D : Ends} {σ : St} {H : Hp} (Pv : Nat -> St -> Hp -> Prop) (h0 : Pv 0 σ H)
    (hs : ∀ i σ H, i < n -> Pv i σ H -> g (.int (lo + i * c)) σ H fun σ2 H2 => tb { D with nx := Pv (i + 1), ct := Pv (i + 1), bk := D.nx } σ2 H2) (hd : ∀ σ H, Pv n σ H -> D.nx σ H) :
    ∃ W : Nat -> Nat -> St -> Hp -> Prop, (∃ m, W 0 m σ H) /\ ∀ i m σ H, W i m σ H ->
      ((Its lo c n).stop i H /\ D.nx σ H) \/ ((Its lo c n).go i H /\ ∃ N : St -> Hp -> Prop, (∀ σ' H', N σ' H' -> ∃ m', m' < m /\ W (i + 1) m' σ' H') /\ ∀ x H', (Its lo c n).yld i H x H' -> g x σ H' fun σ2 H2 => tb { D with nx := N, ct := N, bk := D.nx } σ2 H2) := by
  refine ⟨fun i m σ H => m = n - i /\ i <= n /\ Pv i σ H, ⟨n, by simp, Nat.zero_le _, h0⟩, ?_⟩
  rintro i m σ H ⟨rfl, hi, p⟩
  by_cases hlt : i < n
  · refine .inr ⟨hlt, Pv (i + 1), fun σ' H' p' => ⟨n - (i + 1), by omega, rfl, hlt, p'⟩, fun x H' y => ?_⟩
    obtain ⟨e, y⟩ := y
    subst e y
    exact hs i σ _ hlt p
  · have e : i = n := by omega
    subst e
    exact .inl ⟨Nat.le_refl _, hd σ H p⟩
section
variable {X : Cx}
theorem flat_pair {A : Around} {s : Shared} {xs ys : List V} {us ws : List Value} (rv : Vals xs us) (rw' : Vals ys ws) (fa : xs.all flatV = true) (fb : ys.all flatV = true) (j : Nat) (h1 : j < us.toArray.size) (h2 : j < ws.toArray.size) :
    SeqAt.EqAt A s us.toArray[j] ws.toArray[j] (eqV (xs.getD j .non) (ys.getD j .non)) := by
  have l1 := rv.length
  have l2 := rw'.length
  have j1 : j < xs.length := by simp at h1; omega
  have j2 : j < ys.length := by simp at h2; omega
  obtain ⟨u1, e1, q1⟩ := rv.get (i := j) (x := xs[j]) (by simp [j1])
  obtain ⟨u2, e2, q2⟩ := rw'.get (i := j) (x := ys[j]) (by simp [j2])
  have f1 : flatV xs[j] = true := List.all_eq_true.mp fa _ (List.getElem_mem j1)
  have f2 : flatV ys[j] = true := List.all_eq_true.mp fb _ (List.getElem_mem j2)
  have g1 : us.toArray[j] = u1 := by
    have := (List.getElem?_eq_some_iff.mp e1).2
    simpa using this
  have g2 : ws.toArray[j] = u2 := by
    have := (List.getElem?_eq_some_iff.mp e2).2
    simpa using this
  rw [g1, g2]
  have d1 : xs.getD j V.non = xs[j] := by simp [j1]
  have d2 : ys.getD j V.non = ys[j] := by simp [j2]
  rw [d1, d2]
  exact eqAt_V q1 q2 f1 f2
end
end L2
set_option Elab.async false
set_option linter.all false
set_option maxRecDepth 100000
namespace PySem
section
variable {prog : Program} {w : World} {A : Around} {R : Result -> Shared -> Prop} {I : Addr} {fp wr : List Addr} {n : Nat} {P : Nat -> Value -> Prop} {St : Nat -> Heap -> Prop}
end
section
variable {prog : Program} {w : World} {A : Around} {E : Value -> Shared -> Prop} {s : Shared}
end
end PySem
namespace L2
open PySem PySem.Spec PyProof.Rows
section
variable {X : Cx}
variable {p pos kpos : Pos} {e d : Expr} {ta : TA} {td : TE}
end
section
variable {prog : Program} {w : World} {A : Around} {E : Value -> Shared -> Prop} {s : Shared}
end
section
variable {X : Cx} {e : Expr} {te : TE} {lo hi : Option Expr} {st : Expr} {tl th ts : TO} {pos p2 : Pos}
def SlR3 (X : Cx) (r : V -> Option Int -> Option Int -> Option Int -> Hp -> VK -> Prop) : Prop :=
  ∀ (pins : List (Addr × Obj)) (s : Shared) (σ : St) (H : Hp) (x : V) (v vl vu vs : Value) (lo hi st : Option Int) (sl : Addr) (Q : VK), Inv X pins σ H s -> RelV x v -> s.heap.IsSliceOf sl vl vu vs -> IsPart vl lo -> IsPart vu hi -> IsPart vs st -> r x lo hi st H Q ->
    ∃ T id, typeLookup (.type T) "__getitem__" = pure (some (.builtin id)) /\ s.TypeIs v T /\ wpAny (model X.prog X.w) X.A (getItem v (.ref sl)) (EP X pins σ Q) X.xe s
def tSl3 (r : V -> Option Int -> Option Int -> Option Int -> Hp -> VK -> Prop) (te : TE) (tl th ts : TO) : TE := fun σ H Q => te σ H fun x H1 => tl σ H1 fun l H2 => th σ H2 fun u H3 => ts σ H3 fun c H4 => r x l u c H4 Q
theorem pe_slice3 {r : V -> Option Int -> Option Int -> Option Int -> Hp -> VK -> Prop} (hr : SlR3 X r) (he : PE X e te) (hl : PO X lo tl) (hu : PO X hi th) (hs : PO X (some st) ts) : PE X (.Subscript e (.Slice lo hi (some st) p2) pos) (tSl3 r te tl th ts) := by
  intro pins s σ H Q I h
  refine Subscript_ (thn (he pins s σ H _ I h) fun v s1 ⟨x, H1, I1, r1, q1⟩ => ?_)
  refine wpAny_Slice (thn (hl pins s1 σ H1 _ I1 q1) fun vl s2 ⟨l, H2, I2, pl, q2⟩ => thn (hu pins s2 σ H2 _ I2 q2) fun vu s3 ⟨u, H3, I3, pu, q3⟩ => thn (hs pins s3 σ H3 _ I3 q3) fun vc s4 ⟨c, H4, I4, pc, q4⟩ => ?_)
  have I5 : Inv X pins σ H4 { s4 with heap := s4.heap.push { cls := .type "slice", data := .fields #[vl, vu, vc] } } := I4.kept (t' := s4.toks) fun b ob q => Heap.get?_push_of_some _ q
  obtain ⟨T, id, hT, ht, hg⟩ := hr pins { s4 with heap := s4.heap.push { cls := .type "slice", data := .fields #[vl, vu, vc] } } σ H4 x v vl vu vc l u c s4.heap.objs.size Q I5 r1 (Heap.IsSliceOf.new ..) pl pu pc q4
  show wpAny (model X.prog X.w) X.A (subscriptTail e (.Slice lo hi (some st) p2) v (.ref s4.heap.objs.size)) (EP X pins σ Q) X.xe { s4 with heap := s4.heap.push { cls := .type "slice", data := .fields #[vl, vu, vc] } }
  exact tail_any (ops := [v, .ref s4.heap.objs.size]) ht hT hg (by with_unfolding_all rfl)
end
section
variable {X : Cx} {tg : Expr}
def iSeq (K : PySem.W.Frag) (tl : TE) : TI := fun σ H R => tl σ H fun x H1 => ∃ a, x = .ref a /\ (((∃ xs, SqL K H1 a xs) /\ R (Itl K a) H1) \/ ((∃ xs, SqT K H1 a xs) /\ R (Itt K a) H1))
theorem pi_seq {l : Expr} {tl : TE} (hl : PE X l tl) : PI X tg l (iSeq X.K tl) := by
  intro pins s σ H R I h
  refine thn (hl pins s σ H _ I h) fun v s1 ⟨x, H1, I1, r1, q1⟩ => ?_
  obtain ⟨a, rfl, q | q⟩ := q1
  · cases r1
    obtain ⟨⟨xs, hx⟩, q⟩ := q
    obtain ⟨its, rv, p, hz⟩ := I1.list hx
    refine wpAny_pyIter_list p.isList ?_
    have I2 : Inv X pins σ H1 { s1 with heap := s1.heap.push { cls := .type "list_iterator", data := .fields #[.ref a, .int 0 0] } } := I1.kept (t' := s1.toks) fun b o e => Heap.get?_push_of_some _ e
    refine ⟨s1.heap.objs.size, [s1.heap.objs.size], _, _, H1, rfl, I2, turn_list a _, ⟨_, Heap.get?_push_size _ rfl, rfl, rfl⟩, fun b hb => ?_, q⟩
    rw [List.mem_singleton.mp hb]
    exact I1.fpOk (Nat.le_refl _) (I1.hok.fresh (Nat.le_refl _))
  · cases r1
    obtain ⟨⟨xs, hx⟩, q⟩ := q
    obtain ⟨its, rv, p, hz⟩ := I1.tuple hx
    refine wpAny_pyIter_tuple (show s1.heap.IsTuple a its.toArray from p) ?_
    have I2 : Inv X pins σ H1 { s1 with heap := s1.heap.push { cls := .type "tuple_iterator", data := .fields #[.ref a, .int 0 0] } } := I1.kept (t' := s1.toks) fun b o e => Heap.get?_push_of_some _ e
    refine ⟨s1.heap.objs.size, [s1.heap.objs.size], _, _, H1, rfl, I2, turn_tuple a _, ⟨_, Heap.get?_push_size _ rfl, rfl, rfl⟩, fun b hb => ?_, q⟩
    rw [List.mem_singleton.mp hb]
    exact I1.fpOk (Nat.le_refl _) (I1.hok.fresh (Nat.le_refl _))
end
theorem comp_tup {K : PySem.W.Frag} {a : Addr} {xs : List V} {ix : List (Option Nat)} {te : TE} {σ : St} {H : Hp} {Qd : Addr -> Hp -> Prop} (Pv : Addr -> Nat -> List V -> Hp -> Prop)
    (h0 : ∀ D, H D = none -> Pv D 0 [] (upd H D (.lst [])))
    (hl : ∀ D i ys H', i <= xs.length -> Pv D i ys H' -> SqT K H' a xs)
    (hs : ∀ D i x ys H' (Q' : VK), H D = none -> xs[i]? = some x -> H' D = some (.lst ys) -> Pv D i ys H' -> (∀ y H4, H4 D = some (.lst ys) -> ys.length < sizeLine -> Pv D (i + 1) (ys ++ [y]) (upd H4 D (.lst (ys ++ [y]))) -> Q' y H4) ->
      te ((blockSt ix σ).set 0 (some x)) H' Q')
    (hd : ∀ D ys H', H D = none -> H' D = some (.lst ys) -> Pv D xs.length ys H' -> Qd D H') : CompW (Itt K a) ix (gName 0) te σ H Qd := by
  intro D hD
  refine ⟨fun i m σ' H' => m = xs.length - i /\ i <= xs.length /\ (σ' = blockSt ix σ \/ ∃ t, σ' = (blockSt ix σ).set 0 t) /\ ∃ ys, H' D = some (.lst ys) /\ Pv D i ys H', ⟨xs.length, by simp, Nat.zero_le _, .inl rfl, [], upd_same, h0 D hD⟩, ?_⟩
  rintro i m σ' H' ⟨rfl, hi, hσ, ys, hy, p⟩
  have q := hl D i ys H' hi p
  by_cases hlt : i < xs.length
  · refine .inr ⟨⟨xs, xs[i], q, by simp [hlt]⟩, fun x H2 y => ?_⟩
    obtain ⟨e1, e2⟩ := y
    subst e1
    have ex := e2 xs q
    have es : σ'.set 0 (some x) = (blockSt ix σ).set 0 (some x) := by
      rcases hσ with z | ⟨t, z⟩
      · rw [z]
      · rw [z, List.set_set]
    show te (σ'.set 0 (some x)) _ _
    rw [es]
    refine hs D i x ys _ _ hD ex hy p fun y H4 h4 hz p4 => ⟨ys, h4, hz, xs.length - (i + 1), by omega, rfl, hlt, .inr ⟨_, rfl⟩, ys ++ [y], upd_same, p4⟩
  · have e : i = xs.length := by omega
    subst e
    exact .inl ⟨⟨xs, q, Nat.le_refl _⟩, hd D ys H' hD hy p⟩
section
variable {X : Cx}
theorem ix_listK (K : PySem.W.Frag) (h : X.K = K := by rfl) : IxR X (rIxL K) := by subst h; exact ix_list
theorem ix_tupK (K : PySem.W.Frag) (h : X.K = K := by rfl) : IxR X (rIxT K) := by subst h; exact ix_tup
end
end L2
set_option Elab.async false
set_option linter.all false
set_option maxRecDepth 100000
namespace L2
open PySem PySem.Spec PyProof.Rows
section
variable {κ : Type} [DecidableEq κ]
def valV (kvs : List (κ × V)) (k : κ) : Option V := (kvs.find? fun kv => decide (kv.1 = k)).map (·.2)
def putK (kvs : List (κ × V)) (k : κ) (v : V) : List (κ × V) :=
  if (kvs.any fun kv => decide (kv.1 = k)) = true then kvs.map (fun kv => if kv.1 = k then (kv.1, v) else kv) else kvs ++ [(k, v)]
theorem valV_pos {p : κ × V} {r : List (κ × V)} {k : κ} (e : p.1 = k) : valV (p :: r) k = some p.2 := by simp [valV, List.find?_cons, e]
theorem valV_neg {p : κ × V} {r : List (κ × V)} {k : κ} (e : ¬ p.1 = k) : valV (p :: r) k = valV r k := by simp [valV, List.find?_cons, e]
theorem valV_any (k : κ) : ∀ kvs : List (κ × V), (kvs.any fun kv => decide (kv.1 = k)) = (valV kvs k).isSome
  | [] => rfl
  | p :: r => by
    rw [List.any_cons]
    by_cases e : p.1 = k
    · simp only [valV_pos e, decide_eq_true e, Bool.true_or, Option.isSome_some]
    · rw [valV_neg e, decide_eq_false e, Bool.false_or]; exact valV_any k r
theorem length_putK (kvs : List (κ × V)) (k : κ) (v : V) : (putK kvs k v).length <= kvs.length + 1 := by
  unfold putK
  split
  · rw [List.length_map]; omega
  · rw [List.length_append, List.length_cons, List.length_nil]; omega
theorem RelO.isSome_eq {o : Option V} {u : Option Value} (r : RelO o u) : o.isSome = u.isSome := by
  cases o with
  | none => cases u with
    | none => rfl
    | some _ => exact (show False from r).elim
  | some _ => cases u with
    | none => exact (show False from r).elim
    | some _ => rfl
theorem RelO.getD {o : Option V} {u : Option Value} {d : V} {d' : Value} (r : RelO o u) (rd : RelV d d') : RelV (o.getD d) (u.getD d') := by
  cases o with
  | none => cases u with
    | none => exact rd
    | some _ => exact (show False from r).elim
  | some _ => cases u with
    | none => exact (show False from r).elim
    | some _ => exact r
theorem KV.val {kvs : List (κ × V)} {vs : List (κ × Value)} (r : KV kvs vs) (k : κ) : RelO (valV kvs k) (valueAt vs k) := by
  unfold KV at r
  induction r with
  | nil => exact True.intro
  | @cons p q ps qs h t ih =>
    obtain ⟨h1, h2⟩ := h
    by_cases e : p.1 = k
    · have e' : q.1 = k := h1.symm.trans e
      have b : valueAt (q :: qs) k = some q.2 := by simp [valueAt, List.find?_cons, e']
      rw [valV_pos e, b]; exact h2
    · have e' : ¬ q.1 = k := fun z => e (h1.trans z)
      have b : valueAt (q :: qs) k = valueAt qs k := by simp [valueAt, List.find?_cons, e']
      rw [valV_neg e, b]; exact ih
theorem KV.any {kvs : List (κ × V)} {vs : List (κ × Value)} (r : KV kvs vs) (k : κ) : (kvs.any fun kv => decide (kv.1 = k)) = vs.any fun kv => decide (kv.1 = k) := by
  unfold KV at r
  induction r with
  | nil => rfl
  | cons h t ih => rw [List.any_cons, List.any_cons, ih, h.1]
theorem KV.repl {kvs : List (κ × V)} {vs : List (κ × Value)} (r : KV kvs vs) (k : κ) {y : V} {u : Value} (ry : RelV y u) :
    KV (kvs.map fun kv => if kv.1 = k then (kv.1, y) else kv) (vs.map fun kv => if kv.1 = k then (kv.1, u) else kv) := by
  unfold KV at r ⊢
  induction r with
  | nil => exact .nil
  | @cons p q ps qs h t ih =>
    rw [List.map_cons, List.map_cons]
    refine .cons ?_ ih
    obtain ⟨h1, h2⟩ := h
    by_cases e : p.1 = k
    · rw [if_pos e, if_pos (h1.symm.trans e)]; exact ⟨h1, ry⟩
    · rw [if_neg e, if_neg (fun z => e (h1.trans z))]; exact ⟨h1, h2⟩
theorem KV.put {kvs : List (κ × V)} {vs : List (κ × Value)} (r : KV kvs vs) (k : κ) {y : V} {u : Value} (ry : RelV y u) : KV (putK kvs k y) (stored vs k u) := by
  unfold putK stored
  rw [r.any k]
  by_cases e : (vs.any fun kv => decide (kv.1 = k)) = true
  · rw [if_pos e, if_pos e]; exact r.repl k ry
  · rw [if_neg e, if_neg e]; exact Paired.snoc r ⟨rfl, ry⟩
theorem KV.length {kvs : List (κ × V)} {vs : List (κ × Value)} (r : KV kvs vs) : kvs.length = vs.length := Paired.length r
end
theorem kV_is {P : Program} {w : World} {k : Key} {u : Value} (r : RelV (kV k) u) : (mixKind P w).is k u = true := by
  cases k with
  | inl i => obtain ⟨t, e⟩ := (show ∃ t, u = Value.int i t from r); subst e; exact mixKind_int P w i t
  | inr x => obtain ⟨t, e⟩ := (show ∃ t, u = Value.str x t from r); subst e; exact mixKind_str P w x t
theorem items_are {P : Program} {w : World} : ∀ {ks : List Key} {us : List Value}, Vals (ks.map kV) us -> ItemsAre (mixKind P w) ks us
  | [], _, r => by rw [List.map_nil] at r; cases r; exact .nil
  | k :: ks, _, r => by
    rw [List.map_cons] at r
    cases r with
    | cons h t => exact .cons (kV_is h) (items_are t)
abbrev KT (H : Hp) : List (List Key × V) -> List (List Key × Addr × Value) -> Prop := Paired fun p q => p.1 = q.1 /\ H q.2.1 = some (.tup (p.1.map kV)) /\ RelV p.2 q.2.2
theorem KT.val {H : Hp} {kvs : List (List Key × V)} {xs : List (List Key × Addr × Value)} (r : KT H kvs xs) (k : List Key) : RelO (valV kvs k) ((atKey xs k).map (·.2)) := by
  induction r with
  | nil => exact True.intro
  | @cons p q ps qs h t ih =>
    obtain ⟨h1, _, h2⟩ := h
    by_cases e : p.1 = k
    · have e' : q.1 = k := h1.symm.trans e
      have b : atKey (q :: qs) k = some q.2 := by simp [atKey, List.find?_cons, e']
      rw [valV_pos e, b]; exact h2
    · have e' : ¬ q.1 = k := fun z => e (h1.trans z)
      have b : atKey (q :: qs) k = atKey qs k := by simp [atKey, List.find?_cons, e']
      rw [valV_neg e, b]; exact ih
theorem KT.repl {H : Hp} {kvs : List (List Key × V)} {xs : List (List Key × Addr × Value)} (r : KT H kvs xs) (k : List Key) {y : V} {u : Value} (ry : RelV y u) :
    KT H (kvs.map fun kv => if kv.1 = k then (kv.1, y) else kv) (xs.map (putAt k u)) := by
  induction r with
  | nil => exact .nil
  | @cons p q ps qs h t ih =>
    rw [List.map_cons, List.map_cons]
    refine .cons ?_ ih
    obtain ⟨h1, h2, h3⟩ := h
    unfold putAt
    by_cases e : p.1 = k
    · rw [if_pos e, if_pos (h1.symm.trans e)]; exact ⟨h1, h2, ry⟩
    · rw [if_neg e, if_neg (fun z => e (h1.trans z))]; exact ⟨h1, h2, h3⟩
theorem KT.put {H : Hp} {kvs : List (List Key × V)} {xs : List (List Key × Addr × Value)} (r : KT H kvs xs) (k : List Key) {b : Addr} {y : V} {u : Value} (hb : H b = some (.tup (k.map kV))) (ry : RelV y u) :
    KT H (putK kvs k y) (storedH xs k b u) := by
  have e : (kvs.any fun kv => decide (kv.1 = k)) = (atKey xs k).isSome := by
    rw [valV_any, (r.val k).isSome_eq, Option.isSome_map]
  unfold putK storedH
  rw [e]
  by_cases q : (atKey xs k).isSome = true
  · rw [if_pos q, if_pos q]; exact r.repl k ry
  · rw [if_neg q, if_neg q]; exact Paired.snoc r ⟨rfl, hb, ry⟩
theorem KT.keeps {H H' : Hp} {kvs : List (List Key × V)} {xs : List (List Key × Addr × Value)} (r : KT H kvs xs) (ht : ∀ b ys, H b = some (.tup ys) -> H' b = some (.tup ys)) : KT H' kvs xs :=
  Paired.mapP r fun _ _ z => ⟨z.1, ht _ _ z.2.1, z.2.2⟩
section
variable {P : Program} {w : World} {H : Hp} {h : Heap} {a : Addr}
theorem rd_of {u : HO} (ok : HOk P w H h) (e : Rd H a u) : ObjOk P w H h a u := e.ok ok
theorem dk_rd {kvs : List (Key × V)} (ok : HOk P w H h) (e : Rd H a (.dK kvs)) : kvs.length <= sizeLine /\ (a == sysModules) = false /\ ∃ vs, KV kvs vs /\ h.DictOf (mixKind P w) a vs :=
  show ObjOk P w H h a (.dK kvs) from rd_of ok e
theorem dk_of {kvs : List (Key × V)} (ok : HOk P w H h) (e : H a = some (.dK kvs)) : kvs.length <= sizeLine /\ (a == sysModules) = false /\ ∃ vs, KV kvs vs /\ h.DictOf (mixKind P w) a vs := dk_rd ok (.inl e)
theorem key_of {ks : List Key} (ok : HOk P w H h) (e : H a = some (.tup (ks.map kV))) : (tupleKind (mixKind P w)).is h ks a := by
  obtain ⟨_, its, r, o, h1, h2, n, h3⟩ := (show ObjOk P w H h a (.tup (ks.map kV)) from ok a _ e)
  exact ⟨o, its.toArray, n, h1, h2, h3, by simpa using items_are r⟩
theorem dt_rd {kvs : List (List Key × V)} (ok : HOk P w H h) (e : Rd H a (.dT kvs)) : kvs.length <= sizeLine /\ (a == sysModules) = false /\
    ∃ xs, KT H kvs xs /\ h.DictOfH (tupleKind (mixKind P w)) a xs := by
  obtain ⟨z, y, xs, r, o, es, ep, h1, h2, h3, h4, h5⟩ := (show ObjOk P w H h a (.dT kvs) from rd_of ok e)
  refine ⟨z, y, xs, r, o, es, ep, h1, h2, h3, h4, fun x hx => ?_, h5⟩
  have all : ∀ {l : List (List Key × V)} {m : List (List Key × Addr × Value)}, KT H l m -> ∀ x ∈ m, (tupleKind (mixKind P w)).is h x.1 x.2.1 := by
    intro l m q
    induction q with
    | nil => intro x hx; exact nomatch hx
    | @cons p q ps qs hq t ih =>
      intro x hx
      rcases List.mem_cons.mp hx with e | hx
      · subst e
        exact key_of ok (by rw [<- hq.1]; exact hq.2.1)
      · exact ih x hx
  exact all r x hx
theorem dt_of {kvs : List (List Key × V)} (ok : HOk P w H h) (e : H a = some (.dT kvs)) : kvs.length <= sizeLine /\ (a == sysModules) = false /\
    ∃ xs, KT H kvs xs /\ h.DictOfH (tupleKind (mixKind P w)) a xs := dt_rd ok (.inl e)
end
def DGet (H : Hp) (a : Addr) (y : V) (r : Option V) : Prop :=
  (∃ kvs k, Rd H a (.dK kvs) /\ y = kV k /\ r = valV kvs k) \/ ∃ kvs k b, Rd H a (.dT kvs) /\ y = .ref b /\ H b = some (.tup (k.map kV)) /\ r = valV kvs k
def DPut (H : Hp) (a : Addr) (y v : V) (H' : Hp) : Prop :=
  (∃ kvs k, H a = some (.dK kvs) /\ y = kV k /\ kvs.length < sizeLine /\ H' = upd H a (.dK (putK kvs k v))) \/
  ∃ kvs k b, H a = some (.dT kvs) /\ y = .ref b /\ H b = some (.tup (k.map kV)) /\ kvs.length < sizeLine /\ H' = upd H a (.dT (putK kvs k v))
theorem DGet.k {H : Hp} {a : Addr} {kvs : List (Key × V)} {k : Key} (e : H a = some (.dK kvs)) : DGet H a (kV k) (valV kvs k) := .inl ⟨kvs, k, .inl e, rfl, rfl⟩
theorem DPut.k {H : Hp} {a : Addr} {kvs : List (Key × V)} {k : Key} {v : V} (e : H a = some (.dK kvs)) (hl : kvs.length < sizeLine) : DPut H a (kV k) v (upd H a (.dK (putK kvs k v))) := .inl ⟨kvs, k, e, rfl, hl, rfl⟩
section
variable {X : Cx} {pins : List (Addr × Obj)} {σ : St} {H : Hp} {s : Shared} {a : Addr} {y v : V} {u r : Value} {o : Option V} {A : Around} {E : Value -> Shared -> Prop}
theorem Inv.big (I : Inv X pins σ H s) : sysModules < s.heap.objs.size := by
  have h : mainGlobals < s.heap.objs.size := (I.mod.glob.keeps I.bk).lt
  exact Nat.lt_trans (by decide) h
theorem d_getItem {Q : Value -> Shared -> Prop} (hu : A.units + 1 < cLine) (I : Inv X pins σ H s) (g : DGet H a y (some v)) (ry : RelV y u) (h : ∀ w' s', Inv X pins σ H s' -> RelV v w' -> Q w' s') :
    wpAny (model X.prog X.w) A (getItem (.ref a) u) Q E s := by
  rcases g with ⟨kvs, k, e, ey, l⟩ | ⟨kvs, k, b, e, ey, eb, l⟩
  · subst ey
    obtain ⟨z, hd, vs, rel, dd⟩ := dk_rd I.hok e
    obtain ⟨w', hw, rw'⟩ := RelO.some_of (v := v) (o := valueAt vs k) (by rw [l]; exact rel.val k)
    exact wpAny_getItem_of (kV_is ry) dd.mapOf hw (h w' _ (I.tok _) rw')
  · subst ey
    cases (show u = Value.ref b from ry)
    obtain ⟨z, hd, xs, rel, dd⟩ := dt_rd I.hok e
    obtain ⟨w', hw, rw'⟩ := RelO.some_of (v := v) (o := (atKey xs k).map (·.2)) (by rw [l]; exact rel.val k)
    obtain ⟨p, hp, hp2⟩ := Option.map_eq_some_iff.mp hw
    refine wpAny_getItem_heap (tupleKind_room_in1 hu) (key_of I.hok eb) dd hp ?_
    rw [hp2]
    exact h w' _ (I.tok _) rw'
theorem d_in {Q : Value -> Shared -> Prop} (hu : A.units + 1 < cLine) (I : Inv X pins σ H s) (g : DGet H a y o) (ry : RelV y u) (h : ∀ s', Inv X pins σ H s' -> Q (.bool o.isSome) s') :
    wpAny (model X.prog X.w) A (compareOp .In u (.ref a)) Q E s := by
  rcases g with ⟨kvs, k, e, ey, l⟩ | ⟨kvs, k, b, e, ey, eb, l⟩
  · subst ey
    obtain ⟨z, hd, vs, rel, dd⟩ := dk_rd I.hok e
    refine wpAny_in_of (kV_is ry) hd dd.mapOf ?_
    rw [<- (rel.val k).isSome_eq, <- l]
    exact h _ (I.tok _)
  · subst ey
    cases (show u = Value.ref b from ry)
    obtain ⟨z, hd, xs, rel, dd⟩ := dt_rd I.hok e
    refine wpAny_in_heap (tupleKind_room_in1 hu) (key_of I.hok eb) hd dd ?_
    have q := (rel.val k).isSome_eq
    rw [Option.isSome_map] at q
    rw [<- q, <- l]
    exact h _ (I.tok _)
theorem d_notIn {Q : Value -> Shared -> Prop} (hu : A.units + 1 < cLine) (I : Inv X pins σ H s) (g : DGet H a y o) (ry : RelV y u) (h : ∀ s', Inv X pins σ H s' -> Q (.bool (!o.isSome)) s') :
    wpAny (model X.prog X.w) A (compareOp .NotIn u (.ref a)) Q E s := by
  rcases g with ⟨kvs, k, e, ey, l⟩ | ⟨kvs, k, b, e, ey, eb, l⟩
  · subst ey
    obtain ⟨z, hd, vs, rel, dd⟩ := dk_rd I.hok e
    refine wpAny_notIn_of (kV_is ry) hd dd.mapOf ?_
    rw [<- (rel.val k).isSome_eq, <- l]
    exact h _ (I.tok _)
  · subst ey
    cases (show u = Value.ref b from ry)
    obtain ⟨z, hd, xs, rel, dd⟩ := dt_rd I.hok e
    refine wpAny_notIn_heap (tupleKind_room_in1 hu) (key_of I.hok eb) hd dd ?_
    have q := (rel.val k).isSome_eq
    rw [Option.isSome_map] at q
    rw [<- q, <- l]
    exact h _ (I.tok _)
theorem d_write {h' : Heap} {t' : Nat} {ob : HO} (I : Inv X pins σ H s) (mu : Mut (H a)) (hs : Heap.SameBut a s.heap h') (he : ∃ q, h'.get? a = some q) (new : ObjOk X.prog X.w (upd H a ob) h' a ob) :
    Inv X pins σ (upd H a ob) { s with heap := h', toks := t' } :=
  I.write (x := a) (e := a) mu (.inl rfl) (fun b q hb z => (hs.2 b hb).trans z) he new
theorem dk_new {P : Program} {w : World} {H' : Hp} {h' : Heap} {kvs : List (Key × V)} {vs : List (Key × Value)} (z : kvs.length <= sizeLine) (hd : (a == sysModules) = false) (rel : KV kvs vs) (dd : h'.DictOf (mixKind P w) a vs) :
    ObjOk P w H' h' a (.dK kvs) := ⟨z, hd, vs, rel, dd⟩
theorem d_setItem {H' : Hp} {Q : Unit -> Shared -> Prop} (hu : A.units + 1 < cLine) (I : Inv X pins σ H s) (g : DPut H a y v H') (ry : RelV y u) (rv : RelV v r) (h : ∀ s', Inv X pins σ H' s' -> Q () s') :
    wpAny (model X.prog X.w) A (setItem (.ref a) u r) Q E s := by
  rcases g with ⟨kvs, k, e, ey, l, eH⟩ | ⟨kvs, k, b, e, ey, eb, l, eH⟩
  · subst ey eH
    obtain ⟨z, hd, vs, rel, dd⟩ := dk_of I.hok e
    have hz : vs.length <= sizeLine := by rw [<- rel.length]; exact z
    have hl : (putK kvs k v).length <= sizeLine := by have := length_putK kvs k v; omega
    refine wpAny_setItem_pairs (hsz := hz) (kV_is ry) dd fun h' dd' hs => h _ ?_
    have he : ∃ q, h'.get? a = some q := let ⟨q, _, _, hq, _⟩ := dd'; ⟨q, hq⟩
    exact d_write I (by rw [e]; exact True.intro) hs he (dk_new hl hd (rel.put k rv) dd')
  · subst ey eH
    cases (show u = Value.ref b from ry)
    obtain ⟨z, hd, xs, rel, dd⟩ := dt_of I.hok e
    have hz : xs.length <= sizeLine := by rw [<- Paired.length rel]; exact z
    have hl : (putK kvs k v).length <= sizeLine := by have := length_putK kvs k v; omega
    refine wpAny_setItem_heap (hsz := hz) (tupleKind_room_in1 hu) (key_of I.hok eb) dd fun h' dd' hs => h _ ?_
    obtain ⟨q, es, ep, hq, h2, h3, h4, _, h5⟩ := dd'
    refine d_write I (by rw [e]; exact True.intro) hs ⟨q, hq⟩ ⟨hl, hd, _, (rel.put k eb rv).keeps fun c ys ec => ?_, q, es, ep, hq, h2, h3, h4, h5⟩
    rw [upd_ne (ne_of ec e (fun z => nomatch z))]
    exact ec
end
section
variable {X : Cx} {pins : List (Addr × Obj)} {σ : St} {H : Hp} {s : Shared} {a : Addr} {kvs : List (Key × V)} {k : Key} {u : Value} {A : Around} {E : Value -> Shared -> Prop}
end
def NoSl (i : Expr) : Prop := ∀ ov iv, subscripted i false ov iv = operate [ov, iv] (getItem ov iv)
theorem subD_of {prog : Program} {w : World} {A : Around} {E : Value -> Shared -> Prop} {s : Shared} {env : Env} {value slice : Expr} {pos : Pos} {T id : String} {Q : Value -> Shared -> Prop}
    (hl : typeLookup (.type T) "__getitem__" = pure (some (.builtin id))) (hs : NoSl slice)
    (h : wpAny (model prog w) A (eval value env) (fun o s₁ => wpAny (model prog w) A (eval slice env) (fun i s₂ => s₂.TypeIs o T /\ wpAny (model prog w) A (getItem o i) Q E s₂) E s₁) E s) :
    wpAny (model prog w) A (eval (.Subscript value slice pos) env) Q E s := by
  refine Subscript_ (wpAny_mono h (fun o s₁ h₁ => wpAny_mono h₁ (fun i s₂ h₂ => ?_) fun _ _ x => x) fun _ _ x => x)
  obtain ⟨hT, h₂⟩ := h₂
  unfold subscriptTail
  refine wpAny_bind ?_
  rw [getitemInPython_of_ne hT.not_modules]
  refine wpAny_bind (wpAny_specialOf hT hl ?_)
  have fin : wpAny (model prog w) A (subscripted slice false o i) (fun r s₃ => wpAny (model prog w) A (letTemporaryGo value o r >>= fun _ => pure r) Q E s₃) E s₂ := by
    rw [hs o i]
    exact wpAny_operating (wpAny_mono h₂ (fun r s₃ h₃ => wpAny_bind (wpAny_letTemporaryGo (wpAny_pure h₃))) fun _ _ x => x)
  first
    | exact wpAny_pure (wpAny_bind fin)
    | exact wpAny_bind (wpAny_pure (wpAny_bind fin))
    | exact wpAny_bind fin
theorem dict_typeIs {X : Cx} {pins : List (Addr × Obj)} {σ : St} {H : Hp} {s : Shared} {a : Addr} {y : V} {o : Option V} (I : Inv X pins σ H s) (g : DGet H a y o) : s.TypeIs (.ref a) "dict" := by
  rcases g with ⟨kvs, k, e, _, _⟩ | ⟨kvs, k, b, e, _, _, _⟩
  · obtain ⟨_, _, vs, _, dd⟩ := dk_rd I.hok e
    exact dd.typeIs
  · obtain ⟨_, _, xs, _, dd⟩ := dt_rd I.hok e
    exact dd.typeIs
def tDGet (td ty : TE) : TE := fun σ H Q => td σ H fun x H1 => ty σ H1 fun y H2 => ∃ a v, x = .ref a /\ DGet H2 a y (some v) /\ Q v H2
def tDIn (ty td : TE) : TE := fun σ H Q => ty σ H fun y H1 => td σ H1 fun x H2 => ∃ a o, x = .ref a /\ DGet H2 a y o /\ Q (.bl o.isSome) H2
def tDNotIn (ty td : TE) : TE := fun σ H Q => ty σ H fun y H1 => td σ H1 fun x H2 => ∃ a o, x = .ref a /\ DGet H2 a y o /\ Q (.bl (!o.isSome)) H2
def sDPut (td ty tv : TE) : TS := fun D σ H => tv σ H fun v H1 => td σ H1 fun x H2 => ty σ H2 fun y H3 => ∃ a H4, x = .ref a /\ DPut H3 a y v H4 /\ D.nx σ H4
section
variable {X : Cx} {o i e value : Expr} {pos pos' tpos : Pos} {td ty tv : TE}
theorem pe_dget (hu : X.A.units + 1 < cLine) (ho : PE X o td) (hi : PE X i ty) (hs : NoSl i) : PE X (.Subscript o i pos) (tDGet td ty) := by
  intro pins s σ H Q I h
  refine subD_of PySem.F.slot_dict_getitem.lookup hs (thn (ho pins s σ H _ I h) fun u s1 ⟨x, H1, I1, rx, q1⟩ => thn (hi pins s1 σ H1 _ I1 q1) fun iv s2 ⟨y, H2, I2, ry, a, v, ex, g, q2⟩ => ?_)
  subst ex
  obtain rfl : u = Value.ref a := rx
  exact ⟨dict_typeIs I2 g, d_getItem hu I2 g ry fun w' s3 I3 rw' => ⟨v, H2, I3, rw', q2⟩⟩
theorem pc_din (hu : X.A.units + 1 < cLine) (hi : PE X i ty) (ho : PE X o td) : PC X .In i o (tDIn ty td) := by
  intro pins s σ H Q I h
  refine thn (hi pins s σ H _ I h) fun iv s1 ⟨y, H1, I1, ry, q1⟩ => thn (ho pins s1 σ H1 _ I1 q1) fun u s2 ⟨x, H2, I2, rx, a, ov, ex, g, q2⟩ => ?_
  subst ex
  obtain rfl : u = Value.ref a := rx
  exact d_in hu I2 g ry fun s3 I3 => ⟨.bl ov.isSome, H2, I3, rfl, q2⟩
theorem pc_dnotin (hu : X.A.units + 1 < cLine) (hi : PE X i ty) (ho : PE X o td) : PC X .NotIn i o (tDNotIn ty td) := by
  intro pins s σ H Q I h
  refine thn (hi pins s σ H _ I h) fun iv s1 ⟨y, H1, I1, ry, q1⟩ => thn (ho pins s1 σ H1 _ I1 q1) fun u s2 ⟨x, H2, I2, rx, a, ov, ex, g, q2⟩ => ?_
  subst ex
  obtain rfl : u = Value.ref a := rx
  exact d_notIn hu I2 g ry fun s3 I3 => ⟨.bl (!ov.isSome), H2, I3, rfl, q2⟩
theorem ps_dput (hu : X.A.units + 1 < cLine) (ho : PE X o td) (hi : PE X i ty) (hv : PE X value tv) (hs : swapsWith value (some (.Subscript o i pos')) pos.line X.env = pure false) :
    PS X (.Assign [.Subscript o i pos'] value pos) (sDPut td ty tv) := by
  intro pins s σ H D I h
  refine wpAny_Assign_Subscript (thn (hv pins s σ H _ I h) fun r s1 ⟨v, H1, I1, rv, q1⟩ => thn (ho pins s1 σ H1 _ I1 q1) fun u s2 ⟨x, H2, I2, rx, q2⟩ => thn (hi pins s2 σ H2 _ I2 q2) fun iv s3 ⟨y, H3, I3, ry, a, H4, ex, g, q3⟩ => ?_) hs
  subst ex
  obtain rfl : u = Value.ref a := rx
  exact d_setItem hu I3 g ry rv fun s4 I4 => ⟨σ, H4, I4, q3⟩
end
theorem dk_empty {P : Program} {w : World} {H : Hp} (h : Heap) (hb : sysModules < h.objs.size) : ObjOk P w H (h.push { cls := .type "dict", data := .dict #[] }) h.objs.size (.dK []) :=
  ⟨Nat.zero_le _, beq_eq_false_iff_ne.mpr (Ne.symm (Nat.ne_of_lt hb)), [], .nil, Heap.DictOf.new h⟩
def tDNewK : TE := fun _ H Q => ∀ p, H p = none -> Q (.ref p) (upd H p (.dK []))
section
variable {X : Cx} {pos : Pos}
theorem pe_dnewK : PE X (.Dict [] [] pos) tDNewK := fun pins s σ H Q I h =>
  wpAny_Dict_empty ⟨.ref s.heap.objs.size, _, I.laid (a := s.heap.objs.size) (o := .dK []) (t' := s.toks) (fun _ _ q => Heap.get?_push_of_some _ q) (Nat.le_refl _) (dk_empty s.heap I.big), rfl, h _ (I.hok.fresh (Nat.le_refl _))⟩
end
def tPairs : List (TE × TE) -> St -> Hp -> (List (V × V) -> Hp -> Prop) -> Prop
  | [], _, H, Q => Q [] H
  | (tk, tv) :: r, σ, H, Q => tk σ H fun x H1 => tv σ H1 fun y H2 => tPairs r σ H2 fun ps H3 => Q ((x, y) :: ps) H3
abbrev VV : List (V × V) -> List (Value × Value) -> Prop := Paired fun p q => RelV p.1 q.1 /\ RelV p.2 q.2
def PPs (X : Cx) (pos : Pos) (keys : List (Option Expr)) (values : List Expr) (trs : List (TE × TE)) : Prop :=
  ∀ (pins : List (Addr × Obj)) (s : Shared) (σ : St) (H : Hp) (Q : List (V × V) -> Hp -> Prop), Inv X pins σ H s -> tPairs trs σ H Q ->
    wpAny (model X.prog X.w) X.A (evalPairs (pairTrees keys values X.env pos)) (fun vs s' => ∃ ps H', Inv X pins σ H' s' /\ VV ps vs /\ Q ps H') X.xe s
theorem pps_nil {X : Cx} {pos : Pos} : PPs X pos [] [] [] := fun pins s σ H Q I h => pairTrees_nil_walk ⟨[], H, I, .nil, h⟩
theorem pps_cons {X : Cx} {pos : Pos} {k v : Expr} {ks : List (Option Expr)} {vs : List Expr} {tk tv : TE} {trs : List (TE × TE)} (hk : PE X k tk) (hv : PE X v tv) (hr : PPs X pos ks vs trs) :
    PPs X pos (some k :: ks) (v :: vs) ((tk, tv) :: trs) := fun pins s σ H Q I h =>
  pairTrees_cons_walk (thn (hk pins s σ H _ I h) fun u s1 ⟨x, H1, I1, rx, q1⟩ => thn (hv pins s1 σ H1 _ I1 q1) fun w2 s2 ⟨y, H2, I2, ry, q2⟩ =>
    thn (hr pins s2 σ H2 _ I2 q2) fun ws s3 ⟨ps, H3, I3, rel, q3⟩ => ⟨(x, y) :: ps, H3, I3, .cons ⟨rx, ry⟩ rel, q3⟩)
def mergeK (kvs more : List (Key × V)) : List (Key × V) := more.foldl (fun acc kv => putK acc kv.1 kv.2) kvs
theorem KV.merge : ∀ {more : List (Key × V)} {rs : List (Key × Value)} {kvs : List (Key × V)} {vs : List (Key × Value)}, KV more rs -> KV kvs vs -> KV (mergeK kvs more) (merged vs rs) := by
  intro more rs kvs vs r
  unfold KV at r
  induction r generalizing kvs vs with
  | nil => intro q; exact q
  | @cons p q ps qs h t ih =>
    intro r0
    have e : KV (putK kvs p.1 p.2) (stored vs q.1 q.2) := by
      have := r0.put p.1 h.2
      rw [<- h.1]; exact this
    exact ih e
theorem length_mergeK : ∀ (more kvs : List (Key × V)), (mergeK kvs more).length <= kvs.length + more.length
  | [], kvs => by show kvs.length <= kvs.length + 0; omega
  | p :: r, kvs => by
    have h1 := length_mergeK r (putK kvs p.1 p.2)
    have h2 := length_putK kvs p.1 p.2
    show (mergeK (putK kvs p.1 p.2) r).length <= _
    rw [List.length_cons]; omega
theorem carries_of {P : Program} {w : World} : ∀ {kvs : List (Key × V)} {ws : List (Value × Value)}, VV (kvs.map fun kv => (kV kv.1, kv.2)) ws -> ∃ rs, Carries (mixKind P w) ws rs /\ KV kvs rs
  | [], _, r => by rw [List.map_nil] at r; cases r; exact ⟨[], True.intro, .nil⟩
  | p :: kvs, _, r => by
    rw [List.map_cons] at r
    cases r with
    | @cons a b as bs h t =>
      obtain ⟨rs, c, q⟩ := carries_of (P := P) (w := w) t
      obtain ⟨b1, b2⟩ := b
      exact ⟨(p.1, b2) :: rs, ⟨kV_is h.1, rfl, c⟩, .cons ⟨rfl, h.2⟩ q⟩
def tDisp (trs : List (TE × TE)) : TE := fun σ H Q => ∀ p, H p = none -> tPairs trs σ (upd H p (.dK [])) fun ps H2 => H2 p = some (.dK []) /\ ∃ kvs : List (Key × V), ps = kvs.map (fun kv => (kV kv.1, kv.2)) /\ kvs.length <= 15 /\ Q (.ref p) (upd H2 p (.dK (mergeK [] kvs)))
theorem pe_disp {X : Cx} {pos : Pos} {keys : List (Option Expr)} {values : List Expr} {trs : List (TE × TE)} (h : PPs X pos keys values trs) (hall : keys.all (·.isSome) = true) (hl : keys.length = values.length) (h0 : keys ≠ [])
    (h15 : keys.length <= 15) : PE X (.Dict keys values pos) (tDisp trs) := by
  intro pins s σ H Q I q
  have hn := I.hok.fresh (Nat.le_refl s.heap.objs.size)
  have I1 := I.laid (a := s.heap.objs.size) (o := .dK []) (h' := s.heap.push { cls := .type "dict", data := .dict #[] }) (t' := s.toks) (fun _ _ q => Heap.get?_push_of_some _ q) (Nat.le_refl _) (dk_empty s.heap I.big)
  refine wpAny_Dict_walk (knd := mixKind X.prog X.w) hall hl h0 h15 (thn (h pins _ σ _ _ I1 (q _ hn)) fun ws s2 ⟨ps, H2, I2, rel, e, kvs, ep, lk, q2⟩ => ?_)
  subst ep
  obtain ⟨rs, c, rk⟩ := carries_of (P := X.prog) (w := X.w) rel
  obtain ⟨z, hd, vs0, r0, dd⟩ := dk_of I2.hok e
  cases r0
  refine ⟨rs, c, dd, fun h' dd' hs => ⟨.ref s.heap.objs.size, _, ?_, rfl, q2⟩⟩
  have hz : (mergeK [] kvs).length <= sizeLine := by
    have h1 := length_mergeK kvs []
    rw [List.length_nil] at h1
    rw [sizeLine_eq]; omega
  have he : ∃ q, h'.get? s.heap.objs.size = some q := let ⟨q, _, _, hq, _⟩ := dd'; ⟨q, hq⟩
  exact d_write I2 (by rw [e]; exact True.intro) hs he (dk_new hz hd (rk.merge .nil) dd')
structure M1 (X : Cx) (o : Expr) (m : Str) (apos : Pos) (e : Expr) (cpos : Pos) : Prop where
  base : attributeBase o m X.env (eval o X.env) = eval o X.env
  few : ((backTo cpos (starEach [e] X.env)).all (fun x => !x.1) && (backToKw cpos (keywordEach [] X.env)).all (fun x => x.1.isSome)
    && decide (([e] : List Expr).length + ([] : List Keyword).length + (if ([] : List Keyword).isEmpty then 0 else 1) < 30)) = true
  line : (apos.endLine == cpos.line) = true
  trees : backTo cpos (starEach [e] X.env) = [(false, eval e X.env)]
structure M2 (X : Cx) (o : Expr) (m : Str) (apos : Pos) (e f : Expr) (cpos : Pos) : Prop where
  base : attributeBase o m X.env (eval o X.env) = eval o X.env
  few : ((backTo cpos (starEach [e, f] X.env)).all (fun x => !x.1) && (backToKw cpos (keywordEach [] X.env)).all (fun x => x.1.isSome)
    && decide (([e, f] : List Expr).length + ([] : List Keyword).length + (if ([] : List Keyword).isEmpty then 0 else 1) < 30)) = true
  line : (apos.endLine == cpos.line) = true
  trees : backTo cpos (starEach [e, f] X.env) = [(false, eval e X.env), (false, eval f X.env)]
def IsD (H : Hp) (a : Addr) : Prop := (∃ kvs, Rd H a (.dK kvs)) \/ ∃ kvs, Rd H a (.dT kvs)
theorem isD_at {X : Cx} {pins : List (Addr × Obj)} {σ : St} {H : Hp} {s : Shared} {a : Addr} (I : Inv X pins σ H s) (d : IsD H a) :
    s.TypeIs (.ref a) "dict" /\ (∀ b, Value.ref a = .ref b -> ∃ ob, s.heap.get? b = some ob /\ ob.dict = none) /\ (a == sysModules) = false := by
  rcases d with ⟨kvs, e⟩ | ⟨kvs, e⟩
  · obtain ⟨_, hd, vs, _, dd⟩ := dk_rd I.hok e
    refine ⟨dd.typeIs, fun b q => ?_, hd⟩
    cases q
    obtain ⟨ob, _, _, h1, h2, _⟩ := dd
    exact ⟨ob, h1, h2.2.1⟩
  · obtain ⟨_, hd, xs, _, dd⟩ := dt_rd I.hok e
    refine ⟨dd.typeIs, fun b q => ?_, hd⟩
    cases q
    obtain ⟨ob, _, _, h1, h2, _⟩ := dd
    exact ⟨ob, h1, h2.2.1⟩
section
variable {X : Cx} {pins : List (Addr × Obj)} {σ : St} {H : Hp} {s : Shared} {a : Addr} {y d : V} {u r : Value} {o : Option V} {A : Around} {E : Value -> Shared -> Prop}
theorem d_get1 {Q : Value -> Shared -> Prop} (hu : A.units + 1 < cLine) (I : Inv X pins σ H s) (g : DGet H a y o) (ry : RelV y u) (h : ∀ w' s', Inv X pins σ H s' -> RelV (o.getD .non) w' -> Q w' s') :
    wpAny (model X.prog X.w) A (call (.builtin "dict.get") [.ref a, u]) Q E s := by
  rcases g with ⟨kvs, k, e, ey, l⟩ | ⟨kvs, k, b, e, ey, eb, l⟩
  · subst ey
    obtain ⟨z, hd, vs, rel, dd⟩ := dk_rd I.hok e
    refine call_meetsIn PySem.F.slot_dict_get dd.typeIs PySem.F.entry_dict_get (PySem.F.args_dict_get_2 _ _) (meets_dict_get (mixKind X.prog X.w) a (kV_is ry) hd) ⟨_, dd.mapOf, h _ _ (I.tok _) ?_⟩
    rw [l]
    exact (rel.val k).getD rfl
  · subst ey
    cases (show u = Value.ref b from ry)
    obtain ⟨z, hd, xs, rel, dd⟩ := dt_rd I.hok e
    refine call_meetsIn PySem.F.slot_dict_get dd.typeIs PySem.F.entry_dict_get (PySem.F.args_dict_get_2 _ _) (meetsH_dict_get (tupleKind (mixKind X.prog X.w)) a b hd) ⟨tupleKind_room_in1 hu, k, xs, key_of I.hok eb, dd, h _ _ (I.tok _) ?_⟩
    rw [l]
    exact (rel.val k).getD rfl
theorem d_get2 {Q : Value -> Shared -> Prop} (hu : A.units + 1 < cLine) (I : Inv X pins σ H s) (g : DGet H a y o) (ry : RelV y u) (rd : RelV d r) (h : ∀ w' s', Inv X pins σ H s' -> RelV (o.getD d) w' -> Q w' s') :
    wpAny (model X.prog X.w) A (call (.builtin "dict.get") [.ref a, u, r]) Q E s := by
  rcases g with ⟨kvs, k, e, ey, l⟩ | ⟨kvs, k, b, e, ey, eb, l⟩
  · subst ey
    obtain ⟨z, hd, vs, rel, dd⟩ := dk_rd I.hok e
    refine call_meetsIn PySem.F.slot_dict_get dd.typeIs PySem.F.entry_dict_get (PySem.F.args_dict_get_3 _ _ _) (meets_dict_get_default (mixKind X.prog X.w) a (kV_is ry) hd r) ⟨_, dd.mapOf, h _ _ (I.tok _) ?_⟩
    rw [l]
    exact (rel.val k).getD rd
  · subst ey
    cases (show u = Value.ref b from ry)
    obtain ⟨z, hd, xs, rel, dd⟩ := dt_rd I.hok e
    refine call_meetsIn PySem.F.slot_dict_get dd.typeIs PySem.F.entry_dict_get (PySem.F.args_dict_get_3 _ _ _) (meetsH_dict_get_default (tupleKind (mixKind X.prog X.w)) a b hd r) ⟨tupleKind_room_in1 hu, k, xs, key_of I.hok eb, dd, h _ _ (I.tok _) ?_⟩
    rw [l]
    exact (rel.val k).getD rd
end
def tDGet1 (td ty : TE) : TE := fun σ H Q => td σ H fun x H1 => ∃ a, x = .ref a /\ IsD H1 a /\ ty σ H1 fun y H2 => ∃ o, DGet H2 a y o /\ Q (o.getD .non) H2
def tDGet2 (td ty tx : TE) : TE := fun σ H Q => td σ H fun x H1 => ∃ a, x = .ref a /\ IsD H1 a /\ ty σ H1 fun y H2 => tx σ H2 fun z H3 => ∃ o, DGet H3 a y o /\ Q (o.getD z) H3
section
variable {X : Cx} {o e f : Expr} {apos cpos : Pos} {td ty tx : TE}
theorem pe_dget1 (hu : X.A.units + 1 < cLine) (ho : PE X o td) (he : PE X e ty) (m : M1 X o "get" apos e cpos) : PE X (.Call (.Attribute o "get" apos) [e] [] cpos) (tDGet1 td ty) := by
  intro pins s σ H Q I h
  refine wpAny_Call_method m.base m.few m.line PySem.F.plainAttrs_dict PySem.F.slot_dict_get PySem.F.type_dict_get (thn (ho pins s σ H _ I h) fun u s1 ⟨x, H1, I1, rx, a, ex, d, q1⟩ => ?_)
  subst ex
  obtain rfl : u = Value.ref a := rx
  obtain ⟨t1, t2, _⟩ := isD_at I1 d
  refine ⟨t1, t2, ?_⟩
  rw [m.trees]
  refine Calls.callWith_builtin rfl (Calls.evalArgs_plain (Calls.spliced_cons (thn (he pins s1 σ H1 _ I1 q1) fun iv s2 ⟨y, H2, I2, ry, ov, g, q2⟩ => Calls.spliced_nil ?_)))
  exact d_get1 hu I2 g ry fun w' s3 I3 rw' => ⟨_, H2, I3, rw', q2⟩
theorem pe_dget2 (hu : X.A.units + 1 < cLine) (ho : PE X o td) (he : PE X e ty) (hf : PE X f tx) (m : M2 X o "get" apos e f cpos) : PE X (.Call (.Attribute o "get" apos) [e, f] [] cpos) (tDGet2 td ty tx) := by
  intro pins s σ H Q I h
  refine wpAny_Call_method m.base m.few m.line PySem.F.plainAttrs_dict PySem.F.slot_dict_get PySem.F.type_dict_get (thn (ho pins s σ H _ I h) fun u s1 ⟨x, H1, I1, rx, a, ex, d, q1⟩ => ?_)
  subst ex
  obtain rfl : u = Value.ref a := rx
  obtain ⟨t1, t2, _⟩ := isD_at I1 d
  refine ⟨t1, t2, ?_⟩
  rw [m.trees]
  refine Calls.callWith_builtin rfl (Calls.evalArgs_plain (Calls.spliced_cons (thn (he pins s1 σ H1 _ I1 q1) fun iv s2 ⟨y, H2, I2, ry, q2⟩ =>
    Calls.spliced_cons (thn (hf pins s2 σ H2 _ I2 q2) fun fv s3 ⟨z, H3, I3, rz, ov, g, q3⟩ => Calls.spliced_nil ?_))))
  exact d_get2 hu I3 g ry rz fun w' s4 I4 rw' => ⟨_, H3, I4, rw', q3⟩
end
section
variable {X : Cx} {pins : List (Addr × Obj)} {σ : St} {H : Hp} {s : Shared} {a : Addr} {kvs : List (Key × V)} {A : Around} {E : Value -> Shared -> Prop}
end
section
variable {X : Cx} {pins : List (Addr × Obj)} {σ : St} {H : Hp} {s : Shared} {a : Addr} {y : V} {u : Value} {A : Around} {E : Value -> Shared -> Prop}
end
end L2
namespace L2
open PySem PySem.Spec PyProof.Rows
section
variable {κ : Type} [DecidableEq κ]
theorem nd_snoc : ∀ {l : List κ} {k : κ}, l.Nodup -> ¬ k ∈ l -> (l ++ [k]).Nodup
  | [], k, _, _ => by simp
  | a :: r, k, h, hk => by
    obtain ⟨h1, h2⟩ := List.nodup_cons.mp h
    show (a :: (r ++ [k])).Nodup
    refine List.nodup_cons.mpr ⟨fun m => ?_, nd_snoc h2 fun m => hk (List.mem_cons.mpr (Or.inr m))⟩
    rcases List.mem_append.mp m with q | q
    · exact h1 q
    · exact hk (List.mem_cons.mpr (Or.inl (List.mem_singleton.mp q).symm))
end
end L2
set_option Elab.async false
set_option linter.all false
set_option maxRecDepth 100000
namespace PySem
open Sem (wp)
open Builtin
end PySem
namespace L2
open PySem PySem.Spec PyProof.Rows
section
variable {X : Cx}
def rCatA (K : PySem.W.Frag) : R2 := fun x y H Q => ∃ a b xs ys, x = .ref a /\ y = .ref b /\ SqT K H a xs /\ SqT K H b ys /\ xs.length + ys.length <= sizeLine /\
  (xs = [] -> Q (.ref b) H) /\ (xs ≠ [] -> ys = [] -> Q (.ref a) H) /\ (xs ≠ [] -> ys ≠ [] -> ∀ p, H p = none -> Q (.ref p) (upd H p (.tup (xs ++ ys))))
theorem op_catA : OpR X (binaryOp .Add) (rCatA X.K) := by
  intro pins s σ H x y v u Q I rx ry h
  obtain ⟨a, b, xs, ys, rfl, rfl, ha, hb, hz, q0, q1, q2⟩ := h
  by_cases hx : xs = []
  · cases rx
    cases ry
    obtain ⟨its, r1, p1, _⟩ := I.tuple ha
    obtain ⟨its2, r2, p2, _⟩ := I.tuple hb
    obtain ⟨⟨cls, dd, data, sl⟩, ho, hc, n, hd⟩ := id p1
    obtain ⟨⟨cls2, dd2, data2, sl2⟩, ho2, hc2, n2, hd2⟩ := id p2
    simp only at hc hd hc2 hd2
    subst hc hd hc2 hd2
    have e : its = [] := r1.nil_iff.mpr hx
    exact concat_meets ⟨_, ho, rfl⟩ ⟨_, ho2, rfl⟩ noFill_tuple_add seq_tuple_add PySem.F.slot_tuple_add PySem.F.entry_tuple_add (PySem.F.args_tuple_add_2 _ _)
      (tuple_addW0 a b its.toArray its2.toArray n n2 dd dd2 sl sl2 (by simp [e])) ⟨ho, ho2, ⟨.ref b, H, I, rfl, q0 hx⟩⟩
  · exact op_catT pins s σ H _ _ v u Q I rx ry ⟨a, b, xs, ys, rfl, rfl, ha, hb, hx, hz, q1 hx, q2 hx⟩
end
inductive Pl (H : Hp) : V -> Prop where
  | non : Pl H .non
  | bl (b : Bool) : Pl H (.bl b)
  | int (i : Int) : Pl H (.int i)
  | str (x : Str) : Pl H (.str x)
  | lst {a : Addr} {xs : List V} (e : H a = some (.lst xs)) : Pl H (.ref a)
  | tup {a : Addr} {xs : List V} (e : H a = some (.tup xs)) : Pl H (.ref a)
  | dK {a : Addr} {kvs : List (Key × V)} (e : H a = some (.dK kvs)) : Pl H (.ref a)
structure PEW (X : Cx) (e : Expr) (t : TE) : Prop where
  out : PE X e t
structure PAW (X : Cx) (es : List Expr) (t : TA) : Prop where
  out : PA X es t
structure PTW (X : Cx) (e : Expr) (t : TT) : Prop where
  out : PT X e t
structure PSW (X : Cx) (s : Stmt) (t : TS) : Prop where
  out : PS X s t
structure PSsW (X : Cx) (s : List Stmt) (t : TS) : Prop where
  out : PSs X s t
section
variable {X : Cx} {a b e : Expr} {es : List Expr} {ta tb te : TE} {t : TA} {pos : Pos}
theorem wa_nil : PAW X [] tNil := ⟨pa_nil⟩
theorem wa_cons (ha : PEW X e te) (hr : PAW X es t) (hs : starEach (e :: es) X.env = (false, eval e X.env) :: starEach es X.env := by rfl) : PAW X (e :: es) (tCons te t) := ⟨pa_cons ha.out hr.out hs⟩
theorem w_lst (h : PAW X es t) : PEW X (.List es pos) (tLst t) := ⟨pe_lst h.out⟩
theorem w_tup {x1} (h : PAW X es t) : PEW X (.Tuple es x1 pos) (tTup t) := ⟨pe_tup h.out⟩
theorem w_ix {r : R2} (hr : IxR X r) (ha : PEW X a ta) (hb : PEW X b tb) (hs : PlainIx b) : PEW X (.Subscript a b pos) (tOp r ta tb) := ⟨pe_ix hr ha.out hb.out hs⟩
variable {st : Stmt} {rest : List Stmt} {ts us : TS}
theorem ws_cons (h1 : PSW X st ts) (h2 : PSsW X rest us) : PSsW X (st :: rest) (tSeq ts us) := ⟨pss_cons h1.out h2.out⟩
theorem ws_one (h1 : PSW X st ts) : PSsW X [st] ts := ⟨pss_one h1.out⟩
theorem w_ret (he : PEW X e te) : PSW X (.Return (some e) pos) (tRet te) := ⟨ps_ret he.out⟩
theorem w_set {i : Nat} {x : Str} {pos' : Pos} (hN : X.N.Nodup) (hi : X.N[i]? = some x) (hx : Loc X.env.scope x) (he : PEW X e te) (hs : swapsWith e (some (.Name x pos')) pos.line X.env = pure false := by rfl) (hf : X.fn x = true \/ X.env.scope.names.lookup x = some .local := by first | exact .inl rfl | exact .inr rfl | assumption) :
    PSW X (.Assign [.Name x pos'] e pos) (tAsg te (gName i)) := ⟨ps_set hN hi hx he.out hs hf⟩
theorem body_w {b : List Stmt} {R : TS -> Prop} (h : PSsW X b ts) (r : R ts) : ∃ t, PSs X b t /\ R t := ⟨ts, h.out, r⟩
end
end L2
set_option Elab.async false
set_option linter.all false
set_option maxRecDepth 100000
namespace L2
open PySem PySem.Spec PyProof.Rows
def CX1 (P : Program) (w : World) : CXT := fun outer H s E e s' => ∃ (ea t C : Addr) (B : Heap) (H' : Hp), e = .ref ea /\ s'.os = s.os /\ AllBare s'.gens /\ Un (frs outer) [] H H' s.heap s'.heap /\ HOk P w H' B /\
  Heap.FlyingW B outer ea (.ref C) (.ref t) s'.heap /\ (∀ b o, s.heap.get? b = some o -> b ∉ frs outer -> ∃ o', B.get? b = some o') /\ H' ea = none /\ E (.ref C) none H'
section
variable {P : Program} {w : World} {K : PySem.W.Frag} {mg : Str -> Option Value} {base : Heap} {N : List Str} {qual : Str} {scope : Scope} {f : Addr} {cd : Value} {A : Around} {outer : List Env} {s : Shared} {H : Hp} {E : XK}
end
end L2
set_option Elab.async false
set_option linter.all false
set_option maxRecDepth 100000
namespace L2
open PySem PySem.Spec PyProof.Rows
section
variable {X : Cx} {x : Str} {j k : Nat} {ps : List Str} {dvs : List V} {sp : Sp} {p pos cpos : Pos} {e : Expr} {es : List Expr} {t : TA} {C : Addr} {E : XK}
end
structure DefX (P : Program) (w : World) (K : PySem.W.Frag) (mg : Str -> Option Value) (base : Heap) (x : Str) (k : Nat) (ps : List Str) (dvs : List V) (sp : Sp) : Prop where
  ex : ∃ (f : Addr) (fd : FuncData) (ds : List Value), mg x = some (.ref f) /\ PySem.W.keepIn K (.ref f) = true /\ Vals dvs ds /\ Binds K fd ps ds /\ FnOk P w K mg base (CX1 P w) k f fd ps sp
section
variable {X : Cx} {x : Str} {j k : Nat} {ps : List Str} {dvs : List V} {sp : Sp} {p pos : Pos} {e : Expr} {es : List Expr} {t : TA} {E : XK}
end
section
variable {P : Program} {w : World} {K : PySem.W.Frag} {mg : Str -> Option Value} {base : Heap}
end
section
variable {X : Cx} {e v1 v2 : Expr} {es rest : List Expr} {pos : Pos} {te : TE} {n : Nat}
end
end L2
set_option Elab.async false
set_option linter.all false
set_option maxRecDepth 100000
namespace L2
open PySem PySem.Spec PySem.W PySem.Builtin PySem.Builtin.Getset_descriptor
structure XCls (K : PySem.W.Frag) (C : Addr) : Prop where
  ga : findIn K (.ref C) "__getattribute__" = some (some (.builtin "BaseException.__getattribute__"))
  gt : findIn K (.ref C) "__getattr__" = some none
  cl : findIn K (.ref C) "__class__" = some (some (.builtin "object.__class__"))
  gg : specialIn K (.builtin "object.__class__") "__get__" = some (some (.builtin "getset_descriptor.__get__"))
  tk : takesIn K (.builtin "object.__class__") = some true
  ob : mroIn K C (.type "object") = some true
  be : mroIn K C (.type "BaseException") = some true
  ci : (clsIn K C).isSome = true
section
variable {prog : Program} {w : World} {A : Around} {E : Value -> Shared -> Prop} {s : Shared} {K : PySem.W.Frag} {ea C : Addr} {ob : Obj}
end
end L2
set_option Elab.async false
set_option linter.all false
set_option maxRecDepth 100000
namespace L2
open PySem PySem.Spec PyProof.Rows
section
variable {X : Cx} {pins : List (Addr × Obj)} {σ : St} {H : Hp} {s : Shared} {E : XK} {ea : Addr}
abbrev TX := Ends -> XK -> St -> Hp -> Prop
end
section
variable {X : Cx} {x : Str} {j k : Nat} {ps : List Str} {dvs : List V} {sp : Sp} {p pos : Pos} {e : Expr} {es : List Expr} {t : TA} {E : XK}
end
section
variable {P : Program} {w : World} {fs : List Addr} {H H1 : Hp} {h h1 : Heap} {ea C : Addr} {o : HO}
end
section
variable {X : Cx} {pins : List (Addr × Obj)} {σ : St} {H : Hp} {s : Shared} {E : XK}
end
section
variable {X : Cx} {pins : List (Addr × Obj)} {σ : St} {H : Hp} {s s' : Shared} {E : XK} {C F : Addr} {i : Nat} {x n : Str} {np pos hpos : Pos} {body : List Stmt} {b₀ : Stmt} {suite : List Stmt} {tb : TX} {ts : TS}
end
end L2
set_option Elab.async false
set_option linter.all false
set_option maxRecDepth 100000
namespace L2
open PySem PySem.Spec PyProof.Rows
structure RoomH (k : Nat) (A : Around) : Prop where
  dp : A.depth + 3 * k + 5 < recursionLimit
  un : A.units + 16 * k + 200 < cLine
structure FnOkH (P : Program) (w : World) (K : PySem.W.Frag) (mg : Str -> Option Value) (base : Heap) (CX : CXT) (k : Nat) (f : Addr) (fd : FuncData) (ps : List Str) (sp : Sp) : Prop where
  len : ∀ vs H Q E, sp vs H Q E -> vs.length = ps.length
  run : ∀ (A : Around) (outer : List Env) (s : Shared) (H : Hp) (args : Args) (us : List Value) (vs : List V) (Q : VK) (E : XK), RoomH k A -> Env0 P w K mg base A outer s H -> BindsTo s fd args (ps.zip us) -> Vals vs us -> sp vs H Q E ->
    codeAny (model P w) A (.call (.ref f) args) (CR CX outer P w H s Q E) s
structure DefH (P : Program) (w : World) (K : PySem.W.Frag) (mg : Str -> Option Value) (base : Heap) (x : Str) (k : Nat) (ps : List Str) (dvs : List V) (sp : Sp) : Prop where
  ex : ∃ (f : Addr) (fd : FuncData) (ds : List Value), mg x = some (.ref f) /\ PySem.W.keepIn K (.ref f) = true /\ Vals dvs ds /\ Binds K fd ps ds /\ FnOkH P w K mg base CX0 k f fd ps sp
section
variable {P : Program} {w : World} {K : PySem.W.Frag} {mg : Str -> Option Value} {base : Heap}
end
section
variable {X : Cx} {x : Str} {j k : Nat} {ps : List Str} {dvs : List V} {sp : Sp} {p pos : Pos} {e : Expr} {es : List Expr} {t : TA}
end
section
variable {X : Cx}
end
end L2
set_option Elab.async false
set_option linter.all false
set_option maxRecDepth 100000
namespace L2
open PySem PySem.Spec PyProof.Rows
section
variable {X : Cx}
end
end L2
set_option Elab.async false
set_option linter.all false
set_option maxRecDepth 100000
namespace L2
open PySem PySem.Spec PyProof.Rows
section
variable {prog : Program} {w : World} {A : Around} {E : Value -> Shared -> Prop} {s : Shared} {it l S : Addr} {items : Array Value}
end
theorem Vals.rev {xs : List V} {us : List Value} (r : Vals xs us) : Vals xs.reverse us.reverse := by
  induction r with
  | nil => exact .nil
  | cons a t ih =>
    rw [List.reverse_cons, List.reverse_cons]
    exact ih.append (.cons a .nil)
section
variable {X : Cx} {a : Expr} {ta : TA} {p p2 pos pos2 : Pos}
end
end L2
set_option Elab.async false
set_option linter.all false
set_option maxRecDepth 100000
namespace L2
open PySem PySem.Spec PyProof.Rows
theorem paired_back {α β : Type} {F : α -> β -> Prop} : ∀ {l₁ : List α} {l₂ : List β} {j : Nat} {q : β}, Paired F l₁ l₂ -> l₂[j]? = some q -> ∃ p, l₁[j]? = some p /\ F p q
  | _, _, _, _, .nil, e => by simp at e
  | _, _, 0, _, .cons r _, e => by simp at e; subst e; exact ⟨_, rfl, r⟩
  | _, _, j + 1, _, .cons _ t, e => by
    obtain ⟨p, h1, h2⟩ := paired_back (j := j) t (by simpa using e)
    exact ⟨p, by simpa using h1, h2⟩
section
variable {X : Cx}
theorem keys_vals : ∀ {ks : List Key} {us : List Value}, us.length = ks.length -> (∀ (j : Nat) (v : Value), us[j]? = some v -> ∃ k, ks[j]? = some k /\ keyIs k v = true) -> Vals (ks.map kV) us
  | [], [], _, _ => .nil
  | [], _ :: _, h, _ => by simp at h
  | _ :: _, [], h, _ => by simp at h
  | k :: ks, u :: us, h, q => by
    obtain ⟨k', e, i⟩ := q 0 u rfl
    cases (show k = k' from by simpa using e)
    refine .cons ?_ (keys_vals (by simpa using h) fun j v e => by simpa using q (j + 1) v (by simpa using e))
    rcases keyIs_shape i with ⟨n, t, rfl, rfl⟩ | ⟨x, t, rfl, rfl⟩
    · exact ⟨t, rfl⟩
    · exact ⟨t, rfl⟩
def rListD : List V -> Hp -> VK -> Prop := fun xs H Q => ∃ p kvs, xs = [.ref p] /\ H p = some (.dK kvs) /\ ∀ l, H l = none -> Q (.ref l) (upd H l (.lst (kvs.map fun q => kV q.1)))
theorem call_listD (hc : X.calm = true) : CallR X (.type "list") rListD := by
  intro pins s σ H xs us Q I r h
  obtain ⟨p, kvs, rfl, hp, q⟩ := h
  obtain ⟨u, rfl, rx⟩ := vals1 r
  cases rx
  obtain ⟨hz, lo, vs, kv, dof⟩ := (show ObjOk X.prog X.w H s.heap p (.dK kvs) from I.hok p _ hp)
  obtain ⟨ep, hat⟩ := dof.dictAt
  have hlen : kvs.length = vs.length := Paired.length kv
  refine PySem.W.kdl_call (PySem.W.kdl_dict (knd := mixKind X.prog X.w) (kvs := vs) (ep := ep) lo) (I.ok.hd hc) hat (by rw [<- hlen]; exact hz) fun h' tk acc c' kp e hacc => ?_
  have rv : Vals ((kvs.map (·.1)).map kV) acc.toList := keys_vals (by rw [Array.length_toList, hacc.1, List.length_map, hlen]) fun j v ej => by
    obtain ⟨k, x, e1, e2⟩ := hacc.2 j v (by rw [<- Array.getElem?_toList]; exact ej)
    refine ⟨k, ?_, e2⟩
    obtain ⟨pv, f1, f2⟩ := paired_back kv e1
    rw [List.getElem?_map, f1]
    exact congrArg some f2.1
  rw [List.map_map] at rv
  have ob : ObjOk X.prog X.w (upd H s.heap.objs.size (.lst (kvs.map fun q => kV q.1))) h' s.heap.objs.size (.lst (kvs.map fun q => kV q.1)) := by
    refine ⟨by rw [List.length_map]; exact hz, acc.toList, c', rv, ?_⟩
    rw [Array.toArray_toList]
    exact e
  exact ⟨.ref _, _, I.laid (t' := tk) kp (Nat.le_refl _) ob, rfl, q _ (I.hok.fresh (Nat.le_refl _))⟩
end
end L2
set_option Elab.async false
set_option linter.all false
set_option maxRecDepth 100000
namespace L2
open PySem PySem.Spec PyProof.Rows
theorem compLoop_byI {prog : Program} {w : World} {A : Around} {R : Result -> Shared -> Prop} {s : Shared} {elt target iter cond : Expr} {scope : Scope} {pos : Pos} {it acc : Value} {env : Env} (I : Nat -> Shared -> Prop)
    (turn : ∀ n s, I n s -> wpAny (model prog w) A (pyNext it) (fun r s₁ => match r with
      | none => R (.ok .next) s₁
      | some v => wpAny (model prog w) A (letOwnedTupleGo target it v) (fun _ s₁' => wpAny (model prog w) A (assign target env v) (fun _ s₂ => wpAny (model prog w) A (isTrue cond env (eval cond env)) (fun ok s₂' =>
          if ok = true then wpAny (model prog w) A (eval elt env) (fun x s₃ =>
          wpAny (model prog w) A (call (.builtin "list.append") [acc, x]) (fun _ s₄ => ∃ m, m < n /\ I m s₄) (fun _ _ => False) s₃)
          (fun _ _ => False) s₂' else ∃ m, m < n /\ I m s₂') (fun _ _ => False) s₂) (fun _ _ => False) s₁') (fun _ _ => False) s₁) (fun _ _ => False) s)
    (n : Nat) (h : I n s) :
    codeAny (model prog w) A (.compLoop (.ListComp elt [⟨target, iter, [cond], 0⟩] scope pos) 0 it acc env) R s := by
  refine codeAny_loop rfl I (fun n s hI => ?_) n h
  show wpAny _ _ ((compTurn (.ListComp elt [⟨target, iter, [cond], 0⟩] scope pos) 0 it acc env).onRaise (fun x => do noteFrame x env; theTreesLotGoes x)) _ _ s
  refine wpAny_noted ?_
  rw [compTurn_list]
  refine wpAny_bind (wpAny_standAt (wpAny_bind (wpAny_mono (turn n s hI) (fun r s₁ h₁ => ?_) fun _ _ h' => h'.elim)))
  cases r with
  | none => exact wpAny_pure h₁
  | some v =>
    refine wpAny_bind (wpAny_mono h₁ (fun _ s₁' h₁' => ?_) fun _ _ h' => h'.elim)
    refine wpAny_bind (wpAny_mono h₁' (fun _ s₂ h₂ => wpAny_bind (wpAny_mono (wpAny_tests_one h₂) (fun ok s₃ h₃ => ?_) fun _ _ h' => h'.elim)) fun _ _ h' => h'.elim)
    cases ok with
    | false => exact wpAny_pure ⟨rfl, h₃⟩
    | true => exact wpAny_bind (wpAny_bind (wpAny_mono h₃ (fun x s₄ h₄ => wpAny_bind (wpAny_mono h₄ (fun _ s₅ h₅ => wpAny_pure (wpAny_pure ⟨rfl, h₅⟩)) fun _ _ h' => h'.elim)) fun _ _ h' => h'.elim))
def CompWI (J : It) (ix : List (Option Nat)) (g : TG) (tc : TT) (te : TE) (σ : St) (H : Hp) (Qd : Addr -> Hp -> Prop) : Prop :=
  ∀ D, H D = none -> ∃ W : Nat -> Nat -> St -> Hp -> Prop, (∃ m, W 0 m (blockSt ix σ) (upd H D (.lst []))) /\ ∀ i m σ' H', W i m σ' H' ->
    (J.stop i H' /\ Qd D H') \/ (J.go i H' /\ ∀ x H2, J.yld i H' x H2 -> g x σ' H2 fun σ3 H3 => tc σ3 H3 fun b H4 => if b = true then te σ3 H4 fun y H5 => ∃ ys, H5 D = some (.lst ys) /\ ys.length < sizeLine /\ ∃ m', m' < m /\ W (i + 1) m' σ3 (upd H5 D (.lst (ys ++ [y]))) else ∃ m', m' < m /\ W (i + 1) m' σ3 H4)
section
variable {X : Cx} {pins : List (Addr × Obj)} {σ : St} {H : Hp} {s : Shared} {N : List Str} {ix : List (Option Nat)} {scope : Scope} {fp : List Addr} {tg elt iter cond : Expr} {tc : TT} {pos spos : Pos} {J : It} {it : Addr} {tn : Nat -> Heap -> Prop} {g : TG} {te : TE} {wi : TI}
theorem comp_runI {Qd : Addr -> Hp -> Prop} {RR : Value -> Addr -> Result -> Shared -> Prop} {E : Value -> Shared -> Prop} (I : Inv X pins σ H s) (hc : X.calm = true) (S : BlkScope X.N X.env.scope N ix scope) (T : Turn X.prog X.w X.K tg J fp it tn) (st : tn 0 s.heap) (f2 : ∀ b ∈ fp, FpOk X pins H b)
    (hg : ∀ C, PG (cxComp X N scope fp s H C) tg g) (ht : ∀ C, PT (cxComp X N scope fp s H C) cond tc) (he : ∀ C, PE (cxComp X N scope fp s H C) elt te) (hW : CompWI J ix g tc te σ H Qd)
    (hR : ∀ D C s' H' m, Inv X pins σ H' s' -> s'.heap.Ns C m -> FpOk X pins H' C -> Qd D H' -> RR (.ref D) C (.ok .next) s') :
    wpAny (model X.prog X.w) X.A (newList []) (fun acc s₃ => wpAny (model X.prog X.w) X.A (newFunctionEnv scope X.env.globals (closList X.env.cells scope.names []) [] X.env.qual none .none (some X.env)) (fun cenv s₄ =>
      codeAny (model X.prog X.w) X.A (.compStart (.ListComp elt [⟨tg, iter, [cond], 0⟩] scope pos) 0 (.ref it) acc { cenv with scope := relabel scope X.env }) (RR acc cenv.locals) s₄) E s₃) E s := by
  refine wpAny_newObj_type (wpAny_newFunctionEnv S.nocell (by intro y hy; simp at hy) (fun h₁ hns₁ hsb₁ => ?_) S.kind)
  dsimp only at hns₁ hsb₁ ⊢
  generalize hH2 : s.heap.push { cls := .type "list", dict := none, data := .seq ([] : List Value).toArray } = H2 at hns₁ hsb₁ ⊢
  have hC : H2.objs.size = s.heap.objs.size + 1 := by rw [<- hH2, Heap.size_push]
  have hDC : s.heap.objs.size ≠ H2.objs.size := by rw [hC]; exact Nat.ne_of_lt (Nat.lt_succ_self _)
  have hCle : s.heap.objs.size <= H2.objs.size := by rw [hC]; exact Nat.le_succ _
  have below : ∀ b, b < s.heap.objs.size -> b ≠ H2.objs.size := fun b hb => by rw [hC]; exact Nat.ne_of_lt (Nat.lt_succ_of_lt hb)
  have old : ∀ b o, s.heap.get? b = some o -> h₁.get? b = some o := fun b o e => hsb₁.extBut b o (below b (Heap.lt_size e)) (Heap.get?_push_of_some _ (hH2 ▸ Heap.get?_push_of_some _ e))
  have hacc : ∃ n, h₁.get? s.heap.objs.size = some { cls := .type "list", data := .seq ([] : List Value).toArray n } := ⟨_, hsb₁.extBut _ _ hDC (Heap.get?_push_of_some _ (hH2 ▸ Heap.get?_push_size _ rfl))⟩
  have st1 : tn 0 h₁ := T.keep _ _ _ st fun b _ o e => old b o e
  have fo : ∀ b ∈ fp, ∃ o, s.heap.get? b = some o /\ ∀ v, o.data ≠ .cell v := T.obj _ _ st
  have I0 : Inv (cxComp X N scope fp s H H2.objs.size) pins (blockSt ix σ) (upd H s.heap.objs.size (.lst [])) { s with heap := h₁, toks := s.toks + ([] : List (Str × Value)).length } :=
    inv_block I S f2 fo (Nat.le_refl _) hCle hDC old hns₁ hacc
  have freshD : H s.heap.objs.size = none := I.hok.fresh (Nat.le_refl _)
  obtain ⟨W, ⟨m0, w0⟩, turn⟩ := hW s.heap.objs.size freshD
  have cl_ne : ∀ b ∈ fp, b ≠ H2.objs.size := fun b hb => by
    obtain ⟨o, e, _⟩ := fo b hb
    exact below b (Heap.lt_size e)
  have stat : ∀ {H' : Hp}, (∀ b ∈ fp, H' b = none) -> ∀ b ∈ fp, FpOk (cxComp X N scope fp s H H2.objs.size) pins H' b := fun hn b hb => by
    obtain ⟨f0, f1, f3, f4, f5, f6⟩ := f2 b hb
    exact ⟨hn b hb, cl_ne b hb, I0.ok.exfs b hb, .inl hb, (I0.ok.exf b hb).2, f6⟩
  have fr0 : ∀ b ∈ fp, (upd H s.heap.objs.size (.lst [])) b = none := fun b hb => by
    obtain ⟨o, e, _⟩ := fo b hb
    rw [upd_ne (Nat.ne_of_lt (Heap.lt_size e))]
    exact (f2 b hb).1
  have loop : codeAny (model X.prog X.w) X.A (.compLoop (.ListComp elt [⟨tg, iter, [cond], 0⟩] scope pos) 0 (.ref it) (.ref s.heap.objs.size) (compEnvC scope (closList X.env.cells scope.names []) H2.objs.size X.env))
      (RR (.ref s.heap.objs.size) H2.objs.size) { s with heap := h₁, toks := s.toks + ([] : List (Str × Value)).length } := by
    refine compLoop_byI (fun n s' => ∃ i σ' H', Inv (cxComp X N scope fp s H H2.objs.size) pins σ' H' s' /\ tn i s'.heap /\ (∀ b ∈ fp, H' b = none) /\ W i n σ' H') ?_ m0 ⟨0, _, _, I0, st1, fr0, w0⟩
    rintro n s3 ⟨i, σ3, H3, I3, st3, fr3, w3⟩
    rcases turn i n σ3 H3 w3 with ⟨stop, qn⟩ | ⟨go, step⟩
    · refine thn (T.done (cxComp X N scope fp s H H2.objs.size) rfl rfl rfl hc i pins s3 σ3 H3 _ I3 (stat fr3) st3 stop) fun r s4 ⟨hr, I4⟩ => ?_
      subst hr
      obtain ⟨m4, hn4, _⟩ := id I4.loc
      refine hR _ _ s4 H3 m4 ?_ hn4 (I.fpOk hCle I4.free) qn
      exact I.call' (ch := fp) I4.os I4.base I4.hok I4.bare fun b hb => by
        obtain ⟨f0, f1, f3, f4, f5, f6⟩ := f2 b hb
        exact ⟨f4, f1, f5, f6⟩
    · refine thn (T.item (cxComp X N scope fp s H H2.objs.size) rfl rfl rfl hc i pins s3 σ3 H3 _ I3 (stat fr3) st3 go) fun r s4 ⟨u, hr, h4⟩ => ?_
      subst hr
      refine thn h4 fun _ s5 ⟨x, H5, I5, r5, y5, st5, fr5⟩ => ?_
      have I5' := I5.pinned (stat fr5) (T.obj _ _ st5)
      refine thn (hg _ _ s5 σ3 H5 x u _ I5' r5 (step x H5 y5)) fun _ s6 ⟨σ6, H6, I6, q6⟩ => ?_
      refine thn (ht _ _ s6 σ6 H6 _ I6 q6) fun ok s6' ⟨H6', I6', q6'⟩ => ?_
      cases ok with
      | false =>
        obtain ⟨m', hm, w7⟩ := q6'
        refine ⟨m', hm, i + 1, σ6, H6', I6'.unpinned, T.keep _ _ _ st5 fun b hb o e => (I6'.pin (b, o) (List.mem_append_right _ (List.mem_append_right _ (mem_pinsAt hb e)))).1, fun b hb => ?_, w7⟩
        obtain ⟨o, e, d⟩ := T.obj _ _ st5 b hb
        exact (I6'.pin (b, o) (List.mem_append_right _ (List.mem_append_right _ (mem_pinsAt hb e)))).2.1
      | true =>
        refine thn (he _ _ s6' σ6 H6' _ I6' q6') fun yv s7 ⟨y, H7, I7, r7, ys, hD7, hz7, m', hm, w7⟩ => ?_
        refine thn (mt_append (X := cxComp X N scope fp s H H2.objs.size) _ s7 σ6 H7 (.ref s.heap.objs.size) [y] (.ref s.heap.objs.size) [yv] (fun _ H8 => W (i + 1) m' σ6 H8) I7 rfl (.cons r7 .nil) ⟨_, ys, y, rfl, rfl, hD7, hz7, w7⟩) fun _ s8 ⟨_, H8, I8, _, w8⟩ => ?_
        refine ⟨m', hm, i + 1, σ6, H8, I8.unpinned, T.keep _ _ _ st5 fun b hb o e => (I8.pin (b, o) (List.mem_append_right _ (List.mem_append_right _ (mem_pinsAt hb e)))).1, fun b hb => ?_, w8⟩
        obtain ⟨o, e, d⟩ := T.obj _ _ st5 b hb
        exact (I8.pin (b, o) (List.mem_append_right _ (List.mem_append_right _ (mem_pinsAt hb e)))).2.1
  exact codeAny_compStart_list loop (T.self _ _ _ _ _ st1 loop)
def tCompI (ix : List (Option Nat)) (wi : TI) (g : TG) (tc : TT) (te : TE) : TE := fun σ H Q => wi σ H fun J H1 => CompWI J ix g tc te σ H1 fun D H' => Q (.ref D) H'
theorem pe_compI (hc : X.calm = true) (S : BlkScope X.N X.env.scope N ix scope) (hi : PI X tg iter wi) (hg : ∀ fp s H C, PG (cxComp X N scope fp s H C) tg g) (ht : ∀ fp s H C, PT (cxComp X N scope fp s H C) cond tc) (he : ∀ fp s H C, PE (cxComp X N scope fp s H C) elt te)
    (hs : ∀ x, foldedSetIterable iter X.env x = pure x := by intro _; rfl) : PE X (.ListComp elt [⟨tg, iter, [cond], 0⟩] scope pos) (tCompI ix wi g tc te) := by
  intro pins s σ H Q I h
  rw [eval_ListComp]
  refine wpAny_comprehension_free (use := none) rfl hs (closureFor_eq (S.clos I.ok)) S.kind S.locs (thn (hi pins s σ H _ I h) fun v s1 h1 => thn h1 fun itv s2 h2 => ?_)
  obtain ⟨it, fp, tn, J, H2, e, I2, T, st2, f2, hW⟩ := h2
  subst e
  refine comp_runI (RR := fun acc C => compPost (model X.prog X.w) X.A X.xe none (EP X pins σ Q) acc C) I2 hc S T st2 f2 (hg _ _ _) (ht _ _ _) (he _ _ _) hW ?_
  intro D C s' H' m I' hn fC q
  exact ⟨m, hn, fun h' sb => ⟨.ref D, H', I'.turned (t' := s'.toks) (fun b o hb e => (sb.2 b hb).trans e) fC.1 fC.2.1 fC.2.2.2.1 fC.2.2.2.2.1 fC.2.2.2.2.2, rfl, q⟩⟩
end
theorem comp_listI {K : PySem.W.Frag} {a : Addr} {xs : List V} {ix : List (Option Nat)} {tc : TT} {te : TE} {σ : St} {H : Hp} {Qd : Addr -> Hp -> Prop} (Pv : Addr -> Nat -> List V -> Hp -> Prop)
    (h0 : ∀ D, H D = none -> Pv D 0 [] (upd H D (.lst [])))
    (hl : ∀ D i ys H', i <= xs.length -> Pv D i ys H' -> SqL K H' a xs)
    (hs : ∀ D i x ys H' (Qy : VK) (Qn : Hp -> Prop), H D = none -> xs[i]? = some x -> H' D = some (.lst ys) -> Pv D i ys H' -> (∀ y H4, H4 D = some (.lst ys) -> ys.length < sizeLine -> Pv D (i + 1) (ys ++ [y]) (upd H4 D (.lst (ys ++ [y]))) -> Qy y H4) ->
      (∀ H4, H4 D = some (.lst ys) -> Pv D (i + 1) ys H4 -> Qn H4) -> tc ((blockSt ix σ).set 0 (some x)) H' fun b H4 => if b = true then te ((blockSt ix σ).set 0 (some x)) H4 Qy else Qn H4)
    (hd : ∀ D ys H', H D = none -> H' D = some (.lst ys) -> Pv D xs.length ys H' -> Qd D H') : CompWI (Itl K a) ix (gName 0) tc te σ H Qd := by
  intro D hD
  refine ⟨fun i m σ' H' => m = xs.length - i /\ i <= xs.length /\ (σ' = blockSt ix σ \/ ∃ t, σ' = (blockSt ix σ).set 0 t) /\ ∃ ys, H' D = some (.lst ys) /\ Pv D i ys H', ⟨xs.length, by simp, Nat.zero_le _, .inl rfl, [], upd_same, h0 D hD⟩, ?_⟩
  rintro i m σ' H' ⟨rfl, hi, hσ, ys, hy, p⟩
  have q := hl D i ys H' hi p
  by_cases hlt : i < xs.length
  · refine .inr ⟨⟨xs, xs[i], q, by simp [hlt]⟩, fun x H2 y => ?_⟩
    obtain ⟨e1, e2⟩ := y
    subst e1
    have ex := e2 xs q
    have es : σ'.set 0 (some x) = (blockSt ix σ).set 0 (some x) := by
      rcases hσ with z | ⟨t, z⟩
      · rw [z]
      · rw [z, List.set_set]
    show tc (σ'.set 0 (some x)) _ _
    rw [es]
    exact hs D i x ys _ _ _ hD ex hy p (fun y H4 h4 hz p4 => ⟨ys, h4, hz, xs.length - (i + 1), by omega, rfl, hlt, .inr ⟨_, rfl⟩, ys ++ [y], upd_same, p4⟩) fun H4 h4 p4 => ⟨xs.length - (i + 1), by omega, rfl, hlt, .inr ⟨_, rfl⟩, ys, h4, p4⟩
  · have e : i = xs.length := by omega
    subst e
    exact .inl ⟨⟨xs, q, Nat.le_refl _⟩, hd D ys H' hD hy p⟩
end L2
set_option Elab.async false
set_option linter.all false
set_option maxRecDepth 100000
set_option maxHeartbeats 4000000
namespace L2
open PySem PySem.Spec PyProof.Rows
open AutoSeq1 (wpAny_loadPart')
section
variable {prog : Program} {w : World} {A : Around} {E : Value -> Shared -> Prop} {s : Shared}
theorem nextOf_tuple_item {it t : Addr} {i : Nat} {items : Array Value} {x : Value} {Q : Value -> Shared -> Prop} (hit : s.heap.IsTupleIter it t i) (ht : s.heap.IsTuple t items) (hx : items[i]? = some x)
    (hQ : ∀ h', h'.IsTupleIter it t (i + 1) -> Heap.SameBut it s.heap h' -> Q x { s with heap := h' }) : wpAny (model prog w) A (Builtin.SmallTypes.nextOf (.ref it)) Q E s := by
  obtain ⟨o, ho, hc, hd⟩ := id hit
  obtain ⟨ol, hol, _, nl, hdl⟩ := ht
  unfold Builtin.SmallTypes.nextOf
  refine wpAny_bind (wpAny_callSpecial?_slot (name := Str.ofString "__next__") hit.typeIs F.slot_tuple_iterator_next
    (wpAny_call_entry F.slot_tuple_iterator_next hit.typeIs F.entry_tuple_iterator_next ?_ (F.args_tuple_iterator_next_1 _)))
  show wpAny _ _ (field (.ref it) 0 >>= _) _ _ s
  refine wpAny_bind (wpAny_field ho hd (x := .ref t) rfl ?_)
  show wpAny _ _ (if (Value.ref t == Value.none) = true then _ else _) _ _ s
  rw [if_neg (show ¬ ((Value.ref t == Value.none) = true) from Bool.false_ne_true)]
  show wpAny _ _ (field (.ref it) 1 >>= _) _ _ s
  refine wpAny_bind (wpAny_field ho hd (x := .int i 0) rfl ?_)
  show wpAny _ _ (seqItems? (.ref t) >>= _) _ _ s
  refine wpAny_bind (wpAny_seqItems hol hdl ?_)
  simp only [Int.toNat_natCast, hx]
  refine wpAny_bind (wpAny_setField ho hd (by simp) (wpAny_pure ⟨x, rfl, wpAny_pure (hQ _ ?_ (Heap.SameBut.update ..))⟩))
  exact ⟨_, Heap.get?_update_self _ ho (Obj.isFreed_of_fields (Obj.data_mapFields hd _)), (Obj.cls_mapFields ..).trans hc, by
    rw [Obj.data_mapFields hd]; simp [rawInt]⟩
theorem nextOf_tuple_end {it t : Addr} {i : Nat} {items : Array Value} {Q : Value -> Shared -> Prop} (hh : A.handled = none) (hit : s.heap.IsTupleIter it t i) (ht : s.heap.IsTuple t items) (hx : items[i]? = none)
    (hE : ∀ h' e, Heap.ExtBut it s.heap h' -> (∃ o, h'.get? e = some o /\ o.cls = .type "StopIteration") -> E (.ref e) { s with heap := h' }) : wpAny (model prog w) A (Builtin.SmallTypes.nextOf (.ref it)) Q E s := by
  obtain ⟨o, ho, hc, hd⟩ := id hit
  obtain ⟨ol, hol, _, nl, hdl⟩ := ht
  unfold Builtin.SmallTypes.nextOf
  refine wpAny_bind (wpAny_callSpecial?_slot (name := Str.ofString "__next__") hit.typeIs F.slot_tuple_iterator_next
    (wpAny_call_entry F.slot_tuple_iterator_next hit.typeIs F.entry_tuple_iterator_next ?_ (F.args_tuple_iterator_next_1 _)))
  show wpAny _ _ (field (.ref it) 0 >>= _) _ _ s
  refine wpAny_bind (wpAny_field ho hd (x := .ref t) rfl ?_)
  show wpAny _ _ (if (Value.ref t == Value.none) = true then _ else _) _ _ s
  rw [if_neg (show ¬ ((Value.ref t == Value.none) = true) from Bool.false_ne_true)]
  show wpAny _ _ (field (.ref it) 1 >>= _) _ _ s
  refine wpAny_bind (wpAny_field ho hd (x := .int i 0) rfl ?_)
  show wpAny _ _ (seqItems? (.ref t) >>= _) _ _ s
  refine wpAny_bind (wpAny_seqItems hol hdl ?_)
  simp only [Int.toNat_natCast, hx]
  refine wpAny_bind (wpAny_rule (wpAny_bind (wpAny_setField ho hd (by simp) ?_)))
  show wpAny _ _ (newExc (.type "StopIteration") [] >>= _) _ _ _
  refine wpAny_bind ?_
  simp only [newExc, newTuple]
  refine wpAny_bind (wpAny_newObj_type ?_ (by size_fits))
  refine wpAny_bind (m := firstArgMember _ _) (wpAny_of_eq (a := Value.none) (by first | rfl | (simp only [firstArgMember]; rfl)) ?_)
  refine wpAny_newObj_type ?_ (by size_fits)
  simp only [raiseNew]
  refine wpAny_bind (wpAny_handled ?_)
  first | rw [show A.in1.handled = none from hh] | rw [hh]
  refine wpAny_bind (wpAny_pure (wpAny_throw ?_))
  exact hE _ _ (((Heap.SameBut.update ..).extBut.push _).push _) ⟨_, Heap.get?_push_size _ rfl, rfl⟩
end
theorem drawsTuple {prog : Program} {w : World} {A : Around} (hh : A.handled = none) (it t : Addr) (hne : t ≠ it) (items : Array Value) :
    Draws prog w A it [it, t] items.size (fun i v => items[i]? = some v) (fun i h => h.IsTupleIter it t i /\ h.IsTuple t items) where
  live := fun _ _ st => let ⟨o, ho, _⟩ := st.1; ⟨o, ho⟩
  frame := fun _ _ _ st hk => ⟨st.1.at fun o e => hk it (by simp) o e, st.2.at fun o e => hk t (by simp) o e⟩
  item := fun i s Q E hi st hQ => by
    refine nextOf_tuple_item st.1 st.2 (x := items[i]) (by simp [hi]) fun h' hit' hs' => ?_
    exact hQ _ h' s.toks (by simp [hi]) ⟨hit', st.2.at fun o e => (hs'.2 t hne).trans e⟩ hs'
  done := fun s Q E st hE => nextOf_tuple_end hh st.1 st.2 (by simp) hE
theorem meets_enumerate_newT (l : Addr) (items : Array Value) (n : Nat) (dct : Option Addr) (sl : Array (Option Value)) :
    Meets (Builtin.«enumerate.__new__» ⟨[.type "enumerate", .ref l], []⟩) (fun _ R s => s.heap.get? l = some { cls := .type "tuple", dict := dct, data := .seq items n, slots := sl } /\
      R (.ok (.ret (.ref (s.heap.push { cls := .type "tuple_iterator", data := .fields #[.ref l, .int 0 0] }).objs.size)))
        { s with heap := (s.heap.push { cls := .type "tuple_iterator", data := .fields #[.ref l, .int 0 0] }).push { cls := .type "enumerate", data := .fields #[.none, .bool false, .ref s.heap.objs.size, rawInt 0, .none, .none] } }) :=
  .of_wp fun prog w A R s h => by
    obtain ⟨hp, g, d, tk, os⟩ := s; obtain ⟨hl, h⟩ := h
    have hsub := sub_enumerate
    have hL : Heap.IsTuple (Shared.heap ⟨hp, g, d, tk, os⟩) l items := ⟨_, hl, rfl, n, rfl⟩
    wp_walk using wpAny_loadPart' hl
    refine wpAny_stack_any fun st => wpAny_pure ?_
    split
    · rename_i c _ _ _ _ _
      cases (c == Value.type "enumerate")
      · wp_walk using wpAny_loadPart' hl, wpAny_pyIter_tuple hL
        exact ⟨_, rfl, h⟩
      · wp_walk using wpAny_loadPart' hl, wpAny_pyIter_tuple hL
        exact ⟨_, rfl, h⟩
    · wp_walk using wpAny_loadPart' hl, wpAny_pyIter_tuple hL
      exact ⟨_, rfl, h⟩
theorem call_enumerate_tuple {prog : Program} {w : World} {A : Around} {E : Value -> Shared -> Prop} {s : Shared} {l : Addr} {items : Array Value} {Q : Value -> Shared -> Prop} (hL : s.heap.IsTuple l items)
    (h : ∀ h', IsEnum h' (s.heap.objs.size + 1) s.heap.objs.size 0 .none -> h'.IsTupleIter s.heap.objs.size l 0 -> h'.objs.size = s.heap.objs.size + 2 ->
      (∀ b o, s.heap.get? b = some o -> h'.get? b = some o) -> Q (.ref (s.heap.objs.size + 1)) { s with heap := h' }) :
    wpAny (model prog w) A (call (.type "enumerate") [.ref l]) Q E s := by
  obtain ⟨⟨c, dct, dt, sl⟩, hl, hc, n, hd⟩ := hL
  replace hc : c = .type "tuple" := hc
  replace hd : dt = .seq items n := hd
  subst hc hd
  refine callType_new F.called_enumerate (by decide) (F.typeCall_enumerate_1 _) (F.newCall_enumerate_1 _) (fun obj => F.args_object_init_2 obj _) F.entry_enumerate_new
    (meets_enumerate_newT l items n dct sl) ⟨hl, ?_⟩
  have hz : (s.heap.push { cls := .type "tuple_iterator", data := .fields #[.ref l, .int 0 0] }).objs.size = s.heap.objs.size + 1 := Heap.size_push ..
  show _ /\ _
  rw [hz]
  have he : IsEnum ((s.heap.push { cls := .type "tuple_iterator", data := .fields #[.ref l, .int 0 0] }).push
      { cls := .type "enumerate", data := .fields #[.none, .bool false, .ref s.heap.objs.size, rawInt 0, .none, .none] }) (s.heap.objs.size + 1) s.heap.objs.size 0 .none := by
    have := Heap.get?_push_size (s.heap.push { cls := .type "tuple_iterator", data := .fields #[.ref l, .int 0 0] })
      (o := { cls := .type "enumerate", data := .fields #[.none, .bool false, .ref s.heap.objs.size, rawInt 0, .none, .none] }) rfl
    rw [hz] at this; exact this
  refine ⟨⟨_, he, rfl⟩, h _ he ⟨_, Heap.get?_push_of_some _ (Heap.get?_push_size _ rfl), rfl, rfl⟩ (by rw [Heap.size_push, hz]) fun b o x => Heap.get?_push_of_some _ (Heap.get?_push_of_some _ x)⟩
end L2
set_option Elab.async false
set_option linter.all false
set_option maxRecDepth 100000
set_option maxHeartbeats 4000000
namespace L2
open PySem PySem.Spec PyProof.Rows
section
variable {X : Cx} {pins : List (Addr × Obj)} {σ : St} {H : Hp} {s : Shared} {h' : Heap}
theorem Inv.turned2 {t' : Nat} {e it : Addr} (I : Inv X pins σ H s) (k : ∀ b o, b ≠ e -> b ≠ it -> s.heap.get? b = some o -> h'.get? b = some o) (fe : FpOk X pins H e) (fi : FpOk X pins H it) : Inv X pins σ H { s with heap := h', toks := t' } := by
  have nn : ∀ b u, H b = some u -> b ≠ e /\ b ≠ it := fun b u q => ⟨fun z => (by rw [z, fe.1] at q; cases q), fun z => (by rw [z, fi.1] at q; cases q)⟩
  have kk : ∀ b o, b ∉ [e, it] -> s.heap.get? b = some o -> h'.get? b = some o := fun b o hc q => k b o (fun z => hc (by simp [z])) (fun z => hc (by simp [z])) q
  refine I.step (g' := s.gens) (d' := s.drawn) (ch := [e, it]) (fun b hb => ?_) (fun b o _ _ hc q _ => kk b o hc q) (fun b o _ _ hc q _ => ⟨o.slots, kk b o hc q⟩) (fun _ _ _ _ n => n)
    (fun b o hc q => ⟨o, kk b o hc q⟩) (fun _ _ q => q) (fun _ _ _ q => q) (fun b ps q => ⟨#[], by rw [q]; simp⟩) (fun m hm => ?_) (fun b u q => ?_) I.bare
  · have q : b = e \/ b = it := by simpa using hb
    rcases q with rfl | rfl
    · exact ⟨fe.2.2.2.1, fe.2.1, fe.2.2.2.2.1, fe.2.2.2.2.2⟩
    · exact ⟨fi.2.2.2.1, fi.2.1, fi.2.2.2.2.1, fi.2.2.2.2.2⟩
  · obtain ⟨o, es, ep, ho, r⟩ := hm
    exact ⟨o, es, ep, k _ o (Ne.symm fe.2.1) (Ne.symm fi.2.1) ho, r⟩
  · refine (I.hok b u q).stay (fun c v hc z => k c v ?_ ?_ z) (fun _ z => z) fun _ _ z => z
    · rcases hc with z | z
      · rw [z]; exact (nn b u q).1
      · exact (nn c _ z).1
    · rcases hc with z | z
      · rw [z]; exact (nn b u q).2
      · exact (nn c _ z).2
end
def Ite (K : PySem.W.Frag) (a : Addr) : It :=
  ⟨fun i H => ∃ xs x, SqT K H a xs /\ xs[i]? = some x, fun i H v H' => ∃ T x, v = .ref T /\ H T = none /\ H' = upd H T (.tup [.int i, x]) /\ ∀ xs, SqT K H a xs -> xs[i]? = some x, fun i H => ∃ xs, SqT K H a xs /\ xs.length <= i⟩
theorem turn_enumT {P : Program} {w : World} {K : PySem.W.Frag} {elts : List Expr} {x1 : _} {pos : Pos} (a e it : Addr) : Turn P w K (.Tuple elts x1 pos) (Ite K a) [e, it] e (fun i h => (∃ old, IsEnum h e it i old) /\ h.IsTupleIter it a i) where
  mem := by simp
  obj := fun i h st b hb => by
    have q : b = e \/ b = it := by simpa using hb
    rcases q with rfl | rfl
    · obtain ⟨⟨old, st⟩, _⟩ := st
      exact ⟨_, st, fun v z => by
        have z' : Data.fields _ = Data.cell v := z
        cases z'⟩
    · obtain ⟨_, o, e, c, d⟩ := st
      exact ⟨o, e, fun v z => by rw [d] at z; cases z⟩
  keep := fun i h h' st k => ⟨let ⟨old, z⟩ := st.1; ⟨old, k e (by simp) _ z⟩, st.2.at fun o z => k it (by simp) o z⟩
  item := by
    intro X hP hw hK hc i pins s σ H E I hf st hg
    subst hP hw hK
    obtain ⟨xs, x, hq, hx⟩ := hg
    obtain ⟨its, rv, p, hz⟩ := I.tuple hq
    obtain ⟨u, hu, ru⟩ := rv.get hx
    obtain ⟨⟨old, he⟩, hit⟩ := st
    have p' : s.heap.IsTuple a its.toArray := p
    have fe := hf e (by simp)
    have fi := hf it (by simp)
    have ne : e ≠ it := fun z => by
      subst z
      obtain ⟨o, e1, c, d⟩ := hit
      rw [he] at e1
      cases e1
      have c' : Value.type "enumerate" = Value.type "tuple_iterator" := c
      injection c' with c'
      exact absurd c' (by decide)
    have nae : a ≠ e := fun z => by
      subst z
      obtain ⟨o, e1, c, d⟩ := p'
      rw [he] at e1
      cases e1
      have c' : Value.type "enumerate" = Value.type "tuple" := c
      injection c' with c'
      exact absurd c' (by decide)
    have nai : a ≠ it := fun z => by
      subst z
      obtain ⟨o, e1, c, d⟩ := p'
      obtain ⟨o2, e2, c2, d2⟩ := hit
      rw [e1] at e2
      cases e2
      rw [c] at c2
      injection c2 with c'
      exact absurd c' (by decide)
    have hi : i < its.toArray.size := by
      have : i < its.length := (List.getElem?_eq_some_iff.mp hu).1
      simpa using this
    have D := drawsTuple (prog := X.prog) (w := X.w) (A := X.A.in1) (show X.A.in1.handled = none from I.ok.hd hc) it a nai its.toArray
    refine wpAny_pyNext_enum_itemD D he ⟨hit, p'⟩ hi ne (by simp [ne, Ne.symm nae]) fun y h1 tk hy ho st1 hT hsz hk => ?_
    have ey : y = u := by
      have : its.toArray[i]? = some u := by simpa using hu
      rw [this] at hy
      exact (Option.some.inj hy).symm
    subst ey
    refine ⟨_, rfl, wpAny_letOwnedTupleGo_enum ho fun h2 he2 hs2 => ?_⟩
    have fr : H s.heap.objs.size = none := I.hok.fresh (Nat.le_refl _)
    have I1 : Inv X pins σ (upd H s.heap.objs.size (.tup [.int i, x])) { s with heap := s.heap.push { cls := .type "tuple", data := .seq #[.int i tk, y] }, toks := tk + 1 } :=
      I.laid (o := .tup [.int i, x]) (fun b ob q => Heap.get?_push_of_some _ q) (Nat.le_refl _) ⟨by show 2 <= sizeLine; decide, [.int i tk, y], .cons ⟨tk, rfl⟩ (.cons ru .nil), ⟨_, Heap.get?_push_size _ rfl, rfl, _, rfl⟩⟩
    have lt : ∀ b ∈ [e, it], b < s.heap.objs.size := fun b hb => by
      have q : b = e \/ b = it := by simpa using hb
      rcases q with rfl | rfl
      · exact Heap.lt_size he
      · obtain ⟨o, e1, _⟩ := hit
        exact Heap.lt_size e1
    have f2 : ∀ b ∈ [e, it], FpOk X pins (upd H s.heap.objs.size (.tup [.int i, x])) b := fun b hb => by
      refine ⟨?_, (hf b hb).2⟩
      rw [upd_ne (Nat.ne_of_lt (lt b hb))]
      exact (hf b hb).1
    have I2 : Inv X pins σ (upd H s.heap.objs.size (.tup [.int i, x])) { s with heap := h2, toks := tk + 1 } := by
      refine I1.turned2 (t' := tk + 1) (h' := h2) (fun b o b1 b2 q => ?_) (f2 e (by simp)) (f2 it (by simp))
      refine (hs2.2 b b1).trans ?_
      rcases Heap.get?_push_cases (show (s.heap.push { cls := .type "tuple", data := .seq #[.int i tk, y] }).get? b = some o from q) with ⟨rfl, rfl⟩ | z
      · exact hT
      · exact hk b o b1 b2 z
    refine ⟨.ref s.heap.objs.size, _, I2, rfl, ⟨s.heap.objs.size, x, rfl, fr, rfl, fun ys hy => by rw [I.tuple_inj hy hq]; exact hx⟩, ⟨⟨y, ?_⟩, ?_⟩, fun b hb => (f2 b hb).1⟩
    · have : ((i + 1 : Nat) : Int) = (i : Int) + 1 := by push_cast; rfl
      rw [this]
      exact he2
    · exact st1.1.at fun o z => (hs2.2 it (Ne.symm ne)).trans z
  done := by
    intro X hP hw hK hc i pins s σ H E I hf st hg
    subst hP hw hK
    obtain ⟨xs, hq, hx⟩ := hg
    obtain ⟨its, rv, p, hz⟩ := I.tuple hq
    obtain ⟨⟨old, he⟩, hit⟩ := st
    obtain ⟨f0, f1, f2, f3, f4, f5⟩ := hf it (by simp)
    have p' : s.heap.IsTuple a its.toArray := p
    have hl := rv.length
    have hT : s.TypeIs (.ref e) "enumerate" := ⟨_, he, rfl⟩
    unfold pyNext
    refine wpAny_bind (wpAny_attempt (wpAny_callSpecial?_slot (name := Str.ofString "__next__") hT F.slot_enumerate_next
      (wpAny_call_entry F.slot_enumerate_next hT F.entry_enumerate_next ?_ (F.args_enumerate_next_1 _))))
    show wpAny _ _ (field (.ref e) 2 >>= _) _ _ _
    refine wpAny_bind (wpAny_field he rfl (x := .ref it) rfl ?_)
    refine wpAny_bind (nextOf_tuple_end (show X.A.in1.handled = none from I.ok.hd hc) hit p' (by simp; omega) fun h' x he' hx' => ?_)
    obtain ⟨o, ho, hcl⟩ := hx'
    refine wpAny_bind (wpAny_isInstance (T := "StopIteration") (b := true) ⟨o, ho, hcl⟩ isSubtype_stop ?_)
    exact wpAny_pure ⟨rfl, I.turned (t' := s.toks) (fun b o hb z => he' b o hb z) f0 f1 f3 f4 f5⟩
  self := fun _ _ _ _ _ st h => let ⟨_, z⟩ := st.1; wpAny_pyIter_enum z h
section
variable {X : Cx}
def iEnumT (K : PySem.W.Frag) (tl : TA) : TI := fun σ H R => tl σ H fun vs H1 => ∃ a, vs = [.ref a] /\ (∃ xs, SqT K H1 a xs) /\ R (Ite K a) H1
theorem bt_enumerate : bootBuiltins "enumerate" = some (.type "enumerate") := by decide +kernel
theorem pi_enumT {elts : List Expr} {x1 : _} {tpos : Pos} {l : Expr} {tl : TA} {p pos : Pos} (hg : Gl X "enumerate") (hm : X.mg "enumerate" = none) (hl : PA X [l] tl) (hs : starEach [l] X.env = [(false, eval l X.env)] := by rfl) :
    PI X (.Tuple elts x1 tpos) (.Call (.Name "enumerate" p) [l] [] pos) (iEnumT X.K tl) := by
  intro pins s σ H R I h
  refine Call_ (ld_blt I hg hm bt_enumerate (PyProof.Rows.callWith_type1 (thn (hl pos pins s σ H _ I h) fun us s1 ⟨vs, H1, I1, r1, q1⟩ => ?_) hs rfl))
  obtain ⟨a, e, ⟨xs, hq⟩, q⟩ := q1
  subst e
  cases r1 with
  | cons r rr =>
    cases rr
    cases r
    obtain ⟨its, rv, p, hz⟩ := I1.tuple hq
    refine call_enumerate_tuple (show s1.heap.IsTuple a its.toArray from p) fun h' he hit hsz hk => ?_
    refine wpAny_pyIter_enum he ?_
    refine ⟨s1.heap.objs.size + 1, [s1.heap.objs.size + 1, s1.heap.objs.size], _, _, H1, rfl, I1.kept (t' := s1.toks) hk, turn_enumT a _ s1.heap.objs.size, ⟨⟨_, he⟩, hit⟩, fun b hb => ?_, q⟩
    have e : b = s1.heap.objs.size + 1 \/ b = s1.heap.objs.size := by simpa using hb
    rcases e with rfl | rfl
    · exact I1.fpOk (Nat.le_succ _) (I1.hok.fresh (Nat.le_succ _))
    · exact I1.fpOk (Nat.le_refl _) (I1.hok.fresh (Nat.le_refl _))
end
theorem for_enumT {K : PySem.W.Frag} {a : Addr} {xs : List V} {g : TG} {tb : TS} {D : Ends} {σ : St} {H : Hp} (Pv : Nat -> St -> Hp -> Prop) (h0 : Pv 0 σ H) (hl : ∀ i σ H, i <= xs.length -> Pv i σ H -> SqT K H a xs)
    (hs : ∀ i x σ H T, xs[i]? = some x -> Pv i σ H -> H T = none -> g (.ref T) σ (upd H T (.tup [.int i, x])) fun σ2 H2 => tb { D with nx := Pv (i + 1), ct := Pv (i + 1), bk := D.nx } σ2 H2) (hd : ∀ σ H, Pv xs.length σ H -> D.nx σ H) :
    ∃ W : Nat -> Nat -> St -> Hp -> Prop, (∃ m, W 0 m σ H) /\ ∀ i m σ H, W i m σ H ->
      ((Ite K a).stop i H /\ D.nx σ H) \/ ((Ite K a).go i H /\ ∃ N : St -> Hp -> Prop, (∀ σ' H', N σ' H' -> ∃ m', m' < m /\ W (i + 1) m' σ' H') /\ ∀ x H', (Ite K a).yld i H x H' -> g x σ H' fun σ2 H2 => tb { D with nx := N, ct := N, bk := D.nx } σ2 H2) := by
  refine ⟨fun i m σ H => m = xs.length - i /\ i <= xs.length /\ Pv i σ H, ⟨xs.length, by simp, Nat.zero_le _, h0⟩, ?_⟩
  rintro i m σ H ⟨rfl, hi, p⟩
  have q := hl i σ H hi p
  by_cases hlt : i < xs.length
  · refine .inr ⟨⟨xs, xs[i], q, by simp [hlt]⟩, Pv (i + 1), fun σ' H' p' => ⟨xs.length - (i + 1), by omega, rfl, hlt, p'⟩, fun x H' y => ?_⟩
    obtain ⟨T, x0, rfl, hT, rfl, y⟩ := y
    exact hs i x0 σ _ T (y xs q) p hT
  · have e : i = xs.length := by omega
    subst e
    exact .inl ⟨⟨xs, q, Nat.le_refl _⟩, hd σ H p⟩
end L2
set_option Elab.async false
set_option linter.all false
set_option maxRecDepth 100000
set_option maxHeartbeats 4000000
namespace L2
open PySem PySem.Spec PyProof.Rows
theorem items_ints {acc : Array Value} {n : Nat} (h : ItemsOf (fun i v => ∃ t, v = .int (0 + (i : Int) * 1) t) acc n) : Vals ((List.range n).map fun i : Nat => V.int i) acc.toList := by
  have go : ∀ (n : Nat) (us : List Value), us.length = n -> (∀ (j : Nat) (v : Value), us[j]? = some v -> ∃ t, v = Value.int (0 + (j : Int) * 1) t) -> Vals ((List.range n).map fun i : Nat => V.int i) us := by
    intro n
    induction n with
    | zero =>
      intro us hl _
      cases us with
      | nil => exact .nil
      | cons a r => cases hl
    | succ n ih =>
      intro us hl hv
      have ne : us ≠ [] := fun z => by rw [z] at hl; cases hl
      have e := List.dropLast_concat_getLast ne
      rw [<- e, List.range_succ, List.map_append]
      have hd : us.dropLast.length = n := by rw [List.length_dropLast, hl]; rfl
      refine (ih us.dropLast hd fun j v hj => ?_).append (.cons ?_ .nil)
      · refine hv j v ?_
        have lt := (List.getElem?_eq_some_iff.mp hj).1
        rw [<- e, List.getElem?_append_left lt]
        exact hj
      · obtain ⟨t, ht⟩ := hv n (us.getLast ne) (by rw [List.getLast_eq_getElem, List.getElem?_eq_getElem (by omega)]; simp [hl])
        rw [ht]
        exact ⟨t, by rw [Int.zero_add, Int.mul_one]⟩
  exact go n acc.toList (by rw [Array.length_toList, h.1]) fun j v hj => h.2 j v (by rw [<- Array.getElem?_toList]; exact hj)
section
variable {X : Cx} {a : Expr} {ta : TA} {p p2 pos pos2 : Pos}
end
structure DefMk (P : Program) (w : World) (K : PySem.W.Frag) (mg : Str -> Option Value) (base : Heap) (x : Str) (C : Addr) (k : Nat) (ps : List Str) (sp : Sp) : Prop where
  m : mg x = some (.ref C)
  cl : Cls K C
  ex : ∃ (f : Addr) (fd : FuncData), Mk K C f /\ Binds K fd ps [] /\ FnOk P w K mg base CX0 k f fd ps sp
structure DefMe (P : Program) (w : World) (K : PySem.W.Frag) (mg : Str -> Option Value) (base : Heap) (C : Addr) (m : Str) (k : Nat) (ps : List Str) (sp : Sp) : Prop where
  cl : Cls K C
  ex : ∃ (f : Addr) (fd : FuncData), Meth K C m f /\ Binds K fd ps [] /\ FnOk P w K mg base CX0 k f fd ps sp
end L2
set_option Elab.async false
set_option linter.all false
set_option maxRecDepth 100000
set_option maxHeartbeats 4000000
namespace L2
open PySem PySem.Spec PyProof.Rows
section
variable {prog : Program} {w : World} {A : Around} {E : Value -> Shared -> Prop} {s : Shared}
structure ZipFar (z TI TO i1 i2 : Addr) (fp1 fp2 : List Addr) : Prop where
  TIz : TI ≠ z
  TOz : TO ≠ z
  TITO : TI ≠ TO
  i1z : i1 ≠ z
  i2z : i2 ≠ z
  TIi1 : TI ≠ i1
  TIi2 : TI ≠ i2
  TOi1 : TO ≠ i1
  TOi2 : TO ≠ i2
  i12 : i1 ≠ i2
  z1 : z ∉ fp1
  TO1 : TO ∉ fp1
  i21 : i2 ∉ fp1
  z2 : z ∉ fp2
  TO2 : TO ∉ fp2
  i12' : i1 ∉ fp2
variable {z TI TO i1 i2 : Addr} {fp1 fp2 : List Addr} {n1 n2 k : Nat} {P1 P2 : Nat -> Value -> Prop} {St1 St2 : Nat -> Heap -> Prop} {a b : Value}
end
end L2
set_option Elab.async false
set_option linter.all false
set_option maxRecDepth 100000
set_option maxHeartbeats 4000000
namespace L2
open PySem PySem.Spec PyProof.Rows
section
variable {X : Cx} {pins : List (Addr × Obj)} {σ : St} {H : Hp} {s : Shared} {h' : Heap}
end
section
variable {X : Cx}
end
end L2
set_option Elab.async false
set_option linter.all false
set_option maxRecDepth 100000
set_option maxHeartbeats 4000000
namespace L2
open PySem PySem.Spec PyProof.Rows
inductive EqN (K : PySem.W.Frag) (H : Hp) : V -> V -> Prop where
  | non : EqN K H .non .non
  | tup {a b : Addr} {ns : List Int} (ha : SqT K H a (ns.map V.int)) (hb : SqT K H b (ns.map V.int)) : EqN K H (.ref a) (.ref b)
section
variable {X : Cx} {pins : List (Addr × Obj)} {σ : St} {H : Hp} {s : Shared}
end
end L2
set_option Elab.async false
set_option linter.all false
set_option maxRecDepth 100000
set_option maxHeartbeats 4000000
namespace L2
open PySem PySem.Spec PyProof.Rows
section
variable {X : Cx}
end
end L2
set_option Elab.async false
set_option linter.all false
set_option maxRecDepth 100000
set_option maxHeartbeats 4000000
namespace L2
open PySem PySem.Spec PyProof.Rows
end L2
set_option Elab.async false
set_option linter.all false
set_option maxRecDepth 100000
namespace L2
open PySem PySem.Spec PyProof.Rows
section
variable {X : Cx} {pins : List (Addr × Obj)} {σ : St} {H H' : Hp} {s : Shared} {h' : Heap}
end
theorem key_rel {k : Key} {v : Value} (h : keyIs k v = true) : RelV (kV k) v := by
  rcases keyIs_shape h with ⟨n, t, rfl, rfl⟩ | ⟨x, t, rfl, rfl⟩
  · exact ⟨t, rfl⟩
  · exact ⟨t, rfl⟩
section
variable {X : Cx}
abbrev ItemsAt (v d : Addr) : HO := .ext fun h => h.IsItemsView v d
def rItems : V -> List V -> Hp -> VK -> Prop := fun x vs H Q => ∃ d kvs, x = .ref d /\ vs = [] /\ H d = some (.dK kvs) /\ ∀ v, H v = none -> Q (.ref v) (upd H v (ItemsAt v d))
theorem mt_items : MtM X "dict.items" rItems := by
  intro pins s σ H x vs v us Q I rx rv h
  obtain ⟨d, kvs, rfl, rfl, hd, q⟩ := h
  cases rx
  have hus := rv.zero
  subst hus
  obtain ⟨z, lo, vs, kv, dof⟩ := (show ObjOk X.prog X.w H s.heap d (.dK kvs) from I.hok d _ hd)
  refine call_meetsIn PySem.F.slot_dict_items dof.typeIs PySem.F.entry_dict_items (PySem.F.args_dict_items_1 _) (meets_dict_items (mixKind X.prog X.w) d lo) ⟨⟨vs, dof⟩, ?_⟩
  refine ⟨.ref _, _, I.laid (o := ItemsAt s.heap.objs.size d) (t' := s.toks) (fun b o e => Heap.get?_push_of_some _ e) (Nat.le_refl _) ?_, rfl, q _ (I.hok.fresh (Nat.le_refl _))⟩
  exact ⟨⟨_, Heap.get?_push_size _ rfl, rfl, rfl⟩, ⟨_, Heap.get?_push_size _ rfl⟩, fun h1 h2 ⟨o, ho, x⟩ kp => ⟨o, kp o ho, x⟩⟩
end
end L2
set_option Elab.async false
set_option linter.all false
set_option maxRecDepth 100000
namespace L2
open PySem PySem.Spec PyProof.Rows
section
variable {X : Cx}
end
end L2
set_option Elab.async false
set_option linter.all false
set_option maxRecDepth 100000
namespace L2
open PySem PySem.Spec PyProof.Rows
theorem pick_rev (its : List Value) : (slicePick its.toArray none none (some (-1))) = its.reverse.toArray := by
  unfold slicePick
  congr 1
  have e : sliceBounds none none (some (-1)) its.toArray.size = ((its.length : Int) - 1, -1, -1) := by
    unfold sliceBounds
    simp
  rw [e]
  unfold sliceRange
  have c : (if (-1 : Int) > 0 then (if (its.length : Int) - 1 < -1 then (-1 - ((its.length : Int) - 1) + -1 - 1) / -1 else 0) else (if (its.length : Int) - 1 > -1 then ((its.length : Int) - 1 - -1 - -1 - 1) / (- -1) else 0)).toNat = its.length := by
    rw [if_neg (by decide)]
    by_cases h : its.length = 0
    · rw [h]; decide
    · rw [if_pos (by omega)]
      have : ((its.length : Int) - 1 - -1 - -1 - 1) / (- -1) = its.length := by
        rw [show (- -1 : Int) = 1 from rfl, Int.ediv_one]
        omega
      rw [this]
      rfl
  show ((List.range _).map _).filterMap _ = _
  rw [c, List.filterMap_map]
  refine List.ext_getElem? fun i => ?_
  have go : ∀ n, n <= its.length -> ((List.range n).filterMap ((fun x => its.toArray[x]?) ∘ fun (k : Nat) => ((its.length : Int) - 1 + -1 * (k : Int)).toNat)) = (its.reverse.take n) := by
    intro n
    induction n with
    | zero => intro _; rfl
    | succ n ih =>
      intro hn
      have hn' : n < its.length := hn
      rw [List.range_succ, List.filterMap_append, ih (Nat.le_of_lt hn'), List.take_add_one, List.getElem?_reverse hn']
      congr 1
      have e1 : ((its.length : Int) - 1 + -1 * (n : Int)).toNat = its.length - 1 - n := by omega
      have e2 : its.length - 1 - n < its.length := by omega
      have e3 : ((fun x => its.toArray[x]?) ∘ fun (k : Nat) => ((its.length : Int) - 1 + -1 * (k : Int)).toNat) n = some its[its.length - 1 - n] := by
        show its.toArray[((its.length : Int) - 1 + -1 * (n : Int)).toNat]? = _
        rw [e1]
        simp [e2]
      rw [List.filterMap_cons_some e3, List.filterMap_nil, List.getElem?_eq_getElem e2]
      rfl
  rw [go _ (Nat.le_refl _), <- List.length_reverse, List.take_length]
section
variable {X : Cx}
def rSl3L (K : PySem.W.Frag) : V -> Option Int -> Option Int -> Option Int -> Hp -> VK -> Prop := fun x lo hi st H Q => ∃ a xs, x = .ref a /\ lo = none /\ hi = none /\ st = some (-1) /\ SqL K H a xs /\ ∀ p, H p = none -> Q (.ref p) (upd H p (.lst xs.reverse))
theorem sl3_list : SlR3 X (rSl3L X.K) := by
  intro pins s σ H x v vl vu vc lo hi st sl Q I rx hs pl pu pc h
  obtain ⟨a, xs, rfl, rfl, rfl, rfl, hx, q⟩ := h
  cases rx
  obtain ⟨its, r, ht, hz⟩ := I.list hx
  have hlen := r.length
  refine ⟨"list", _, slot_list_getitem.lookup, ht.isList.typeIs, ?_⟩
  refine wpAny_getItem_list_slice ht.isList hs pl pu pc (by simp) ?_ (by rw [List.size_toArray] <;> omega)
  rw [pick_rev]
  refine ⟨.ref s.heap.objs.size, _, I.laid (t' := s.toks) (o := .lst xs.reverse) (fun b ob q => Heap.get?_push_of_some _ q) (Nat.le_refl _) ?_, rfl, q _ (I.hok.fresh (Nat.le_refl _))⟩
  exact ⟨by rw [List.length_reverse]; exact hz, its.reverse, 0, r.rev, Heap.get?_push_size _ rfl⟩
end
end L2
namespace PySem
open PyProof.Rows
namespace F
theorem owner_rev : Manifest.owners.lookup (String.ofList ['d', 'e', 's', 'r', 'e', 'v', 'e', 'r'].reverse) = some Manifest.sig_reversed := by kernel_rfl
theorem slot_rev_next : Slot "reversed" "__next__" "reversed.__next__" :=
  .of (owner := "reversed") (n := "__next__") (by rw [typeLookup_type, builtinLookup_eq_fast]; kernel_rfl) (by decide +kernel) (by decide +kernel) (by decide +kernel)
    (by first | exact .inl (by decide +kernel) | exact .inr (by decide +kernel)) (by rw [isSubtype_type]; kernel_rfl)
theorem entry_rev_next : entryFor table "reversed.__next__" = some Builtin.«reversed.__next__» := entryFor_of_tree (by kernel_rfl)
theorem args_rev_next_1 (a : Value) : argsOk "reversed.__next__" ⟨[a], []⟩ := by
  unfold argsOk; rw [signature?_of (id := "reversed.__next__") (n := ['_', '_', 't', 'x', 'e', 'n', '_', '_']) (o := ['d', 'e', 's', 'r', 'e', 'v', 'e', 'r']) (by kernel_rfl) owner_rev]; kernel_rfl
theorem slot_rev_iter : Slot "reversed" "__iter__" "reversed.__iter__" :=
  .of (owner := "reversed") (n := "__iter__") (by rw [typeLookup_type, builtinLookup_eq_fast]; kernel_rfl) (by decide +kernel) (by decide +kernel) (by decide +kernel)
    (by first | exact .inl (by decide +kernel) | exact .inr (by decide +kernel)) (by rw [isSubtype_type]; kernel_rfl)
theorem args_rev_iter_1 (a : Value) : argsOk "reversed.__iter__" ⟨[a], []⟩ := by
  unfold argsOk; rw [signature?_of (id := "reversed.__iter__") (n := ['_', '_', 'r', 'e', 't', 'i', '_', '_']) (o := ['d', 'e', 's', 'r', 'e', 'v', 'e', 'r']) (by kernel_rfl) owner_rev]; kernel_rfl
theorem entry_rev_iter : entryFor table "reversed.__iter__" = some Builtin.«dict_keyiterator.__iter__» :=
  entryFor_alias (id' := "dict_keyiterator.__iter__") (by kernel_rfl) (by first | rfl | decide +kernel | (unfold String.splitOn; simp +decide [String.splitOnAux])) (by decide +kernel) (by kernel_rfl)
theorem no_tuple_reversed : typeLookup (.type "tuple") "__reversed__" = pure none := by rw [typeLookup_type, builtinLookup_eq_fast]; kernel_rfl
end F
section
variable {prog : Program} {w : World} {A : Around} {E : Value -> Shared -> Prop} {s : Shared}
def revTObj (l : Addr) (i : Int) : Obj := { cls := .type "reversed", data := .fields #[.ref l, rawInt i] }
def Heap.IsRevT (h : Heap) (a l : Addr) (i : Int) : Prop := ∃ o, h.get? a = some o /\ o.cls = .type "reversed" /\ o.data = .fields #[.ref l, rawInt i]
theorem Heap.IsRevT.typeIs {a l : Addr} {i : Int} (x : s.heap.IsRevT a l i) : s.TypeIs (.ref a) "reversed" := let ⟨o, ho, hc, _⟩ := x; ⟨o, ho, hc⟩
theorem Heap.IsRevT.at {h h' : Heap} {a l : Addr} {i : Int} (x : h.IsRevT a l i) (e : ∀ o, h.get? a = some o -> h'.get? a = some o) : h'.IsRevT a l i := let ⟨o, ho, r⟩ := x; ⟨o, e _ ho, r⟩
theorem pyNext_revT_item {it t : Addr} {i : Nat} {items : Array Value} {x : Value} {Q : Option Value -> Shared -> Prop} (hit : s.heap.IsRevT it t (i : Int)) (ht : IsTup s.heap t items) (hx : items[i]? = some x) (hz : items.size < 2 ^ 60)
    (hQ : ∀ h' tk, h'.IsRevT it t ((i : Int) - 1) -> Heap.SameBut it s.heap h' -> Q (some x) { s with heap := h', toks := tk }) : wpAny (model prog w) A (pyNext (.ref it)) Q E s := by
  obtain ⟨o, ho, hc, hd⟩ := id hit
  have hi : i < items.size := by
    rcases Nat.lt_or_ge i items.size with h | h
    · exact h
    · simp [Array.getElem?_eq_none h] at hx
  unfold pyNext
  refine wpAny_bind (wpAny_attempt (wpAny_callSpecial?_slot (name := Str.ofString "__next__") hit.typeIs F.slot_rev_next
    (wpAny_call_entry F.slot_rev_next hit.typeIs F.entry_rev_next ?_ (F.args_rev_next_1 _))))
  unfold Builtin.«reversed.__next__»
  refine wpAny_bind (wpAny_of_eq (a := (Value.ref it, [])) rfl ?_)
  try dsimp only
  refine wpAny_bind (wpAny_field ho hd (x := .ref t) rfl ?_)
  refine wpAny_bind (wpAny_field ho hd (x := rawInt (i : Int)) rfl ?_)
  show wpAny _ _ (if (i : Int) < 0 then _ else _) _ _ s
  rw [if_neg (by omega)]
  refine wpAny_bind (wpAny_specialOf ht.typeIs slot_tuple_getitem.lookup ?_)
  simp only [Option.isNone_some, Bool.false_eq_true, if_false]
  refine wpAny_bind (wpAny_mkInt ?_)
  refine wpAny_bind (wpAny_attempt (getItem_tuple (j := i) (x := x) (s := { s with toks := s.toks + 1 }) ht (by omega) (by omega) (by unfold seqIndex?; simp; omega) hx ?_))
  try dsimp only
  refine wpAny_bind (wpAny_field (s := { s with toks := s.toks + 1 }) ho hd (x := rawInt (i : Int)) rfl ?_)
  show wpAny _ _ (setField (.ref it) 1 (rawInt ((i : Int) - 1)) >>= _) _ _ _
  refine wpAny_bind (wpAny_setField (s := { s with toks := s.toks + 1 }) ho hd (by simp) ?_)
  refine wpAny_pure ⟨x, rfl, wpAny_pure (hQ _ _ ?_ (Heap.SameBut.update ..))⟩
  exact ⟨_, Heap.get?_update_self _ ho (Obj.isFreed_of_fields (Obj.data_mapFields hd _)), (Obj.cls_mapFields ..).trans hc, by
    rw [Obj.data_mapFields hd]; simp⟩
theorem pyNext_revT_end {it t : Addr} {Q : Option Value -> Shared -> Prop} (hh : A.handled = none) (hit : s.heap.IsRevT it t (-1))
    (hQ : ∀ h', Heap.ExtBut it s.heap h' -> Q none { s with heap := h' }) : wpAny (model prog w) A (pyNext (.ref it)) Q E s := by
  obtain ⟨o, ho, hc, hd⟩ := id hit
  unfold pyNext
  refine wpAny_bind (wpAny_attempt (wpAny_callSpecial?_slot (name := Str.ofString "__next__") hit.typeIs F.slot_rev_next
    (wpAny_call_entry F.slot_rev_next hit.typeIs F.entry_rev_next ?_ (F.args_rev_next_1 _))))
  unfold Builtin.«reversed.__next__»
  refine wpAny_bind (wpAny_of_eq (a := (Value.ref it, [])) rfl ?_)
  try dsimp only
  refine wpAny_bind (wpAny_field ho hd (x := .ref t) rfl ?_)
  refine wpAny_bind (wpAny_field ho hd (x := rawInt (-1)) rfl ?_)
  show wpAny _ _ (if (-1 : Int) < 0 then _ else _) _ _ s
  rw [if_pos (by decide)]
  refine wpAny_bind (wpAny_rule ?_)
  show wpAny _ _ ((setField (.ref it) 1 (rawInt (-1)) >>= fun _ => setField (.ref it) 0 .none) >>= _) _ _ s
  refine wpAny_bind (wpAny_bind (wpAny_setField ho hd (by simp) ?_))
  have g1 := Heap.get?_update_self (h := s.heap) (Obj.mapFields fun vs => vs.set! 1 (rawInt (-1))) ho (Obj.isFreed_of_fields (Obj.data_mapFields hd _))
  have d1 := Obj.data_mapFields hd (fun vs => vs.set! 1 (rawInt (-1)))
  refine wpAny_setField g1 d1 (by simp) ?_
  refine wpAny_bind ?_
  show wpAny _ _ (newExc (.type "StopIteration") [] >>= _) _ _ _
  refine wpAny_bind ?_
  simp only [newExc, newTuple]
  refine wpAny_bind (wpAny_newObj_type ?_ (by size_fits))
  refine wpAny_bind (m := firstArgMember _ _) (wpAny_of_eq (a := Value.none) (by first | rfl | (simp only [firstArgMember]; rfl)) ?_)
  refine wpAny_newObj_type ?_ (by size_fits)
  simp only [raiseNew]
  refine wpAny_bind (wpAny_handled ?_)
  first | rw [show A.in1.handled = none from hh] | rw [hh]
  refine wpAny_bind (wpAny_pure (wpAny_throw ?_))
  refine wpAny_bind (wpAny_isInstance (T := "StopIteration") (b := true) ⟨_, Heap.get?_push_size _ rfl, rfl⟩ isSubtype_stop ?_)
  refine wpAny_pure (hQ _ ?_)
  refine Heap.ExtBut.push (Heap.ExtBut.push ?_ _) _
  intro b ob hb e
  exact (Heap.SameBut.update ..).extBut b ob hb ((Heap.SameBut.update ..).extBut b ob hb e)
theorem pyIter_revT {it t : Addr} {i : Int} {Q : Value -> Shared -> Prop} (hit : s.heap.IsRevT it t i) (h : Q (.ref it) s) : wpAny (model prog w) A (pyIter (.ref it)) Q E s := by
  refine wpAny_pyIter_slot hit.typeIs F.slot_rev_iter (wpAny_call_entry F.slot_rev_iter hit.typeIs F.entry_rev_iter ?_ (F.args_rev_iter_1 _))
  show wpAny _ _ (ret (.ref it)) _ _ s
  exact wpAny_pure ⟨_, rfl, "reversed", _, hit.typeIs, F.slot_rev_next.lookup, h⟩
theorem slot_rev_init : Slot "reversed" "__init__" "object.__init__" :=
  .of (owner := "object") (n := "__init__") (by rw [typeLookup_type, builtinLookup_eq_fast]; kernel_rfl) (by decide +kernel) (by decide +kernel) (by decide +kernel)
    (by first | exact .inl (by decide +kernel) | exact .inr (by decide +kernel)) (by rw [isSubtype_type]; kernel_rfl)
theorem mro_rev : mroOf (.type "reversed") = pure [.type "reversed", .type "object"] := by rw [mroOf_type]; kernel_rfl
theorem lookup_rev_new : typeLookup (.type "reversed") "__new__" = pure (some (.builtin "reversed.__new__")) := by rw [typeLookup_type, builtinLookup_eq_fast]; kernel_rfl
theorem called_rev : TypeCalled "reversed" "reversed.__new__" "object.__init__" :=
  ⟨by decide +kernel, by decide +kernel, ⟨_, _, mro_rev⟩, madeBy_type mro_rev lookup_rev_new (by decide +kernel), by decide +kernel, by rw [isSubtype_type]; kernel_rfl, slot_rev_init⟩
theorem sub_rev_self : isSubtype (.type "reversed") (.type "reversed") = pure true := by rw [isSubtype_type]; kernel_rfl
theorem newClass_rev (a : Value) : Builtin.SmallTypes.newClass "reversed" ⟨[.type "reversed", a], []⟩ = pure (.type "reversed", [a]) := by
  unfold Builtin.SmallTypes.newClass
  simp only [isType, sub_rev_self, pure_bind, Bool.not_true, Bool.false_eq_true, if_false]
theorem meets_reversed_newT (t : Addr) (items : Array Value) : MeetsIn prog w (Builtin.«reversed.__new__» ⟨[.type "reversed", .ref t], []⟩) (fun A R s => IsTup s.heap t items /\ (items.size : Int) < 2 ^ 63 /\
    ∀ tk, R (.ok (.ret (.ref s.heap.objs.size))) { s with heap := s.heap.push (revTObj t ((items.size : Int) - 1)), toks := tk }) :=
  .of_wp fun A R s ⟨ht, hfit, h⟩ => by
    unfold Builtin.«reversed.__new__»
    refine wpAny_bind (wpAny_of_eq (newClass_rev _) ?_)
    try dsimp only
    refine wpAny_bind (wpAny_of_eq (a := ()) (by first | rfl | kernel_rfl) ?_)
    refine wpAny_bind (wpAny_of_eq (a := ()) (by first | rfl | kernel_rfl) ?_)
    try dsimp only
    refine wpAny_bind (wpAny_specialOf ht.typeIs F.no_tuple_reversed ?_)
    try dsimp only
    refine wpAny_bind ?_
    show wpAny _ _ (isInstance (.ref t) (.type "dict") >>= _) _ _ s
    refine wpAny_bind (wpAny_isInstance ht.typeIs F.sub_tuple_dict ?_)
    simp only [Bool.false_eq_true, if_false]
    refine wpAny_bind (wpAny_specialOf ht.typeIs slot_tuple_getitem.lookup ?_)
    try dsimp only
    rw [if_pos (by decide)]
    refine wpAny_pure ?_
    simp only [Bool.not_true, Bool.false_eq_true, if_false]
    refine wpAny_bind (len_tuple ht hfit ?_)
    refine wpAny_bind (wpAny_of_eq (a := some (items.size : Int)) rfl ?_)
    try dsimp only
    show wpAny _ _ (newObj (.type "reversed") (.fields #[.ref t, rawInt ((items.size : Int) - 1)]) >>= _) _ _ _
    exact wpAny_bind (wpAny_newObj_type (wpAny_pure ⟨_, rfl, h _⟩))
theorem typeCall_rev_1 (a : Value) : checkTypeCall "reversed" ⟨[a], []⟩ = pure () := by kernel_rfl
theorem newCall_rev_1 (a : Value) : checkBuiltinCall "reversed.__new__" ⟨[.type "reversed", a], []⟩ = pure () := by kernel_rfl
theorem entry_rev_new : entryFor table "reversed.__new__" = some Builtin.«reversed.__new__» := entryFor_of_tree (by kernel_rfl)
theorem call_reversed_tuple {t : Addr} {items : Array Value} {Q : Value -> Shared -> Prop} (ht : IsTup s.heap t items) (hfit : (items.size : Int) < 2 ^ 63)
    (h : ∀ tk, Q (.ref s.heap.objs.size) { s with heap := s.heap.push (revTObj t ((items.size : Int) - 1)), toks := tk }) : wpAny (model prog w) A (call (.type "reversed") [.ref t]) Q E s :=
  callType_newIn called_rev (by decide) (typeCall_rev_1 _) (newCall_rev_1 _) (fun obj => F.args_object_init_2 obj _) entry_rev_new (meets_reversed_newT t items) ⟨ht, hfit, fun tk => ⟨⟨_, Heap.get?_push_size _ rfl, rfl⟩, h tk⟩⟩
end
end PySem
namespace L2
open PySem PySem.Spec PyProof.Rows
def Itvt (K : PySem.W.Frag) (a : Addr) (n : Nat) : It :=
  ⟨fun i H => i < n /\ ∃ xs, SqT K H a xs /\ xs.length = n, fun i H x H' => H' = H /\ ∀ xs, SqT K H a xs -> xs[n - 1 - i]? = some x, fun i H => i = n⟩
theorem turn_revT {P : Program} {w : World} {K : PySem.W.Frag} {tg : Expr} (a it : Addr) (n : Nat) : Turn P w K tg (Itvt K a n) [it] it (fun i h => i <= n /\ PySem.Heap.IsRevT h it a ((n : Int) - 1 - (i : Int))) where
  mem := by simp
  obj := fun i h st b hb => by
    have e : b = it := by simpa using hb
    subst e
    obtain ⟨_, o, e, c, d⟩ := st
    exact ⟨o, e, fun v z => by rw [d] at z; cases z⟩
  keep := fun i h h' st k => ⟨st.1, st.2.at fun o e => k it (by simp) o e⟩
  item := by
    intro X hP hw hK hc i pins s σ H E I hf st hg
    subst hP hw hK
    obtain ⟨hi, xs, hq, hn⟩ := hg
    obtain ⟨its, rv, p, hz⟩ := I.tuple hq
    have hj : n - 1 - i < xs.length := by omega
    obtain ⟨u, hu, ru⟩ := rv.get (i := n - 1 - i) (x := xs[n - 1 - i]) (by simp [hj])
    obtain ⟨f0, f1, f2, f3, f4, f5⟩ := hf it (by simp)
    have e : (n : Int) - 1 - (i : Int) = ((n - 1 - i : Nat) : Int) := by omega
    have st2 := st.2
    rw [e] at st2
    have hzz : its.toArray.size < 2 ^ 60 := by
      rw [List.size_toArray, <- rv.length]
      exact Nat.lt_of_le_of_lt hz (by decide)
    refine pyNext_revT_item st2 p (x := u) (by simpa using hu) hzz fun h' tk st' sb => ?_
    have I1 : Inv X pins σ H { s with heap := h', toks := tk } := I.turned (t' := tk) (fun b o hb e => (sb.2 b hb).trans e) f0 f1 f3 f4 f5
    obtain ⟨o, eo, c, d⟩ := id st'
    refine ⟨u, rfl, go_of (s := { s with heap := h', toks := tk }) eo c d (by decide) ⟨xs[n - 1 - i], H, I1, ru, ⟨rfl, fun ys hy => by rw [I.tuple_inj hy hq]; simp [hj]⟩, ⟨by omega, ?_⟩, fun b hb => (hf b hb).1⟩⟩
    have e2 : (n : Int) - 1 - ((i + 1 : Nat) : Int) = ((n - 1 - i : Nat) : Int) - 1 := by omega
    rw [e2]
    exact st'
  done := by
    intro X hP hw hK hc i pins s σ H E I hf st hg
    subst hP hw hK
    have hg' : i = n := hg
    obtain ⟨f0, f1, f2, f3, f4, f5⟩ := hf it (by simp)
    have e : (n : Int) - 1 - (i : Int) = -1 := by omega
    have st2 := st.2
    rw [e] at st2
    exact pyNext_revT_end (I.ok.hd hc) st2 fun h' eb => ⟨rfl, I.turned (t' := s.toks) (fun b o hb e => eb b o hb e) f0 f1 f3 f4 f5⟩
  self := fun _ _ _ _ _ st h => pyIter_revT st.2 h
section
variable {X : Cx} {tg : Expr}
def iRevT (K : PySem.W.Frag) (ta : TA) : TI := fun σ H R => ta σ H fun vs H1 => ∃ a xs, vs = [.ref a] /\ SqT K H1 a xs /\ R (Itvt K a xs.length) H1
theorem pi_revT {a : Expr} {ta : TA} {p pos : Pos} (hg : Gl X "reversed") (hm : X.mg "reversed" = none) (ha : PA X [a] ta) (hs : starEach [a] X.env = [(false, eval a X.env)] := by rfl) : PI X tg (.Call (.Name "reversed" p) [a] [] pos) (iRevT X.K ta) := by
  intro pins s σ H R I h
  refine Call_ (ld_blt I hg hm bt_reversed (PyProof.Rows.callWith_type1 (thn (ha pos pins s σ H _ I h) fun us s1 ⟨vs, H1, I1, r1, q1⟩ => ?_) hs rfl))
  obtain ⟨l, xs, e, hq, q⟩ := q1
  subst e
  cases r1 with
  | cons r rr =>
    cases rr
    cases r
    obtain ⟨its, rv, pl, hz⟩ := I1.tuple hq
    have hlen := rv.length
    have hfit : (its.toArray.size : Int) < 2 ^ 63 := by
      have : its.toArray.size <= sizeLine := by rw [List.size_toArray, <- hlen]; exact hz
      have h2 : (sizeLine : Int) < 2 ^ 63 := by decide
      omega
    refine call_reversed_tuple pl hfit fun tk => ?_
    have I2 : Inv X pins σ H1 { s1 with heap := s1.heap.push (revTObj l ((its.toArray.size : Int) - 1)), toks := tk } := I1.kept (t' := tk) fun b o e => Heap.get?_push_of_some _ e
    have hit : PySem.Heap.IsRevT (s1.heap.push (revTObj l ((its.toArray.size : Int) - 1))) s1.heap.objs.size l ((xs.length : Int) - 1 - ((0 : Nat) : Int)) := by
      refine ⟨_, Heap.get?_push_size _ rfl, rfl, ?_⟩
      have e : ((its.toArray.size : Int) - 1) = (xs.length : Int) - 1 - ((0 : Nat) : Int) := by rw [List.size_toArray]; omega
      rw [<- e]
      rfl
    refine pyIter_revT (s := { s1 with heap := s1.heap.push (revTObj l ((its.toArray.size : Int) - 1)), toks := tk }) hit ?_
    refine ⟨s1.heap.objs.size, [s1.heap.objs.size], _, _, H1, rfl, I2, turn_revT l _ xs.length, ⟨Nat.zero_le _, hit⟩, fun b hb => ?_, q⟩
    have e : b = s1.heap.objs.size := by simpa using hb
    subst e
    exact I1.fpOk (Nat.le_refl _) (I1.hok.fresh (Nat.le_refl _))
end
theorem for_revT {K : PySem.W.Frag} {a : Addr} {xs : List V} {g : TG} {tb : TS} {D : Ends} {σ : St} {H : Hp} (Pv : Nat -> St -> Hp -> Prop) (h0 : Pv 0 σ H) (hl : ∀ i σ H, i <= xs.length -> Pv i σ H -> SqT K H a xs)
    (hs : ∀ i x σ H, i < xs.length -> xs[xs.length - 1 - i]? = some x -> Pv i σ H -> g x σ H fun σ2 H2 => tb { D with nx := Pv (i + 1), ct := Pv (i + 1), bk := D.nx } σ2 H2) (hd : ∀ σ H, Pv xs.length σ H -> D.nx σ H) :
    ∃ W : Nat -> Nat -> St -> Hp -> Prop, (∃ m, W 0 m σ H) /\ ∀ i m σ H, W i m σ H ->
      ((Itvt K a xs.length).stop i H /\ D.nx σ H) \/ ((Itvt K a xs.length).go i H /\ ∃ N : St -> Hp -> Prop, (∀ σ' H', N σ' H' -> ∃ m', m' < m /\ W (i + 1) m' σ' H') /\ ∀ x H', (Itvt K a xs.length).yld i H x H' -> g x σ H' fun σ2 H2 => tb { D with nx := N, ct := N, bk := D.nx } σ2 H2) := by
  refine ⟨fun i m σ H => m = xs.length - i /\ i <= xs.length /\ Pv i σ H, ⟨xs.length, by simp, Nat.zero_le _, h0⟩, ?_⟩
  rintro i m σ H ⟨rfl, hi, p⟩
  have q := hl i σ H hi p
  by_cases hlt : i < xs.length
  · refine .inr ⟨⟨hlt, xs, q, rfl⟩, Pv (i + 1), fun σ' H' p' => ⟨xs.length - (i + 1), by omega, rfl, hlt, p'⟩, fun x H' y => ?_⟩
    obtain ⟨e, y⟩ := y
    subst e
    exact hs i x σ _ hlt (y xs q) p
  · have e : i = xs.length := by omega
    subst e
    exact .inl ⟨rfl, hd σ H p⟩
end L2
set_option Elab.async false
set_option linter.all false
set_option maxRecDepth 100000
namespace L2
open PySem PySem.Spec PyProof.Rows
abbrev Rise (xs : Array Nat) : Prop := xs.toList.Pairwise (· < ·)
theorem Rise.lt {xs : Array Nat} (r : Rise xs) {i j : Nat} (hi : i < j) (hj : j < xs.size) : xs[i] < xs[j] := by
  have := List.pairwise_iff_getElem.mp r i j (by simpa using Nat.lt_trans hi hj) (by simpa using hj) hi
  simpa using this
theorem below_go {xs : Array Nat} {j : Nat} (r : Rise xs) : ∀ (fuel lo hi : Nat), hi - lo <= fuel -> lo <= hi -> hi <= xs.size -> (∀ i (h : i < xs.size), i < lo -> xs[i] < j) -> (∀ i (h : i < xs.size), hi <= i -> j <= xs[i]) ->
    (SetTable.below.go xs j fuel lo hi <= xs.size /\ (∀ i (h : i < xs.size), i < SetTable.below.go xs j fuel lo hi -> xs[i] < j) /\ ∀ i (h : i < xs.size), SetTable.below.go xs j fuel lo hi <= i -> j <= xs[i])
  | 0, lo, hi, hf, hl, hs, h1, h2 => by
    have e : lo = hi := by omega
    subst e
    exact ⟨hs, h1, h2⟩
  | fuel + 1, lo, hi, hf, hl, hs, h1, h2 => by
    unfold SetTable.below.go
    by_cases c : lo < hi
    · rw [if_pos c]
      dsimp only
      have hm : (lo + hi) / 2 < xs.size := by omega
      have eg : xs.getD ((lo + hi) / 2) j = xs[(lo + hi) / 2] := by simp [Array.getD, hm]
      by_cases d : xs.getD ((lo + hi) / 2) j < j
      · rw [if_pos d]
        refine below_go r fuel _ _ (by omega) (by omega) hs (fun i h hi' => ?_) h2
        rcases Nat.lt_or_ge i ((lo + hi) / 2) with z | z
        · exact Nat.lt_trans (r.lt z hm) (by rw [eg] at d; exact d)
        · have e : i = (lo + hi) / 2 := by omega
          subst e
          rw [eg] at d
          exact d
      · rw [if_neg d]
        refine below_go r fuel _ _ (by omega) (by omega) (by omega) h1 (fun i h hi' => ?_)
        rw [eg] at d
        rcases Nat.lt_or_ge ((lo + hi) / 2) i with z | z
        · exact Nat.le_trans (Nat.le_of_not_lt d) (Nat.le_of_lt (r.lt z h))
        · have e : i = (lo + hi) / 2 := by omega
          subst e
          exact Nat.le_of_not_lt d
    · rw [if_neg c]
      have e : lo = hi := by omega
      subst e
      exact ⟨hs, h1, h2⟩
theorem below_is {xs : Array Nat} (r : Rise xs) (j : Nat) : SetTable.below xs j <= xs.size /\ (∀ i (h : i < xs.size), i < SetTable.below xs j -> xs[i] < j) /\ ∀ i (h : i < xs.size), SetTable.below xs j <= i -> j <= xs[i] :=
  below_go r xs.size 0 xs.size (by omega) (Nat.zero_le _) (Nat.le_refl _) (fun i h z => by omega) (fun i h z => by omega)
theorem below_zero {xs : Array Nat} (r : Rise xs) : SetTable.below xs 0 = 0 := by
  obtain ⟨h0, h1, _⟩ := below_is r 0
  rcases Nat.eq_zero_or_pos (SetTable.below xs 0) with z | z
  · exact z
  · exact absurd (h1 0 (Nat.lt_of_lt_of_le z h0) z) (Nat.not_lt_zero _)
theorem below_next {xs : Array Nat} (r : Rise xs) {i : Nat} (hi : i < xs.size) : SetTable.below xs (xs[i] + 1) = i + 1 := by
  obtain ⟨h0, h1, h2⟩ := below_is r (xs[i] + 1)
  rcases Nat.lt_trichotomy (SetTable.below xs (xs[i] + 1)) (i + 1) with z | z | z
  · have := h2 i hi (by omega)
    omega
  · exact z
  · have hi2 : i + 1 < xs.size := by omega
    have a1 := h1 (i + 1) hi2 z
    have a2 : xs[i] < xs[i + 1] := r.lt (Nat.lt_succ_self i) hi2
    omega
theorem toList_insertAt {α : Type} (xs : Array α) (p : Nat) (x : α) : (SetTable.insertAt xs p x).toList = xs.toList.take p ++ x :: xs.toList.drop p := by
  unfold SetTable.insertAt
  simp
  rw [List.take_of_length_le (by simp)]
theorem Rise.put {xs : Array Nat} (r : Rise xs) {j : Nat} (hj : xs[SetTable.below xs j]? ≠ some j) : Rise (SetTable.insertAt xs (SetTable.below xs j) j) := by
  obtain ⟨h0, h1, h2⟩ := below_is r j
  unfold Rise
  rw [toList_insertAt, List.pairwise_append]
  have tk : ∀ a ∈ xs.toList.take (SetTable.below xs j), a < j := fun a ha => by
    obtain ⟨i, hi, rfl⟩ := List.mem_take_iff_getElem.mp ha
    have : i < SetTable.below xs j /\ i < xs.size := by simp at hi; omega
    simpa using h1 i this.2 this.1
  have dr : ∀ b ∈ xs.toList.drop (SetTable.below xs j), j < b := fun b hb => by
    obtain ⟨i, hi, rfl⟩ := List.mem_drop_iff_getElem.mp hb
    have hs : i + SetTable.below xs j < xs.size := by simpa using hi
    have hle := h2 (i + SetTable.below xs j) hs (by omega)
    have hb0 : SetTable.below xs j < xs.size := by omega
    have hne : xs[SetTable.below xs j] ≠ j := fun z => hj (by rw [Array.getElem?_eq_getElem hb0, z])
    have h3 := h2 (SetTable.below xs j) hb0 (Nat.le_refl _)
    have : j < xs[i + SetTable.below xs j] := by
      rcases Nat.eq_zero_or_pos i with z | z
      · subst z
        simp only [Nat.zero_add]
        omega
      · have := r.lt (i := SetTable.below xs j) (j := i + SetTable.below xs j) (by omega) hs
        omega
    simpa [Nat.add_comm] using this
  refine ⟨List.Pairwise.sublist (List.take_sublist _ _) r, List.pairwise_cons.mpr ⟨dr, List.Pairwise.sublist (List.drop_sublist _ _) r⟩, fun a ha b hb => ?_⟩
  rcases List.mem_cons.mp hb with e | hb
  · rw [e]; exact tk a ha
  · exact Nat.lt_trans (tk a ha) (dr b hb)
theorem rise_range (n : Nat) : Rise (Array.range n) := by
  unfold Rise
  rw [Array.toList_range]
  exact List.pairwise_lt_range
structure TabOk (t : SetTable) (led : Bool) : Prop where
  rise : Rise t.place
  nod : t.dummies = #[]
  led : t.led = led
theorem TabOk.standIn {t : SetTable} {led : Bool} (k : TabOk t led) (n : Nat) : TabOk (t.standIn n) led := ⟨rise_range n, rfl, k.led⟩
theorem TabOk.orStandIn {t : SetTable} {led : Bool} (k : TabOk t led) (n : Nat) : TabOk (t.orStandIn n) led := by
  unfold SetTable.orStandIn
  split
  · exact k
  · exact k.standIn n
theorem has_nil (j : Nat) : SetTable.has #[] j = false := by
  unfold SetTable.has
  simp
theorem probe_free {t : SetTable} {led : Bool} (k : TabOk t led) {h : Int} : ∀ (fuel : Nat) (p : SetTable.Probe) (j : Nat) (dm : Option Nat), p.dummy = none -> SetTable.probe.go t (fun _ => h + 1) h fuel p = some (.empty j dm) -> t.slot j = .empty /\ dm = none
  | 0, p, j, dm, _, e => by cases e
  | fuel + 1, p, j, dm, hp, e => by
    unfold SetTable.probe.go at e
    cases hs : t.slot p.j with
    | empty =>
      rw [hs] at e
      cases e
      exact ⟨hs, hp⟩
    | dummy =>
      exfalso
      unfold SetTable.slot at hs
      dsimp only at hs
      split at hs
      · cases hs
      · rw [k.nod, has_nil] at hs
        simp at hs
    | live i =>
      rw [hs] at e
      dsimp only at e
      rw [if_neg (by simp; omega)] at e
      refine probe_free k fuel _ j dm ?_ e
      unfold SetTable.advance
      split
      · exact hp
      · exact hp
theorem free_slot {t : SetTable} {led : Bool} (k : TabOk t led) {h : Int} {j : Nat} {b : Bool} (e : t.freeSlot h = some (j, b)) : t.place[SetTable.below t.place j]? ≠ some j /\ b = false := by
  unfold SetTable.freeSlot SetTable.probe at e
  split at e
  · rename_i j' dm e'
    obtain ⟨h1, rfl⟩ := probe_free k _ _ _ _ rfl e'
    simp at e
    obtain ⟨rfl, rfl⟩ := e
    refine ⟨fun z => ?_, rfl⟩
    unfold SetTable.slot at h1
    dsimp only at h1
    rw [if_pos (by rw [z]; simp)] at h1
    cases h1
  · cases e
theorem layNew_tab {t : SetTable} {led : Bool} (k : TabOk t led) (es : Array (Int × Value)) (h : Int) (x : Value) : TabOk (layNew t es h x).2.1 led := by
  unfold layNew
  split
  · rename_i slot wd e
    obtain ⟨hj, rfl⟩ := free_slot k e
    have k1 : TabOk (t.put slot).1 led := by
      refine ⟨k.rise.put hj, ?_, k.led⟩
      show (if SetTable.has t.dummies slot = true then _ else t.dummies) = #[]
      rw [k.nod, has_nil]
      rfl
    exact k1.orStandIn _
  · exact k.standIn _
theorem relayAll_tab {t : SetTable} {led : Bool} (k : TabOk t led) (es : Array (Int × Value)) (n : Nat) : TabOk (relayAll t es n).2.1 led := by
  unfold relayAll
  split
  · rename_i t' order e
    dsimp only
    split
    · unfold SetTable.relaid SetTable.laid at e
      simp only [Option.bind_eq_bind, Option.bind_eq_some_iff] at e
      obtain ⟨owner, _, e⟩ := e
      cases e
      refine ⟨?_, rfl, k.led⟩
      unfold Rise
      dsimp only
      rw [List.map_filterMap]
      refine List.Pairwise.filterMap _ (fun a a' hr b hb b' hb' => ?_) List.pairwise_lt_range
      simp only [Option.map_map, Option.mem_def, Option.map_eq_some_iff, Function.comp] at hb hb'
      obtain ⟨_, _, rfl⟩ := hb
      obtain ⟨_, _, rfl⟩ := hb'
      exact hr
    · exact k.standIn _
  · exact k.standIn _
abbrev byT (w : World) : Bool := w.params.followText "set-order"
def valI : Value -> Int
  | .int n _ => n
  | _ => 0
def SetW (P : Program) (w : World) (h : Heap) (a : Addr) (ns : List Int) : Prop :=
  ∃ o es ep t, h.get? a = some o /\ o.ExactSet /\ o.data = .set es ep t /\ ElemsOf (intKind P w) es.toList /\ (∀ e ∈ es.toList, ∃ n u, e.2 = .int n u) /\ (es.toList.map fun e => valI e.2).Perm ns /\ es.size < scanBound /\ t.fits es.size = true /\ TabOk t (!byT w)
theorem SetW.keep {P : Program} {w : World} {h h' : Heap} {a : Addr} {ns : List Int} (x : SetW P w h a ns) (k : ∀ o, h.get? a = some o -> h'.get? a = some o) : SetW P w h' a ns := by
  obtain ⟨o, es, ep, t, ho, r⟩ := x
  exact ⟨o, es, ep, t, k o ho, r⟩
section
variable {P : Program} {w : World} {A : Around} {E : Value -> Shared -> Prop} {s : Shared}
theorem is_int {k n : Int} {u : Tok} : (intKind P w).is k (.int n u) = decide (k = n) := KeyKind.is_eq_decide (intKind_is P w n u) k
theorem storeW {h : Heap} {a : Addr} {o : Obj} {es es' : Array (Int × Value)} {ep : Nat} {t t' : SetTable} {ns : List Int} (ho : h.get? a = some o) (hex : o.ExactSet) (hd : o.data = .set es ep t) (hel : ElemsOf (intKind P w) es'.toList)
    (hi : ∀ e ∈ es'.toList, ∃ n u, e.2 = .int n u) (hp : (es'.toList.map fun e => valI e.2).Perm ns) (hb : es'.size < scanBound) (hf : t'.fits es'.size = true) (hk : TabOk t' (!byT w)) :
    (h.update a (Obj.putSet es' t')).get? a = some { o with data := .set es' (ep + 1) t' } /\ SetW P w (h.update a (Obj.putSet es' t')) a ns := by
  have hg : (h.update a (Obj.putSet es' t')).get? a = some { o with data := .set es' (ep + 1) t' } := by
    have q := Heap.get?_update_self (Obj.putSet es' t') ho (by rw [putSet_of es' t' hd]; rfl)
    rw [putSet_of es' t' hd] at q
    exact q
  exact ⟨hg, _, es', ep + 1, t', hg, hex, rfl, hel, hi, hp, hb, hf, hk⟩
theorem add_new {g : Bool -> Sem Unit} (hg : ∀ (b : Bool) (s₁ : Shared) (Q' : Unit -> Shared -> Prop), Q' () s₁ -> wpAny (model P w) A (g b) Q' E s₁) {a : Addr} {o : Obj} {es es1 : Array (Int × Value)} {ep : Nat} {t t2 : SetTable} {ns : List Int} {R : Option Bool -> Shared -> Prop} {wd : Bool}
    (ho : s.heap.get? a = some o) (hex : o.ExactSet) (hd : o.data = .set es ep t) (hel : ElemsOf (intKind P w) es1.toList) (hi : ∀ e ∈ es1.toList, ∃ n u, e.2 = .int n u) (hp : (es1.toList.map fun e => valI e.2).Perm ns) (hb : es1.size < scanBound)
    (hf : t2.fits es1.size = true) (hk : TabOk t2 (!byT w)) (h : ∀ h', Heap.SameBut a s.heap h' -> SetW P w h' a ns -> R (some true) { s with heap := h' }) :
    wpAny (model P w) A (do
        storeSet a es1 t2
        if (!wd && t2.tooFull) = true then do
            g (relayAll t2 es1 (SetTable.grown es1.size)).2.2
            storeSet a (relayAll t2 es1 (SetTable.grown es1.size)).1 (relayAll t2 es1 (SetTable.grown es1.size)).2.1
            pure (some true)
          else pure (some true)) R E s := by
  refine wpAny_bind (wpAny_storeSet_of ho hd ?_ (fits_of_scanBound hb))
  obtain ⟨ho1, hS1⟩ := storeW (P := P) (w := w) ho hex hd hel hi hp hb hf hk
  have sb1 := Heap.SameBut.update s.heap a (Obj.putSet es1 t2)
  split
  · have rp := relayAll_perm t2 es1 (SetTable.grown es1.size)
    have rf := relayAll_fits t2 es1 (SetTable.grown es1.size)
    have rt := relayAll_tab hk es1 (SetTable.grown es1.size)
    generalize relayAll t2 es1 (SetTable.grown es1.size) = Rl at rp rf rt ⊢
    obtain ⟨es2, t3, gave⟩ := Rl
    dsimp only at rp rf rt ⊢
    have sz : es2.size = es1.size := by rw [<- Array.length_toList, rp.length_eq, Array.length_toList]
    have hb2 : es2.size < scanBound := by rw [sz]; exact hb
    refine wpAny_bind (hg _ _ _ ?_)
    refine wpAny_bind (wpAny_storeSet_of ho1 rfl ?_ (fits_of_scanBound hb2))
    obtain ⟨_, hS2⟩ := storeW (P := P) (w := w) (ns := ns) ho1 hex rfl (hel.perm rp) (fun e he => hi e (rp.mem_iff.mp he)) ((rp.map _).trans hp) hb2 rf rt
    exact wpAny_pure (h _ (sb1.trans (Heap.SameBut.update _ a _)) hS2)
  · exact wpAny_pure (h _ sb1 hS1)
theorem setAdd_int {a : Addr} {ns : List Int} {k : Int} {u : Tok} {Q : Bool -> Shared -> Prop} (hS : SetW P w s.heap a ns) (hroom : ns.length + 1 < scanBound)
    (h : ∀ h' b, Heap.SameBut a s.heap h' -> SetW P w h' a (step_dedup ns k) -> Q b { s with heap := h' }) : wpAny (model P w) A (setAddHashed a (.int k u) ((intKind P w).hash k)) Q E s := by
  obtain ⟨o, es, ep, t, ho, hex, hd, hel, hi, hp, hb, hf, hk⟩ := hS
  have hsz : es.size = ns.length := by rw [<- hp.length_eq, List.length_map, Array.length_toList]
  have mem : ∀ z : Int, z ∈ ns ↔ ∃ e ∈ es.toList, (intKind P w).is z e.2 = true := fun z => by
    rw [<- hp.mem_iff, List.mem_map]
    constructor
    · rintro ⟨e, he, rfl⟩
      obtain ⟨n, v, e2⟩ := hi e he
      exact ⟨e, he, by rw [e2, is_int]; simp [valI]⟩
    · rintro ⟨e, he, q⟩
      obtain ⟨n, v, e2⟩ := hi e he
      rw [e2, is_int] at q
      exact ⟨e, he, by rw [e2]; exact (of_decide_eq_true q).symm⟩
  unfold setAddHashed setAddHashedIn
  refine wpAny_holding (wpAny_bind (wpAny_setState_of ho hd hf ?_))
  dsimp only
  rw [byScan_of (x := .int k u) rfl hb hel]
  simp only [↓reduceIte]
  unfold setAddByScan
  refine wpAny_bind (wpAny_bind (wpAny_rule ?_))
  refine wpAny_bind (wpAny_setScan_of (intKind_is P w k u) ho hd hf hel ?_)
  cases hr : List.findIdx? (fun e => (intKind P w).is k e.2) es.toList with
  | some j =>
    dsimp only
    obtain ⟨hj, pj, _⟩ := List.findIdx?_eq_some_iff_getElem.mp hr
    have kin : k ∈ ns := (mem k).mpr ⟨es.toList[j], List.getElem_mem hj, pj⟩
    refine wpAny_pure (wpAny_pure ?_)
    have q := h s.heap false (Heap.SameBut.refl a s.heap) ⟨o, es, ep, t, ho, hex, hd, hel, hi, by
      unfold step_dedup
      rw [if_pos (by simpa using kin)]
      exact hp, hb, hf, hk⟩
    cases s
    exact q
  | none =>
    dsimp only
    have nin : k ∉ ns := fun z => by
      obtain ⟨e, he, q⟩ := (mem k).mp z
      have := List.findIdx?_eq_none_iff.mp hr e he
      rw [q] at this
      cases this
    have gw : ∀ (b : Bool) (s₁ : Shared) (Q' : Unit -> Shared -> Prop), Q' () s₁ -> wpAny (model P w) A (match b with | true => rule "set.scan.the-table-gave-way" | false => pure ()) Q' E s₁ := fun b s₁ Q' q => by
      cases b
      · exact wpAny_pure q
      · exact wpAny_rule q
    have lp := layNew_perm t es ((intKind P w).hash k) (.int k u)
    have lf := layNew_fits t es ((intKind P w).hash k) (.int k u)
    have lt := layNew_tab hk es ((intKind P w).hash k) (.int k u)
    generalize layNew t es ((intKind P w).hash k) (.int k u) = L at lp lf lt ⊢
    obtain ⟨es1, t1, wd, gave⟩ := L
    dsimp only at lp lf lt ⊢
    rw [Array.toList_push] at lp
    have hel1 : ElemsOf (intKind P w) es1.toList := (hel.push (intKind_is P w k u) rfl).perm lp
    have hi1 : ∀ e ∈ es1.toList, ∃ n v, e.2 = .int n v := fun e he => by
      rcases List.mem_append.mp (lp.mem_iff.mp he) with z | z
      · exact hi e z
      · rw [List.mem_singleton.mp z]; exact ⟨k, u, rfl⟩
    have hp1 : (es1.toList.map fun e => valI e.2).Perm (step_dedup ns k) := by
      unfold step_dedup
      rw [if_neg (by simpa using nin)]
      refine (lp.map _).trans ?_
      rw [List.map_append]
      exact hp.append (List.Perm.refl _)
    have hb1 : es1.size < scanBound := by rw [<- Array.length_toList, lp.length_eq, List.length_append, Array.length_toList, hsz]; exact hroom
    refine wpAny_bind (gw _ _ _ ?_)
    split
    · refine wpAny_bind ?_
      rw [hashByValue_scannable 8 (x := .int k u) rfl]
      refine wpAny_pure ?_
      exact add_new (fun b s₁ Q' q => gw b s₁ Q' q) ho hex hd hel1 hi1 hp1 hb1 lf lt fun h' sb S => wpAny_pure (h h' true sb S)
    · refine wpAny_bind (wpAny_pure ?_)
      simp only [↓reduceIte]
      exact add_new (fun b s₁ Q' q => gw b s₁ Q' q) ho hex hd hel1 hi1 hp1 hb1 lf lt fun h' sb S => wpAny_pure (h h' true sb S)
end
end L2
set_option Elab.async false
set_option linter.all false
set_option maxRecDepth 100000
namespace L2
open PySem PySem.Spec PyProof.Rows
section
variable {P : Program} {w : World} {A : Around} {E : Value -> Shared -> Prop} {R : Result -> Shared -> Prop} {I : Addr} {fp wr : List Addr} {G : Array GenState -> Array GenState -> Prop} {n : Nat} {Pz : Nat -> Value -> Prop} {St : Nat -> Shared -> Prop}
theorem update_loopW (W : WalksS P w A.in1 I fp wr G n Pz St) (S : Addr) (hSf : S ∉ fp) (val : Nat -> Int) (hval : ∀ i v, Pz i v -> ∃ t, v = .int (val i) t) (hb : n + 1 < scanBound) :
    ∀ (k i : Nat) (s : Shared), n - i = k -> i <= n -> St i s -> SetW P w s.heap S (firstMet val i) -> (∀ s', Moved (S :: wr) G s s' -> SetW P w s'.heap S (firstMet val n) -> R (.ok (.ret .none)) s') ->
      codeAny (model P w) A (.builtin "set.update.loop" ⟨[.ref S, .ref I], []⟩) R s := by
  have nw : S ∉ wr := fun z => hSf (W.sub _ z)
  have up : ∀ b ∈ wr, b ∈ S :: wr := fun b z => List.mem_cons_of_mem _ z
  intro k
  induction k with
  | zero =>
    intro i s hk hi hst hS hR
    obtain rfl : i = n := by omega
    refine codeAny_builtin F.entry_set_update_loop ?_
    rw [Around.under_plainId F.plain_set_update_loop _]
    refine wpAny_bind (m := pyNext (.ref I)) (W.done s _ _ hst fun s' hm => ?_)
    exact wpAny_pure (hR s' (hm.mono up) (hS.keep fun o q => hm.heap S o nw q))
  | succ k ih =>
    intro i s hk hi hst hS hR
    have hlt : i < n := by omega
    refine codeAny_builtin F.entry_set_update_loop ?_
    rw [Around.under_plainId F.plain_set_update_loop _]
    refine wpAny_bind (m := pyNext (.ref I)) (W.item i s _ _ hlt hst fun v s' hP hst' hm => ?_)
    obtain ⟨t, rfl⟩ := hval i v hP
    have hS' : SetW P w s'.heap S (firstMet val i) := hS.keep fun o q => hm.heap S o nw q
    refine wpAny_bind (m := holding [Value.int (val i) t] (setAdd S (.int (val i) t))) (wpAny_holding ?_)
    unfold setAdd
    refine wpAny_holding (wpAny_bind ((intKind P w).pyHash (k := val i) (intKind_is _ _ _ _) ?_))
    have room : (firstMet val i).length + 1 < scanBound := by
      have := firstMet_length_le val i
      omega
    refine setAdd_int (s := { s' with toks := s'.toks + 1 }) hS' room fun h' b sb S2 => ?_
    rw [<- firstMet_succ] at S2
    refine wpAny_pure ⟨plainId_quiet F.plain_set_update_loop _, ih (i + 1) _ (by omega) hlt (W.frame _ s' _ _ hst' (Nat.le_succ _) fun b hb o e => ?_) S2 fun s2 m2 S3 => ?_⟩
    · rw [sb.2 b (fun z : b = S => hSf (z ▸ hb))]; exact e
    · refine hR s2 (Moved.trans W.gtrans ((hm.mono up).then_heap (Nat.le_succ _) fun b o hb e => ?_) m2) S3
      rw [sb.2 b (fun z : b = S => hb (by rw [z]; exact List.mem_cons_self))]; exact e
end
section
variable {P : Program} {w : World} {A : Around} {E : Value -> Shared -> Prop} {s : Shared}
def freshSet (w : World) : Obj := { cls := .type "set", dict := none, data := .set #[] 0 (.fresh 0 0 (!byT w)) }
theorem newW (h : Heap) (hg : h.get? a = some (freshSet w)) : SetW P w h a [] :=
  ⟨_, #[], 0, _, hg, ⟨rfl, rfl, rfl⟩, rfl, (fun e he => by cases he), (fun e he => by cases he), List.Perm.refl _, by decide, rfl, ⟨List.Pairwise.nil, rfl, rfl⟩⟩
theorem code_newW (a : Value) {Q₁ : Value -> Shared -> Prop} (h : Q₁ (.ref s.heap.objs.size) { s with heap := s.heap.push (freshSet w) }) :
    codeAny (model P w) A (.call (.builtin "set.__new__") ⟨[.type "set", a], []⟩) (wants Q₁ E) s := by
  refine codeAny_of_tree ?_
  show wpAny _ A.in1 (do checkBuiltinCall "set.__new__" ⟨[.type "set", a], []⟩; again (.builtin "set.__new__" ⟨[.type "set", a], []⟩)) _ _ s
  refine wpAny_bind (wpAny_of_eq (F.newCall_set_1 a) (wpAny_pure ⟨plainId_quiet F.plain_set_new _, codeAny_builtin F.entry_set_new ?_⟩))
  rw [Around.under_plainId F.plain_set_new _]
  unfold Builtin.«set.__new__» Builtin.Frozenset.newClass
  have hsub := sub_set_self
  obtain ⟨hp, g, d, tk, os⟩ := s
  dsimp only
  wp_walk
  refine wpAny_askSetting (wpAny_pure ?_)
  dsimp only
  simp only [newObj]
  exact wpAny_bind (wpAny_alloc (wpAny_pure (wpAny_pure h)))
end
end L2
set_option Elab.async false
set_option linter.all false
set_option maxRecDepth 100000
namespace L2
open PySem PySem.Spec PyProof.Rows
namespace SF
theorem entry_iter : entryFor table "set.__iter__" = some Builtin.«frozenset.__iter__» := entryFor_alias (id' := "frozenset.__iter__") (by kernel_rfl) rfl (by decide +kernel) (by kernel_rfl)
theorem slot_next : Slot "set_iterator" "__next__" "set_iterator.__next__" :=
  .of (owner := "set_iterator") (n := "__next__") (by rw [typeLookup_type, builtinLookup_eq_fast]; kernel_rfl) (by decide +kernel) (by decide +kernel) (by decide +kernel) (by first | exact .inl (by decide +kernel) | exact .inr (by decide +kernel))
    (by rw [isSubtype_type]; kernel_rfl)
theorem entry_next : entryFor table "set_iterator.__next__" = some Builtin.«set_iterator.__next__» := entryFor_of_tree (by kernel_rfl)
theorem args_next (a : Value) : argsOk "set_iterator.__next__" ⟨[a], []⟩ := by unfold argsOk; kernel_rfl
theorem slot_iter_self : Slot "set_iterator" "__iter__" "set_iterator.__iter__" :=
  .of (owner := "set_iterator") (n := "__iter__") (by rw [typeLookup_type, builtinLookup_eq_fast]; kernel_rfl) (by decide +kernel) (by decide +kernel) (by decide +kernel) (by first | exact .inl (by decide +kernel) | exact .inr (by decide +kernel))
    (by rw [isSubtype_type]; kernel_rfl)
end SF
theorem erase_perm {α : Type} : ∀ (l : List α) (i : Nat) (h : i < l.length), (l[i] :: l.eraseIdx i).Perm l
  | x :: r, 0, _ => List.Perm.refl _
  | x :: r, i + 1, h => (List.Perm.swap _ _ _).trans (List.Perm.cons _ (erase_perm r i (Nat.lt_of_succ_lt_succ h)))
theorem pick_go {α : Type} (next : Nat -> Nat) : ∀ (fuel k : Nat) (left : List α) (out : Array α), left.length = fuel -> (pickOrder.go next fuel k left out).toList.Perm (out.toList ++ left)
  | 0, k, left, out, h => by
    rw [List.length_eq_zero_iff.mp h, List.append_nil]
    exact List.Perm.refl _
  | fuel + 1, k, left, out, h => by
    unfold pickOrder.go
    have hlt : next k % left.length < left.length := Nat.mod_lt _ (by omega)
    rw [List.getElem?_eq_getElem hlt]
    dsimp only
    refine (pick_go next fuel (k + 1) _ _ (by rw [List.length_eraseIdx_of_lt hlt]; omega)).trans ?_
    rw [Array.toList_push, List.append_assoc]
    refine List.Perm.append_left _ ?_
    exact erase_perm _ _ hlt
theorem pick_perm {α : Type} (next : Nat -> Nat) (xs : Array α) : (pickOrder next xs).toList.Perm xs.toList := by
  have q := pick_go next xs.size 0 xs.toList #[] (by simp)
  unfold pickOrder
  simpa using q
theorem wpAny_choose' {M : Model} {A : Around} {E : Value -> Shared -> Prop} {s : Shared} {src : Source} {n : Nat} {Q : Nat -> Shared -> Prop} (hn : n ≠ 0) (h : ∀ i d', i < n -> Q i { s with drawn := d' }) : wpAny M A (choose src n) Q E s :=
  fun _ _ _ => ⟨hn, h _ _ (Nat.mod_lt _ (Nat.pos_of_ne_zero hn))⟩
theorem draw_perm {M : Model} {A : Around} {E : Value -> Shared -> Prop} {α : Type} : ∀ (n : Nat) (xs : List α) (s : Shared) (Q : List α -> Shared -> Prop), xs.length = n -> (∀ ys d', ys.Perm xs -> Q ys { s with drawn := d' }) -> wpAny M A (drawOrder n xs) Q E s
  | 0, xs, s, Q, hl, h => by
    have e : xs = [] := List.length_eq_zero_iff.mp hl
    subst e
    unfold drawOrder
    exact wpAny_pure (h [] s.drawn (List.Perm.refl _))
  | n + 1, [], s, Q, hl, h => by cases hl
  | n + 1, x :: r, s, Q, hl, h => by
    unfold drawOrder
    refine wpAny_bind (wpAny_choose' (by simp) fun i d' hi => ?_)
    rw [List.getElem?_eq_getElem hi]
    dsimp only
    refine wpAny_bind (draw_perm n _ _ _ (by rw [List.length_eraseIdx_of_lt hi]; omega) fun ys d2 p => wpAny_pure ?_)
    exact h _ _ ((List.Perm.cons _ p).trans (erase_perm _ _ hi))
def IsSetIter (h : Heap) (I S : Addr) (first : Value) (i n ep : Nat) : Prop := ∃ o, h.get? I = some o /\ o.cls = .type "set_iterator" /\ o.data = .fields #[first, .int i 0, .ref S, .int n 0, .int ep 0]
theorem IsSetIter.typeIs {s : Shared} {I S : Addr} {first : Value} {i n ep : Nat} (x : IsSetIter s.heap I S first i n ep) : s.TypeIs (.ref I) "set_iterator" := let ⟨o, ho, hc, _⟩ := x; ⟨o, ho, hc⟩
def WalkBy (w : World) (es : Array (Int × Value)) (ep : Nat) (t : SetTable) (S T : Addr) (L : List Value) (h : Heap) (i : Nat) (first : Value) : Prop :=
  (byT w = true /\ (∃ z : Nat, first = .int z 0) /\ L = (pickOrder (w.params.setOrder S ep) es).toList.map (·.2)) \/
  (byT w = false /\ (t.plain = true \/ es.size <= 1) /\ (∃ z : Nat, first = .int z 0 /\ SetTable.below t.place z = i) /\ L = es.toList.map (·.2)) \/
  (byT w = false /\ first = .ref T /\ ∃ pl : List Nat, pl.Perm (List.range es.size) /\ (∃ o e, h.get? T = some o /\ o.data = .seq (pl.map fun p : Nat => Value.int (p : Int) 0).toArray e) /\ L = pl.map fun p => (es.getD p (0, .none)).2)
structure SetSt (w : World) (es : Array (Int × Value)) (ep : Nat) (t : SetTable) (S T I : Addr) (L : List Value) (i : Nat) (h : Heap) : Prop where
  set : ∃ o, h.get? S = some o /\ o.data = .set es ep t
  it : ∃ first, IsSetIter h I S first i es.size ep /\ WalkBy w es ep t S T L h i first
section
variable {P : Program} {w : World} {A : Around} {E : Value -> Shared -> Prop} {s : Shared} {es : Array (Int × Value)} {ep : Nat} {t : SetTable} {S T I : Addr} {L : List Value} {i : Nat}
theorem next_item (hf : t.fits es.size = true) (hk : TabOk t (!byT w)) (hL : L.length = es.size) (hTI : T ≠ I) (hSI : S ≠ I) (st : SetSt w es ep t S T I L i s.heap) (hi : i < es.size) {Q : Option Value -> Shared -> Prop}
    (h : ∀ h', Heap.SameBut I s.heap h' -> SetSt w es ep t S T I L (i + 1) h' -> Q (some (L.getD i .none)) { s with heap := h' }) : wpAny (model P w) A (pyNext (.ref I)) Q E s := by
  obtain ⟨⟨oS, hS, hSd⟩, first, hit, by_⟩ := st
  obtain ⟨o, ho, hc, hd⟩ := id hit
  have hLi : L.getD i .none = L[i]'(by omega) := by simp [List.getD, hL, hi]
  unfold pyNext
  refine wpAny_bind (wpAny_attempt (wpAny_callSpecial?_slot (name := Str.ofString "__next__") hit.typeIs SF.slot_next (wpAny_call_entry SF.slot_next hit.typeIs SF.entry_next ?_ (SF.args_next _))))
  unfold Builtin.«set_iterator.__next__»
  refine wpAny_bind (m := slotArgs "__next__" 0 _) (wpAny_pure ?_)
  refine wpAny_bind (wpAny_fieldsOf ho hd ?_)
  dsimp only
  unfold setEntries
  refine wpAny_bind (wpAny_bind (wpAny_setState_of hS hSd hf (wpAny_pure ?_)))
  rw [if_neg (by simp)]
  have upI : ∀ (f : Array Value -> Array Value), (s.heap.update I (Obj.mapFields f)).get? I = some (Obj.mapFields f o) := fun f => Heap.get?_update_self _ ho (Obj.isFreed_of_fields (Obj.data_mapFields hd _))
  have other : ∀ (f : Array Value -> Array Value) b, b ≠ I -> (s.heap.update I (Obj.mapFields f)).get? b = s.heap.get? b := fun f b hb => Heap.get?_update_other _ _ (Ne.symm hb)
  have put1 : ∀ (h1 : Heap) (fi : Value), IsSetIter h1 I S fi i es.size ep -> IsSetIter (h1.update I (Obj.mapFields (·.setIfInBounds 1 (rawInt ((i : Int) + 1))))) I S fi (i + 1) es.size ep := by
    rintro h1 fi ⟨o1, ho1, hc1, hd1⟩
    exact ⟨_, Heap.get?_update_self _ ho1 (Obj.isFreed_of_fields (Obj.data_mapFields hd1 _)), (Obj.cls_mapFields ..).trans hc1, by rw [Obj.data_mapFields hd1]; simp [rawInt]⟩
  have put0 : ∀ (h1 : Heap) (fi : Value) (nx : Nat), IsSetIter h1 I S fi i es.size ep -> IsSetIter (h1.update I (Obj.mapFields (·.setIfInBounds 0 (rawInt nx)))) I S (.int nx 0) i es.size ep := by
    rintro h1 fi nx ⟨o1, ho1, hc1, hd1⟩
    exact ⟨_, Heap.get?_update_self _ ho1 (Obj.isFreed_of_fields (Obj.data_mapFields hd1 _)), (Obj.cls_mapFields ..).trans hc1, by rw [Obj.data_mapFields hd1]; simp [rawInt]⟩
  have keepS : ∀ h1, Heap.SameBut I s.heap h1 -> ∃ o, h1.get? S = some o /\ o.data = .set es ep t := fun h1 sb => ⟨oS, (sb.2 S hSI).trans hS, hSd⟩
  rcases by_ with ⟨bt, ⟨z, rfl⟩, eL⟩ | ⟨bt, pl, ⟨z, rfl, hz⟩, eL⟩ | ⟨bt, rfl, pl, pp, ⟨oT, eT, hT, hTd⟩, eL⟩
  · have px := pick_perm (w.params.setOrder S ep) es
    have hx : i < (pickOrder (w.params.setOrder S ep) es).size := by rw [<- Array.length_toList, px.length_eq, Array.length_toList]; exact hi
    refine wpAny_bind ?_
    unfold setNext
    refine wpAny_bind (wpAny_setState_of hS hSd hf ?_)
    unfold setsByText
    refine wpAny_bind (wpAny_bind (wpAny_askSetting (wpAny_pure ?_)))
    rw [if_pos (show (model P w).w.params.followText "set-order" = true from bt), if_neg (by simp)]
    unfold setWalk setsByText
    refine wpAny_bind (wpAny_bind (wpAny_setState_of hS hSd hf ?_))
    refine wpAny_bind (wpAny_bind (wpAny_askSetting (wpAny_pure ?_)))
    rw [if_pos (show (model P w).w.params.followText "set-order" = true from bt)]
    refine wpAny_bind (wpAny_askSetting (wpAny_pure (wpAny_pure ?_)))
    have ex : (pickOrder ((model P w).w.params.setOrder S ep) es)[((i : Nat) : Int).toNat]? = some (pickOrder (w.params.setOrder S ep) es)[i] := by
      rw [Int.toNat_natCast]
      exact Array.getElem?_eq_getElem hx
    rw [ex]
    dsimp only [Option.map]
    refine wpAny_bind (wpAny_setField ho hd (by simp) ?_)
    obtain ⟨o1, ho1, hc1, hd1⟩ := put0 _ _ z hit
    rw [show ((z : Nat) : Int).toNat = z from Int.toNat_natCast z]
    refine wpAny_bind (wpAny_setField ho1 hd1 (by simp) (wpAny_pure ⟨_, rfl, wpAny_pure ?_⟩))
    have sb : Heap.SameBut I s.heap ((s.heap.update I (Obj.mapFields (·.setIfInBounds 0 (rawInt z)))).update I (Obj.mapFields (·.setIfInBounds 1 (rawInt ((i : Int) + 1))))) := (Heap.SameBut.update ..).trans (Heap.SameBut.update ..)
    have q := h _ sb ⟨keepS _ sb, _, put1 _ _ (put0 _ _ z hit), .inl ⟨bt, ⟨z, rfl⟩, eL⟩⟩
    rw [hLi] at q
    have eLi : L[i]'(by omega) = (pickOrder (w.params.setOrder S ep) es)[i].2 := by simp [eL]
    rw [eLi] at q
    exact q
  · have hpz : t.place.size = es.size := by
      simp only [SetTable.fits, Bool.and_eq_true, beq_iff_eq, decide_eq_true_eq] at hf
      exact hf.1
    have hip : i < t.place.size := by omega
    refine wpAny_bind ?_
    unfold setNext
    refine wpAny_bind (wpAny_setState_of hS hSd hf ?_)
    unfold setsByText
    refine wpAny_bind (wpAny_bind (wpAny_askSetting (wpAny_pure ?_)))
    rw [if_neg (show ¬ ((model P w).w.params.followText "set-order" = true) from by rw [show (model P w).w.params.followText "set-order" = false from bt]; exact Bool.false_ne_true)]
    show wpAny _ _ (if (!t.plain && decide (es.size > 1)) = true then _ else _) _ _ _
    rw [if_neg (by
      rcases pl with q | q
      · rw [q]; simp
      · simp; omega)]
    show wpAny _ _ ((if (!t.led && !es.isEmpty) = true then _ else pure ()) >>= _) _ _ _
    rw [if_neg (by rw [hk.led, bt]; simp)]
    refine wpAny_bind (wpAny_pure (wpAny_pure ?_))
    rw [Int.toNat_natCast, hz, Array.getElem?_eq_getElem hi, Array.getElem?_eq_getElem hip]
    dsimp only
    refine wpAny_bind (wpAny_setField ho hd (by simp) ?_)
    obtain ⟨o1, ho1, hc1, hd1⟩ := put0 _ _ (t.place[i] + 1) hit
    refine wpAny_bind (wpAny_setField ho1 hd1 (by simp) (wpAny_pure ⟨_, rfl, wpAny_pure ?_⟩))
    have sb : Heap.SameBut I s.heap ((s.heap.update I (Obj.mapFields (·.setIfInBounds 0 (rawInt (t.place[i] + 1 : Nat))))).update I (Obj.mapFields (·.setIfInBounds 1 (rawInt ((i : Int) + 1))))) := (Heap.SameBut.update ..).trans (Heap.SameBut.update ..)
    have q := h _ sb ⟨keepS _ sb, _, put1 _ _ (put0 _ _ (t.place[i] + 1) hit), .inr (.inl ⟨bt, pl, ⟨_, rfl, below_next hk.rise hip⟩, eL⟩)⟩
    rw [hLi] at q
    have eLi : L[i]'(by omega) = es[i].2 := by simp [eL]
    rw [eLi] at q
    exact q
  · have lpl : pl.length = es.size := by rw [pp.length_eq, List.length_range]
    have hpl : pl[i]'(by omega) < es.size := List.mem_range.mp (pp.mem_iff.mp (List.getElem_mem _))
    show wpAny _ _ (seqItems? (.ref T) >>= _) _ _ _
    unfold seqItems?
    refine wpAny_bind (wpAny_bind (wpAny_load hT ?_))
    rw [hTd]
    refine wpAny_pure ?_
    dsimp only
    have ep1 : (pl.map fun p : Nat => Value.int (p : Int) 0).toArray[((i : Nat) : Int).toNat]? = some (Value.int ((pl[i]'(by omega) : Nat) : Int) 0) := by
      rw [Int.toNat_natCast]
      simp [lpl, hi]
    rw [ep1]
    dsimp only
    unfold setNextDrawn
    refine wpAny_bind (wpAny_bind (wpAny_setState_of hS hSd hf ?_))
    dsimp only
    rw [if_neg (by simp), Int.toNat_natCast, Array.getElem?_eq_getElem hpl]
    dsimp only
    refine wpAny_pure (wpAny_bind (wpAny_setField ho hd (by simp) (wpAny_pure ⟨_, rfl, wpAny_pure ?_⟩)))
    have sb : Heap.SameBut I s.heap (s.heap.update I (Obj.mapFields (·.setIfInBounds 1 (rawInt ((i : Int) + 1))))) := Heap.SameBut.update ..
    have q := h _ sb ⟨keepS _ sb, _, put1 _ _ hit, .inr (.inr ⟨bt, rfl, pl, pp, ⟨oT, eT, (sb.2 T hTI).trans hT, hTd⟩, eL⟩)⟩
    rw [hLi] at q
    have eLi : L[i]'(by omega) = es[pl[i]'(by omega)].2 := by simp [eL, Array.getD, hpl]
    rw [eLi] at q
    exact q
theorem next_end (hh : A.handled = none) (hf : t.fits es.size = true) (hk : TabOk t (!byT w)) (hSI : S ≠ I) (st : SetSt w es ep t S T I L es.size s.heap) {Q : Option Value -> Shared -> Prop}
    (h : ∀ h', Heap.ExtBut I s.heap h' -> Q none { s with heap := h' }) : wpAny (model P w) A (pyNext (.ref I)) Q E s := by
  obtain ⟨⟨oS, hS, hSd⟩, first, hit, by_⟩ := st
  obtain ⟨o, ho, hc, hd⟩ := id hit
  unfold pyNext
  refine wpAny_bind (wpAny_attempt (wpAny_callSpecial?_slot (name := Str.ofString "__next__") hit.typeIs SF.slot_next (wpAny_call_entry SF.slot_next hit.typeIs SF.entry_next ?_ (SF.args_next _))))
  unfold Builtin.«set_iterator.__next__»
  refine wpAny_bind (m := slotArgs "__next__" 0 _) (wpAny_pure ?_)
  refine wpAny_bind (wpAny_fieldsOf ho hd ?_)
  dsimp only
  unfold setEntries
  refine wpAny_bind (wpAny_bind (wpAny_setState_of hS hSd hf (wpAny_pure ?_)))
  rw [if_neg (by simp)]
  have stop : ∀ h1, Heap.ExtBut I s.heap h1 -> wpAny (model P w) A.in1 (do let e <- newExc (.type "StopIteration") []; raiseNew e : Sem Fin) (fun fin s' => ∃ v, fin = Fin.done (Flow.ret v) /\ wpAny (model P w) A (pure (some v)) Q E s')
      (fun e s' => wpAny (model P w) A (do if <- isInstance e (.type "StopIteration") then pure none else throw e) Q E s') { s with heap := h1 } := by
    intro h1 e1
    refine wpAny_bind ?_
    simp only [newExc, newTuple]
    refine wpAny_bind (wpAny_newObj_type ?_ (by size_fits))
    refine wpAny_bind (m := firstArgMember _ _) (wpAny_of_eq (a := Value.none) (by first | rfl | (simp only [firstArgMember]; rfl)) ?_)
    refine wpAny_newObj_type ?_ (by size_fits)
    simp only [raiseNew]
    refine wpAny_bind (wpAny_handled ?_)
    rw [show A.in1.handled = none from hh]
    refine wpAny_bind (wpAny_pure (wpAny_throw ?_))
    refine wpAny_bind (wpAny_isInstance (T := "StopIteration") (b := true) ⟨_, Heap.get?_push_size _ rfl, rfl⟩ isSubtype_stop ?_)
    exact wpAny_pure (h _ ((e1.push _).push _))
  rcases by_ with ⟨bt, ⟨z, rfl⟩, eL⟩ | ⟨bt, pl, ⟨z, rfl, hz⟩, eL⟩ | ⟨bt, rfl, pl, pp, ⟨oT, eT, hT, hTd⟩, eL⟩
  · have px := pick_perm (w.params.setOrder S ep) es
    have hx : (pickOrder (w.params.setOrder S ep) es).size = es.size := by rw [<- Array.length_toList, px.length_eq, Array.length_toList]
    refine wpAny_bind ?_
    unfold setNext
    refine wpAny_bind (wpAny_setState_of hS hSd hf ?_)
    unfold setsByText
    refine wpAny_bind (wpAny_bind (wpAny_askSetting (wpAny_pure ?_)))
    rw [if_pos (show (model P w).w.params.followText "set-order" = true from bt), if_neg (by simp)]
    unfold setWalk setsByText
    refine wpAny_bind (wpAny_bind (wpAny_setState_of hS hSd hf ?_))
    refine wpAny_bind (wpAny_bind (wpAny_askSetting (wpAny_pure ?_)))
    rw [if_pos (show (model P w).w.params.followText "set-order" = true from bt)]
    refine wpAny_bind (wpAny_askSetting (wpAny_pure (wpAny_pure ?_)))
    have ex : (pickOrder ((model P w).w.params.setOrder S ep) es)[((es.size : Nat) : Int).toNat]? = none := by
      rw [Int.toNat_natCast]
      exact Array.getElem?_eq_none (Nat.le_of_eq hx)
    rw [ex]
    dsimp only [Option.map]
    refine wpAny_bind (wpAny_setField ho hd (by simp) ?_)
    exact stop _ (Heap.SameBut.update ..).extBut
  · have hpz : t.place.size = es.size := by
      simp only [SetTable.fits, Bool.and_eq_true, beq_iff_eq, decide_eq_true_eq] at hf
      exact hf.1
    refine wpAny_bind ?_
    unfold setNext
    refine wpAny_bind (wpAny_setState_of hS hSd hf ?_)
    unfold setsByText
    refine wpAny_bind (wpAny_bind (wpAny_askSetting (wpAny_pure ?_)))
    rw [if_neg (show ¬ ((model P w).w.params.followText "set-order" = true) from by rw [show (model P w).w.params.followText "set-order" = false from bt]; exact Bool.false_ne_true)]
    show wpAny _ _ (if (!t.plain && decide (es.size > 1)) = true then _ else _) _ _ _
    rw [if_neg (by
      rcases pl with q | q
      · rw [q]; simp
      · simp; omega)]
    show wpAny _ _ ((if (!t.led && !es.isEmpty) = true then _ else pure ()) >>= _) _ _ _
    rw [if_neg (by rw [hk.led, bt]; simp)]
    refine wpAny_bind (wpAny_pure (wpAny_pure ?_))
    rw [Int.toNat_natCast, hz, Array.getElem?_eq_none (Nat.le_refl _)]
    dsimp only
    refine wpAny_bind (wpAny_setField ho hd (by simp) ?_)
    exact stop _ (Heap.SameBut.update ..).extBut
  · have lpl : pl.length = es.size := by rw [pp.length_eq, List.length_range]
    show wpAny _ _ (seqItems? (.ref T) >>= _) _ _ _
    unfold seqItems?
    refine wpAny_bind (wpAny_bind (wpAny_load hT ?_))
    rw [hTd]
    refine wpAny_pure ?_
    dsimp only
    have ep1 : (pl.map fun p : Nat => Value.int (p : Int) 0).toArray[((es.size : Nat) : Int).toNat]? = none := by
      rw [Int.toNat_natCast]
      simp [lpl]
    rw [ep1]
    dsimp only
    refine wpAny_bind (wpAny_setField ho hd (by simp) ?_)
    have hd0 := Obj.data_mapFields hd (·.setIfInBounds 0 (rawInt 0))
    refine wpAny_bind (wpAny_setField (Heap.get?_update_self _ ho (Obj.isFreed_of_fields hd0)) hd0 (by simp) ?_)
    exact stop _ ((Heap.SameBut.update ..).trans (Heap.SameBut.update ..)).extBut
end
end L2
set_option Elab.async false
set_option linter.all false
set_option maxRecDepth 100000
namespace L2
open PySem PySem.Spec PyProof.Rows
namespace SF
theorem entry_iter_self : entryFor table "set_iterator.__iter__" = some Builtin.«dict_keyiterator.__iter__» := entryFor_alias (id' := "dict_keyiterator.__iter__") (by kernel_rfl) rfl (by decide +kernel) (by kernel_rfl)
theorem args_iter_self (a : Value) : argsOk "set_iterator.__iter__" ⟨[a], []⟩ := by unfold argsOk; kernel_rfl
end SF
section
variable {P : Program} {w : World} {A : Around} {E : Value -> Shared -> Prop} {s : Shared} {es : Array (Int × Value)} {ep : Nat} {t : SetTable} {S T I : Addr} {L : List Value}
theorem walkW (hh : A.handled = none) (hf : t.fits es.size = true) (hk : TabOk t (!byT w)) (hL : L.length = es.size) (hTI : T ≠ I) (hSI : S ≠ I) :
    WalksS P w A I [I, S, T] [I] (fun a b => b = a) es.size (fun i v => v = L.getD i .none) (fun i s => SetSt w es ep t S T I L i s.heap) where
  sub := fun b hb => by simp at hb; simp [hb]
  grefl := fun _ => rfl
  gtrans := fun _ _ _ h1 h2 => h2.trans h1
  frame := fun i s h' tk st _ k => by
    obtain ⟨⟨oS, hS, hSd⟩, first, ⟨o, ho, r⟩, by_⟩ := st
    refine ⟨⟨oS, k S (by simp) _ hS, hSd⟩, first, ⟨o, k I (by simp) _ ho, r⟩, ?_⟩
    rcases by_ with z | z | ⟨b, e, pl, pp, ⟨oT, eT, hT, hTd⟩, eL⟩
    · exact .inl z
    · exact .inr (.inl z)
    · exact .inr (.inr ⟨b, e, pl, pp, ⟨oT, eT, k T (by simp) _ hT, hTd⟩, eL⟩)
  item := fun i s Q E hi st hQ => next_item hf hk hL hTI hSI st hi fun h' sb st' => hQ _ _ rfl st' ⟨fun b o hb e => (sb.2 b fun z => hb (by simp [z])).trans e, rfl, rfl, rfl, Nat.le_refl _⟩
  done := fun s Q E st hQ => next_end hh hf hk hSI st fun h' eb => hQ _ ⟨fun b o hb e => eb b o (fun z => hb (by simp [z])) e, rfl, rfl, rfl, Nat.le_refl _⟩
  self := fun i s Q E st hQ => by
    obtain ⟨_, first, hit, _⟩ := st
    refine wpAny_pyIter_slot hit.typeIs SF.slot_iter_self (wpAny_call_entry SF.slot_iter_self hit.typeIs SF.entry_iter_self ?_ (SF.args_iter_self _))
    show wpAny _ _ (ret (.ref I)) _ _ s
    exact wpAny_pure ⟨_, rfl, "set_iterator", _, hit.typeIs, SF.slot_next.lookup, hQ⟩
theorem iterW {o : Obj} {Q : Value -> Shared -> Prop} (ho : s.heap.get? S = some o) (hex : o.ExactSet) (hd : o.data = .set es ep t) (hb : es.size < scanBound) (hf : t.fits es.size = true) (hk : TabOk t (!byT w))
    (h : ∀ (h' : Heap) (d' : Drawn) (I T : Addr) (L : List Value), L.Perm (es.toList.map (·.2)) -> SetSt w es ep t S T I L 0 h' -> (∀ b u, s.heap.get? b = some u -> h'.get? b = some u) -> s.heap.objs.size <= I -> I < h'.objs.size -> T ≠ I -> (T = S \/ s.heap.objs.size <= T) -> Q (.ref I) { s with heap := h', drawn := d' }) :
    wpAny (model P w) A (pyIter (.ref S)) Q E s := by
  have hT : s.TypeIs (.ref S) "set" := ⟨o, ho, hex.1⟩
  have hSl : S < s.heap.objs.size := Heap.lt_size ho
  refine wpAny_pyIter_slot hT F.slot_set_iter (wpAny_call_entry F.slot_set_iter hT SF.entry_iter ?_ (F.args_set_iter_1 _))
  unfold Builtin.«frozenset.__iter__» Builtin.Frozenset.slot0 Builtin.Frozenset.sizeOf setEntries
  refine wpAny_bind (wpAny_bind (m := slotArgs "__iter__" 0 _) (wpAny_pure (wpAny_pure ?_)))
  refine wpAny_bind (wpAny_bind (wpAny_bind (wpAny_setState_of ho hd hf (wpAny_pure (wpAny_pure ?_)))))
  refine wpAny_bind ?_
  unfold setDrawn setsByText
  refine wpAny_bind (wpAny_setState_of ho hd hf ?_)
  refine wpAny_bind (wpAny_bind (wpAny_askSetting (wpAny_pure (wpAny_pure ?_))))
  show wpAny _ _ (if (!byT w && (!t.plain && decide (es.size > 1))) = true then _ else _) _ _ _
  by_cases c : (!byT w && (!t.plain && decide (es.size > 1))) = true
  · rw [if_pos c]
    have bt : byT w = false := by
      cases b : byT w with
      | false => rfl
      | true => rw [b] at c; simp at c
    refine wpAny_bind (draw_perm _ _ _ _ (by simp) fun pl d' pp => wpAny_bind ?_)
    have lpl0 : pl.length = es.size := by rw [pp.length_eq, List.length_range]
    refine wpAny_newTuple (hsz := by rw [List.length_map, lpl0]; exact fits_of_scanBound hb) ?_
    have lpl : pl.length = es.size := by rw [pp.length_eq, List.length_range]
    have ho1 : (s.heap.push (seqObj "tuple" (pl.map fun i : Nat => rawInt i).toArray 0)).get? S = some o := Heap.get?_push_of_some _ ho
    unfold setEpoch
    refine wpAny_bind (wpAny_bind (wpAny_setState_of (s := { s with heap := s.heap.push (seqObj "tuple" (pl.map fun i : Nat => rawInt i).toArray 0), drawn := d' }) ho1 hd hf (wpAny_pure ?_)))
    unfold newFields
    refine wpAny_bind (wpAny_newObj_type (wpAny_pure ⟨_, rfl, "set_iterator", _, ⟨_, Heap.get?_push_size _ rfl, rfl⟩, SF.slot_next.lookup, ?_⟩) (by size_fits))
    refine h _ d' _ s.heap.objs.size (pl.map fun p => (es.getD p (0, .none)).2) ?_ ⟨⟨o, Heap.get?_push_of_some _ ho1, hd⟩, _, ⟨_, Heap.get?_push_size _ rfl, rfl, rfl⟩, .inr (.inr ⟨bt, rfl, pl, pp, ⟨_, 0, Heap.get?_push_of_some _ (Heap.get?_push_size _ rfl), rfl⟩, rfl⟩)⟩
      (fun b u q => Heap.get?_push_of_some _ (Heap.get?_push_of_some _ q)) ?_ ?_ ?_ ?_
    · refine (pp.map _).trans ?_
      rw [show (List.range es.size).map (fun p => (es.getD p (0, .none)).2) = es.toList.map (·.2) from by
        refine List.ext_getElem (by simp) fun i h1 h2 => ?_
        have hi : i < es.size := by simpa using h1
        simp [Array.getD, hi]]
    · rw [Heap.size_push]; exact Nat.le_succ _
    · exact Heap.lt_size (Heap.get?_push_size _ rfl)
    · rw [Heap.size_push]; exact Nat.ne_of_lt (Nat.lt_succ_self _)
    · exact .inr (Nat.le_refl _)
  · rw [if_neg c]
    refine wpAny_bind (wpAny_pure ?_)
    unfold setEpoch
    refine wpAny_bind (wpAny_bind (wpAny_setState_of ho hd hf (wpAny_pure ?_)))
    unfold newFields
    refine wpAny_bind (wpAny_newObj_type (wpAny_pure ⟨_, rfl, "set_iterator", _, ⟨_, Heap.get?_push_size _ rfl, rfl⟩, SF.slot_next.lookup, ?_⟩) (by size_fits))
    cases bt : byT w with
    | true =>
      refine h _ s.drawn _ S ((pickOrder (w.params.setOrder S ep) es).toList.map (·.2)) ((pick_perm _ es).map _) ⟨⟨o, Heap.get?_push_of_some _ ho, hd⟩, _, ⟨_, Heap.get?_push_size _ rfl, rfl, rfl⟩, .inl ⟨bt, ⟨0, rfl⟩, rfl⟩⟩
        (fun b u q => Heap.get?_push_of_some _ q) (Nat.le_refl _) ?_ (Nat.ne_of_lt hSl) ?_
      · rw [Heap.size_push]; exact Nat.lt_succ_self _
      · exact .inl rfl
    | false =>
      rw [bt] at c
      have pl : t.plain = true \/ es.size <= 1 := by
        cases q : t.plain with
        | true => exact .inl rfl
        | false =>
          rw [q] at c
          simp at c
          exact .inr c
      refine h _ s.drawn _ S (es.toList.map (·.2)) (List.Perm.refl _) ⟨⟨o, Heap.get?_push_of_some _ ho, hd⟩, _, ⟨_, Heap.get?_push_size _ rfl, rfl, rfl⟩, .inr (.inl ⟨bt, pl, ⟨0, rfl, below_zero hk.rise⟩, rfl⟩)⟩
        (fun b u q => Heap.get?_push_of_some _ q) (Nat.le_refl _) ?_ (Nat.ne_of_lt hSl) ?_
      · rw [Heap.size_push]; exact Nat.lt_succ_self _
      · exact .inl rfl
end
end L2
set_option Elab.async false
set_option linter.all false
set_option maxRecDepth 100000
namespace L2
open PySem PySem.Spec PyProof.Rows
section
variable {P : Program} {w : World} {A : Around} {E : Value -> Shared -> Prop} {s : Shared} {S : Addr} {ns : List Int}
theorem collectW {Q : List Value -> Shared -> Prop} (hh : A.handled = none) (hS : SetW P w s.heap S ns)
    (hQ : ∀ (vs : List Value) (ms : List Int) (h' : Heap) (d' : Drawn) (tk : Nat), IntsAre vs ms -> ms.Perm ns -> (∀ b u, s.heap.get? b = some u -> h'.get? b = some u) -> s.heap.objs.size <= h'.objs.size -> Q vs { s with heap := h', drawn := d', toks := tk }) :
    wpAny (model P w) A (collect (.ref S)) Q E s := by
  obtain ⟨o, es, ep, t, ho, hex, hd, hel, hi, hp, hb, hf, hk⟩ := hS
  have hSl : S < s.heap.objs.size := Heap.lt_size ho
  unfold collect
  refine wpAny_bind (wpAny_runValue (codeAny_builtin F.entry_proto_collect ?_))
  rw [Around.under_plainId F.plain_proto_collect _]
  show wpAny _ A.in1 (newList [] >>= fun l => again (.builtin "list.__iadd__" ⟨[l, .ref S], []⟩)) _ _ s
  refine wpAny_bind (wpAny_newObj_type ?_)
  refine wpAny_pure ⟨plainId_quiet F.plain_list_iadd _, codeAny_builtin F.entry_list_iadd ?_⟩
  rw [Around.under_plainId F.plain_list_iadd _]
  generalize hN : ({ cls := .type "list", data := .seq ([] : List Value).toArray } : Obj) = oN
  have ho1 : (s.heap.push oN).get? S = some o := Heap.get?_push_of_some _ ho
  have hN1 : (s.heap.push oN).get? s.heap.objs.size = some oN := Heap.get?_push_size _ (by rw [<- hN]; rfl)
  have ne : s.heap.objs.size ≠ S := Nat.ne_of_gt hSl
  have hT : (⟨s.heap.push oN, s.gens, s.drawn, s.toks, s.os⟩ : Shared).TypeIs (.ref S) "set" := ⟨o, ho1, hex.1⟩
  show wpAny _ A.in1 (Builtin.List.listExtendWith (.ref s.heap.objs.size) (.ref S) (.ref s.heap.objs.size)) _ _ ⟨s.heap.push oN, s.gens, s.drawn, s.toks, s.os⟩
  unfold Builtin.List.listExtendWith
  refine wpAny_bind (wpAny_typeOf hT ?_)
  rw [if_neg (by
    have h1 : Builtin.List.listSameRef (.ref s.heap.objs.size) (.ref S) = false := by simp [Builtin.List.listSameRef, ne]
    rw [h1]
    decide)]
  refine wpAny_bind (iterW ho1 hex hd hb hf hk fun h1 d1 I T L pL st keep hI1 hI2 hTI hT2 => ?_)
  have ho2 : h1.get? S = some o := keep S o ho1
  have hT2' : (⟨h1, s.gens, d1, s.toks, s.os⟩ : Shared).TypeIs (.ref S) "set" := ⟨o, ho2, hex.1⟩
  refine wpAny_bind (wpAny_holding ?_)
  unfold Builtin.List.listLengthHint
  refine wpAny_bind (wpAny_specialOf hT2' F.slot_set_len.lookup ?_)
  (generalize hid : ("set.__len__" : String) = id0; wp_delta; rw [show splitId id0 = some ("set", "__len__") from by subst hid; decide +kernel]; subst hid)
  refine wpAny_bind (wpAny_isInstance (b := true) hT2' sub_set_self ?_)
  show wpAny _ _ (typeOf (.ref S) >>= _) _ _ _
  refine wpAny_bind (wpAny_typeOf hT2' (wpAny_pure ?_))
  show wpAny _ A.in1 (rule "list.extend.makes-room" >>= fun _ => Builtin.List.listTouch (.ref s.heap.objs.size) >>= fun _ =>
    again (.builtin "list.extend.loop" ⟨[.ref s.heap.objs.size, .ref I, .ref s.heap.objs.size], []⟩)) _ _ _
  refine wpAny_bind (wpAny_rule ?_)
  have hN2 : h1.get? s.heap.objs.size = some { cls := .type "list", data := .seq ([] : List Value).toArray } := by rw [hN]; exact keep _ _ hN1
  refine wpAny_bind ?_
  show wpAny _ A.in1 (updateSeq s.heap.objs.size (·.push .none) >>= fun _ => updateSeq s.heap.objs.size (·.pop)) _ _ _
  refine wpAny_bind (wpAny_updateSeq hN2 rfl ?_)
  have hN3 := Heap.get?_update_self (Obj.mapSeq (·.push Value.none)) hN2 rfl
  refine wpAny_updateSeq hN3 rfl ?_
  have hN4 := Heap.get?_update_self (Obj.mapSeq (·.pop)) hN3 rfl
  have oth : ∀ b u, b ≠ s.heap.objs.size -> h1.get? b = some u -> ((h1.update s.heap.objs.size (Obj.mapSeq (·.push Value.none))).update s.heap.objs.size (Obj.mapSeq (·.pop))).get? b = some u :=
    fun b u hb q => (Heap.get?_update_other _ _ (Ne.symm hb)).trans ((Heap.get?_update_other _ _ (Ne.symm hb)).trans q)
  have lL : L.length = es.size := by rw [pL.length_eq, List.length_map, Array.length_toList]
  have nI : s.heap.objs.size ≠ I := by
    rw [Heap.size_push] at hI1
    exact Nat.ne_of_lt hI1
  have nT : s.heap.objs.size ≠ T := by
    rcases hT2 with z | z
    · rw [z]; exact ne
    · rw [Heap.size_push] at z
      exact Nat.ne_of_lt z
  have SI : S ≠ I := by
    rw [Heap.size_push] at hI1
    exact Nat.ne_of_lt (Nat.lt_of_lt_of_le hSl (Nat.le_trans (Nat.le_succ _) hI1))
  have W : WalksS P w A.in1 I [I, S, T] [I] (fun a b => b = a) es.size (fun i v => v = L.getD i .none) (fun i s => SetSt w es ep t S T I L i s.heap) := walkW (A := A.in1) (by simp [hh]) hf hk lL hTI SI
  have nfp : s.heap.objs.size ∉ [I, S, T] := by
    simp only [List.mem_cons, List.not_mem_nil, or_false, not_or]
    exact ⟨nI, ne, nT⟩
  refine wpAny_pure ⟨plainId_quiet F.plain_extend_loop _, codeAny_extend_loopS W (fits_of_scanBound hb) _ nfp _ es.size 0 _ _ _ rfl (Nat.zero_le _)
    (W.frame 0 ⟨h1, s.gens, d1, s.toks, s.os⟩ _ s.toks st (Nat.le_refl _) fun b hb' u q => oth b u (fun z => nfp (z ▸ hb')) q) hN4 (ItemsOf.nil _) fun s' acc' c' hm hS' hacc => ?_⟩
  show wpAny _ A (load s.heap.objs.size >>= _) _ _ s'
  refine wpAny_bind (wpAny_load hS' (wpAny_pure ?_))
  obtain ⟨h', g', d', tk', os'⟩ := s'
  have eg : g' = s.gens := hm.gens
  have eo : os' = s.os := hm.os
  subst eg eo
  have eacc : acc'.toList = L := by
    refine List.ext_getElem (by rw [Array.length_toList, hacc.1, lL]) fun i h1' h2' => ?_
    have := hacc.2 i acc'[i] (by simp at h1'; simp [h1'])
    simp [this, h2']
  rw [eacc]
  have allI : ∀ vs : List Value, (∀ v ∈ vs, ∃ n u, v = Value.int n u) -> IntsAre vs (vs.map valI) := by
    intro vs
    induction vs with
    | nil => intro _; exact .nil
    | cons v r ih =>
      intro al
      obtain ⟨n, u, rfl⟩ := al v List.mem_cons_self
      exact .cons n u (ih fun x hx => al x (List.mem_cons_of_mem _ hx))
  refine hQ L (L.map valI) h' d' tk' (allI L fun v hv => ?_) ?_ (fun b u q => ?_) (Nat.le_of_lt (Heap.lt_size hS'))
  · obtain ⟨e, he, rfl⟩ := List.mem_map.mp (pL.mem_iff.mp hv)
    exact hi e he
  · refine (pL.map _).trans ?_
    rw [List.map_map]
    exact hp
  · have hbn : b ≠ s.heap.objs.size := Nat.ne_of_lt (Heap.lt_size q)
    refine hm.heap b u ?_ (oth b u hbn (keep b u (Heap.get?_push_of_some _ q)))
    simp only [List.mem_cons, List.not_mem_nil, or_false, not_or]
    refine ⟨hbn, Nat.ne_of_lt (Nat.lt_of_lt_of_le (Heap.lt_size q) ?_)⟩
    rw [Heap.size_push] at hI1
    exact Nat.le_trans (Nat.le_succ _) hI1
theorem sortedW {Q : Value -> Shared -> Prop} (hh : A.handled = none) (hS : SetW P w s.heap S ns) (h64 : ns.length < 64)
    (h : ∀ (l : Addr) (out : List Value) (ms : List Int) (e : Nat) (h' : Heap) (d' : Drawn) (tk : Nat), IntsAre out ms -> ms.Perm ns -> ms.Pairwise (· <= ·) -> s.heap.objs.size <= l -> h'.get? l = some (seqObj "list" out.toArray e) -> (∀ b u, s.heap.get? b = some u -> h'.get? b = some u) ->
      Q (.ref l) { s with heap := h', drawn := d', toks := tk }) : wpAny (model P w) A (call (.builtin "sorted") [.ref S]) Q E s := by
  refine Calls.call_function_entry kind_sorted plain_sorted entry_sorted (args_sorted1 _) ?_
  unfold Builtin.«sorted»
  refine wpAny_bind (m := checkCount "sorted" 1 1 _) (wpAny_pure ?_)
  refine wpAny_bind (collectW (by simp [hh]) hS fun vs ms h1 d1 tk1 hI hp keep hsz1 => ?_)
  have l64 : vs.length < 64 := by
    have e1 : vs.length = ms.length := hI.length
    have e2 := hp.length_eq
    omega
  refine wpAny_bind (wpAny_newList (hsz := Nat.le_trans (Nat.le_of_lt l64) (by decide)) ?_)
  have hoL : (h1.push (seqObj "list" vs.toArray 0)).get? h1.objs.size = some (seqObj "list" vs.toArray 0) := Heap.get?_push_size _ rfl
  refine wpAny_bind (wpAny_holding (wpAny_call_entry slot_list_sort ⟨_, hoL, rfl⟩ entry_list_sort (list_sort_tree hoL hI l64 fun out ns' a1 a2 a3 => ⟨_, rfl, ?_⟩) (args_list_sort _)))
  obtain ⟨e, he⟩ := sortedHeap_at (vs := vs) (out := out) hoL
  refine wpAny_pure ⟨_, rfl, ?_⟩
  refine h h1.objs.size out.toList ns' e _ d1 tk1 a1 (a2.trans hp) a3 ?_ (by simpa using he) fun b u q => ?_
  · exact hsz1
  · have q1 := keep b u q
    have lt := Heap.lt_size q1
    rw [sortedHeap_old (Nat.ne_of_lt lt) (by rw [Heap.size_push]; exact Nat.lt_succ_of_lt lt)]
    exact Heap.get?_push_of_some _ q1
end
end L2
set_option Elab.async false
set_option linter.all false
set_option maxRecDepth 100000
namespace L2
open PySem PySem.Spec PyProof.Rows
abbrev SetAt (P : Program) (w : World) (S : Addr) (ns : List Int) : HO := .ext fun h => SetW P w h S ns
theorem vals_toI : ∀ {ns : List Int} {us : List Value}, Vals (ns.map V.int) us -> IntsAre us ns
  | [], _, .nil => .nil
  | n :: r, _, .cons ⟨t, e⟩ z => by
    subst e
    exact .cons n t (vals_toI z)
theorem toI_vals : ∀ {ns : List Int} {us : List Value}, IntsAre us ns -> Vals (ns.map V.int) us
  | _, _, .nil => .nil
  | _, _, .cons n t r => .cons ⟨t, rfl⟩ (toI_vals r)
def onceI (ns : List Int) : List Int := ns.foldl step_dedup []
theorem firstMet_once (ns : List Int) : firstMet (fun i => ns.getD i 0) ns.length = onceI ns := by
  unfold firstMet onceI
  congr 1
  refine List.ext_getElem (by simp) fun i h1 h2 => ?_
  simp [List.getD, h2]
theorem dedup_mem {s : List Int} {v k : Int} : k ∈ step_dedup s v ↔ k ∈ s \/ k = v := by
  unfold step_dedup
  split
  · rename_i h
    have hv : v ∈ s := by simpa using h
    exact ⟨.inl, fun z => z.elim id fun e => e ▸ hv⟩
  · simp
theorem dedup_nodup {s : List Int} {v : Int} (h : s.Nodup) : (step_dedup s v).Nodup := by
  unfold step_dedup
  split
  · exact h
  · rename_i c
    have hv : v ∉ s := by simpa using c
    exact List.nodup_append.mpr ⟨h, by simp, fun a ha b hb e => hv (by rw [<- List.mem_singleton.mp hb, <- e]; exact ha)⟩
theorem once_mem_go : ∀ (ns s : List Int) (k : Int), k ∈ ns.foldl step_dedup s ↔ k ∈ s \/ k ∈ ns
  | [], s, k => by simp
  | n :: r, s, k => by
    rw [List.foldl_cons, once_mem_go r, dedup_mem, List.mem_cons]
    constructor
    · rintro ((h | h) | h)
      · exact .inl h
      · exact .inr (.inl h)
      · exact .inr (.inr h)
    · rintro (h | h | h)
      · exact .inl (.inl h)
      · exact .inl (.inr h)
      · exact .inr h
theorem once_mem {ns : List Int} {k : Int} : k ∈ onceI ns ↔ k ∈ ns := by
  unfold onceI
  rw [once_mem_go]
  simp
theorem once_nodup_go : ∀ (ns s : List Int), s.Nodup -> (ns.foldl step_dedup s).Nodup
  | [], s, h => h
  | n :: r, s, h => once_nodup_go r _ (dedup_nodup h)
theorem once_nodup (ns : List Int) : (onceI ns).Nodup := once_nodup_go ns [] List.Pairwise.nil
section
variable {X : Cx}
theorem call_sortedS (hc : X.calm = true) : CallR X (.builtin "sorted") (fun xs H Q => ∃ (S : Addr) (ns : List Int), xs = [.ref S] /\ H S = some (SetAt X.prog X.w S ns) /\ ns.length < 64 /\
    ∀ (l : Addr) (ms : List Int), H l = none -> ms.Perm ns -> ms.Pairwise (· <= ·) -> Q (.ref l) (upd H l (.lst (ms.map V.int)))) := by
  intro pins s σ H xs us Q I r h
  obtain ⟨S, ns, rfl, hS, h64, q⟩ := h
  obtain ⟨u, rfl, rx⟩ := vals1 r
  cases rx
  obtain ⟨p, _, _⟩ := (show ObjOk X.prog X.w H s.heap S (SetAt X.prog X.w S ns) from I.hok S _ hS)
  refine sortedW (I.ok.hd hc) p h64 fun l out ms e h' d' tk hI hp hs hle hg keep => ?_
  have I1 : Inv X pins σ (upd H l (.lst (ms.map V.int))) { s with heap := h', toks := tk } := I.laid (t' := tk) keep hle ⟨by
    rw [List.length_map, hp.length_eq]
    exact Nat.le_trans (Nat.le_of_lt h64) (by decide), out, e, toI_vals hI, hg⟩
  exact ⟨.ref l, _, ⟨I1.ok, I1.os, I1.bare, I1.base, I1.loc, I1.cell, I1.free, I1.freeC, I1.pin, I1.hok, I1.len⟩, rfl, q l ms (I.hok.fresh hle) hp hs⟩
end
end L2
set_option Elab.async false
set_option linter.all false
set_option maxRecDepth 100000
namespace PySem
open PyProof.Rows
theorem keys_none_list : typeLookup (.type "list") "keys" = pure none := by rw [typeLookup_type, builtinLookup_eq_fast]; kernel_rfl
theorem keys_miss_list {prog : Program} {w : World} {A : Around} {E : Value -> Shared -> Prop} {s : Shared} {a : Addr} {xs : Array Value} {k : Nat} {sl : Array (Option Value)} {Q : Option Value -> Shared -> Prop}
    (hx : s.heap.get? a = some { cls := .type "list", dict := none, data := .seq xs k, slots := sl }) (hA : A.handled = none)
    (h : ∀ h' tk, (∀ b o, s.heap.get? b = some o -> h'.get? b = some o) -> Q none { s with heap := h', toks := tk }) : wpAny (model prog w) A (getAttr? (.ref a) "keys") Q E s := by
  obtain ⟨hp, g, d, tk, os⟩ := s
  have hT : ∀ tk', (⟨hp, g, d, tk', os⟩ : Shared).TypeIs (.ref a) "list" := fun _ => ⟨_, hx, rfl⟩
  have f1 := sub_AttributeError
  have f3 := F.slot_list_getattribute.lookup
  have f4 := F.slot_list_getattribute.bind (.ref a)
  have f5 := am_list_getattr_none
  have hmiss := keys_none_list
  have hname : (["__module__", "__name__", "__qualname__", "__doc__", "__annotations__"] : List Str).contains (Str.ofString "keys") = false := by decide +kernel
  unfold getAttr? getAttrBy? getAttrBy
  repeat (any_goals (first | assumption | exact hT _ | ((with_reducible show wpAny _ _ (call (Value.builtin "list.__getattribute__") _ _) _ _ _); refine call_meets F.slot_list_getattribute (hT _) am_entry_list_getattribute (F.args_list_getattribute_2 _ _) (meets_getattribute_miss_list a xs k sl (Str.ofString "keys") _ hmiss hname (by decide)) ⟨hx, hA, fun h' tk' e hx' => ?_⟩) | wp_step))
  obtain ⟨t', u', he⟩ := hx'.there
  show wpAny _ _ (getattributeRaised _ _ _ _ _ _ _) _ _ _
  unfold getattributeRaised
  repeat (any_goals (first | assumption | wp_step))
  exact h h' tk' hx'.keeps
section
variable {prog : Program} {w : World} {K : Type} [DecidableEq K] {knd : KeyKind prog w K} {A : Around} {E : Value -> Shared -> Prop} {s : Shared} {R : Result -> Shared -> Prop}
theorem entry_update_loop : entryFor table "dict.update.loop" = some Builtin.«dict.update.loop» := entryFor_of_tree (by kernel_rfl)
theorem plain_update_loop : plainId "dict.update.loop" = true := by decide +kernel
def PairTups (knd : KeyKind prog w K) (h : Heap) (ts : List Addr) (ps : List (K × Value)) : Prop := ∀ (j : Nat) (t : Addr) (p : K × Value), ts[j]? = some t -> ps[j]? = some p -> ∃ key, knd.is p.1 key = true /\ IsTup h t #[key, p.2]
theorem update_loop {D I l : Addr} {ts : List Addr} {ps : List (K × Value)} (W : Walks prog w A.in1 I [I, l] [I] ts.length (fun i v => (ts.map Value.ref).toArray[i]? = some v) (fun i h => h.IsListIter I l i /\ h.IsList l (ts.map Value.ref).toArray))
    (hl : ts.length = ps.length) (hDI : D ≠ I) (hDl : D ≠ l) (hDt : ∀ t ∈ ts, t ≠ D /\ t ≠ I) (hz : ps.length <= sizeLine) :
    ∀ (k i : Nat) (s : Shared) (acc : List (K × Value)), ts.length - i = k -> i <= ts.length -> (s.heap.IsListIter I l i /\ s.heap.IsList l (ts.map Value.ref).toArray) -> s.heap.DictOf knd D acc -> acc.length <= i -> PairTups knd s.heap ts ps ->
    (∀ h' tk, (∀ b o, b ≠ D -> b ≠ I -> s.heap.get? b = some o -> h'.get? b = some o) -> h'.DictOf knd D (merged acc (ps.drop i)) -> R (.ok (.ret .none)) { s with heap := h', toks := tk }) ->
    codeAny (model prog w) A (.builtin "dict.update.loop" ⟨[.ref D, .ref I, rawInt (i : Int), .none], []⟩) R s := by
  intro k
  induction k with
  | zero =>
    intro i s acc hk hi hst hD hacc hP hR
    have hin : i = ts.length := by omega
    subst hin
    refine codeAny_builtin entry_update_loop ?_
    rw [Around.under_plainId plain_update_loop _]
    show wpAny _ A.in1 (pyNext (.ref I) >>= _) _ _ s
    refine wpAny_bind (W.done s _ _ hst fun h' tk hm => ?_)
    show wpAny _ _ (Builtin.Dict.addKeywords D [] >>= _) _ _ _
    refine wpAny_bind (wpAny_of_eq (a := ()) rfl ?_)
    have e : ps.drop ts.length = [] := by rw [hl, List.drop_length]
    refine wpAny_pure (hR h' tk (fun b o _ hb q => hm b o (by simpa using hb) q) ?_)
    rw [e]
    exact hD.extBut (b := I) (fun b o hb q => hm b o (by simpa using hb) q) hDI
  | succ k ih =>
    intro i s acc hk hi hst hD hacc hP hR
    have hlt : i < ts.length := by omega
    have hlt2 : i < ps.length := by omega
    refine codeAny_builtin entry_update_loop ?_
    rw [Around.under_plainId plain_update_loop _]
    show wpAny _ A.in1 (pyNext (.ref I) >>= _) _ _ s
    refine wpAny_bind (W.item i s _ _ hlt hst fun v h' tk hv hst' hm => ?_)
    have ev : v = .ref ts[i] := by
      have : (ts.map Value.ref).toArray[i]? = some (.ref ts[i]) := by simp [hlt]
      rw [this] at hv
      exact (Option.some.inj hv).symm
    subst ev
    have keep : ∀ b o, b ≠ I -> s.heap.get? b = some o -> h'.get? b = some o := fun b o hb q => hm b o (by simpa using hb) q
    obtain ⟨key, hkey, ht⟩ := hP i ts[i] ps[i] (List.getElem?_eq_getElem hlt) (List.getElem?_eq_getElem hlt2)
    have tn := hDt ts[i] (List.getElem_mem hlt)
    have ht' : IsTup h' ts[i] #[key, (ps[i]).2] := ht.extBut (b := I) keep tn.2
    have hD' : h'.DictOf knd D acc := hD.extBut (b := I) keep hDI
    obtain ⟨ot, hot, hct, nt, hdt⟩ := id ht'
    try dsimp only
    refine wpAny_bind (wpAny_holding ?_)
    refine wpAny_bind (wpAny_tryCatch ?_)
    unfold Builtin.Dict.pairItems
    refine wpAny_bind (wpAny_typeOf (s := { s with heap := h', toks := tk }) ht'.typeIs ?_)
    rw [if_pos (by decide)]
    refine wpAny_bind (wpAny_seqItems (s := { s with heap := h', toks := tk }) hot hdt ?_)
    refine wpAny_pure ?_
    show wpAny _ _ (holding [key, (ps[i]).2] (dictSet D key (ps[i]).2)) _ _ _
    refine wpAny_holding (wpAny_dictSet_pairs (knd := knd) (s := { s with heap := h', toks := tk }) hkey hD' (fun h2 hD2 sb2 => ?_) (by omega))
    have keep2 : ∀ b o, b ≠ D -> h'.get? b = some o -> h2.get? b = some o := fun b o hb q => sb2.extBut b o hb q
    refine wpAny_pure ⟨plainId_quiet plain_update_loop _, ?_⟩
    have ri : rawInt ((i : Int) + 1) = rawInt (((i + 1 : Nat)) : Int) := by push_cast; rfl
    rw [ri]
    refine ih (i + 1) { s with heap := h2, toks := tk + 1 } (stored acc (ps[i]).1 (ps[i]).2) (by omega) hlt ⟨hst'.1.at fun o q => keep2 I o (Ne.symm hDI) q, hst'.2.at fun o q => keep2 l o (Ne.symm hDl) q⟩ hD2 (by
      have := stored_length_le acc (ps[i]).1 (ps[i]).2
      omega) (fun j t p h1 h2' => ?_) (fun h3 tk3 kp3 hD3 => ?_)
    · obtain ⟨key', hk', ht''⟩ := hP j t p h1 h2'
      have tn' := hDt t (List.mem_of_getElem? h1)
      exact ⟨key', hk', (ht''.extBut (b := I) keep tn'.2).extBut (b := D) keep2 tn'.1⟩
    · refine hR h3 tk3 (fun b o hb hb2 q => kp3 b o hb hb2 (keep2 b o hb (keep b o hb2 q))) ?_
      rw [List.drop_eq_getElem_cons hlt2]
      exact hD3
theorem call_dict_pairs {l : Addr} {ts : List Addr} {ps : List (K × Value)} {c : Nat} {Q : Value -> Shared -> Prop} (hh : A.handled = none) (hL : s.heap.get? l = some { cls := .type "list", dict := none, data := .seq (ts.map Value.ref).toArray c, slots := #[] })
    (hl : ts.length = ps.length) (hP : PairTups knd s.heap ts ps) (hz : ps.length <= sizeLine)
    (hQ : ∀ h' tk, (∀ b o, s.heap.get? b = some o -> h'.get? b = some o) -> h'.DictOf knd s.heap.objs.size (merged [] ps) -> Q (.ref s.heap.objs.size) { s with heap := h', toks := tk }) :
    wpAny (model prog w) A (call (.type "dict") [.ref l]) Q E s := by
  refine callType_codes (Q₁ := fun obj s₁ => obj = .ref s.heap.objs.size /\ s₁ = { s with heap := s.heap.push { cls := .type "dict", data := .dict #[] } }) F.kt_called_dict (F.kt_typeCall_dict_1 _) F.entry_dict_init (kt_code_dict_new _ ⟨rfl, rfl⟩) ?_
  rintro obj s₁ ⟨rfl, rfl⟩
  have hnew : (s.heap.push { cls := .type "dict", data := .dict #[] }).DictOf knd s.heap.objs.size [] := Heap.DictOf.new s.heap
  have hlt : l < s.heap.objs.size := Heap.lt_size hL
  have hL' : (s.heap.push { cls := .type "dict", data := .dict #[] }).get? l = some { cls := .type "list", dict := none, data := .seq (ts.map Value.ref).toArray c, slots := #[] } := Heap.get?_push_of_some _ hL
  refine ⟨hnew.typeIs, F.args_dict_init_2 _ _, ?_⟩
  unfold Builtin.«dict.__init__»
  refine wpAny_bind ?_
  unfold Builtin.Dict.selfAndRest
  refine wpAny_bind (wpAny_notOrdered_dict hnew.typeIs ?_)
  show wpAny _ _ (pure (s.heap.objs.size, [Value.ref l])) _ _ _
  refine wpAny_pure ?_
  show wpAny _ _ (Builtin.Dict.updateFrom "dict.__init__" s.heap.objs.size (.ref l) [] .none) _ _ _
  unfold Builtin.Dict.updateFrom
  refine wpAny_bind (wpAny_typeOf (T := "list") ⟨_, hL', rfl⟩ ?_)
  rw [if_pos (by decide)]
  refine wpAny_bind (keys_miss_list hL' hh fun h1 tk1 kp1 => ?_)
  rw [if_pos (by rfl)]
  refine wpAny_bind (wpAny_rule ?_)
  have hL1 := kp1 _ _ hL'
  have il1 : Heap.IsList h1 l (ts.map Value.ref).toArray := ⟨_, hL1, rfl, c, rfl⟩
  refine wpAny_bind (wpAny_pyIter_list (s := { s with heap := h1, toks := tk1 }) il1 ?_)
  refine wpAny_pure ⟨plainId_quiet plain_update_loop _, ?_⟩
  have oI : (h1.push { cls := .type "list_iterator", data := .fields #[.ref l, .int 0 0] }).get? h1.objs.size = some { cls := .type "list_iterator", data := .fields #[.ref l, .int 0 0] } := Heap.get?_push_size _ rfl
  have l1 : l < h1.objs.size := Heap.lt_size hL1
  have d1 : s.heap.objs.size < h1.objs.size := Heap.lt_size (kp1 _ _ (Heap.get?_push_size s.heap rfl))
  have W := Walks.list (prog := prog) (w := w) (A := A.in1.in1) hh h1.objs.size l (Nat.ne_of_lt l1) (ts.map Value.ref).toArray
  have sz : (ts.map Value.ref).toArray.size = ts.length := by simp
  rw [sz] at W
  have kp2 : ∀ b o, s.heap.get? b = some o -> (h1.push { cls := .type "list_iterator", data := .fields #[.ref l, .int 0 0] }).get? b = some o := fun b o q => Heap.get?_push_of_some _ (kp1 _ _ (Heap.get?_push_of_some _ q))
  refine update_loop (A := A.in1) (knd := knd) (D := s.heap.objs.size) (ps := ps) W hl (Nat.ne_of_lt d1) (Nat.ne_of_gt hlt) (fun t ht => ?_) hz ts.length 0 { s with heap := h1.push { cls := .type "list_iterator", data := .fields #[.ref l, .int 0 0] }, toks := tk1 } [] rfl (Nat.zero_le _) ⟨⟨_, oI, rfl, rfl⟩, il1.at fun o q => Heap.get?_push_of_some _ q⟩ ?_ (Nat.zero_le _) (fun j t p a1 a2 => ?_) (fun h3 tk3 kp3 hD3 => ?_)
  · obtain ⟨j, hj⟩ := List.mem_iff_getElem?.mp ht
    have jl : j < ps.length := by
      rw [<- hl]
      exact (List.getElem?_eq_some_iff.mp hj).1
    obtain ⟨key, _, o, ho, _⟩ := hP j t ps[j] hj (List.getElem?_eq_getElem jl)
    have tl := Heap.lt_size ho
    exact ⟨Nat.ne_of_lt tl, Nat.ne_of_lt (Nat.lt_trans tl d1)⟩
  · exact hnew.extBut (b := h1.objs.size) (fun b o _ q => Heap.get?_push_of_some _ (kp1 _ _ q)) (Nat.ne_of_lt d1)
  · obtain ⟨key, hk, ht⟩ := hP j t p a1 a2
    exact ⟨key, hk, ht.keeps kp2⟩
  · exact ⟨rfl, hQ h3 tk3 (fun b o q => kp3 b o (Nat.ne_of_lt (Heap.lt_size q)) (Nat.ne_of_lt (Nat.lt_trans (Heap.lt_size q) d1)) (kp2 b o q)) hD3⟩
end
end PySem
namespace L2
open PySem PySem.Spec PyProof.Rows
section
variable {X : Cx}
def PairsV (H : Hp) : List Addr -> List (Key × V) -> Prop := Paired fun a p => H a = some (.tup [kV p.1, p.2])
theorem merge_vals {P : Program} {w : World} : ∀ {kvs : List (Key × V)} {ts : List Addr} {H : Hp} {h : Heap}, PairsV H ts kvs -> HOk P w H h -> ∃ ps : List (Key × Value), KV kvs ps /\ ps.length = ts.length /\ PairTups (mixKind P w) h ts ps
  | [], [], _, _, .nil, _ => ⟨[], .nil, rfl, fun j t p h => by simp at h⟩
  | _, _, _, _, .cons (a := a) (b := p) (l₁ := ts) (l₂ := kvs) q t, ok => by
    obtain ⟨ps, r1, r2, r3⟩ := merge_vals t ok
    obtain ⟨z, its, rv, ht⟩ := ok a _ q
    obtain ⟨u, v, rfl, ru, rv'⟩ := Vals.two rv
    refine ⟨(p.1, v) :: ps, .cons ⟨rfl, rv'⟩ r1, by simp [r2], fun j t' p' h1 h2 => ?_⟩
    cases j with
    | zero =>
      simp at h1 h2
      subst h1 h2
      exact ⟨u, kV_is ru, by simpa using ht⟩
    | succ j => exact r3 j t' p' (by simpa using h1) (by simpa using h2)
def rDictOf : List V -> Hp -> VK -> Prop := fun xs H Q => ∃ l ts kvs, xs = [.ref l] /\ H l = some (.lst (ts.map V.ref)) /\ PairsV H ts kvs /\ ∀ D, H D = none -> Q (.ref D) (upd H D (.dK (mergeK [] kvs)))
theorem vals_refs : ∀ {ts : List Addr} {us : List Value}, Vals (ts.map V.ref) us -> us = ts.map Value.ref
  | [], _, .nil => rfl
  | t :: ts, _, .cons r q => by
    cases r
    rw [List.map_cons, vals_refs q]
theorem call_dictOf (hc : X.calm = true) : CallR X (.type "dict") rDictOf := by
  intro pins s σ H xs us Q I r h
  obtain ⟨l, ts, kvs, rfl, hl, hp, q⟩ := h
  obtain ⟨u, rfl, rx⟩ := vals1 r
  cases rx
  obtain ⟨z, its, n, rv, hln, e⟩ := I.lstM hl
  have ei := vals_refs rv
  subst ei
  obtain ⟨ps, r1, r2, r3⟩ := merge_vals hp I.hok
  have hlen : kvs.length = ps.length := Paired.length r1
  have zl : ps.length <= sizeLine := by
    rw [r2]
    rw [List.length_map] at z
    exact z
  refine call_dict_pairs (knd := mixKind X.prog X.w) (I.ok.hd hc) e r2.symm r3 zl fun h' tk kp dd => ?_
  have ob : ObjOk X.prog X.w (upd H s.heap.objs.size (.dK (mergeK [] kvs))) h' s.heap.objs.size (.dK (mergeK [] kvs)) := by
    refine dk_new ?_ (beq_eq_false_iff_ne.mpr (Ne.symm (Nat.ne_of_lt I.big))) (KV.merge r1 .nil) dd
    have := length_mergeK kvs []
    simp only [List.length_nil] at this
    omega
  exact ⟨.ref _, _, I.laid (t' := tk) kp (Nat.le_refl _) ob, rfl, q _ (I.hok.fresh (Nat.le_refl _))⟩
end
section
variable {X : Cx} {pins : List (Addr × Obj)} {σ : St} {H : Hp} {s : Shared} {a : Addr} {z : V} {u r : Value} {A : Around} {E : Value -> Shared -> Prop} {kvs : List (Key × V)} {k : Key}
theorem d_setdefault {Q : Value -> Shared -> Prop} (I : Inv X pins σ H s) (e : H a = some (.dK kvs)) (hz : kvs.length < sizeLine) (ry : RelV (kV k) u) (rz : RelV z r)
    (h1 : ∀ v w' s', valV kvs k = some v -> Inv X pins σ H s' -> RelV v w' -> Q w' s') (h2 : ∀ s', valV kvs k = none -> Inv X pins σ (upd H a (.dK (putK kvs k z))) s' -> Q r s') :
    wpAny (model X.prog X.w) A (call (.builtin "dict.setdefault") [.ref a, u, r]) Q E s := by
  obtain ⟨zl, hd, vs, rel, dd⟩ := dk_of I.hok e
  have rv := rel.val k
  refine call_meetsIn PySem.F.slot_dict_setdefault dd.typeIs PySem.F.entry_dict_setdefault (PySem.F.args_dict_setdefault_3 _ _ _) (kt_meets_setdefault (mixKind X.prog X.w) a (kV_is ry) hd r) ⟨vs, dd, by rw [<- rel.length]; exact zl, fun v hv => ?_, fun hn h' dd' sb => ?_⟩
  · cases hk : valV kvs k with
    | none => rw [hk, hv] at rv; exact rv.elim
    | some x =>
      rw [hk, hv] at rv
      exact h1 x v _ hk (I.tok _) rv
  · have hk : valV kvs k = none := by
      cases hk : valV kvs k with
      | none => rfl
      | some x => rw [hk, hn] at rv; exact rv.elim
    refine h2 _ hk (d_write (t' := s.toks + 1) I (by rw [e]; trivial) sb ?_ (dk_new (kvs := putK kvs k z) (by have := length_putK kvs k z; omega) hd (rel.put k rz) dd'))
    obtain ⟨ob, _, _, g, _⟩ := dd'
    exact ⟨ob, g⟩
end
def tDSet (td ty tx : TE) : TE := fun σ H Q => td σ H fun x H1 => ∃ a, x = .ref a /\ IsD H1 a /\ ty σ H1 fun y H2 => tx σ H2 fun z H3 => ∃ kvs k, H3 a = some (.dK kvs) /\ y = kV k /\ kvs.length < sizeLine /\
  (∀ v, valV kvs k = some v -> Q v H3) /\ (valV kvs k = none -> Q z (upd H3 a (.dK (putK kvs k z))))
section
variable {X : Cx} {o e f : Expr} {apos cpos : Pos} {td ty tx : TE}
theorem pe_dset (ho : PE X o td) (he : PE X e ty) (hf : PE X f tx) (m : M2 X o "setdefault" apos e f cpos) : PE X (.Call (.Attribute o "setdefault" apos) [e, f] [] cpos) (tDSet td ty tx) := by
  intro pins s σ H Q I h
  refine wpAny_Call_method m.base m.few m.line PySem.F.plainAttrs_dict PySem.F.slot_dict_setdefault PySem.F.type_dict_setdefault (thn (ho pins s σ H _ I h) fun u s1 ⟨x, H1, I1, rx, a, ex, d, q1⟩ => ?_)
  subst ex
  obtain rfl : u = Value.ref a := rx
  obtain ⟨t1, t2, _⟩ := isD_at I1 d
  refine ⟨t1, t2, ?_⟩
  rw [m.trees]
  refine Calls.callWith_builtin rfl (Calls.evalArgs_plain (Calls.spliced_cons (thn (he pins s1 σ H1 _ I1 q1) fun iv s2 ⟨y, H2, I2, ry, q2⟩ =>
    Calls.spliced_cons (thn (hf pins s2 σ H2 _ I2 q2) fun fv s3 ⟨z, H3, I3, rz, kvs, k, ea, ey, hz, q3, q4⟩ => Calls.spliced_nil ?_))))
  subst ey
  exact d_setdefault I3 ea hz ry rz (fun v w' s' hv I4 rv => ⟨v, H3, I4, rv, q3 v hv⟩) fun s' hn I4 => ⟨z, _, I4, rz, q4 hn⟩
end
end L2
set_option Elab.async false
set_option linter.all false
set_option maxRecDepth 100000
namespace L2
open PySem PySem.Spec PyProof.Rows
section
variable {X : Cx} {pins : List (Addr × Obj)} {σ : St} {H : Hp} {s : Shared} {a : Addr} {o : Obj} {kvs : List (Key × V)}
theorem Inv.freeze (I : Inv X pins σ H s) (e : H a = some (.dK kvs)) (ho : s.heap.get? a = some o) : Inv X pins σ (upd H a (.frz o (.dK kvs))) s := by
  have nt : ∀ b u, H b = some u -> (u = .dK kvs -> False) -> b ≠ a := fun b u q d => ne_of q e d
  refine I.un (t' := s.toks) ⟨fun b u q _ _ _ => q, fun b u q _ _ _ => ⟨u.slots, q⟩, fun b u q n _ => ?_, fun b u q _ => ⟨u, q⟩, fun b xs q => ?_, fun b u xs q => ?_, fun b ps q => ⟨#[], ?_⟩⟩ (fun b u q => ?_)
  · rw [upd_ne (fun z => by rw [z, e] at n; cases n)]; exact n
  · rw [upd_ne (nt b _ q (by intro z; cases z))]; exact q
  · rw [upd_ne (nt b _ q (by intro z; cases z))]; exact q
  · rw [upd_ne (nt b _ q (by intro z; cases z)), q]; simp
  · by_cases hb : b = a
    · subst hb
      rw [upd_same] at q
      cases q
      exact ⟨ho, (I.hok b _ e)⟩
    · rw [upd_ne hb] at q
      exact (I.hok b u q).stay (fun c v _ z => z) (fun c z => by rw [upd_ne (nt c _ z (by intro y; cases y))]; exact z) fun c xs z => by rw [upd_ne (nt c _ z (by intro y; cases y))]; exact z
theorem Inv.melt (I : Inv X pins σ H s) (e : H a = some (.frz o (.dK kvs))) (hn : ∀ o u, X.H₀ a ≠ some (.frz o u)) : Inv X pins σ (upd H a (.dK kvs)) s := by
  have nt : ∀ b u, H b = some u -> (u = .frz o (.dK kvs) -> False) -> b ≠ a := fun b u q d => ne_of q e d
  have nn : ∀ b, H b = none -> b ≠ a := fun b q z => by rw [z, e] at q; cases q
  refine ⟨I.ok, I.os, I.bare, ⟨I.base.keep, I.base.slot, fun b u q n hx => ?_, I.base.there, fun b xs q => ?_, fun b u xs q => ?_, fun b ps q => ?_⟩, I.loc, I.cell, ?_, fun x c q => ?_, fun p hp => ?_, fun b u q => ?_, I.len⟩
  · have := I.base.free b u q n hx
    rw [upd_ne (nn b this)]; exact this
  · have := I.base.tups b xs q
    rw [upd_ne (nt b _ this (by intro z; cases z))]; exact this
  · have := I.base.frzs b u xs q
    rw [upd_ne (fun z => hn u xs (by rw [<- z]; exact q))]; exact this
  · obtain ⟨more, q'⟩ := I.base.tbls b ps q
    exact ⟨more, by rw [upd_ne (nt b _ q' (by intro z; cases z))]; exact q'⟩
  · rw [upd_ne (nn _ I.free)]; exact I.free
  · have := I.freeC x c q
    rw [upd_ne (nn _ this)]; exact this
  · obtain ⟨h1, h2, h3⟩ := I.pin p hp
    exact ⟨h1, by rw [upd_ne (nn _ h2)]; exact h2, h3⟩
  · by_cases hb : b = a
    · subst hb
      rw [upd_same] at q
      cases q
      exact (I.hok b _ e).2
    · rw [upd_ne hb] at q
      exact (I.hok b u q).stay (fun c v _ z => z) (fun c z => by rw [upd_ne (nt c _ z (by intro y; cases y))]; exact z) fun c xs z => by rw [upd_ne (nt c _ z (by intro y; cases y))]; exact z
end
def tThaw (H₀ : Hp) (t : TS) : TS := fun D σ H => t { D with nx := fun σ' H' => D.nx σ' H' \/ ∃ a o kvs, H' a = some (.frz o (.dK kvs)) /\ (∀ o u, H₀ a ≠ some (.frz o u)) /\ D.nx σ' (upd H' a (.dK kvs)) } σ H
theorem ps_thaw {X : Cx} {st : Stmt} {t : TS} (h : PS X st t) : PS X st (tThaw X.H₀ t) := by
  intro pins s σ H D I q
  refine thn (h pins s σ H _ I q) fun f s' r => ?_
  cases f with
  | next =>
    obtain ⟨σ', H', I', r⟩ := r
    rcases r with r | ⟨a, o, kvs, e, hn, r⟩
    · exact ⟨σ', H', I', r⟩
    · exact ⟨σ', _, I'.melt e hn, r⟩
  | brk => exact r
  | cont => exact r
  | ret v => exact r
def epochOf (o : Obj) : Nat := match o.data with
  | .dict _ ep => ep
  | _ => 0
def Itd (a : Addr) (o : Obj) (kvs : List (Key × V)) : It :=
  ⟨fun i H => i < kvs.length /\ H a = some (.frz o (.dK kvs)), fun i H x H' => H' = H /\ ∀ p, kvs[i]? = some p -> x = kV p.1, fun i H => kvs.length <= i /\ H a = some (.frz o (.dK kvs))⟩
def Iti (a : Addr) (o : Obj) (kvs : List (Key × V)) : It :=
  ⟨fun i H => i < kvs.length /\ H a = some (.frz o (.dK kvs)), fun i H x H' => ∃ T p, x = .ref T /\ H T = none /\ H' = upd H T (.tup [kV p.1, p.2]) /\ kvs[i]? = some p, fun i H => kvs.length <= i /\ H a = some (.frz o (.dK kvs))⟩
theorem still_at {P : Program} {w : World} {H : Hp} {h : Heap} {a : Addr} {o : Obj} {kvs : List (Key × V)} (ok : HOk P w H h) (e : H a = some (.frz o (.dK kvs))) : ∃ vs, KV kvs vs /\ h.DictAt (mixKind P w) a vs (epochOf o) /\ (a == sysModules) = false /\ h.get? a = some o := by
  obtain ⟨ho, z, lo, vs, rel, ob, es, ep, hg, hx, hd, rest⟩ := ok a _ e
  rw [ho] at hg
  cases hg
  have ee : epochOf o = ep := by unfold epochOf; rw [hd]
  exact ⟨vs, rel, ⟨o, es, ho, hx, by rw [ee]; exact hd, rest⟩, lo, ho⟩
theorem turn_dict {P : Program} {w : World} {K : PySem.W.Frag} {tg : Expr} (a it : Addr) (o : Obj) (kvs : List (Key × V)) : Turn P w K tg (Itd a o kvs) [it] it (fun i h => h.IsKeyIter it a i kvs.length (epochOf o)) where
  mem := by simp
  obj := fun i h st b hb => by
    have e : b = it := by simpa using hb
    subst e
    obtain ⟨o, e, c, d⟩ := st
    exact ⟨o, e, fun v z => by rw [d] at z; cases z⟩
  keep := fun i h h' st k => by
    obtain ⟨ob, e, r⟩ := st
    exact ⟨ob, k it (by simp) ob e, r⟩
  item := by
    intro X hP hw hK hc i pins s σ H E I hf st hg
    subst hP hw hK
    obtain ⟨hi, hfz⟩ := hg
    obtain ⟨vs, rel, dat, lo, ho⟩ := still_at I.hok hfz
    have hlen : kvs.length = vs.length := Paired.length rel
    have hv : i < vs.length := by omega
    obtain ⟨f0, f1, f2, f3, f4, f5⟩ := hf it (by simp)
    rw [hlen] at st
    refine wpAny_pyNext_dict_item (knd := mixKind X.prog X.w) st dat (k := (vs[i]).1) (v := (vs[i]).2) (List.getElem?_eq_getElem hv) fun key h' hk st' sb => ?_
    have I1 : Inv X pins σ H { s with heap := h' } := I.turned (t' := s.toks) (fun b o hb e => (sb.2 b hb).trans e) f0 f1 f3 f4 f5
    obtain ⟨p, e1, e2⟩ := paired_back rel (List.getElem?_eq_getElem hv)
    rw [<- hlen] at st'
    obtain ⟨ob, e, c, d⟩ := id st'
    refine ⟨key, rfl, go_of (s := { s with heap := h' }) e c d (by decide) ⟨kV p.1, H, I1, ?_, ⟨rfl, fun p' hp' => by rw [e1] at hp'; cases hp'; rfl⟩, st', fun b hb => (hf b hb).1⟩⟩
    rw [e2.1]
    exact key_rel hk
  done := by
    intro X hP hw hK hc i pins s σ H E I hf st hg
    subst hP hw hK
    obtain ⟨hi, hfz⟩ := hg
    obtain ⟨vs, rel, dat, lo, ho⟩ := still_at I.hok hfz
    have hlen : kvs.length = vs.length := Paired.length rel
    obtain ⟨f0, f1, f2, f3, f4, f5⟩ := hf it (by simp)
    rw [hlen] at st
    exact wpAny_pyNext_dict_end (I.ok.hd hc) st dat (List.getElem?_eq_none (by omega)) fun h' eb => ⟨rfl, I.turned (t' := s.toks) (fun b o hb e => eb b o hb e) f0 f1 f3 f4 f5⟩
  self := fun A i s Q E st h => by
    refine wpAny_pyIter_slot st.typeIs PySem.F.slot_dict_keyiterator_iter (wpAny_call_entry PySem.F.slot_dict_keyiterator_iter st.typeIs PySem.F.entry_dict_keyiterator_iter ?_ (PySem.F.args_dict_keyiterator_iter_1 _))
    show wpAny _ _ (ret (.ref it)) _ _ s
    exact wpAny_pure ⟨_, rfl, "dict_keyiterator", _, st.typeIs, PySem.F.slot_dict_keyiterator_next.lookup, h⟩
section
variable {X : Cx} {tg : Expr}
def iDict (tl : TE) : TI := fun σ H R => tl σ H fun x H1 => ∃ a kvs, x = .ref a /\ ((H1 a = some (.dK kvs) /\ ∀ o, R (Itd a o kvs) (upd H1 a (.frz o (.dK kvs)))) \/ ∃ o, H1 a = some (.frz o (.dK kvs)) /\ R (Itd a o kvs) H1)
theorem pi_dict {l : Expr} {tl : TE} (hl : PE X l tl) : PI X tg l (iDict tl) := by
  intro pins s σ H R I h
  refine thn (hl pins s σ H _ I h) fun v s1 ⟨x, H1, I1, r1, q1⟩ => ?_
  obtain ⟨a, kvs, e, q⟩ := q1
  subst e
  cases r1
  have main : ∀ (o : Obj) (H2 : Hp), Inv X pins σ H2 s1 -> H2 a = some (.frz o (.dK kvs)) -> R (Itd a o kvs) H2 -> wpAny (model X.prog X.w) X.A (pyIter (.ref a)) (PIE X pins σ tg R) X.xe s1 := fun o H2 I2 e2 q2 => by
    obtain ⟨vs, rel, dat, lo, ho⟩ := still_at I2.hok e2
    have hlen : kvs.length = vs.length := Paired.length rel
    refine wpAny_pyIter_dict lo dat ?_
    refine ⟨s1.heap.objs.size, [s1.heap.objs.size], _, _, H2, rfl, I2.kept (t' := s1.toks) fun b o e => Heap.get?_push_of_some _ e, turn_dict a _ o kvs, ⟨_, Heap.get?_push_size _ rfl, rfl, by rw [hlen]; rfl⟩, fun b hb => ?_, q2⟩
    have e : b = s1.heap.objs.size := by simpa using hb
    subst e
    exact I2.fpOk (Nat.le_refl _) (I2.hok.fresh (Nat.le_refl _))
  rcases q with ⟨hd, q⟩ | ⟨o, hd, q⟩
  · obtain ⟨z, lo, vs, rel, ob, es, ep, hg, rest⟩ := I1.hok a _ hd
    exact main ob _ (I1.freeze hd hg) upd_same (q ob)
  · exact main o H1 I1 hd q
end
theorem for_dict {a : Addr} {o : Obj} {kvs : List (Key × V)} {g : TG} {tb : TS} {D : Ends} {σ : St} {H : Hp} (Pv : Nat -> St -> Hp -> Prop) (h0 : Pv 0 σ H) (hl : ∀ i σ H, i <= kvs.length -> Pv i σ H -> H a = some (.frz o (.dK kvs)))
    (hs : ∀ i p σ H, kvs[i]? = some p -> Pv i σ H -> g (kV p.1) σ H fun σ2 H2 => tb { D with nx := Pv (i + 1), ct := Pv (i + 1), bk := D.nx } σ2 H2) (hd : ∀ σ H, Pv kvs.length σ H -> D.nx σ H) :
    ∃ W : Nat -> Nat -> St -> Hp -> Prop, (∃ m, W 0 m σ H) /\ ∀ i m σ H, W i m σ H ->
      ((Itd a o kvs).stop i H /\ D.nx σ H) \/ ((Itd a o kvs).go i H /\ ∃ N : St -> Hp -> Prop, (∀ σ' H', N σ' H' -> ∃ m', m' < m /\ W (i + 1) m' σ' H') /\ ∀ x H', (Itd a o kvs).yld i H x H' -> g x σ H' fun σ2 H2 => tb { D with nx := N, ct := N, bk := D.nx } σ2 H2) := by
  refine ⟨fun i m σ H => m = kvs.length - i /\ i <= kvs.length /\ Pv i σ H, ⟨kvs.length, by simp, Nat.zero_le _, h0⟩, ?_⟩
  rintro i m σ H ⟨rfl, hi, p⟩
  have q := hl i σ H hi p
  by_cases hlt : i < kvs.length
  · refine .inr ⟨⟨hlt, q⟩, Pv (i + 1), fun σ' H' p' => ⟨kvs.length - (i + 1), by omega, rfl, hlt, p'⟩, fun x H' y => ?_⟩
    obtain ⟨e, y⟩ := y
    subst e
    rw [y kvs[i] (List.getElem?_eq_getElem hlt)]
    exact hs i kvs[i] σ _ (List.getElem?_eq_getElem hlt) p
  · have e : i = kvs.length := by omega
    subst e
    exact .inl ⟨⟨Nat.le_refl _, q⟩, hd σ H p⟩
theorem comp_JI {J : It} {n : Nat} {item : Nat -> V} {Ok : Hp -> Prop} {ix : List (Option Nat)} {tc : TT} {te : TE} {σ : St} {H : Hp} {Qd : Addr -> Hp -> Prop} (hgo : ∀ i H, i < n -> Ok H -> J.go i H) (hst : ∀ H, Ok H -> J.stop n H)
    (hyl : ∀ i H x H', i < n -> Ok H -> J.yld i H x H' -> H' = H /\ x = item i) (Pv : Addr -> Nat -> List V -> Hp -> Prop)
    (h0 : ∀ D, H D = none -> Pv D 0 [] (upd H D (.lst [])))
    (hl : ∀ D i ys H', i <= n -> Pv D i ys H' -> Ok H')
    (hs : ∀ D i ys H' (Qy : VK) (Qn : Hp -> Prop), H D = none -> i < n -> H' D = some (.lst ys) -> Pv D i ys H' -> (∀ y H4, H4 D = some (.lst ys) -> ys.length < sizeLine -> Pv D (i + 1) (ys ++ [y]) (upd H4 D (.lst (ys ++ [y]))) -> Qy y H4) ->
      (∀ H4, H4 D = some (.lst ys) -> Pv D (i + 1) ys H4 -> Qn H4) -> tc ((blockSt ix σ).set 0 (some (item i))) H' fun b H4 => if b = true then te ((blockSt ix σ).set 0 (some (item i))) H4 Qy else Qn H4)
    (hd : ∀ D ys H', H D = none -> H' D = some (.lst ys) -> Pv D n ys H' -> Qd D H') : CompWI J ix (gName 0) tc te σ H Qd := by
  intro D hD
  refine ⟨fun i m σ' H' => m = n - i /\ i <= n /\ (σ' = blockSt ix σ \/ ∃ t, σ' = (blockSt ix σ).set 0 t) /\ ∃ ys, H' D = some (.lst ys) /\ Pv D i ys H', ⟨n, by simp, Nat.zero_le _, .inl rfl, [], upd_same, h0 D hD⟩, ?_⟩
  rintro i m σ' H' ⟨rfl, hi, hσ, ys, hy, p⟩
  have q := hl D i ys H' hi p
  by_cases hlt : i < n
  · refine .inr ⟨hgo i H' hlt q, fun x H2 y => ?_⟩
    obtain ⟨e1, e2⟩ := hyl i H' x H2 hlt q y
    subst e1 e2
    have es : σ'.set 0 (some (item i)) = (blockSt ix σ).set 0 (some (item i)) := by
      rcases hσ with z | ⟨t, z⟩
      · rw [z]
      · rw [z, List.set_set]
    show tc (σ'.set 0 (some (item i))) _ _
    rw [es]
    exact hs D i ys _ _ _ hD hlt hy p (fun y H4 h4 hz p4 => ⟨ys, h4, hz, n - (i + 1), by omega, rfl, hlt, .inr ⟨_, rfl⟩, ys ++ [y], upd_same, p4⟩) fun H4 h4 p4 => ⟨n - (i + 1), by omega, rfl, hlt, .inr ⟨_, rfl⟩, ys, h4, p4⟩
  · have e : i = n := by omega
    subst e
    exact .inl ⟨hst H' q, hd D ys H' hD hy p⟩
theorem comp_dictI {a : Addr} {o : Obj} {kvs : List (Key × V)} {ix : List (Option Nat)} {tc : TT} {te : TE} {σ : St} {H : Hp} {Qd : Addr -> Hp -> Prop} (Pv : Addr -> Nat -> List V -> Hp -> Prop)
    (h0 : ∀ D, H D = none -> Pv D 0 [] (upd H D (.lst [])))
    (hl : ∀ D i ys H', i <= kvs.length -> Pv D i ys H' -> H' a = some (.frz o (.dK kvs)))
    (hs : ∀ D i p ys H' (Qy : VK) (Qn : Hp -> Prop), H D = none -> kvs[i]? = some p -> H' D = some (.lst ys) -> Pv D i ys H' -> (∀ y H4, H4 D = some (.lst ys) -> ys.length < sizeLine -> Pv D (i + 1) (ys ++ [y]) (upd H4 D (.lst (ys ++ [y]))) -> Qy y H4) ->
      (∀ H4, H4 D = some (.lst ys) -> Pv D (i + 1) ys H4 -> Qn H4) -> tc ((blockSt ix σ).set 0 (some (kV p.1))) H' fun b H4 => if b = true then te ((blockSt ix σ).set 0 (some (kV p.1))) H4 Qy else Qn H4)
    (hd : ∀ D ys H', H D = none -> H' D = some (.lst ys) -> Pv D kvs.length ys H' -> Qd D H') : CompWI (Itd a o kvs) ix (gName 0) tc te σ H Qd :=
  comp_JI (n := kvs.length) (item := fun i => (kvs[i]?).elim .non fun p => kV p.1) (Ok := fun H' => H' a = some (.frz o (.dK kvs))) (fun i H' hi e => ⟨hi, e⟩) (fun H' e => ⟨Nat.le_refl _, e⟩)
    (fun i H' x H2 hi e y => ⟨y.1, by rw [y.2 kvs[i] (List.getElem?_eq_getElem hi)]; rw [List.getElem?_eq_getElem hi]; rfl⟩) Pv h0 hl
    (fun D i ys H' Qy Qn hD hi hy p ky kn => by
      have e : (kvs[i]?).elim V.non (fun p => kV p.1) = kV (kvs[i]).1 := by rw [List.getElem?_eq_getElem hi]; rfl
      rw [e]
      exact hs D i kvs[i] ys H' Qy Qn hD (List.getElem?_eq_getElem hi) hy p ky kn) hd
theorem entry_item_iter : entryFor table "dict_itemiterator.__iter__" = some Builtin.«dict_keyiterator.__iter__» :=
  entryFor_alias (id' := "dict_keyiterator.__iter__") (by kernel_rfl) (by first | rfl | decide +kernel | (unfold String.splitOn; simp +decide [String.splitOnAux])) (by decide +kernel) (by kernel_rfl)
theorem turn_items {P : Program} {w : World} {K : PySem.W.Frag} {elts : List Expr} {x1 : _} {pos : Pos} (a it : Addr) (o : Obj) (kvs : List (Key × V)) : Turn P w K (.Tuple elts x1 pos) (Iti a o kvs) [it] it (fun i h => ∃ ok ov, IsItemIter h it a i kvs.length (epochOf o) ok ov) where
  mem := by simp
  obj := fun i h st b hb => by
    have e : b = it := by simpa using hb
    subst e
    obtain ⟨ok, ov, st⟩ := st
    exact ⟨_, st, fun v z => by
      have z' : Data.fields _ = Data.cell v := z
      cases z'⟩
  keep := fun i h h' st k => by
    obtain ⟨ok, ov, st⟩ := st
    exact ⟨ok, ov, k it (by simp) _ st⟩
  item := by
    intro X hP hw hK hc i pins s σ H E I hf st hg
    subst hP hw hK
    obtain ⟨hi, hfz⟩ := hg
    obtain ⟨ok, ov, st⟩ := st
    obtain ⟨vs, rel, dat, lo, ho⟩ := still_at I.hok hfz
    have hlen : kvs.length = vs.length := Paired.length rel
    have hv : i < vs.length := by omega
    obtain ⟨f0, f1, f2, f3, f4, f5⟩ := hf it (by simp)
    rw [hlen] at st
    have itl : it < s.heap.objs.size := Heap.lt_size st
    refine wpAny_pyNext_items_item (knd := mixKind X.prog X.w) st dat (k := (vs[i]).1) (v := (vs[i]).2) (List.getElem?_eq_getElem hv) fun key h' hk st' ht hsz kp => ?_
    obtain ⟨p, e1, e2⟩ := paired_back rel (List.getElem?_eq_getElem hv)
    refine ⟨.ref s.heap.objs.size, rfl, wpAny_letOwnedTupleGo_items (s := { s with heap := h' }) st' fun h2 st2 sb2 => ?_⟩
    have kp2 : ∀ b u, s.heap.get? b = some u -> b ≠ it -> h2.get? b = some u := fun b u e hb => (sb2.2 b hb).trans (kp b u hb e)
    have nT : s.heap.objs.size ≠ it := Nat.ne_of_gt itl
    have ht2 : h2.get? s.heap.objs.size = some { cls := .type "tuple", data := .seq #[key, (vs[i]).2] } := (sb2.2 _ nT).trans ht
    have fr : H s.heap.objs.size = none := I.hok.fresh (Nat.le_refl _)
    have fit : FpOk X pins (upd H s.heap.objs.size (.tup [kV p.1, p.2])) it := ⟨by rw [upd_ne (Ne.symm nT)]; exact f0, f1, f2, f3, f4, f5⟩
    have I0 : Inv X pins σ (upd H s.heap.objs.size (.tup [kV p.1, p.2])) { s with heap := s.heap.push { cls := .type "tuple", data := .seq #[key, (vs[i]).2] } } :=
      I.laid (t' := s.toks) (o := .tup [kV p.1, p.2]) (fun b ob q => Heap.get?_push_of_some _ q) (Nat.le_refl _) ⟨by show 2 <= sizeLine; decide, [key, (vs[i]).2], .cons (by rw [e2.1]; exact key_rel hk) (.cons e2.2 .nil), ⟨_, Heap.get?_push_size _ rfl, rfl, _, rfl⟩⟩
    have I2 : Inv X pins σ (upd H s.heap.objs.size (.tup [kV p.1, p.2])) { s with heap := h2 } := by
      refine I0.turned (t' := s.toks) (h' := h2) (fun b ob hb q => ?_) fit.1 fit.2.1 fit.2.2.2.1 fit.2.2.2.2.1 fit.2.2.2.2.2
      rcases Heap.get?_push_cases (show (s.heap.push { cls := .type "tuple", data := .seq #[key, (vs[i]).2] }).get? b = some ob from q) with ⟨rfl, rfl⟩ | z
      · exact ht2
      · exact kp2 b ob z hb
    refine ⟨.ref s.heap.objs.size, _, I2, rfl, ⟨s.heap.objs.size, p, rfl, fr, rfl, e1⟩, ⟨_, _, by rw [hlen]; exact st2⟩, fun b hb => ?_⟩
    have e : b = it := by simpa using hb
    subst e
    exact fit.1
  done := by
    intro X hP hw hK hc i pins s σ H E I hf st hg
    subst hP hw hK
    obtain ⟨hi, hfz⟩ := hg
    obtain ⟨ok, ov, st⟩ := st
    obtain ⟨vs, rel, dat, lo, ho⟩ := still_at I.hok hfz
    have hlen : kvs.length = vs.length := Paired.length rel
    obtain ⟨f0, f1, f2, f3, f4, f5⟩ := hf it (by simp)
    rw [hlen] at st
    exact wpAny_pyNext_items_end (I.ok.hd hc) st dat (List.getElem?_eq_none (by omega)) fun h' eb => ⟨rfl, I.turned (t' := s.toks) (fun b o hb e => eb b o hb e) f0 f1 f3 f4 f5⟩
  self := fun A i s Q E st h => by
    obtain ⟨ok, ov, st⟩ := st
    have hT : s.TypeIs (.ref it) "dict_itemiterator" := ⟨_, st, rfl⟩
    refine wpAny_pyIter_slot hT PySem.F.slot_dict_itemiterator_iter (wpAny_call_entry PySem.F.slot_dict_itemiterator_iter hT entry_item_iter ?_ (PySem.F.args_dict_itemiterator_iter_1 _))
    show wpAny _ _ (ret (.ref it)) _ _ s
    exact wpAny_pure ⟨_, rfl, "dict_itemiterator", _, hT, PySem.F.slot_dict_itemiterator_next.lookup, h⟩
section
variable {X : Cx}
def iItems (tl : TE) : TI := fun σ H R => tl σ H fun x H1 => ∃ v d kvs, x = .ref v /\ H1 v = some (ItemsAt v d) /\ H1 d = some (.dK kvs) /\ ∀ o, R (Iti d o kvs) (upd H1 d (.frz o (.dK kvs)))
theorem pi_items {elts : List Expr} {x1 : _} {tpos : Pos} {l : Expr} {tl : TE} (hl : PE X l tl) : PI X (.Tuple elts x1 tpos) l (iItems tl) := by
  intro pins s σ H R I h
  refine thn (hl pins s σ H _ I h) fun v s1 ⟨x, H1, I1, r1, q1⟩ => ?_
  obtain ⟨v, a, kvs, e, hv, hd, q⟩ := q1
  subst e
  cases r1
  obtain ⟨hview, _, _⟩ := (show ObjOk X.prog X.w H1 s1.heap v (ItemsAt v a) from I1.hok v _ hv)
  obtain ⟨z, lo, vs0, rel0, ob, es, ep, hg, rest⟩ := I1.hok a _ hd
  have I2 := I1.freeze hd hg
  obtain ⟨vs, rel, dat, lo2, ho⟩ := still_at I2.hok upd_same
  have hlen : kvs.length = vs.length := Paired.length rel
  refine wpAny_pyIter_items hview dat ?_
  refine ⟨s1.heap.objs.size, [s1.heap.objs.size], _, _, _, rfl, I2.kept (t' := s1.toks) fun b o e => Heap.get?_push_of_some _ e, turn_items a _ ob kvs, ⟨_, _, by rw [hlen]; exact Heap.get?_push_size _ rfl⟩, fun b hb => ?_, q ob⟩
  have e : b = s1.heap.objs.size := by simpa using hb
  subst e
  exact I2.fpOk (Nat.le_refl _) (I2.hok.fresh (Nat.le_refl _))
end
theorem for_items {a : Addr} {o : Obj} {kvs : List (Key × V)} {g : TG} {tb : TS} {D : Ends} {σ : St} {H : Hp} (Pv : Nat -> St -> Hp -> Prop) (h0 : Pv 0 σ H) (hl : ∀ i σ H, i <= kvs.length -> Pv i σ H -> H a = some (.frz o (.dK kvs)))
    (hs : ∀ i p σ H T, kvs[i]? = some p -> Pv i σ H -> H T = none -> g (.ref T) σ (upd H T (.tup [kV p.1, p.2])) fun σ2 H2 => tb { D with nx := Pv (i + 1), ct := Pv (i + 1), bk := D.nx } σ2 H2) (hd : ∀ σ H, Pv kvs.length σ H -> D.nx σ H) :
    ∃ W : Nat -> Nat -> St -> Hp -> Prop, (∃ m, W 0 m σ H) /\ ∀ i m σ H, W i m σ H ->
      ((Iti a o kvs).stop i H /\ D.nx σ H) \/ ((Iti a o kvs).go i H /\ ∃ N : St -> Hp -> Prop, (∀ σ' H', N σ' H' -> ∃ m', m' < m /\ W (i + 1) m' σ' H') /\ ∀ x H', (Iti a o kvs).yld i H x H' -> g x σ H' fun σ2 H2 => tb { D with nx := N, ct := N, bk := D.nx } σ2 H2) := by
  refine ⟨fun i m σ H => m = kvs.length - i /\ i <= kvs.length /\ Pv i σ H, ⟨kvs.length, by simp, Nat.zero_le _, h0⟩, ?_⟩
  rintro i m σ H ⟨rfl, hi, p⟩
  have q := hl i σ H hi p
  by_cases hlt : i < kvs.length
  · refine .inr ⟨⟨hlt, q⟩, Pv (i + 1), fun σ' H' p' => ⟨kvs.length - (i + 1), by omega, rfl, hlt, p'⟩, fun x H' y => ?_⟩
    obtain ⟨T, pr, rfl, hT, rfl, y⟩ := y
    exact hs i pr σ _ T y p hT
  · have e : i = kvs.length := by omega
    subst e
    exact .inl ⟨⟨Nat.le_refl _, q⟩, hd σ H p⟩
end L2
set_option Elab.async false
set_option linter.all false
set_option maxRecDepth 100000
namespace L2
open PySem PySem.Spec PyProof.Rows
section
variable {P : Program} {w : World} {A : Around} {E : Value -> Shared -> Prop} {s : Shared}
set_option maxHeartbeats 3200000 in
theorem call_setWT {l : Addr} {items : Array Value} {ns : List Int} {Q : Value -> Shared -> Prop} (hh : A.handled = none) (hl : IsTup s.heap l items) (hi : IntsAre items.toList ns) (hb : items.size + 1 < scanBound)
    (h : ∀ (h' : Heap) (tk : Nat), SetW P w h' s.heap.objs.size (firstMet (fun i => ns.getD i 0) items.size) -> (∀ b o, b < s.heap.objs.size -> s.heap.get? b = some o -> h'.get? b = some o) -> Q (.ref s.heap.objs.size) { s with heap := h', toks := tk }) :
    wpAny (model P w) A (call (.type "set") [.ref l]) Q E s := by
  obtain ⟨c, tl, hmro⟩ := F.called_set.mro
  have hmade := F.called_set.made
  have hsub := F.called_set.sub
  refine wpAny_call (codeAny_of_tree ?_)
  show wpAny _ _ (callAny (.type "set") _) _ _ _
  refine wpAny_pure ⟨Code.quiet_builtin _ (by decide +kernel), codeAny_builtin F.entry_type_call ?_⟩
  rw [Around.under_plain (weight_type_call_type "set" [.ref l] []) rfl]
  have h1 := F.called_set.notType
  have h2 := F.called_set.canCreate
  have hct := F.typeCall_set_1 (.ref l)
  repeat (any_goals (first | assumption | wp_step))
  refine codeAny_mono (code_newW (.ref l) (E := E) (Q₁ := fun obj s₁ => obj = .ref s.heap.objs.size /\ s₁ = { s with heap := s.heap.push (freshSet w) }) ⟨rfl, rfl⟩) fun r s₁ hr => ?_
  cases r with
  | error e => exact hr
  | ok fl =>
    cases fl with
    | ret obj =>
      obtain ⟨rfl, rfl⟩ := hr
      have hS : (s.heap.push (freshSet w)).get? s.heap.objs.size = some (freshSet w) := Heap.get?_push_size _ rfl
      have hT : Shared.TypeIs { s with heap := s.heap.push (freshSet w) } (.ref s.heap.objs.size) "set" := ⟨_, hS, rfl⟩
      have hli := F.called_set.init.lookup
      have hbi := F.called_set.init.bind (.ref s.heap.objs.size)
      repeat (any_goals (first | assumption | wp_step))
      refine codeAny_mono (codeAny_call_builtin (R := wants (fun r s₂ => r = .none /\ ∃ h' tk, s₂ = { s with heap := h', toks := tk } /\ SetW P w h' s.heap.objs.size (firstMet (fun i => ns.getD i 0) items.size) /\
          (∀ b o, b < s.heap.objs.size -> s.heap.get? b = some o -> h'.get? b = some o)) E) F.called_set.init.plain F.entry_set_init (check_set_init_1 hT ?_)) fun r₂ s₂ hr₂ => ?_
      · obtain ⟨ol, hol, hcl, nl, hdl⟩ := hl
        obtain ⟨ocls, odict, odata, oslots⟩ := ol
        simp only at hcl hdl
        subst hcl; subst hdl
        have hol' : (s.heap.push (freshSet w)).get? l = some { cls := .type "tuple", dict := odict, data := .seq items nl, slots := oslots } := Heap.get?_push_of_some _ hol
        have hsls := F.sub_tuple_set
        have hslf := F.sub_tuple_frozenset
        have hl1 : (s.heap.push (freshSet w)).IsTuple l items := ⟨_, hol', rfl, nl, rfl⟩
        have hne : (Value.type "tuple" == Value.type "dict") = false := by decide
        have hS0 : (s.heap.push (freshSet w)).get? s.heap.objs.size = some { cls := .type "set", dict := none, data := .set #[] 0 (.fresh 0 0 (!byT w)) } := hS
        unfold Builtin.«set.__init__» noKeywords Builtin.Frozenset.updateFrom
        generalize hPI : pyIter = PI
        wp_walk
        subst hPI
        refine wpAny_pyIter_tuple hl1 (wpAny_bind (wpAny_runValue ?_))
        have hlS : l < s.heap.objs.size := Heap.lt_size hol
        have hh3 : A.in1.in1.in1.handled = none := by simp [hh]
        have neI : l ≠ (s.heap.push (freshSet w)).objs.size := by rw [Heap.size_push]; exact Nat.ne_of_lt (Nat.lt_succ_of_lt hlS)
        have nS : s.heap.objs.size ∉ [(s.heap.push (freshSet w)).objs.size, l] := by
          rw [Heap.size_push]
          simp only [List.mem_cons, List.mem_singleton, List.not_mem_nil, or_false, not_or]
          exact ⟨Nat.ne_of_lt (Nat.lt_succ_self _), Nat.ne_of_gt hlS⟩
        refine update_loopW ((Walks.tuple hh3 _ l neI items).toS) s.heap.objs.size nS (fun i => ns.getD i 0) (fun i v hv => IntsAre.int_at hi i v (by rw [Array.getElem?_toList]; exact hv)) hb (items.size - 0) 0 _ (by omega) (Nat.zero_le _)
          ⟨⟨_, Heap.get?_push_size _ rfl, rfl, rfl⟩, (hl1.push _)⟩ ?_ ?_
        · exact newW (w := w) _ (Heap.get?_push_of_some _ hS)
        · rintro ⟨h', g', d', tk', os'⟩ hm hS'
          have eg : g' = s.gens := hm.gens
          have ed : d' = s.drawn := hm.drawn
          have eo : os' = s.os := hm.os
          subst eg ed eo
          refine wpAny_pure ?_
          show wpAny _ _ (ret Value.none) _ _ _
          refine wpAny_pure ⟨rfl, h', tk', rfl, hS', fun b o hb e => ?_⟩
          refine hm.heap b o ?_ (Heap.get?_push_of_some _ (Heap.get?_push_of_some _ e))
          rw [Heap.size_push]
          simp only [List.mem_cons, List.mem_singleton, List.not_mem_nil, or_false, not_or]
          exact ⟨Nat.ne_of_lt hb, Nat.ne_of_lt (Nat.lt_succ_of_lt hb)⟩
      · cases r₂ with
        | error e => exact hr₂
        | ok fl₂ =>
          cases fl₂ with
          | ret r =>
            obtain ⟨rfl, h', tk, rfl, hS', hk'⟩ := hr₂
            repeat (any_goals (first | assumption | wp_step))
            exact h _ _ hS' hk'
          | next => exact hr₂
          | brk => exact hr₂
          | cont => exact hr₂
    | next => exact hr
    | brk => exact hr
    | cont => exact hr
end
end L2
set_option Elab.async false
set_option linter.all false
set_option maxRecDepth 100000
namespace L2
open PySem PySem.Spec PyProof.Rows
section
variable {X : Cx}
theorem call_setT (hc : X.calm = true) : CallR X (.type "set") (fun xs H Q => ∃ (a : Addr) (ns : List Int), xs = [.ref a] /\ SqT X.K H a (ns.map V.int) /\ ns.length < 4000 /\ ∀ S, H S = none -> Q (.ref S) (upd H S (SetAt X.prog X.w S (onceI ns)))) := by
  intro pins s σ H xs us Q I r h
  obtain ⟨a, ns, rfl, ha, hz, q⟩ := h
  obtain ⟨u, rfl, rx⟩ := vals1 r
  cases rx
  obtain ⟨its, rv, ht, hzz⟩ := I.tuple ha
  have hln : its.length = ns.length := by rw [<- rv.length, List.length_map]
  refine call_setWT (I.ok.hd hc) ht (ns := ns) (by simpa using vals_toI rv) (by simp only [List.size_toArray]; unfold scanBound; omega) fun h' tk hS keep => ?_
  have k2 : ∀ b o, s.heap.get? b = some o -> h'.get? b = some o := fun b o z => keep b o (Heap.lt_size z) z
  have hS' : SetW X.prog X.w h' s.heap.objs.size (onceI ns) := by
    simp only [List.size_toArray] at hS
    rw [hln, firstMet_once] at hS
    exact hS
  refine ⟨.ref s.heap.objs.size, _, I.laid (o := SetAt X.prog X.w s.heap.objs.size (onceI ns)) (t' := tk) k2 (Nat.le_refl _) (show SetW X.prog X.w h' s.heap.objs.size (onceI ns) /\ (∃ o, h'.get? s.heap.objs.size = some o) /\ ∀ h1 h2 : Heap, SetW X.prog X.w h1 s.heap.objs.size (onceI ns) -> (∀ o, h1.get? s.heap.objs.size = some o -> h2.get? s.heap.objs.size = some o) -> SetW X.prog X.w h2 s.heap.objs.size (onceI ns) from ⟨hS', ?_, fun h1 h2 p kp => p.keep kp⟩), rfl, q _ (I.hok.fresh (Nat.le_refl _))⟩
  obtain ⟨o, es, ep, t, ho, _⟩ := hS'
  exact ⟨o, ho⟩
def rAny (K : PySem.W.Frag) : List V -> Hp -> VK -> Prop := fun xs H Q => ∃ (a : Addr) (bs : List Bool), xs = [.ref a] /\ SqL K H a (bs.map V.bl) /\ Q (.bl (bs.any id)) H
theorem call_any (hc : X.calm = true) : CallR X (.builtin "any") (rAny X.K) := by
  intro pins s σ H xs us Q I r h
  obtain ⟨a, bs, rfl, hS, q⟩ := h
  obtain ⟨u, rfl, ru⟩ := r.one
  cases (show u = Value.ref a from ru)
  obtain ⟨its, rv, ht, hz⟩ := I.list hS
  have hlen := rv.length
  rw [List.length_map] at hlen
  have hlt : a < s.heap.objs.size := by obtain ⟨_, e, _⟩ := ht.isList; exact Heap.lt_size e
  refine call_any_walk (wpAny_pyIter_list ht.isList ?_)
  have W := Walks.list (prog := X.prog) (w := X.w) (A := X.A.in1) (I.ok.hd hc) s.heap.objs.size a (Nat.ne_of_lt hlt) its.toArray
  refine ⟨_, _, _, _, _, _, fun i => bs.getD i false, rfl, W, ⟨⟨_, Heap.get?_push_size _ rfl, rfl, rfl⟩, ht.isList.push _⟩, fun i v s' Q' E' hv hQ => ?_, fun h' tk hk => ?_⟩
  · have e' : its[i]? = some v := by simpa using hv
    have hi : i < bs.length := by rw [hlen]; exact (List.getElem?_eq_some_iff.mp e').1
    obtain ⟨u, hu, ru⟩ := rv.get (i := i) (x := .bl bs[i]) (by simp [hi])
    rw [e'] at hu
    cases hu
    cases (show v = Value.bool bs[i] from ru)
    refine wpAny_truthy_bool ?_
    have : bs.getD i false = bs[i] := by simp [hi]
    rw [<- this]
    exact hQ
  · have I1 : Inv X pins σ H { s with heap := h', toks := tk } := I.kept (t' := tk) fun b o e => hk b o (fun hm => by
      rw [List.mem_singleton.mp hm] at e
      exact Nat.lt_irrefl _ (Heap.lt_size e)) (Heap.get?_push_of_some _ e)
    refine ⟨.bl (bs.any id), H, I1, ?_, q⟩
    show Value.bool _ = Value.bool _
    congr 1
    rw [List.size_toArray, <- hlen]
    have e : bs = (List.range bs.length).map fun i => bs.getD i false := by
      apply List.ext_getElem?
      intro i
      rcases Nat.lt_or_ge i bs.length with q | q
      · simp [q]
      · simp [q]
    conv => rhs; rw [e]
    rw [List.any_map]
    rfl
def rIndexB : V -> List V -> Hp -> VK -> Prop := fun x vs H Q => ∃ (l : Addr) (bs : List Bool) (j : Nat), x = .ref l /\ vs = [.bl true] /\ H l = some (.lst (bs.map V.bl)) /\ bs[j]? = some true /\ (∀ m, m < j -> bs[m]? = some false) /\ Q (.int (j : Int)) H
theorem vals_bls : ∀ {bs : List Bool} {us : List Value}, Vals (bs.map V.bl) us -> us = bs.map Value.bool
  | [], _, .nil => rfl
  | b :: bs, _, .cons r q => by
    cases (show _ = Value.bool b from r)
    rw [List.map_cons, vals_bls q]
theorem mt_indexB : MtM X "list.index" rIndexB := by
  intro pins s σ H x vs v us Q I rx rv h
  obtain ⟨l, bs, j, rfl, rfl, hH, hj, hno, q⟩ := h
  cases rx
  obtain ⟨u, rfl, ru⟩ := rv.one
  cases (show u = Value.bool true from ru)
  obtain ⟨z, its, n, r, hl, e⟩ := I.lstM hH
  have ei := vals_bls r
  subst ei
  have jl : j < bs.length := (List.getElem?_eq_some_iff.mp hj).1
  have js : j < (bs.map Value.bool).toArray.size := by simpa using jl
  have zz : bs.length <= sizeLine := by rw [List.length_map] at z; exact z
  have small : (j : Int) < 2 ^ 63 - 1 := by
    have : (sizeLine : Int) < 2 ^ 63 - 1 := by decide
    omega
  refine call_meets F.slot_list_index ⟨_, e, rfl⟩ F.entry_list_index (F.args_list_index_2 _ _) (SeqAt.list_indexAt l (bs.map Value.bool).toArray n none #[] (.bool true) (fun y => y == .bool true) j js small ?_ ?_) ⟨e, fun y hy => ?_, ⟨.int j, H, I.tok _, ⟨_, rfl⟩, q⟩⟩
  · have : (bs.map Value.bool).toArray[j] = .bool true := by
      have e2 := (List.getElem?_eq_some_iff.mp hj).2
      simp [e2]
    rw [this]
    rfl
  · intro m hm hmj
    have := hno m hmj
    have e2 := (List.getElem?_eq_some_iff.mp this).2
    have : (bs.map Value.bool).toArray[m] = .bool false := by simp [e2]
    rw [this]
    rfl
  · have hy' : y ∈ bs.map Value.bool := by simpa using hy
    obtain ⟨b, hb, rfl⟩ := List.mem_map.mp hy'
    have := flat_pair (A := X.A.in1) (s := s) (xs := [V.bl b]) (ys := [V.bl true]) (us := [.bool b]) (ws := [.bool true]) (.cons rfl .nil) (.cons rfl .nil) rfl rfl 0 (Nat.zero_lt_one) (Nat.zero_lt_one)
    cases b <;> exact this
end
end L2
set_option Elab.async false
set_option linter.all false
set_option maxRecDepth 100000
namespace PySem
open PyProof.Rows
section
variable {prog : Program} {w : World} {A : Around} {E : Value -> Shared -> Prop} {s : Shared}
theorem collect_code {R : Result -> Shared -> Prop} {r : Addr} {a b c : Int} {t u v : Tok} {n : Nat} (hh : A.handled = none) (hr : IsRange s.heap r a b c t u v) (hsmall : Builtin.Range.small a b c = true) (hn : Builtin.Range.rangeSize a b c = n) (hlen : n <= 2 ^ 24)
    (hR : ∀ h' tk acc c', (∀ b o, s.heap.get? b = some o -> h'.get? b = some o) -> h'.get? s.heap.objs.size = some { cls := .type "list", dict := none, data := .seq acc c', slots := #[] } -> ItemsOf (fun i v => ∃ t, v = .int (a + i * c) t) acc n -> R (.ok (.ret (.ref s.heap.objs.size))) { s with heap := h', toks := tk }) :
    codeAny (model prog w) A (.builtin "proto.collect" ⟨[.ref r], []⟩) R s := by
  refine codeAny_builtin F.entry_proto_collect ?_
  rw [Around.under_plainId F.plain_proto_collect _]
  show wpAny _ A.in1 (newList [] >>= fun l => again (.builtin "list.__iadd__" ⟨[l, .ref r], []⟩)) _ _ s
  refine wpAny_bind (wpAny_newObj_type ?_)
  refine wpAny_pure ⟨plainId_quiet F.plain_list_iadd _, codeAny_builtin F.entry_list_iadd ?_⟩
  rw [Around.under_plainId F.plain_list_iadd _]
  have hS : (s.heap.push { cls := .type "list", data := .seq ([] : List Value).toArray }).get? s.heap.objs.size = some { cls := .type "list", data := .seq #[] 0 } := Heap.get?_push_size _ rfl
  show wpAny _ A.in1 (Builtin.List.listExtendWith (.ref s.heap.objs.size) (.ref r) (.ref s.heap.objs.size)) _ _ _
  exact wpAny_extend_range (R := R) (s := { s with heap := s.heap.push { cls := .type "list", data := .seq ([] : List Value).toArray } }) hh (Heap.get?_push_of_some _ hr) hsmall hn hlen _ _ _ hS fun h' tk acc' c' hk hS' hacc => hR h' tk acc' c' (fun b o e => hk b o (Nat.ne_of_lt (Heap.lt_size e)) (Heap.get?_push_of_some _ e)) hS' hacc
theorem collect_rng {Q : List Value -> Shared -> Prop} {r : Addr} {a b c : Int} {t u v : Tok} {n : Nat} (hh : A.handled = none) (hr : IsRange s.heap r a b c t u v) (hsmall : Builtin.Range.small a b c = true) (hn : Builtin.Range.rangeSize a b c = n) (hlen : n <= 2 ^ 24)
    (hQ : ∀ h' tk acc, (∀ b o, s.heap.get? b = some o -> h'.get? b = some o) -> ItemsOf (fun i v => ∃ t, v = .int (a + i * c) t) acc n -> Q acc.toList { s with heap := h', toks := tk }) : wpAny (model prog w) A (collect (.ref r)) Q E s := by
  unfold collect
  refine wpAny_bind (wpAny_runValue (collect_code hh hr hsmall hn hlen fun h' tk acc c' hk hS hacc => ?_))
  show wpAny _ A (load s.heap.objs.size >>= _) _ _ _
  refine wpAny_bind (wpAny_load hS ?_)
  exact wpAny_pure (hQ h' tk acc hk hacc)
theorem meets_tuple_new_rng (r : Addr) {a b c : Int} {t u v : Tok} {n : Nat} (hsmall : Builtin.Range.small a b c = true) (hn : Builtin.Range.rangeSize a b c = n) (hlen : n <= 2 ^ 24) :
    MeetsIn prog w (Builtin.«tuple.__new__» ⟨[.type "tuple", .ref r], []⟩)
      (fun A R s => A.handled = none /\ IsRange s.heap r a b c t u v /\ ∀ (h' : Heap) (tk : Nat) (acc : Array Value), (∀ b o, s.heap.get? b = some o -> h'.get? b = some o) -> ItemsOf (fun i v => ∃ t, v = .int (a + i * c) t) acc n ->
        R (.ok (.ret (.ref h'.objs.size))) { s with heap := h'.push { cls := .type "tuple", data := .seq acc }, toks := tk }) :=
  .of_wp fun A R s h => by
    obtain ⟨hh, hr, h⟩ := h
    have hsub := sub_tuple_self
    have hinit := init_tuple_lookup
    have hmh := madeHere_tuple
    have hT : s.TypeIs (.ref r) "range" := ⟨_, hr, rfl⟩
    have hh1 : A.in1.handled = none := hh
    wp_walk using wpAny_typeOf hT, collect_rng hh1 hr hsmall hn hlen
    intro h' tk acc hk hacc
    show wpAny _ _ (Builtin.Tuple.tupleExact acc.toList.toArray >>= fun v => ret v) _ _ _
    unfold Builtin.Tuple.tupleExact
    refine wpAny_bind (wpAny_newObj_type ?_ (show acc.toList.toArray.size <= sizeLine by simp only [Array.toArray_toList]; rw [hacc.1, sizeLine_eq]; exact hlen))
    refine wpAny_pure ⟨_, rfl, ?_⟩
    have e : acc.toList.toArray = acc := by simp
    rw [e]
    exact h h' tk acc hk hacc
theorem call_tuple_rng {Q : Value -> Shared -> Prop} {r : Addr} {a b c : Int} {t u v : Tok} {n : Nat} (hh : A.handled = none) (hr : IsRange s.heap r a b c t u v) (hsmall : Builtin.Range.small a b c = true) (hn : Builtin.Range.rangeSize a b c = n) (hlen : n <= 2 ^ 24)
    (h : ∀ (h' : Heap) (tk : Nat) (acc : Array Value), (∀ b o, s.heap.get? b = some o -> h'.get? b = some o) -> ItemsOf (fun i v => ∃ t, v = .int (a + i * c) t) acc n -> Q (.ref h'.objs.size) { s with heap := h'.push { cls := .type "tuple", data := .seq acc }, toks := tk }) :
    wpAny (model prog w) A (call (.type "tuple") [.ref r]) Q E s :=
  callType_newIn F.called_tuple (by decide) (F.typeCall_tuple_1 _) (F.newCall_tuple_1 _) (fun obj => F.args_object_init_2 obj _) F.entry_tuple_new
    (meets_tuple_new_rng r hsmall hn hlen) ⟨hh, hr, fun h' tk acc hk hacc => ⟨⟨_, Heap.get?_push_size _ rfl, rfl⟩, h h' tk acc hk hacc⟩⟩
end
end PySem
namespace L2
open PySem PySem.Spec PyProof.Rows
section
variable {X : Cx} {a : Expr} {ta : TA} {p p2 pos pos2 : Pos}
def tTupRng (ta : TA) : TE := fun σ H Q => ta σ H fun vs H1 => ∃ n : Nat, vs = [.int n] /\ n <= sizeLine /\ ∀ l, H1 l = none -> Q (.ref l) (upd H1 l (.tup ((List.range n).map fun i : Nat => V.int i)))
theorem pe_tupRng (hc : X.calm = true) (hgl : Gl X "tuple") (hml : X.mg "tuple" = none) (hg : Gl X "range") (hm : X.mg "range" = none) (ha : PA X [a] ta)
    (hs : starEach [a] X.env = [(false, eval a X.env)] := by rfl) (hs2 : starEach [.Call (.Name "range" p2) [a] [] pos2] X.env = [(false, eval (.Call (.Name "range" p2) [a] [] pos2) X.env)] := by rfl) :
    PE X (.Call (.Name "tuple" p) [.Call (.Name "range" p2) [a] [] pos2] [] pos) (tTupRng ta) := by
  intro pins s σ H Q I h
  refine wpAny_Call_Name_kw (ld_blt I hgl hml bt_tuple ?_)
  refine PyProof.Rows.callWith_type1 ?_ hs2 rfl
  rw [hs2]
  refine Calls.spliced_cons ?_
  refine Call_ (ld_blt I hg hm boot_range (PyProof.Rows.callWith_type1 (thn (ha pos2 pins s σ H _ I h) fun us s1 ⟨vs, H1, I1, r1, q1⟩ => ?_) hs rfl))
  obtain ⟨n, e, hn, q⟩ := q1
  subst e
  cases r1 with
  | cons r rr =>
    cases rr
    obtain ⟨t, rfl⟩ := r
    have big : sizeLine <= 2 ^ 24 := by decide
    have big2 : ((sizeLine : Nat) : Int) < 2 ^ 62 := by decide
    have hn62 : (n : Int) < 2 ^ 62 := by omega
    refine call_range_1 ?_
    refine Calls.spliced_nil ?_
    refine call_tuple_rng (s := { s1 with heap := s1.heap.push { cls := .type "range", data := .fields #[.int 0 s1.toks, .int n t, .int 1 (s1.toks + 1)] }, toks := s1.toks + 1 + 1 }) (n := n) (I1.ok.hd hc) (IsRange.new ..) (small_one (by omega) (by omega) (by omega) hn62)
      (by rw [rangeSize_one]; split <;> omega) (by omega) fun h' tk acc kp hacc => ?_
    have kp1 : ∀ b o, s1.heap.get? b = some o -> (h'.push { cls := .type "tuple", data := .seq acc }).get? b = some o := fun b o f => Heap.get?_push_of_some _ (kp b o (Heap.get?_push_of_some _ f))
    have szl : s1.heap.objs.size <= h'.objs.size := by
      rcases Nat.eq_zero_or_pos s1.heap.objs.size with z | z
      · rw [z]; exact Nat.zero_le _
      · have hx : (s1.heap.push { cls := .type "range", data := .fields #[.int 0 s1.toks, .int n t, .int 1 (s1.toks + 1)] }).get? s1.heap.objs.size = some { cls := .type "range", data := .fields #[.int 0 s1.toks, .int n t, .int 1 (s1.toks + 1)] } := Heap.get?_push_size _ rfl
        exact Nat.le_of_lt (Heap.lt_size (kp _ _ hx))
    have ob : ObjOk X.prog X.w (upd H1 h'.objs.size (.tup ((List.range n).map fun i : Nat => V.int i))) (h'.push { cls := .type "tuple", data := .seq acc }) h'.objs.size (.tup ((List.range n).map fun i : Nat => V.int i)) := by
      refine ⟨by rw [List.length_map, List.length_range]; exact hn, acc.toList, items_ints hacc, ?_⟩
      exact ⟨_, Heap.get?_push_size _ rfl, rfl, 0, by simp⟩
    exact ⟨.ref _, _, I1.laid (t' := tk) kp1 szl ob, rfl, q _ (I1.hok.fresh szl)⟩
end
end L2
namespace L2
open PySem PySem.Spec PyProof.Rows
section
variable {X : Cx} {N : List Str} {scope : Scope} {ix : List (Option Nat)} {elt iter cond tg : Expr} {pos spos : Pos} {te : TE} {g : TG} {wi : TI} {tc : TT}
theorem ps_setCompI {i : Nat} {y : Str} {py : Pos} (hc : X.calm = true) (hN : X.N.Nodup) (hyi : X.N[i]? = some y) (hy : Loc X.env.scope y) (S : BlkScope X.N X.env.scope N ix scope) (hi : PI X tg iter wi) (hg : ∀ fp s H C, PG (cxComp X N scope fp s H C) tg g) (ht : ∀ fp s H C, PT (cxComp X N scope fp s H C) cond tc) (he : ∀ fp s H C, PE (cxComp X N scope fp s H C) elt te)
    (hsw : swapsWith (.ListComp elt [⟨tg, iter, [cond], 0⟩] scope pos) (some (.Name y py)) spos.line X.env = pure true := by rfl)
    (hf : X.fn y = true \/ X.env.scope.names.lookup y = some .local := by first | exact .inl rfl | exact .inr rfl | assumption)
    (hs : ∀ x, foldedSetIterable iter X.env x = pure x := by intro _; rfl) : PS X (.Assign [.Name y py] (.ListComp elt [⟨tg, iter, [cond], 0⟩] scope pos) spos) (tAsg (tCompI ix wi g tc te) (gName i)) := by
  intro pins s σ H D I h
  rw [exec_Assign_Name_used _ _ _ _ hsw]
  refine wpAny_bind (wpAny_standAt (wpAny_bind ?_))
  show wpAny _ X.A (do let _ <- comprehension (.ListComp elt [⟨tg, iter, [cond], 0⟩] scope pos) scope X.env _ (newList []) false (eval iter X.env) (some (assign (.Name y py) X.env))) _ _ s
  refine wpAny_bind (wpAny_mono (wpAny_comprehension_free (use := some (assign (.Name y py) X.env)) (Q := fun _ s' => SP X pins D .next s') rfl hs (closureFor_eq (S.clos I.ok)) S.kind S.locs
    (thn (hi pins s σ H _ I h) fun v s1 h1 => thn h1 fun itv s2 h2 => ?_)) (fun _ s' hq => wpAny_pure (wpAny_pure hq)) fun _ _ e => e)
  obtain ⟨it, fp, tn, J, H2, e, I2, T, st2, f2, hW⟩ := h2
  subst e
  refine comp_runI (RR := fun acc C => compPost (model X.prog X.w) X.A X.xe (some (assign (.Name y py) X.env)) (fun _ s' => SP X pins D .next s') acc C) I2 hc S T st2 f2 (hg _ _ _) (ht _ _ _) (he _ _ _) hW ?_
  intro Dl C s' H' m I' hn fC q
  show wpAny _ X.A (assign (.Name y py) X.env (.ref Dl)) _ _ s'
  refine wpAny_assign_Name (store_ok2 I' hN hyi hy (v := .ref Dl) rfl (fun s2 I2' hsb => ?_) hf)
  obtain ⟨a, sb, ha⟩ := hsb
  refine ⟨m, hn.sameBut sb ?_, fun h3 sb3 => ⟨_, H', I2'.turned (t' := s2.toks) (fun b o hb e => (sb3.2 b hb).trans e) fC.1 fC.2.1 fC.2.2.2.1 fC.2.2.2.2.1 fC.2.2.2.2.2, q⟩⟩
  rcases ha with z | z
  · rw [z]; exact fC.2.1
  · exact Ne.symm (fC.2.2.2.2.1 _ _ z)
end
end L2
set_option Elab.async false
set_option linter.all false
set_option maxRecDepth 100000
namespace L2
open PySem PySem.Spec PyProof.Rows
section
variable {X : Cx} {tg : Expr}
theorem small_down {a : Int} (ha : -1 <= a) (hb' : a < 2 ^ 60) : Builtin.Range.small a (-1) (-1) = true := by
  unfold Builtin.Range.small Builtin.Range.rangeSize
  simp only [Builtin.Range.rangeFitsLong, Bool.and_eq_true, Bool.or_eq_true, decide_eq_true_eq, beq_iff_eq, show ¬ ((-1 : Int) > 0) by decide, if_false, show - (-1 : Int) = 1 by decide, Int.ediv_one]
  split <;> omega
theorem size_down (a : Int) (ha : -1 <= a) : Builtin.Range.rangeSize a (-1) (-1) = (((a + 1).toNat : Nat) : Int) := by
  unfold Builtin.Range.rangeSize
  simp only [show ¬ ((-1 : Int) > 0) by decide, if_false, show - (-1 : Int) = 1 by decide, Int.ediv_one]
  split <;> omega
def iRngD (ta : TA) : TI := fun σ H R => ta σ H fun vs H1 => ∃ a : Int, vs = [.int a, .int (-1), .int (-1)] /\ (-1 <= a /\ a < 2 ^ 60) /\ R (Its a (-1) (a + 1).toNat) H1
theorem pi_rangeD {a b c : Expr} {ta : TA} {p pos : Pos} (hg : Gl X "range") (hm : X.mg "range" = none) (ha : PA X [a, b, c] ta) (hs : starEach [a, b, c] X.env = [(false, eval a X.env), (false, eval b X.env), (false, eval c X.env)] := by rfl) (hs2 : starEach [b, c] X.env = [(false, eval b X.env), (false, eval c X.env)] := by rfl) :
    PI X tg (.Call (.Name "range" p) [a, b, c] [] pos) (iRngD ta) := by
  intro pins s σ H R I h
  refine Call_ (ld_blt I hg hm boot_range (PyProof.Rows.callWith_type1 (thn (ha pos pins s σ H _ I h) fun us s1 ⟨vs, H1, I1, r1, q1⟩ => ?_) (by rw [hs, hs2]) (by rw [hs2]; rfl)))
  obtain ⟨j, e, ⟨q1, q2⟩, q⟩ := q1
  subst e
  cases r1 with
  | cons r rr =>
    cases rr with
    | cons r' rr =>
      cases rr with
      | cons r3 rr =>
        cases rr
        obtain ⟨t, rfl⟩ := r
        obtain ⟨t', rfl⟩ := r'
        obtain ⟨t3, rfl⟩ := r3
        refine call_range_3 (by decide) ?_ (.inl (PyProof.noPylong_small (by decide)))
        refine wpAny_pyIter_range (IsRange.new ..) (small_down q1 q2) ?_
        have I2 : Inv X pins σ H1 { s1 with heap := s1.heap.push { cls := .type "range", data := .fields #[.int j t, .int (-1) t', .int (-1) t3] } } := I1.kept (t' := s1.toks) fun b o e => Heap.get?_push_of_some _ e
        refine ⟨(s1.heap.push { cls := .type "range", data := .fields #[.int j t, .int (-1) t', .int (-1) t3] }).objs.size, [(s1.heap.push { cls := .type "range", data := .fields #[.int j t, .int (-1) t', .int (-1) t3] }).objs.size], _, _, H1, rfl,
          I2.kept (t' := s1.toks) fun b o e => Heap.get?_push_of_some _ e, turn_rangeS _ j (-1) (j + 1).toNat, ?_, fun b hb => ?_, q⟩
        · have e1 : (j : Int) + ((0 : Nat) : Int) * (-1) = j := by simp
          have e2 : ((j + 1).toNat : Int) - ((0 : Nat) : Int) = Builtin.Range.rangeSize j (-1) (-1) := by rw [size_down j q1]; simp
          show IsRangeIter _ _ ((j : Int) + ((0 : Nat) : Int) * (-1)) (((j + 1).toNat : Int) - ((0 : Nat) : Int)) (-1)
          rw [e1, e2]
          exact Heap.get?_push_size _ rfl
        · have e : b = (s1.heap.push { cls := .type "range", data := .fields #[.int j t, .int (-1) t', .int (-1) t3] }).objs.size := by simpa using hb
          subst e
          exact I2.fpOk (Nat.le_refl _) (I2.hok.fresh (Nat.le_refl _))
end
section
variable {X : Cx} {a b c : Expr} {ta : TA} {p p2 pos pos2 : Pos}
def downI (n : Nat) : List Int := (List.range n).map fun i : Nat => (n : Int) - 1 - i
theorem items_down {n : Nat} : ∀ {vs : List Value} {k : Nat}, vs.length + k = n -> (∀ (i : Nat) (v : Value), vs[i]? = some v -> ∃ t : Tok, v = Value.int ((n : Int) - 1 + (((k + i : Nat)) : Int) * (-1)) t) -> Vals ((List.range' k vs.length).map fun i : Nat => V.int ((n : Int) - 1 - i)) vs
  | [], _, _, _ => .nil
  | v :: vs, k, hl, h => by
    obtain ⟨t, e⟩ := h 0 v rfl
    refine .cons ⟨t, ?_⟩ (items_down (k := k + 1) (by rw [List.length_cons] at hl; omega) fun i u hu => ?_)
    · rw [e]
      congr 1
      push_cast
      omega
    · obtain ⟨t', e'⟩ := h (i + 1) u (by simpa using hu)
      refine ⟨t', ?_⟩
      rw [e']
      congr 1
      push_cast
      omega
def tTupDown (ta : TA) : TE := fun σ H Q => ta σ H fun vs H1 => ∃ n : Nat, vs = [.int ((n : Int) - 1), .int (-1), .int (-1)] /\ n <= sizeLine /\ ∀ l, H1 l = none -> Q (.ref l) (upd H1 l (.tup ((downI n).map V.int)))
theorem pe_tupDown (hc : X.calm = true) (hgl : Gl X "tuple") (hml : X.mg "tuple" = none) (hg : Gl X "range") (hm : X.mg "range" = none) (ha : PA X [a, b, c] ta)
    (hs : starEach [a, b, c] X.env = [(false, eval a X.env), (false, eval b X.env), (false, eval c X.env)] := by rfl) (hs3 : starEach [b, c] X.env = [(false, eval b X.env), (false, eval c X.env)] := by rfl) (hs2 : starEach [.Call (.Name "range" p2) [a, b, c] [] pos2] X.env = [(false, eval (.Call (.Name "range" p2) [a, b, c] [] pos2) X.env)] := by rfl) :
    PE X (.Call (.Name "tuple" p) [.Call (.Name "range" p2) [a, b, c] [] pos2] [] pos) (tTupDown ta) := by
  intro pins s σ H Q I h
  refine wpAny_Call_Name_kw (ld_blt I hgl hml bt_tuple ?_)
  refine PyProof.Rows.callWith_type1 ?_ hs2 rfl
  rw [hs2]
  refine Calls.spliced_cons ?_
  refine Call_ (ld_blt I hg hm boot_range (PyProof.Rows.callWith_type1 (thn (ha pos2 pins s σ H _ I h) fun us s1 ⟨vs, H1, I1, r1, q1⟩ => ?_) (by rw [hs, hs3]) (by rw [hs3]; rfl)))
  obtain ⟨n, e, hn, q⟩ := q1
  subst e
  cases r1 with
  | cons r rr =>
    cases rr with
    | cons r' rr =>
      cases rr with
      | cons r3 rr =>
        cases rr
        obtain ⟨t, rfl⟩ := r
        obtain ⟨t', rfl⟩ := r'
        obtain ⟨t3, rfl⟩ := r3
        have big : sizeLine <= 2 ^ 24 := by decide
        have big2 : ((sizeLine : Nat) : Int) < 2 ^ 60 := by decide
        refine call_range_3 (by decide) ?_ (.inl (PyProof.noPylong_small (by decide)))
        refine Calls.spliced_nil ?_
        refine call_tuple_rng (s := { s1 with heap := s1.heap.push { cls := .type "range", data := .fields #[.int ((n : Int) - 1) t, .int (-1) t', .int (-1) t3] } }) (n := n) (I1.ok.hd hc) (IsRange.new ..) (small_down (by omega) (by omega))
          (by rw [size_down _ (by omega)]; omega) (by omega) fun h' tk acc kp hacc => ?_
        have kp1 : ∀ b o, s1.heap.get? b = some o -> (h'.push { cls := .type "tuple", data := .seq acc }).get? b = some o := fun b o f => Heap.get?_push_of_some _ (kp b o (Heap.get?_push_of_some _ f))
        have szl : s1.heap.objs.size <= h'.objs.size := by
          have hx : (s1.heap.push { cls := .type "range", data := .fields #[.int ((n : Int) - 1) t, .int (-1) t', .int (-1) t3] }).get? s1.heap.objs.size = some { cls := .type "range", data := .fields #[.int ((n : Int) - 1) t, .int (-1) t', .int (-1) t3] } := Heap.get?_push_size _ rfl
          exact Nat.le_of_lt (Heap.lt_size (kp _ _ hx))
        have la : acc.toList.length = n := by rw [Array.length_toList]; exact hacc.1
        have vv : Vals ((downI n).map V.int) acc.toList := by
          have := items_down (n := n) (vs := acc.toList) (k := 0) (by omega) fun i v hv => by
            obtain ⟨t, e⟩ := hacc.2 i v (by simpa using hv)
            exact ⟨t, by rw [e, Nat.zero_add]⟩
          rw [la, <- List.range_eq_range'] at this
          unfold downI
          rw [List.map_map]
          exact this
        have ob : ObjOk X.prog X.w (upd H1 h'.objs.size (.tup ((downI n).map V.int))) (h'.push { cls := .type "tuple", data := .seq acc }) h'.objs.size (.tup ((downI n).map V.int)) := by
          refine ⟨by unfold downI; rw [List.length_map, List.length_map, List.length_range]; exact hn, acc.toList, vv, ?_⟩
          exact ⟨_, Heap.get?_push_size _ rfl, rfl, 0, by simp⟩
        exact ⟨.ref _, _, I1.laid (t' := tk) kp1 szl ob, rfl, q _ (I1.hok.fresh szl)⟩
end
end L2
set_option Elab.async false
set_option linter.all false
set_option maxRecDepth 100000
set_option maxHeartbeats 8000000
namespace My
open PySem L2
abbrev LL := List (List Int)
abbrev LI := List Int
abbrev OV := Option V
theorem gi_ {α : Type} {l : List α} {i : Nat} {a : α} (h : l[i]? = some a) : ∃ h : i < l.length, l[i] = a := List.getElem?_eq_some_iff.mp h
theorem mq_ {α : Type} {l : List α} {i : Nat} {a : α} (h : l[i]? = some a) : a ∈ l := List.mem_of_getElem? h
theorem ma_ {α : Type} {a : α} {s t : List α} : a ∈ s ++ t ↔ a ∈ s \/ a ∈ t := List.mem_append
theorem lm_ {α β : Type} {f : α -> β} {l : List α} : (l.map f).length = l.length := List.length_map f
theorem qT_ {K : PySem.W.Frag} {H : Hp} {a : Addr} {xs : List V} (h : H a = some (.tup xs)) : SqT K H a xs := SqT.of h
theorem qL_ {K : PySem.W.Frag} {H : Hp} {a : Addr} {xs : List V} (h : H a = some (.lst xs)) : SqL K H a xs := SqL.of h
def top (i : Nat) : Stmt := PySem.Challenge.pw_figuretell_k45_last_number_and_endless.main.body.getD i (.Pass ⟨0, 0, 0, 0⟩)
abbrev s_is_whole : Stmt := top 4
abbrev s_is_whole_from : Stmt := top 5
abbrev s_is_whole_within : Stmt := top 6
abbrev s_need_whole : Stmt := top 7
abbrev s_need_row : Stmt := top 8
abbrev s_number_of : Stmt := top 9
abbrev s_merged : Stmt := top 10
abbrev s_reached_rooms : Stmt := top 12
abbrev s_rooms_leading_to : Stmt := top 13
abbrev s_next_rooms : Stmt := top 15
abbrev s_first_leading : Stmt := top 16
abbrev s_taken_down : Stmt := top 17
abbrev s_first_rows : Stmt := top 19
abbrev s_last_number : Stmt := top 21
abbrev s_endless : Stmt := top 22
abbrev s_live_rooms : Stmt := top 23
abbrev s_heights_of : Stmt := top 24
abbrev s_highest_row : Stmt := top 25
abbrev s_way_round : Stmt := top 26
abbrev s_way_out : Stmt := top 27
abbrev s__law_number : Stmt := top 29
abbrev s__law_whole : Stmt := top 30
abbrev s__law_rest : Stmt := top 31
abbrev s__law_there : Stmt := top 32
abbrev s__law_machine : Stmt := top 33
abbrev s__law_sign_at : Stmt := top 34
abbrev s__law_is_row : Stmt := top 35
abbrev s__law_led : Stmt := top 36
abbrev s__law_goes_on : Stmt := top 37
abbrev s__law_ends : Stmt := top 38
abbrev s_law : Stmt := top 39
theorem iteD {c A B : Prop} [Decidable c] (h1 : c -> A) (h2 : ¬ c -> B) : if decide c = true then A else B := ite2 (fun h => h1 (of_decide_eq_true h)) fun h => h2 fun z => h (decide_eq_true z)
theorem iteDn {c A B : Prop} [Decidable c] (h1 : ¬ c -> A) (h2 : c -> B) : if (!decide c) = true then A else B := ite2 (fun h => h1 fun z => by rw [decide_eq_true z] at h; cases h) fun h => h2 (Decidable.byContradiction fun z => h (by rw [decide_eq_false z]; rfl))
theorem iteI {a b : Int} {A B : Prop} (h1 : a = b -> A) (h2 : a ≠ b -> B) : if decide (V.int a = V.int b) = true then A else B := iteD (fun h => h1 (V.int.inj h)) fun h => h2 fun z => h (congrArg V.int z)
theorem mod_in {a b : Int} (h : 0 < b) : 0 <= a % b /\ a % b < b := ⟨Int.emod_nonneg a (by omega), Int.emod_lt_of_pos a h⟩
theorem cut_seq {t u : TS} {D : Ends} {σ : St} {H : Hp} (R : St -> Hp -> Prop) (h2 : ∀ σ' H', R σ' H' -> u D σ' H') (h1 : (∀ σ' H', R σ' H' -> u D σ' H') -> tSeq t u D σ H) : tSeq t u D σ H := h1 h2
theorem cut_G {t u : TS} {D : Ends} {σ : St} {H : Hp} (R : St -> Hp -> Prop) (h1 : ∀ σ' H', R σ' H' -> u D σ' H') (h2 : ∀ D' : Ends, (∀ σ' H', R σ' H' -> D'.nx σ' H') -> t D' σ H) : tSeq t u D σ H := h2 { D with nx := u D } h1
theorem same_upd {H H' : Hp} {p : Addr} {o : HO} (h : Same H H') (hp : H p = none) : Same H (upd H' p o) := fun b u e => by rw [upd_ne (ne_of_none e hp)]; exact h b u e
theorem nat_of {x : Int} (h : 0 <= x) : ∃ n : Nat, x = (n : Int) := ⟨x.toNat, by omega⟩
theorem getD_at {α : Type} {xs : List α} {i : Nat} {d : α} (h : i < xs.length) : xs.getD i d = xs[i] := by simp [h]
theorem atI_ints {ns : LI} {k : Int} (h0 : 0 <= k) (h : k < (ns.length : Int)) : atI (ns.map V.int) k = some (.int (ns.getD k.toNat 0)) := by
  have hk : k.toNat < ns.length := by omega
  have ek : k = ((k.toNat : Nat) : Int) := by omega
  have q : atI (ns.map V.int) ((k.toNat : Nat) : Int) = some (.int ns[k.toNat]) := atI_nat (by rw [List.getElem?_map, List.getElem?_eq_getElem hk] <;> rfl)
  rw [<- ek] at q
  rw [q, getD_at hk]
theorem atI_refs {ras : List Addr} {k : Int} {ra : Addr} (h0 : 0 <= k) (h : ras[k.toNat]? = some ra) : atI (ras.map V.ref) k = some (.ref ra) := by
  have ek : k = ((k.toNat : Nat) : Int) := by omega
  have q : atI (ras.map V.ref) ((k.toNat : Nat) : Int) = some (.ref ra) := atI_nat (by rw [List.getElem?_map, h] <;> rfl)
  rw [<- ek] at q
  exact q
theorem ints_at {ns : LI} {i : Nat} {y : V} (h : (ns.map V.int)[i]? = some y) : ∃ z, y = V.int z /\ ns[i]? = some z := by
  rw [List.getElem?_map] at h
  cases e : ns[i]? with
  | none => rw [e] at h; cases h
  | some z => rw [e] at h; exact ⟨z, (Option.some.inj h).symm, rfl⟩
theorem kit_tuple_tuple (K : PySem.W.Frag) : PySem.W.kitOne K (.type "tuple") (.type "tuple") = some true := by with_unfolding_all rfl
theorem cut_front {ns : LI} {c : Nat} : cutV (ns.map V.int) none (some (c : Int)) = (ns.take c).map V.int := by
  unfold cutV
  rw [HT.sIx_none, HT.sIx_nat, lm_, List.drop_zero, Nat.sub_zero]
  rw [<- List.map_take]
  congr 1
  rcases Nat.le_total c ns.length with h | h
  · rw [Nat.min_eq_left h]
  · rw [Nat.min_eq_right h, List.take_length, List.take_of_length_le h]
def stepI (rows : LL) (h f : Int) : Int := (rows.getD h.toNat []).getD f.toNat 0
def walkI (rows : LL) (row : LI) (h : Int) : Int := row.foldl (stepI rows) h
structure RowsOk (many wide : Nat) (rows : LL) : Prop where
  len : rows.length = many
  row : ∀ r ∈ rows, r.length = wide
  val : ∀ r ∈ rows, ∀ v ∈ r, 0 <= v /\ v < (many : Int)
theorem stepI_ok {many wide : Nat} {rows : LL} {h f : Int} (R : RowsOk many wide rows) (h0 : 0 <= h) (h1 : h < many) (f0 : 0 <= f) (f1 : f < wide) : 0 <= stepI rows h f /\ stepI rows h f < many := by
  have l1 : h.toNat < rows.length := by rw [R.len]; omega
  have l2 : f.toNat < rows[h.toNat].length := by rw [R.row _ (List.getElem_mem l1)]; omega
  unfold stepI
  rw [getD_at l1, getD_at l2]
  exact R.val _ (List.getElem_mem l1) _ (List.getElem_mem l2)
theorem walkI_ok {many wide : Nat} {rows : LL} (R : RowsOk many wide rows) : ∀ {ns : LI} {h : Int}, (∀ f ∈ ns, 0 <= f /\ f < (wide : Int)) -> 0 <= h -> h < many -> 0 <= walkI rows ns h /\ walkI rows ns h < many
  | [], h, _, h0, h1 => ⟨h0, h1⟩
  | f :: r, h, hf, h0, h1 => by
    obtain ⟨a, b⟩ := stepI_ok R h0 h1 (hf f List.mem_cons_self).1 (hf f List.mem_cons_self).2
    exact walkI_ok (ns := r) R (fun g hg => hf g (List.mem_cons_of_mem _ hg)) a b
theorem walkI_append (rows : LL) (xs ys : LI) (h : Int) : walkI rows (xs ++ ys) h = walkI rows ys (walkI rows xs h) := by
  unfold walkI
  rw [List.foldl_append]
theorem walkI_take {rows : LL} {ns : LI} {h z : Int} {i : Nat} (e : ns[i]? = some z) : walkI rows (ns.take (i + 1)) h = stepI rows (walkI rows (ns.take i) h) z := by
  rw [List.take_add_one, e, walkI_append]
  rfl
def RowsAt (H : Hp) : List Addr -> LL -> Prop := Paired fun a r => H a = some (.tup (r.map V.int))
theorem RowsAt.length {H : Hp} {ras : List Addr} {rows : LL} (h : RowsAt H ras rows) : ras.length = rows.length := Paired.length h
theorem RowsAt.get : ∀ {H : Hp} {ras : List Addr} {rows : LL} {i : Nat}, RowsAt H ras rows -> (h : i < rows.length) -> ∃ ra, ras[i]? = some ra /\ H ra = some (.tup (rows[i].map V.int))
  | _, _, _, _, .nil, h => by simp at h
  | _, _, _, 0, .cons (a := a) r _, _ => ⟨a, rfl, r⟩
  | _, _, _, i + 1, .cons _ t, h => by
    obtain ⟨ra, h1, h2⟩ := RowsAt.get (i := i) t (by simpa using h)
    exact ⟨ra, by simpa using h1, by simpa using h2⟩
theorem RowsAt.same {H H' : Hp} {ras : List Addr} {rows : LL} (h : RowsAt H ras rows) (s : ∀ b xs, H b = some (.tup xs) -> H' b = some (.tup xs)) : RowsAt H' ras rows := Paired.mapP h fun _ _ q => s _ _ q
theorem RowsAt.snoc : ∀ {H : Hp} {ras : List Addr} {rows : LL} {a : Addr} {r : LI}, RowsAt H ras rows -> H a = some (.tup (r.map V.int)) -> RowsAt H (ras ++ [a]) (rows ++ [r])
  | _, _, _, _, _, .nil, h => .cons h .nil
  | _, _, _, _, _, .cons q t, h => .cons q (RowsAt.snoc t h)
structure MachAt (H : Hp) (m r g : Addr) (wide : Nat) (rows : LL) (signs : LI) : Prop where
  tup : H m = some (.tup [.int wide, .ref r, .ref g])
  rows : ∃ ras, H r = some (.tup (ras.map V.ref)) /\ RowsAt H ras rows
  sgn : H g = some (.tup (signs.map V.int))
theorem MachAt.same {H H' : Hp} {m r g : Addr} {wide : Nat} {rows : LL} {signs : LI} (M : MachAt H m r g wide rows signs) (s : ∀ b xs, H b = some (.tup xs) -> H' b = some (.tup xs)) : MachAt H' m r g wide rows signs := by
  obtain ⟨h1, ⟨ras, h2, h3⟩, h4⟩ := M
  exact ⟨s _ _ h1, ⟨ras, s _ _ h2, h3.same s⟩, s _ _ h4⟩
theorem row_step {H : Hp} {ras : List Addr} {rows : LL} {many wide : Nat} {h f : Int} (A : RowsAt H ras rows) (R : RowsOk many wide rows) (h0 : 0 <= h) (h1 : h < many) (f0 : 0 <= f) (f1 : f < wide) :
    ∃ (ra : Addr) (r : LI), atI (ras.map V.ref) h = some (.ref ra) /\ H ra = some (.tup (r.map V.int)) /\ atI (r.map V.int) f = some (.int (stepI rows h f)) := by
  have l1 : h.toNat < rows.length := by rw [R.len]; omega
  have l2 : rows[h.toNat].length = wide := R.row _ (List.getElem_mem l1)
  obtain ⟨ra, e1, e2⟩ := A.get l1
  refine ⟨ra, rows[h.toNat], atI_refs h0 e1, e2, ?_⟩
  rw [atI_ints f0 (by rw [l2]; exact f1)]
  unfold stepI
  rw [getD_at l1]
theorem len_split {α : Type} (p : α -> Bool) : ∀ l : List α, l.length = (l.filter p).length + (l.filter fun x => !p x).length
  | [] => rfl
  | x :: l => by
    have ih := len_split p l
    cases e : p x
    · rw [List.filter_cons_of_neg (by rw [e]; decide), List.filter_cons_of_pos (by rw [e]; rfl), List.length_cons, List.length_cons]
      omega
    · rw [List.filter_cons_of_pos e, List.filter_cons_of_neg (by rw [e]; decide), List.length_cons, List.length_cons]
      omega
theorem few_below : ∀ (many : Nat) {ks : LI}, ks.Nodup -> (∀ q ∈ ks, 0 <= q /\ q < (many : Int)) -> ks.length <= many
  | 0, ks, _, h => by
    cases ks with
    | nil => exact Nat.le_refl _
    | cons q r => have := h q List.mem_cons_self; omega
  | many + 1, ks, nd, h => by
    have e : (ks.filter fun q => decide (q ≠ (many : Int))).length <= many := few_below many (nd.filter _) fun q hq => by
      have h1 := h q (List.mem_filter.mp hq).1
      have h2 : q ≠ (many : Int) := of_decide_eq_true (List.mem_filter.mp hq).2
      omega
    have c : (ks.filter fun q => !decide (q ≠ (many : Int))).length <= 1 := by
      have nd2 := nd.filter fun q => !decide (q ≠ (many : Int))
      have al : ∀ q ∈ ks.filter (fun q => !decide (q ≠ (many : Int))), q = (many : Int) := fun q hq => by
        have := (List.mem_filter.mp hq).2
        simpa using this
      match hm : ks.filter (fun q => !decide (q ≠ (many : Int))), nd2, al with
      | [], _, _ => exact Nat.zero_le _
      | [x], _, _ => exact Nat.le_refl _
      | x :: y :: r, nd2, al =>
        have h1 := al x List.mem_cons_self
        have h2 := al y (List.mem_cons_of_mem _ List.mem_cons_self)
        rw [h1, h2] at nd2
        exact absurd List.mem_cons_self (List.nodup_cons.mp nd2).1
    have t := len_split (fun q => decide (q ≠ (many : Int))) ks
    omega
def Reach (wide : Nat) (rows : LL) (st q : Int) : Prop := ∃ row : LI, (∀ f ∈ row, 0 <= f /\ f < (wide : Int)) /\ walkI rows row st = q
theorem Reach.zero {wide : Nat} {rows : LL} {st : Int} : Reach wide rows st st := ⟨[], (fun f h => by cases h), rfl⟩
theorem Reach.step {wide : Nat} {rows : LL} {st q f : Int} (h : Reach wide rows st q) (f0 : 0 <= f) (f1 : f < (wide : Int)) : Reach wide rows st (stepI rows q f) := by
  obtain ⟨row, hr, rfl⟩ := h
  refine ⟨row ++ [f], fun g hg => ?_, by rw [walkI_append]; rfl⟩
  rcases ma_.mp hg with z | z
  · exact hr g z
  · rw [List.mem_singleton.mp z]; exact ⟨f0, f1⟩
theorem Reach.of {wide : Nat} {rows : LL} {st : Int} {S : Int -> Prop} (h0 : S st) (hs : ∀ q, S q -> ∀ f, 0 <= f -> f < (wide : Int) -> S (stepI rows q f)) {q : Int} (h : Reach wide rows st q) : S q := by
  obtain ⟨row, hr, rfl⟩ := h
  have go : ∀ (row : LI) (p : Int), (∀ f ∈ row, 0 <= f /\ f < (wide : Int)) -> S p -> S (walkI rows row p) := by
    intro row
    induction row with
    | nil => intro p _ hp; exact hp
    | cons f r ih => intro p hr hp; exact ih (stepI rows p f) (fun g hg => hr g (List.mem_cons_of_mem _ hg)) (hs p hp f (hr f List.mem_cons_self).1 (hr f List.mem_cons_self).2)
  exact go row st hr h0
def kvT (ks : LI) : List (Key × V) := ks.map fun q => (Sum.inl q, V.bl true)
theorem kvT_val (ks : LI) (q : Int) : (valV (kvT ks) (Sum.inl q)).isSome = decide (q ∈ ks) := by
  induction ks with
  | nil => rfl
  | cons k r ih =>
    by_cases e : k = q
    · subst e
      rw [show kvT (k :: r) = (Sum.inl k, V.bl true) :: kvT r from rfl, valV_pos rfl]
      simp
    · rw [show kvT (k :: r) = (Sum.inl k, V.bl true) :: kvT r from rfl, valV_neg (fun z => e (Sum.inl.inj z)), ih]
      simp [Ne.symm e]
theorem kvT_put {ks : LI} {q : Int} (h : q ∉ ks) : putK (kvT ks) (Sum.inl q) (V.bl true) = kvT (ks ++ [q]) := by
  unfold putK
  rw [if_neg (by
    intro z
    obtain ⟨p, hp, e⟩ := List.any_eq_true.mp z
    obtain ⟨k, hk, rfl⟩ := List.mem_map.mp hp
    have := Sum.inl.inj (of_decide_eq_true e)
    exact h (this ▸ hk))]
  unfold kvT
  rw [List.map_append]
  rfl
def pushN (s : LI) (x : Int) : LI := if x ∈ s then s else s ++ [x]
def growI (rows : LL) (s : LI) (q : Int) : LI := (rows.getD q.toNat []).foldl pushN s
theorem push_sub {s : LI} {x y : Int} (h : y ∈ s) : y ∈ pushN s x := by
  unfold pushN
  split
  · exact h
  · exact List.mem_append_left _ h
theorem push_mem (s : LI) (x : Int) : x ∈ pushN s x := by
  unfold pushN
  split
  · assumption
  · exact List.mem_append_right _ List.mem_cons_self
theorem pushes_sub : ∀ (xs : LI) {s : LI} {y : Int}, y ∈ s -> y ∈ xs.foldl pushN s
  | [], _, _, h => h
  | x :: xs, _, _, h => pushes_sub xs (push_sub h)
theorem pushes_mem : ∀ (xs : LI) {s : LI} {y : Int}, y ∈ xs -> y ∈ xs.foldl pushN s
  | [], _, _, h => by cases h
  | x :: xs, s, y, h => by
    rcases List.mem_cons.mp h with rfl | h
    · exact pushes_sub xs (push_mem s y)
    · exact pushes_mem xs h
theorem grows_sub (rows : LL) : ∀ (qs : LI) {s : LI} {y : Int}, y ∈ s -> y ∈ qs.foldl (growI rows) s
  | [], _, _, h => h
  | q :: qs, _, _, h => grows_sub rows qs (pushes_sub _ h)
theorem grows_mem (rows : LL) : ∀ (qs : LI) {s : LI} {q y : Int}, q ∈ qs -> y ∈ rows.getD q.toNat [] -> y ∈ qs.foldl (growI rows) s
  | [], _, _, _, h, _ => by cases h
  | p :: qs, s, q, y, h, hy => by
    rcases List.mem_cons.mp h with rfl | h
    · exact grows_sub rows qs (pushes_mem _ hy)
    · exact grows_mem rows qs h hy
structure Bfs (many wide : Nat) (rows : LL) (st : Int) (qs : LI) : Prop where
  eq : qs = qs.foldl (growI rows) [st]
  nd : qs.Nodup
  inr : ∀ q ∈ qs, 0 <= q /\ q < (many : Int)
  re : ∀ q, q ∈ qs ↔ Reach wide rows st q
def spReached (K : PySem.W.Frag) : Sp := fun vs H Q _ => ∃ (m r g : Addr) (st : Int) (many wide : Nat) (rows : LL) (signs : LI), vs = [.ref m, .int st] /\ (0 <= st /\ st < (many : Int)) /\ MachAt H m r g wide rows signs /\ RowsOk many wide rows /\ (1 <= many /\ many <= 1000) /\
  ∀ (l : Addr) (H' : Hp) (qs : LI), Same H H' -> H' l = some (.lst (qs.map V.int)) -> Bfs many wide rows st qs -> Q (.ref l) H'
structure Found (many wide : Nat) (rows : LL) (st : Int) (dn ks : LI) : Prop where
  eq : ks = dn.foldl (growI rows) [st]
  nd : ks.Nodup
  inr : ∀ q ∈ ks, 0 <= q /\ q < (many : Int)
  re : ∀ q ∈ ks, Reach wide rows st q
structure Part (many wide : Nat) (rows : LL) (st : Int) (dn : LI) (xs : LI) (ks : LI) : Prop where
  eq : ks = xs.foldl pushN (dn.foldl (growI rows) [st])
  nd : ks.Nodup
  inr : ∀ q ∈ ks, 0 <= q /\ q < (many : Int)
  re : ∀ q ∈ ks, Reach wide rows st q
theorem Part.put {many wide : Nat} {rows : LL} {st : Int} {dn xs ks : LI} {q : Int} (F : Part many wide rows st dn xs ks) (h : q ∉ ks) (q0 : 0 <= q) (q1 : q < (many : Int)) (r : Reach wide rows st q) : Part many wide rows st dn (xs ++ [q]) (ks ++ [q]) where
  eq := by
    rw [List.foldl_append, <- F.eq]
    show _ = pushN ks q
    unfold pushN
    rw [if_neg h]
  nd := List.nodup_append.mpr ⟨F.nd, by simp, fun a ha b hb e => h (by rw [<- List.mem_singleton.mp hb, <- e]; exact ha)⟩
  inr := fun p hp => by
    rcases ma_.mp hp with z | z
    · exact F.inr p z
    · rw [List.mem_singleton.mp z]; exact ⟨q0, q1⟩
  re := fun p hp => by
    rcases ma_.mp hp with z | z
    · exact F.re p z
    · rw [List.mem_singleton.mp z]; exact r
theorem Part.old {many wide : Nat} {rows : LL} {st : Int} {dn xs ks : LI} {q : Int} (F : Part many wide rows st dn xs ks) (h : q ∈ ks) : Part many wide rows st dn (xs ++ [q]) ks where
  eq := by
    rw [List.foldl_append, <- F.eq]
    show _ = pushN ks q
    unfold pushN
    rw [if_pos h]
  nd := F.nd
  inr := F.inr
  re := F.re
section
variable {P : Program} {w : World} {K : PySem.W.Frag} {mg : Str -> Option Value} {base : Heap} {f : Addr} {fd : FuncData} {dV : Value}
theorem sc_reached_rooms : FnScope ["machine", "start", "rows", "reached", "level", "fresh", "here", "there"] ["machine", "start"] (defScope s_reached_rooms) := ⟨rfl, rfl, rfl, by decide +kernel, rfl, by decide +kernel, by decide +kernel⟩
theorem ok_reached (F : FunD K "reached_rooms" "reached_rooms" s_reached_rooms dV f fd) (z_list : mg "list" = none) : FnOk P w K mg base CX0 1 f fd ["machine", "start"] (spReached K) := by
  refine F.ok sc_reached_rooms (fun vs H Q E h => ?_) (fun cdv A outer s H vs Q E hr h => ?_)
  · obtain ⟨m, r, g, st, many, wide, rows, signs, rfl, _⟩ := h
    rfl
  obtain ⟨m, r, g, st, many, wide, rows, signs, rfl, ⟨st0, st1⟩, M, R, ⟨n0, n1⟩, k⟩ := h
  obtain ⟨ras, hr', hA⟩ := M.rows
  have hu := hu_of hr
  refine ⟨_, (pss_cons (ps_set (i := 2) sc_reached_rooms.nd rfl (Or.inl rfl) (pe_ix ix_tup (pv 0) pe_int (fun _ _ => rfl)))
      (pss_cons (ps_set (i := 3) sc_reached_rooms.nd rfl (Or.inl rfl) (pe_disp (pps_cons (pv 1) pe_bl pps_nil) rfl rfl (by intro z; cases z) (by decide)))
      (pss_cons (ps_set (i := 4) sc_reached_rooms.nd rfl (Or.inl rfl) (pe_lst (pa_cons (pv 1) pa_nil)))
      (pss_cons (ps_while PassesOwn.never (pt_truth (pv 4) (fun _ => rfl)) (pss_cons (ps_set (i := 5) sc_reached_rooms.nd rfl (Or.inl rfl) (pe_lst pa_nil))
      (pss_cons (ps_for PassesOwn.never rfl (pi_list (pv 4)) (pg_name (i := 6) sc_reached_rooms.nd rfl (Or.inl rfl)) (pss_one (ps_for PassesOwn.never rfl (pi_tup (pe_ix ix_tup (pv 2) (pv 6) (fun _ _ => rfl))) (pg_name (i := 7) sc_reached_rooms.nd rfl (Or.inl rfl)) (pss_one (ps_if (pt_cmp (pc_dnotin hu (pv 7) (pv 3)) (by with_unfolding_all rfl)) (pss_cons (ps_dput hu (pv 3) (pv 7) pe_bl rfl)
      (pss_one (ps_expr (pe_bm PySem.F.plainAttrs_list PySem.F.slot_list_append PySem.F.type_list_append mt_append (pv 5) (pa_cons (pv 7) pa_nil))))) pss_nil)))))
      (pss_one (ps_set (i := 4) sc_reached_rooms.nd rfl (Or.inl rfl) (pv 5))))))
      (pss_one (ps_ret (pe_callTy (call_listD rfl) (by rfl) z_list bt_list (pa_cons (pv 3) pa_nil)))))))), ?_⟩
  refine ⟨_, rfl, m, _, _, _, rfl, rfl, qT_ M.tup, rfl, ?_⟩
  refine fun D hD => ⟨_, rfl, upd_same, [(Sum.inl st, V.bl true)], rfl, by show 1 <= 15; decide, ?_⟩
  rw [upd_upd]
  have sD := same_new hD (HO.dK (kvT [st]))
  refine ⟨_, rfl, (by show 1 <= sizeLine; decide), fun W hW => ?_⟩
  have hWD : W ≠ D := fun z => by rw [z, upd_same] at hW; cases hW
  have hW0 : H W = none := by rw [upd_ne hWD] at hW; exact hW
  try dsimp only [gName]
  refine cut_seq (t := tWhile _ _) (fun σ' H' => ∃ (ks : LI) (W : Addr) (v0 v1 v2 : OV), σ' = [some (.ref m), some (.int st), some (.ref r), some (.ref D), some (.ref W), v0, v1, v2] /\ Same H H' /\ H' D = some (.dK (kvT ks)) /\ Found many wide rows st ks ks) ?_ (fun nxt => ?_)
  rotate_left
  · refine while_W (fun mm σ' H' => ∃ (dn lv : LI) (W : Addr) (v0 v1 v2 : OV), mm = 2 * (many - (dn ++ lv).length) + lv.length /\ σ' = [some (.ref m), some (.int st), some (.ref r), some (.ref D), some (.ref W), v0, v1, v2] /\ Same H H' /\ H' D = some (.dK (kvT (dn ++ lv))) /\ W ≠ D /\ H' W = some (.lst (lv.map V.int)) /\ Found many wide rows st dn (dn ++ lv))
      ⟨_, [], [st], W, none, none, none, rfl, rfl, sD.trans (same_new hW _), by rw [upd_ne (Ne.symm hWD), upd_same]; rfl, hWD, upd_same, ?_⟩ ?_
    · refine ⟨rfl, by simp, fun q hq => by rw [List.nil_append] at hq; rw [List.mem_singleton.mp hq]; omega, fun q hq => by rw [List.nil_append] at hq; rw [List.mem_singleton.mp hq]; exact Reach.zero⟩
    rintro mm σ' H1 ⟨dn, lv, W, v0, v1, v2, rfl, rfl, s1, hD1, hWD, hW1, FD⟩
    by_cases en : lv = []
    · subst en
      refine ⟨_, rfl, _, .inl ⟨_, qL_ hW1, rfl⟩, iteF ?_⟩
      rw [List.append_nil] at hD1 FD
      exact nxt _ _ ⟨dn, W, v0, v1, v2, rfl, s1, hD1, FD⟩
    refine ⟨_, rfl, _, .inl ⟨_, qL_ hW1, rfl⟩, ?_⟩
    have ne : (!(lv.map V.int).isEmpty) = true := by
      cases lv with
      | nil => exact absurd rfl en
      | cons x r => rfl
    rw [ne]
    have kl := few_below many FD.nd FD.inr
    have lv1 : 1 <= lv.length := by
      cases lv with
      | nil => exact absurd rfl en
      | cons x r => exact Nat.succ_le_succ (Nat.zero_le _)
    rw [List.length_append] at kl
    refine iteT ⟨fun σ' H' => ∃ m', m' < 2 * (many - (dn ++ lv).length) + lv.length /\ ∃ (dn lv : LI) (W : Addr) (v0 v1 v2 : OV), m' = 2 * (many - (dn ++ lv).length) + lv.length /\ σ' = [some (.ref m), some (.int st), some (.ref r), some (.ref D), some (.ref W), v0, v1, v2] /\ Same H H' /\ H' D = some (.dK (kvT (dn ++ lv))) /\ W ≠ D /\ H' W = some (.lst (lv.map V.int)) /\ Found many wide rows st dn (dn ++ lv), fun σ' H' h => h, ?_⟩
    refine ⟨(by show 0 <= sizeLine; decide), fun N hN => ?_⟩
    have hND : N ≠ D := fun z => by rw [z, hD1] at hN; cases hN
    have hNW : N ≠ W := fun z => by rw [z, hW1] at hN; cases hN
    have hN0 : H N = none := s1.free hN
    try dsimp only [gName]
    refine ⟨_, rfl, W, rfl, ⟨_, qL_ (by rw [upd_ne (Ne.symm hNW)]; exact hW1)⟩, for_list (K := K) (xs := lv.map V.int) (fun i σ' H' => ∃ (fr : LI) (v1 v2 : OV),
        σ' = [some (.ref m), some (.int st), some (.ref r), some (.ref D), some (.ref W), some (.ref N), v1, v2] /\ Same H H' /\ H' D = some (.dK (kvT (dn ++ lv ++ fr))) /\ H' W = some (.lst (lv.map V.int)) /\ H' N = some (.lst (fr.map V.int)) /\ Found many wide rows st (dn ++ lv.take i) (dn ++ lv ++ fr))
      ⟨[], v1, v2, rfl, s1.trans (same_new hN _), by rw [upd_ne (Ne.symm hND), List.append_nil]; exact hD1, by rw [upd_ne (Ne.symm hNW)]; exact hW1, upd_same, by rw [List.take_zero, List.append_nil, List.append_nil]; exact FD⟩ (fun i σ' H' _ ⟨_, _, _, _, _, _, e, _⟩ => qL_ e) ?_ ?_⟩
    · rintro i x σ' H2 hi ⟨fr, v1, v2, rfl, s2, hD2, hW2, hN2, F2⟩
      obtain ⟨here, rfl, hz⟩ := ints_at hi
      have hil : i < lv.length := (gi_ hz).1
      have hk : here ∈ dn ++ lv ++ fr := List.mem_append_left _ (List.mem_append_right _ (mq_ hz))
      have hh := F2.inr here hk
      have hre := F2.re here hk
      have l1 : here.toNat < rows.length := by rw [R.len]; omega
      obtain ⟨ra, e1, e2⟩ := hA.get l1
      have lr : rows[here.toNat].length = wide := R.row _ (List.getElem_mem l1)
      refine ⟨_, rfl, _, rfl, r, _, _, _, rfl, rfl, qT_ (s2 _ _ hr'), atI_refs hh.1 e1, ra, rfl, ⟨_, qT_ (s2 _ _ e2)⟩, for_tup (K := K) (xs := rows[here.toNat].map V.int) (fun j σ' H' => ∃ (fr : LI) (v : OV),
          σ' = [some (.ref m), some (.int st), some (.ref r), some (.ref D), some (.ref W), some (.ref N), some (.int here), v] /\ Same H H' /\ H' D = some (.dK (kvT (dn ++ lv ++ fr))) /\ H' W = some (.lst (lv.map V.int)) /\ H' N = some (.lst (fr.map V.int)) /\ Part many wide rows st (dn ++ lv.take i) (rows[here.toNat].take j) (dn ++ lv ++ fr))
        ⟨fr, v2, rfl, s2, hD2, hW2, hN2, ⟨F2.eq, F2.nd, F2.inr, F2.re⟩⟩ (fun i σ' H' _ ⟨_, _, _, e, _⟩ => qT_ (e _ _ e2)) ?_ ?_⟩
      · rintro j x σ' H3 hj ⟨fr, v, rfl, s3, hD3, hW3, hN3, F3⟩
        obtain ⟨z, rfl, hz⟩ := ints_at hj
        have hjl : j < rows[here.toNat].length := (gi_ hz).1
        have zin := R.val _ (List.getElem_mem l1) z (mq_ hz)
        have kl3 := few_below many F3.nd F3.inr
        rw [List.length_append, List.length_append] at kl3
        have stp : stepI rows here (j : Int) = z := by
          unfold stepI
          rw [getD_at l1, Int.toNat_natCast, getD_at hjl]
          exact (gi_ hz).2
        have tk : rows[here.toNat].take (j + 1) = rows[here.toNat].take j ++ [z] := by rw [List.take_add_one, hz]; rfl
        refine ⟨_, rfl, _, rfl, D, _, rfl, DGet.k (k := Sum.inl z) hD3, _, rfl, ?_⟩
        rw [kvT_val]
        refine iteDn (fun c => ?_) (fun c => ?_)
        · refine ⟨_, rfl, _, rfl, D, _, rfl, DPut.k (k := Sum.inl z) hD3 (small1000 (by unfold kvT; rw [lm_, List.length_append, List.length_append]; omega)), ?_⟩
          rw [kvT_put c]
          have hN4 : (upd H3 D (HO.dK (kvT (dn ++ lv ++ fr ++ [z])))) N = some (.lst (fr.map V.int)) := by rw [upd_ne hND]; exact hN3
          refine ⟨_, rfl, .inl ⟨rfl, _, qL_ hN4⟩, _, rfl, N, _, _, rfl, rfl, hN4, Nat.lt_of_le_of_lt (show _ <= 2000 by rw [lm_]; omega) (by decide), ?_⟩
          have F4 := F3.put c zin.1 zin.2 (by rw [<- stp]; exact hre.step (by omega) (by omega))
          refine ⟨fr ++ [z], _, rfl, same_upd (same_upd s3 hD) hN0, ?_, ?_, ?_, ?_⟩
          · rw [upd_ne (Ne.symm hND), upd_same, List.append_assoc]
          · rw [upd_ne (Ne.symm hNW), upd_ne hWD]; exact hW3
          · rw [upd_same, List.map_append]; rfl
          · rw [tk, <- List.append_assoc]; exact F4
        · refine ⟨fr, _, rfl, s3, hD3, hW3, hN3, ?_⟩
          rw [tk]
          exact F3.old c
      · rintro σ' H3 ⟨fr, v, rfl, s3, hD3, hW3, hN3, F3⟩
        rw [lm_, List.take_length] at F3
        refine ⟨fr, _, _, rfl, s3, hD3, hW3, hN3, ⟨?_, F3.nd, F3.inr, F3.re⟩⟩
        have e9 : dn ++ lv.take (i + 1) = (dn ++ lv.take i) ++ [here] := by rw [List.take_add_one, hz, List.append_assoc]; rfl
        rw [F3.eq, e9, List.foldl_append (l := dn ++ lv.take i)]
        show _ = growI rows _ here
        unfold growI
        rw [getD_at l1]
    · rintro σ' H3 ⟨fr, v1, v2, rfl, s3, hD3, hW3, hN3, F3⟩
      rw [lm_, List.take_length] at F3
      have kl3 := few_below many F3.nd F3.inr
      rw [List.length_append, List.length_append] at kl3
      refine ⟨_, rfl, _, ?_, dn ++ lv, fr, N, _, _, _, rfl, rfl, s3, hD3, hND, hN3, F3⟩
      rw [List.length_append, List.length_append]
      omega
  rintro σ' H1 ⟨ks, W, v0, v1, v2, rfl, s1, hD1, FD⟩
  refine ⟨_, rfl, D, _, rfl, hD1, fun l hl => ?_⟩
  have e : (kvT ks).map (fun q => kV q.1) = ks.map V.int := by
    unfold kvT
    rw [List.map_map]
    rfl
  rw [e]
  have z0 : st ∈ ks := by rw [FD.eq]; exact grows_sub rows ks List.mem_cons_self
  refine k l _ ks (s1.trans (same_new hl _)) upd_same ⟨FD.eq, FD.nd, FD.inr, fun q => ⟨FD.re q, fun h => ?_⟩⟩
  refine Reach.of (S := fun q => q ∈ ks) z0 (fun p hp f f0 f1 => ?_) h
  have hp' := FD.inr p hp
  have l1 : p.toNat < rows.length := by rw [R.len]; omega
  have lr : rows[p.toNat].length = wide := R.row _ (List.getElem_mem l1)
  have hf : f.toNat < rows[p.toNat].length := by omega
  rw [FD.eq]
  refine grows_mem rows ks hp ?_
  unfold stepI
  rw [getD_at l1, getD_at hf]
  exact List.getElem_mem hf
end
theorem push_pre (s : LI) (x : Int) : s <+: pushN s x := by
  unfold pushN
  split
  · exact List.prefix_refl _
  · exact List.prefix_append _ _
theorem pushes_pre : ∀ (xs s : LI), s <+: xs.foldl pushN s
  | [], s => List.prefix_refl _
  | x :: xs, s => (push_pre s x).trans (pushes_pre xs _)
theorem grows_pre (rows : LL) : ∀ (qs s : LI), s <+: qs.foldl (growI rows) s
  | [], s => List.prefix_refl _
  | q :: qs, s => (pushes_pre _ s).trans (grows_pre rows qs _)
theorem Bfs.there {many wide : Nat} {rows : LL} {st : Int} {qs : LI} (B : Bfs many wide rows st qs) (R : RowsOk many wide rows) {i : Nat} {q : Int} (h : qs[i]? = some q) : ((qs.take i).foldl (growI rows) [st])[i]? = some q := by
  obtain ⟨ks, ek⟩ : ∃ ks, (qs.take i).foldl (growI rows) [st] = ks := ⟨_, rfl⟩
  rw [ek]
  have pre : ks <+: qs := by
    have e : qs = (qs.drop i).foldl (growI rows) ks := by
      rw [<- ek, <- List.foldl_append, List.take_append_drop]
      exact B.eq
    rw [e]
    exact grows_pre rows _ _
  have tk : ks = qs.take ks.length := List.prefix_iff_eq_take.mp pre
  by_cases c : i < ks.length
  · rw [tk, List.getElem?_take]
    rw [if_pos c]
    exact h
  exfalso
  have sub : ∀ p ∈ ks, p ∈ qs.take i := fun p hp => by
    rw [tk] at hp
    have : qs.take ks.length = (qs.take i).take ks.length := by rw [List.take_take, Nat.min_eq_left (by omega)]
    rw [this] at hp
    exact List.mem_of_mem_take hp
  have all : ∀ p, Reach wide rows st p -> p ∈ ks := fun p hp => by
    refine Reach.of (S := fun p => p ∈ ks) (by rw [<- ek]; exact grows_sub rows _ List.mem_cons_self) (fun p hp f f0 f1 => ?_) hp
    have hp' := B.inr p (List.mem_of_mem_take (sub p hp))
    have l1 : p.toNat < rows.length := by rw [R.len]; omega
    have lr : rows[p.toNat].length = wide := R.row _ (List.getElem_mem l1)
    have hf : f.toNat < rows[p.toNat].length := by omega
    rw [<- ek]
    refine grows_mem rows _ (sub p hp) ?_
    unfold stepI
    rw [getD_at l1, getD_at hf]
    exact List.getElem_mem hf
  have hq := sub q (all q ((B.re q).mp (mq_ h)))
  obtain ⟨j, hj, e⟩ := List.getElem_of_mem hq
  rw [List.getElem_take] at e
  have hi : i < qs.length := (gi_ h).1
  have hji : j < i := by rw [List.length_take] at hj; omega
  have e2 : qs[i] = q := (gi_ h).2
  have := (List.getElem_inj B.nd).mp (e.trans e2.symm)
  omega
def kvL (es : List (Int × Addr)) : List (Key × V) := es.map fun e => (Sum.inl e.1, V.ref e.2)
theorem kvL_none : ∀ {es : List (Int × Addr)} {q : Int}, q ∉ es.map Prod.fst -> valV (kvL es) (Sum.inl q) = none
  | [], _, _ => rfl
  | e :: es, q, h => by
    rw [show kvL (e :: es) = (Sum.inl e.1, V.ref e.2) :: kvL es from rfl, valV_neg (fun z => h (by rw [<- Sum.inl.inj z]; exact List.mem_cons_self))]
    exact kvL_none fun z => h (List.mem_cons_of_mem _ z)
theorem kvL_at : ∀ {es : List (Int × Addr)} {q : Int} {a : Addr} {j : Nat}, (es.map Prod.fst).Nodup -> es[j]? = some (q, a) -> valV (kvL es) (Sum.inl q) = some (V.ref a)
  | [], _, _, _, _, h => by cases h
  | e :: es, q, a, 0, _, h => by
    cases h
    exact valV_pos rfl
  | e :: es, q, a, j + 1, nd, h => by
    have nd' := List.nodup_cons.mp (show (e.1 :: es.map Prod.fst).Nodup from nd)
    have h' : es[j]? = some (q, a) := h
    rw [show kvL (e :: es) = (Sum.inl e.1, V.ref e.2) :: kvL es from rfl, valV_neg (fun z => nd'.1 (by
      have : e.1 = q := Sum.inl.inj z
      rw [this]
      exact List.mem_map.mpr ⟨(q, a), mq_ h', rfl⟩))]
    exact kvL_at nd'.2 h'
theorem kvL_put {es : List (Int × Addr)} {q : Int} {a : Addr} (h : q ∉ es.map Prod.fst) : putK (kvL es) (Sum.inl q) (V.ref a) = kvL (es ++ [(q, a)]) := by
  unfold putK
  rw [if_neg (by
    intro z
    obtain ⟨p, hp, e⟩ := List.any_eq_true.mp z
    obtain ⟨k, hk, rfl⟩ := List.mem_map.mp hp
    have := Sum.inl.inj (of_decide_eq_true e)
    exact h (this ▸ List.mem_map.mpr ⟨k, hk, rfl⟩))]
  unfold kvL
  rw [List.map_append]
  rfl
def RowsIn (wide : Nat) (rows : LL) (st : Int) (H : Hp) (es : List (Int × Addr)) : Prop := ∀ (j : Nat) (e : Int × Addr), es[j]? = some e -> ∃ ns : LI, H e.2 = some (.tup (ns.map V.int)) /\ ns.length <= j /\ (∀ f ∈ ns, 0 <= f /\ f < (wide : Int)) /\ walkI rows ns st = e.1
theorem RowsIn.same {wide : Nat} {rows : LL} {st : Int} {H H' : Hp} {es : List (Int × Addr)} (h : RowsIn wide rows st H es) (s : ∀ (b : Addr) (xs : List V), H b = some (.tup xs) -> H' b = some (.tup xs)) : RowsIn wide rows st H' es := fun j e he => by
  obtain ⟨ns, h1, h2⟩ := h j e he
  exact ⟨ns, s _ _ h1, h2⟩
theorem snoc_cases {α : Type} {xs : List α} {y z : α} {j : Nat} (h : (xs ++ [y])[j]? = some z) : xs[j]? = some z \/ (j = xs.length /\ z = y) := by
  rcases Nat.lt_or_ge j xs.length with q | q
  · rw [List.getElem?_append_left q] at h
    exact .inl h
  · rw [List.getElem?_append_right q] at h
    rcases Nat.lt_or_ge (j - xs.length) 1 with p | p
    · have e : j = xs.length := by omega
      subst e
      rw [Nat.sub_self] at h
      exact .inr ⟨rfl, (Option.some.inj h).symm⟩
    · rw [List.getElem?_eq_none (by simpa using p)] at h
      cases h
def spFirstC (K : PySem.W.Frag) : Sp := fun vs H Q _ => ∃ (m r g : Addr) (st : Int) (many wide : Nat) (rows : LL) (signs : LI), vs = [.ref m, .int st] /\ (0 <= st /\ st < (many : Int)) /\ MachAt H m r g wide rows signs /\ RowsOk many wide rows /\ (1 <= many /\ many <= 900) /\
  ∀ (D : Addr) (H' : Hp) (es : List (Int × Addr)), Same H H' -> H' D = some (.dK (kvL es)) -> H D = none -> RowsIn wide rows st H' es -> Bfs many wide rows st (es.map Prod.fst) -> Q (.ref D) H'
section
variable {P : Program} {w : World} {K : PySem.W.Frag} {mg : Str -> Option Value} {base : Heap} {f : Addr} {fd : FuncData} {dV : Value}
theorem sc_first_rows : FnScope ["machine", "start", "rows", "found", "here", "figure", "there"] ["machine", "start"] (defScope s_first_rows) := ⟨rfl, rfl, rfl, by decide +kernel, rfl, by decide +kernel, by decide +kernel⟩
theorem ok_firstC (F : FunD K "first_rows" "first_rows" s_first_rows dV f fd) (G_reached_rooms : DefOk P w K mg base "reached_rooms" 1 ["machine", "start"] [] (spReached K)) (z_enumerate : mg "enumerate" = none) : FnOk P w K mg base CX0 2 f fd ["machine", "start"] (spFirstC K) := by
  refine F.ok sc_first_rows (fun vs H Q E h => ?_) (fun cdv A outer s H vs Q E hr h => ?_)
  · obtain ⟨m, r, g, st, many, wide, rows, signs, rfl, _⟩ := h
    rfl
  obtain ⟨m, r, g, st, many, wide, rows, signs, rfl, ⟨st0, st1⟩, M, R, ⟨n0, n1⟩, k⟩ := h
  obtain ⟨ras, hr', hA⟩ := M.rows
  have hu := hu_of hr
  refine body_w (ws_cons (PSW.mk (ps_set (i := 2) sc_first_rows.nd rfl (Or.inl rfl) (pe_ix ix_tup (pv 0) pe_int (fun _ _ => rfl))))
      (ws_cons (PSW.mk (ps_set (i := 3) sc_first_rows.nd rfl (Or.inl rfl) (pe_disp (pps_cons (pv 1) (pe_tup pa_nil) pps_nil) rfl rfl (by intro z; cases z) (by decide))))
      (ws_cons (PSW.mk (ps_for PassesOwn.never rfl (pi_list (pe_cd G_reached_rooms hr (pa_cons (pv 0) (pa_cons (pv 1) pa_nil)))) (pg_name (i := 4) sc_first_rows.nd rfl (Or.inl rfl)) (pss_one (ps_for PassesOwn.never rfl (pi_enumT rfl z_enumerate (pa_cons (pe_ix ix_tup (pv 2) (pv 4) (fun _ _ => rfl)) pa_nil)) (pg_tup rfl (pgs_cons (pg_name (i := 5) sc_first_rows.nd rfl (Or.inl rfl)) (pgs_cons (pg_name (i := 6) sc_first_rows.nd rfl (Or.inl rfl)) pgs_nil))) (pss_one (ps_if (pt_cmp (pc_dnotin hu (pv 6) (pv 3)) (by with_unfolding_all rfl)) (pss_one (ps_dput hu (pv 3) (pv 6) (pe_op op_catA (pe_dget hu (pv 3) (pv 4) (fun _ _ => rfl)) (pe_tup (pa_cons (pv 5) pa_nil))) rfl)) pss_nil))))))
      (ws_one (PSW.mk (ps_ret (pv 3))))))) ?_
  refine ⟨_, rfl, m, _, _, _, rfl, rfl, qT_ M.tup, rfl, ?_⟩
  refine fun D hD => ⟨_, rfl, (by show 0 <= sizeLine; decide), fun t0 ht0 => ?_⟩
  have ntD : t0 ≠ D := fun z => by rw [z, upd_same] at ht0; cases ht0
  have ht00 : H t0 = none := by rw [upd_ne ntD] at ht0; exact ht0
  refine ⟨by rw [upd_ne (Ne.symm ntD), upd_same], [(Sum.inl st, V.ref t0)], rfl, by show 1 <= 15; decide, ?_⟩
  obtain ⟨H1, eH1⟩ : ∃ H1, upd (upd (upd H D (HO.dK [])) t0 (HO.tup [])) D (HO.dK (mergeK [] [(Sum.inl st, V.ref t0)])) = H1 := ⟨_, rfl⟩
  have s1 : Same H H1 := by
    rw [<- eH1]
    exact same_upd (same_upd (same_upd (Same.refl _) hD) ht00) hD
  have hD1 : H1 D = some (.dK (kvL [(st, t0)])) := by rw [<- eH1, upd_same]; rfl
  have ht1 : H1 t0 = some (.tup []) := by rw [<- eH1, upd_ne ntD, upd_same]
  rw [eH1]
  have tp : ∀ {H' : Hp}, Same H H' -> ∀ b xs, H b = some (.tup xs) -> H' b = some (.tup xs) := fun s b xs h => s _ _ h
  try dsimp only [gName]
  refine cut_G (t := tFor _ _ _) (fun σ' H' => ∃ (es : List (Int × Addr)) (v3 v4 v5 : OV), σ' = [some (.ref m), some (.int st), some (.ref r), some (.ref D), v3, v4, v5] /\ Same H H' /\ H' D = some (.dK (kvL es)) /\ RowsIn wide rows st H' es /\ Bfs many wide rows st (es.map Prod.fst)) ?_ (fun D' nxt => ?_)
  rotate_left
  · refine ⟨_, rfl, _, rfl, m, r, g, st, many, wide, rows, signs, rfl, ⟨st0, st1⟩, M.same (tp s1), R, ⟨n0, by omega⟩, fun l H2 qs s2 hl B => ?_⟩
    have hD2 := s2 _ _ hD1
    refine ⟨l, rfl, ⟨_, qL_ hl⟩, for_list (K := K) (xs := qs.map V.int) (fun i σ' H' => ∃ (es : List (Int × Addr)) (v3 v4 v5 : OV), σ' = [some (.ref m), some (.int st), some (.ref r), some (.ref D), v3, v4, v5] /\ Same H H' /\ H' l = some (.lst (qs.map V.int)) /\ H' D = some (.dK (kvL es)) /\ RowsIn wide rows st H' es /\ es.map Prod.fst = (qs.take i).foldl (growI rows) [st])
      ⟨[(st, t0)], none, none, none, rfl, s1.trans s2, hl, hD2, fun j e he => ?_, rfl⟩ (fun i σ' H' _ ⟨_, _, _, _, _, _, e, _⟩ => qL_ e) ?_ ?_⟩
    · cases j with
      | zero => cases he; exact ⟨[], s2 _ _ ht1, Nat.le_refl _, (fun f h => by cases h), rfl⟩
      | succ j => cases he
    · rintro i x σ' H3 hi ⟨es, v3, v4, v5, rfl, s3, hl3, hD3, L3, eG⟩
      obtain ⟨here, rfl, hz⟩ := ints_at hi
      have hh := B.inr here (mq_ hz)
      have hre := (B.re here).mp (mq_ hz)
      have l1 : here.toNat < rows.length := by rw [R.len]; omega
      obtain ⟨ra, e1, e2⟩ := hA.get l1
      have lr : rows[here.toNat].length = wide := R.row _ (List.getElem_mem l1)
      have at3 : (es.map Prod.fst)[i]? = some here := by rw [eG]; exact B.there R hz
      have pre : (qs.take i).foldl (growI rows) [st] <+: qs := by
        have e := grows_pre rows (qs.drop i) ((qs.take i).foldl (growI rows) [st])
        rw [<- List.foldl_append, List.take_append_drop, <- B.eq] at e
        exact e
      have PT : Part many wide rows st (qs.take i) [] (es.map Prod.fst) := by
        refine ⟨eG, ?_, fun q hq => ?_, fun q hq => ?_⟩
        · rw [eG]; exact B.nd.sublist pre.sublist
        · rw [eG] at hq; exact B.inr q (pre.subset hq)
        · rw [eG] at hq; exact (B.re q).mp (pre.subset hq)
      refine ⟨_, rfl, _, rfl, r, _, _, _, rfl, rfl, qT_ (s3 _ _ hr'), atI_refs hh.1 e1, ra, rfl, ⟨_, qT_ (s3 _ _ e2)⟩, for_enumT (K := K) (xs := rows[here.toNat].map V.int) (fun j σ' H' => ∃ (es : List (Int × Addr)) (v4 v5 : OV),
          σ' = [some (.ref m), some (.int st), some (.ref r), some (.ref D), some (.int here), v4, v5] /\ Same H H' /\ H' l = some (.lst (qs.map V.int)) /\ H' D = some (.dK (kvL es)) /\ RowsIn wide rows st H' es /\ (es.map Prod.fst)[i]? = some here /\
          Part many wide rows st (qs.take i) (rows[here.toNat].take j) (es.map Prod.fst))
        ⟨es, v4, v5, rfl, s3, hl3, hD3, L3, at3, PT⟩ (fun i σ' H' _ ⟨_, _, _, _, e, _⟩ => qT_ (e _ _ e2)) ?_ ?_⟩
      · rintro j x σ' H4 T hj ⟨es, v4, v5, rfl, s4, hl4, hD4, L4, at4, P4⟩ hT
        obtain ⟨z, rfl, hz'⟩ := ints_at hj
        have hjl : j < rows[here.toNat].length := (gi_ hz').1
        have zin := R.val _ (List.getElem_mem l1) z (mq_ hz')
        have kl := few_below many P4.nd P4.inr
        rw [lm_] at kl
        have stp : stepI rows here (j : Int) = z := by
          unfold stepI
          rw [getD_at l1, Int.toNat_natCast, getD_at hjl]
          exact (gi_ hz').2
        have tk : rows[here.toNat].take (j + 1) = rows[here.toNat].take j ++ [z] := by rw [List.take_add_one, hz']; rfl
        have hT0 : H T = none := s4.free hT
        obtain ⟨H5, eH5⟩ : ∃ H5, upd H4 T (HO.tup [V.int j, V.int z]) = H5 := ⟨_, rfl⟩
        have s5 : Same H H5 := by rw [<- eH5]; exact same_upd s4 hT0
        have s45 : Same H4 H5 := by rw [<- eH5]; exact same_new hT _
        have hD5 := s45 _ _ hD4
        have hl5 := s45 _ _ hl4
        have L5 : RowsIn wide rows st H5 es := L4.same fun b xs h => s45 _ _ h
        have hT5 : H5 T = some (.tup [V.int j, V.int z]) := by rw [<- eH5, upd_same]
        rw [eH5]
        obtain ⟨ai, hai⟩ : ∃ ai, es[i]? = some (here, ai) := by
          rw [List.getElem?_map] at at4
          obtain ⟨e, h1, h2⟩ := Option.map_eq_some_iff.mp at4
          exact ⟨e.2, by rw [h1, <- h2]⟩
        have il : i < es.length := (gi_ hai).1
        refine ⟨T, _, rfl, qT_ hT5, rfl, _, _, rfl, _, _, rfl, rfl, ?_⟩
        refine ⟨_, rfl, _, rfl, D, _, rfl, DGet.k (k := Sum.inl z) hD5, _, rfl, ?_⟩
        by_cases c : z ∈ es.map Prod.fst
        · obtain ⟨a, ha⟩ : ∃ a, valV (kvL es) (Sum.inl z) = some (V.ref a) := by
            obtain ⟨jj, hjj, ejj⟩ := List.getElem_of_mem c
            have : es[jj]? = some (z, (es[jj]'(by simpa using hjj)).2) := by
              rw [List.getElem?_eq_getElem (by simpa using hjj), <- ejj, List.getElem_map]
            exact ⟨_, kvL_at P4.nd this⟩
          rw [ha]
          refine iteF ?_
          refine ⟨es, _, _, rfl, s5, hl5, hD5, L5, at4, ?_⟩
          rw [tk]
          exact P4.old c
        · rw [kvL_none c]
          refine iteT ?_
          have dg : DGet H5 D (V.int here) (some (V.ref ai)) := by
            have q := DGet.k (k := Sum.inl here) hD5
            rw [kvL_at P4.nd hai] at q
            exact q
          refine ⟨_, rfl, _, rfl, D, V.ref ai, rfl, dg, _, rfl, (by show 1 <= sizeLine; decide), fun t ht => ?_⟩
          have ht0 : H t = none := s5.free ht
          have s6 := same_new ht (HO.tup [V.int j])
          obtain ⟨ml, hai5, mlen, mfig, mwalk⟩ := L5 i _ hai
          have nlD : l ≠ D := ne_of hl5 hD5 (by intro z; cases z)
          have goal : ∀ (b : Addr) (H6 : Hp), Same H5 H6 -> Same H H6 -> H6 b = some (.tup ((ml ++ [(j : Int)]).map V.int)) -> ∃ (es' : List (Int × Addr)) (v4 v5 : OV),
              [some (V.ref m), some (V.int st), some (V.ref r), some (V.ref D), some (V.int here), some (V.int j), some (V.int z)] = [some (V.ref m), some (V.int st), some (V.ref r), some (V.ref D), some (V.int here), v4, v5] /\ Same H (upd H6 D (.dK (putK (kvL es) (Sum.inl z) (V.ref b)))) /\ (upd H6 D (.dK (putK (kvL es) (Sum.inl z) (V.ref b)))) l = some (.lst (qs.map V.int)) /\
              (upd H6 D (.dK (putK (kvL es) (Sum.inl z) (V.ref b)))) D = some (.dK (kvL es')) /\ RowsIn wide rows st (upd H6 D (.dK (putK (kvL es) (Sum.inl z) (V.ref b)))) es' /\ (es'.map Prod.fst)[i]? = some here /\ Part many wide rows st (qs.take i) (rows[here.toNat].take (j + 1)) (es'.map Prod.fst) := by
            intro b H6 s56 sH6 hb
            have hD6 := s56 _ _ hD5
            have tD : ∀ (c : Addr) (xs : List V), H6 c = some (.tup xs) -> (upd H6 D (.dK (putK (kvL es) (Sum.inl z) (V.ref b)))) c = some (.tup xs) := fun c xs h => by
              rw [upd_ne (ne_of h hD6 (by intro z; cases z))]; exact h
            have em : (es ++ [(z, b)]).map Prod.fst = es.map Prod.fst ++ [z] := by rw [List.map_append]; rfl
            refine ⟨es ++ [(z, b)], _, _, rfl, same_upd sH6 hD, by rw [upd_ne nlD]; exact s56 _ _ hl5, by rw [upd_same, kvL_put c], ?_, ?_, ?_⟩
            · intro jj e he
              rcases snoc_cases he with he | ⟨rfl, rfl⟩
              · obtain ⟨ns, q1, q2⟩ := L5 jj e he
                exact ⟨ns, tD _ _ (s56 _ _ q1), q2⟩
              · refine ⟨ml ++ [(j : Int)], tD _ _ hb, by rw [List.length_append, List.length_singleton]; omega, fun f hf => ?_, ?_⟩
                · rcases ma_.mp hf with y | y
                  · exact mfig f y
                  · rw [List.mem_singleton.mp y]; omega
                · rw [walkI_append, mwalk]
                  exact stp
            · rw [em, List.getElem?_append_left (by rw [lm_]; exact il)]; exact at4
            · rw [em, tk]; exact P4.put c zin.1 zin.2 (by rw [<- stp]; exact hre.step (by omega) (by omega))
          have hl6 : es.length < sizeLine := small1000 (by omega)
          refine ⟨ai, t, _, _, rfl, rfl, qT_ (s6 _ _ hai5), qT_ upd_same, Nat.le_of_lt (Nat.lt_of_le_of_lt (show _ <= 1001 by rw [lm_]; simp only [List.length_singleton]; omega) (by decide)), fun en => ?_, (fun _ z => by cases z), fun _ _ p hp => ?_⟩
          · have en' : ml = [] := by simpa using en
            refine ⟨_, rfl, _, rfl, D, _, rfl, DPut.k (k := Sum.inl z) (s6 _ _ hD5) (by unfold kvL; rw [lm_]; exact hl6), goal t _ s6 (s5.trans s6) (by rw [upd_same, en']; rfl)⟩
          · have s7 := s6.trans (same_new hp (HO.tup (ml.map V.int ++ [V.int j])))
            refine ⟨_, rfl, _, rfl, D, _, rfl, DPut.k (k := Sum.inl z) (s7 _ _ hD5) (by unfold kvL; rw [lm_]; exact hl6), goal p _ s7 (s5.trans s7) (by rw [upd_same, List.map_append]; rfl)⟩
      · rintro σ' H4 ⟨es, v4, v5, rfl, s4, hl4, hD4, L4, at4, P4⟩
        rw [lm_, List.take_length] at P4
        refine ⟨es, _, _, _, rfl, s4, hl4, hD4, L4, ?_⟩
        rw [P4.eq, List.take_add_one, hz, List.foldl_append]
        show _ = growI rows _ here
        unfold growI
        rw [getD_at l1]
    · rintro σ' H3 ⟨es, v3, v4, v5, rfl, s3, hl3, hD3, L3, eG⟩
      rw [lm_, List.take_length, <- B.eq] at eG
      exact nxt _ _ ⟨es, _, _, _, rfl, s3, hD3, L3, by rw [eG]; exact B⟩
  rintro σ' H3 ⟨es, v3, v4, v5, rfl, s3, hD3, L3, B⟩
  exact ⟨_, rfl, k D H3 es s3 hD3 hD L3 B⟩
end
end My
set_option Elab.async false
set_option linter.all false
set_option maxRecDepth 100000
set_option maxHeartbeats 8000000
namespace My
open PySem L2
theorem PairsV.same {H H' : Hp} {ts : List Addr} {kvs : List (Key × V)} (h : PairsV H ts kvs) (s : ∀ b xs, H b = some (.tup xs) -> H' b = some (.tup xs)) : PairsV H' ts kvs := Paired.mapP h fun _ _ q => s _ _ q
theorem merge_nd : ∀ {gs ks : LI}, (ks ++ gs).Nodup -> mergeK (kvT ks) (kvT gs) = kvT (ks ++ gs)
  | [], ks, _ => by rw [List.append_nil]; rfl
  | g :: gs, ks, nd => by
    have hg : g ∉ ks := fun z => (List.nodup_append.mp nd).2.2 g z g List.mem_cons_self rfl
    show mergeK (putK (kvT ks) (Sum.inl g) (V.bl true)) (kvT gs) = _
    rw [kvT_put hg, merge_nd (by rw [List.append_assoc]; exact nd), List.append_assoc]
    rfl
theorem merge_kvT {gs : LI} (nd : gs.Nodup) : mergeK [] (kvT gs) = kvT gs := merge_nd (ks := []) nd
structure BackOk (H0 H : Hp) (B : Addr) (es : List (Int × Addr)) (P : Int -> LI -> Prop) : Prop where
  at_ : H B = some (.dK (kvL es))
  nd : (es.map Prod.fst).Nodup
  nd2 : (es.map Prod.snd).Nodup
  fresh : ∀ e ∈ es, H0 e.2 = none
  lst : ∀ e ∈ es, ∃ ls : LI, H e.2 = some (.lst (ls.map V.int)) /\ P e.1 ls
  non : ∀ q, q ∉ es.map Prod.fst -> P q []
theorem BackOk.get {H0 H : Hp} {B : Addr} {es : List (Int × Addr)} {P : Int -> LI -> Prop} (b : BackOk H0 H B es P) {q : Int} {v : V} (h : valV (kvL es) (Sum.inl q) = some v) : ∃ la ls, v = .ref la /\ (q, la) ∈ es /\ H la = some (.lst (ls.map V.int)) /\ P q ls := by
  have hm : q ∈ es.map Prod.fst := Classical.byContradiction fun z => by rw [kvL_none z] at h; cases h
  obtain ⟨e, he, rfl⟩ := List.mem_map.mp hm
  obtain ⟨j, hj⟩ := List.mem_iff_getElem?.mp he
  have := kvL_at b.nd (q := e.1) (a := e.2) hj
  rw [this] at h
  obtain ⟨ls, h1, h2⟩ := b.lst e he
  exact ⟨e.2, ls, (Option.some.inj h).symm, he, h1, h2⟩
theorem fst_inj {es : List (Int × Addr)} (nd : (es.map Prod.fst).Nodup) {e e' : Int × Addr} (h : e ∈ es) (h' : e' ∈ es) (q : e.1 = e'.1) : e = e' := by
  obtain ⟨i, hi, ei⟩ := List.getElem_of_mem h
  obtain ⟨j, hj, ej⟩ := List.getElem_of_mem h'
  have : (es.map Prod.fst)[i]'(by simpa using hi) = (es.map Prod.fst)[j]'(by simpa using hj) := by simp [ei, ej, q]
  have := (List.getElem_inj nd).mp this
  subst this
  rw [<- ei, <- ej]
theorem snd_inj {es : List (Int × Addr)} (nd : (es.map Prod.snd).Nodup) {e e' : Int × Addr} (h : e ∈ es) (h' : e' ∈ es) (q : e.2 = e'.2) : e = e' := by
  obtain ⟨i, hi, ei⟩ := List.getElem_of_mem h
  obtain ⟨j, hj, ej⟩ := List.getElem_of_mem h'
  have : (es.map Prod.snd)[i]'(by simpa using hi) = (es.map Prod.snd)[j]'(by simpa using hj) := by simp [ei, ej, q]
  have := (List.getElem_inj nd).mp this
  subst this
  rw [<- ei, <- ej]
theorem BackOk.old {H0 H : Hp} {B la : Addr} {es : List (Int × Addr)} {P P' : Int -> LI -> Prop} {q h : Int} {ls : LI} (b : BackOk H0 H B es P) (hm : (q, la) ∈ es) (hla : H la = some (.lst (ls.map V.int))) (hp : P' q (ls ++ [h])) (ho : ∀ p ls, p ≠ q -> P p ls -> P' p ls) :
    BackOk H0 (upd H la (.lst (ls.map V.int ++ [.int h]))) B es P' where
  at_ := by rw [upd_ne (ne_of b.at_ hla (by intro z; cases z))]; exact b.at_
  nd := b.nd
  nd2 := b.nd2
  fresh := b.fresh
  lst := fun e he => by
    by_cases c : e.2 = la
    · have := snd_inj b.nd2 he hm c
      subst this
      exact ⟨ls ++ [h], by rw [upd_same, List.map_append]; rfl, hp⟩
    · obtain ⟨ms, h1, h2⟩ := b.lst e he
      refine ⟨ms, by rw [upd_ne c]; exact h1, ho _ _ (fun z => c ?_) h2⟩
      have := fst_inj b.nd he hm z
      rw [this]
  non := fun p hp' => ho p [] (fun z => hp' (by rw [z]; exact List.mem_map.mpr ⟨_, hm, rfl⟩)) (b.non p hp')
theorem BackOk.new {H0 H : Hp} {B L : Addr} {es : List (Int × Addr)} {P P' : Int -> LI -> Prop} {q h : Int} (b : BackOk H0 H B es P) (hq : q ∉ es.map Prod.fst) (hL : H L = some (.lst [])) (fL : H0 L = none) (nL : ∀ e ∈ es, e.2 ≠ L) (hp : P' q [h]) (ho : ∀ p ls, p ≠ q -> P p ls -> P' p ls) :
    BackOk H0 (upd (upd H B (.dK (putK (kvL es) (Sum.inl q) (.ref L)))) L (.lst [.int h])) B (es ++ [(q, L)]) P' where
  at_ := by rw [upd_ne (ne_of b.at_ hL (by intro z; cases z)), upd_same, kvL_put hq]
  nd := by rw [List.map_append]; exact nd_snoc b.nd hq
  nd2 := by
    rw [List.map_append]
    refine nd_snoc b.nd2 fun z => ?_
    obtain ⟨e, he, e2⟩ := List.mem_map.mp z
    exact nL e he e2
  fresh := fun e he => by
    rcases ma_.mp he with z | z
    · exact b.fresh e z
    · rw [List.mem_singleton.mp z]; exact fL
  lst := fun e he => by
    rcases ma_.mp he with z | z
    · obtain ⟨ms, h1, h2⟩ := b.lst e z
      refine ⟨ms, by rw [upd_ne (nL e z), upd_ne (ne_of h1 b.at_ (by intro z; cases z))]; exact h1, ho _ _ (fun y => hq ?_) h2⟩
      rw [<- y]
      exact List.mem_map.mpr ⟨e, z, rfl⟩
    · rw [List.mem_singleton.mp z]
      exact ⟨[h], by rw [upd_same]; rfl, hp⟩
  non := fun p hp' => by
    rw [List.map_append] at hp'
    exact ho p [] (fun z => hp' (by rw [z]; exact List.mem_append_right _ List.mem_cons_self)) (b.non p fun z => hp' (List.mem_append_left _ z))
theorem BackOk.keep {H0 H H' : Hp} {B : Addr} {es : List (Int × Addr)} {P : Int -> LI -> Prop} (b : BackOk H0 H B es P) (hB : H' B = H B) (hl : ∀ e ∈ es, H' e.2 = H e.2) : BackOk H0 H' B es P where
  at_ := by rw [hB]; exact b.at_
  nd := b.nd
  nd2 := b.nd2
  fresh := b.fresh
  lst := fun e he => by rw [hl e he]; exact b.lst e he
  non := b.non
theorem BackOk.same {H0 H H' : Hp} {B : Addr} {es : List (Int × Addr)} {P : Int -> LI -> Prop} (b : BackOk H0 H B es P) (s : Same H H') : BackOk H0 H' B es P where
  at_ := s _ _ b.at_
  nd := b.nd
  nd2 := b.nd2
  fresh := b.fresh
  lst := fun e he => by
    obtain ⟨ls, h1, h2⟩ := b.lst e he
    exact ⟨ls, s _ _ h1, h2⟩
  non := b.non
theorem BackOk.weak {H0 H : Hp} {B : Addr} {es : List (Int × Addr)} {P P' : Int -> LI -> Prop} (b : BackOk H0 H B es P) (h : ∀ q ls, P q ls -> P' q ls) : BackOk H0 H B es P' :=
  ⟨b.at_, b.nd, b.nd2, b.fresh, fun e he => by
    obtain ⟨ls, h1, h2⟩ := b.lst e he
    exact ⟨ls, h1, h _ _ h2⟩, fun q hq => h _ _ (b.non q hq)⟩
theorem take_mem {xs : LI} {j : Nat} {t p : Int} (h : xs[j]? = some t) : p ∈ xs.take (j + 1) ↔ p ∈ xs.take j \/ p = t := by
  rw [List.take_add_one, h, List.mem_append]
  show _ \/ p ∈ [t] ↔ _
  rw [List.mem_singleton]
def LeadsTo (rows : LL) (fs gs : LI) (q : Int) : Prop := ∃ row : LI, (∀ f ∈ row, f ∈ fs) /\ walkI rows row q ∈ gs
theorem LeadsTo.goal {rows : LL} {fs gs : LI} {q : Int} (h : q ∈ gs) : LeadsTo rows fs gs q := ⟨[], (fun f z => by cases z), h⟩
theorem LeadsTo.step {rows : LL} {fs gs : LI} {q f : Int} (hf : f ∈ fs) (h : LeadsTo rows fs gs (stepI rows q f)) : LeadsTo rows fs gs q := by
  obtain ⟨row, h1, h2⟩ := h
  refine ⟨f :: row, fun g hg => ?_, h2⟩
  rcases List.mem_cons.mp hg with z | z
  · rw [z]; exact hf
  · exact h1 g z
def PB (rows : LL) (fs : LI) (many n i j : Nat) (q : Int) (ls : LI) : Prop := ls.length <= n /\ (∀ h ∈ ls, (0 <= h /\ h < (many : Int)) /\ ∃ f ∈ fs, stepI rows h f = q) /\ ∀ (h : Nat) (f : Int), ((h < i /\ f ∈ fs) \/ (h = i /\ f ∈ fs.take j)) -> stepI rows h f = q -> (h : Int) ∈ ls
def spLeadC (K : PySem.W.Frag) : Sp := fun vs H Q _ => ∃ (m r g gl tk : Addr) (many wide : Nat) (rows : LL) (signs gs fs : LI), vs = [.ref m, .ref gl, .ref tk] /\ MachAt H m r g wide rows signs /\ RowsOk many wide rows /\ (1 <= many /\ many <= 400) /\ (1 <= wide /\ wide <= 400) /\
  H gl = some (.lst (gs.map V.int)) /\ gs.Nodup /\ (∀ q ∈ gs, 0 <= q /\ q < (many : Int)) /\ H tk = some (.tup (fs.map V.int)) /\ fs.length <= 400 /\ (∀ f ∈ fs, 0 <= f /\ f < (wide : Int)) /\
  ∀ (D : Addr) (H' : Hp) (ks : LI), Same H H' -> H D = none -> H' D = some (.dK (kvT ks)) -> ks.Nodup -> (∀ q ∈ ks, (0 <= q /\ q < (many : Int)) /\ LeadsTo rows fs gs q) -> (∀ q : Int, 0 <= q -> q < (many : Int) -> LeadsTo rows fs gs q -> q ∈ ks) -> Q (.ref D) H'
section
variable {P : Program} {w : World} {K : PySem.W.Frag} {mg : Str -> Option Value} {base : Heap} {f : Addr} {fd : FuncData} {dV : Value}
theorem sc_rooms_leading_to : FnScope ["machine", "goals", "taken", "back", "here", "row", "figure", "waiting", "leading", "there"] ["machine", "goals", "taken"] (defScope s_rooms_leading_to) := ⟨rfl, rfl, rfl, by decide +kernel, rfl, by decide +kernel, by decide +kernel⟩
theorem bk_rooms_leading_to_0 : BlkScope ["machine", "goals", "taken", "back", "here", "row", "figure", "waiting", "leading", "there"] (defScope s_rooms_leading_to) ["here"] [none] { kind := ScopeKind.function, names := [(".0", NameKind.local), ("here", NameKind.local)], isGenerator := false, isCoroutine := false, more := [] } := ⟨rfl, by decide +kernel, by decide +kernel, by decide +kernel, by decide +kernel, rfl, by decide +kernel⟩
theorem ok_leadC (F : FunD K "rooms_leading_to" "rooms_leading_to" s_rooms_leading_to dV f fd) (z_enumerate : mg "enumerate" = none) (z_list : mg "list" = none) (z_dict : mg "dict" = none) : FnOk P w K mg base CX0 1 f fd ["machine", "goals", "taken"] (spLeadC K) := by
  refine F.ok sc_rooms_leading_to (fun vs H Q E h => ?_) (fun cdv A outer s H vs Q E hr h => ?_)
  · obtain ⟨m, r, g, gl, tk, many, wide, rows, signs, gs, fs, rfl, _⟩ := h
    rfl
  obtain ⟨m, r, g, gl, tk, many, wide, rows, signs, gs, fs, rfl, M, R, ⟨n0, n1⟩, ⟨w0, w1⟩, hgl, ndg, hgs, htk, lfs, hfs, k⟩ := h
  obtain ⟨ras, hr', hA⟩ := M.rows
  have hu := hu_of hr
  refine ⟨_, (pss_cons (ps_set (i := 3) sc_rooms_leading_to.nd rfl (Or.inl rfl) pe_dnewK)
      (pss_cons (ps_for PassesOwn.never rfl (pi_enumT rfl z_enumerate (pa_cons (pe_ix ix_tup (pv 0) pe_int (fun _ _ => rfl)) pa_nil)) (pg_tup rfl (pgs_cons (pg_name (i := 4) sc_rooms_leading_to.nd rfl (Or.inl rfl)) (pgs_cons (pg_name (i := 5) sc_rooms_leading_to.nd rfl (Or.inl rfl)) pgs_nil))) (pss_one (ps_for PassesOwn.never rfl (pi_tup (pv 2)) (pg_name (i := 6) sc_rooms_leading_to.nd rfl (Or.inl rfl)) (pss_one (ps_expr (pe_bm PySem.F.plainAttrs_list PySem.F.slot_list_append PySem.F.type_list_append mt_append (pe_dset (pv 3) (pe_ix ix_tup (pv 5) (pv 6) (fun _ _ => rfl)) (pe_lst pa_nil) ⟨rfl, rfl, rfl, rfl⟩) (pa_cons (pv 4) pa_nil)))))))
      (pss_cons (ps_set (i := 7) sc_rooms_leading_to.nd rfl (Or.inl rfl) (pe_callTy call_list_of (by rfl) z_list bt_list (pa_cons (pv 1) pa_nil)))
      (pss_cons (ps_set (i := 8) sc_rooms_leading_to.nd rfl (Or.inl rfl) (pe_callTy (call_dictOf rfl) (by rfl) z_dict bt_dict (pa_cons (pe_comp rfl bk_rooms_leading_to_0 (pi_list (pv 7)) (fun _ _ _ _ => (pg_name (i := 0) bk_rooms_leading_to_0.nd rfl (Or.inl rfl))) (fun _ _ _ _ => (pe_tup (pa_cons (pv 0) (pa_cons pe_bl pa_nil))))) pa_nil)))
      (pss_cons (ps_while PassesOwn.never (pt_truth (pv 7) (fun _ => rfl)) (pss_cons (ps_set (i := 4) sc_rooms_leading_to.nd rfl (Or.inl rfl) (pe_bm0 PySem.F.plainAttrs_list PySem.F.slot_list_pop PySem.F.type_list_pop mt_pop (pv 7)))
      (pss_one (ps_for PassesOwn.never rfl (pi_seq (pe_dget2 hu (pv 3) (pv 4) (pe_tup pa_nil) ⟨rfl, rfl, rfl, rfl⟩)) (pg_name (i := 9) sc_rooms_leading_to.nd rfl (Or.inl rfl)) (pss_one (ps_if (pt_cmp (pc_dnotin hu (pv 9) (pv 8)) (by with_unfolding_all rfl)) (pss_cons (ps_dput hu (pv 8) (pv 9) pe_bl rfl)
      (pss_one (ps_expr (pe_bm PySem.F.plainAttrs_list PySem.F.slot_list_append PySem.F.type_list_append mt_append (pv 7) (pa_cons (pv 9) pa_nil))))) pss_nil))))))
      (pss_one (ps_ret (pv 8)))))))), ?_⟩
  refine fun B hB => ?_
  have kr0 : ∀ e ∈ ([] : List (Int × Addr)), 0 <= e.1 /\ e.1 < (many : Int) := fun e h => by cases h
  have b0 : BackOk H (upd H B (.dK [])) B [] (PB rows fs many 0 0 0) := ⟨upd_same, List.Pairwise.nil, List.Pairwise.nil, (fun e h => by cases h), (fun e h => by cases h), (fun q _ => ⟨Nat.le_refl _, (fun h z => by cases z), fun h f z _ => by
    rcases z with z | z
    · omega
    · have := z.2
      simp at this⟩)⟩
  try dsimp only [gName]
  refine cut_G (t := tFor _ _ _) (fun σ' H' => ∃ (es : List (Int × Addr)) (v1 v2 v3 : OV), σ' = [some (.ref m), some (.ref gl), some (.ref tk), some (.ref B), v1, v2, v3, none, none, none] /\ Same H H' /\ BackOk H H' B es (PB rows fs many (rows.length * fs.length) rows.length 0)) ?_ (fun D' nxt => ?_)
  rotate_left
  · have s0 := same_new hB (HO.dK [])
    refine ⟨_, rfl, m, _, _, _, rfl, rfl, qT_ (s0 _ _ M.tup), rfl, r, rfl, ⟨_, qT_ (s0 _ _ hr')⟩, for_enumT (K := K) (xs := ras.map V.ref) (fun i σ' H' => ∃ (es : List (Int × Addr)) (v1 v2 v3 : OV), σ' = [some (.ref m), some (.ref gl), some (.ref tk), some (.ref B), v1, v2, v3, none, none, none] /\ Same H H' /\ (∀ e ∈ es, 0 <= e.1 /\ e.1 < (many : Int)) /\ BackOk H H' B es (PB rows fs many (i * fs.length) i 0))
      ⟨[], none, none, none, rfl, s0, kr0, by rw [Nat.zero_mul]; exact b0⟩ (fun i σ' H' _ ⟨_, _, _, _, _, e, _⟩ => qT_ (e _ _ hr')) ?_ ?_⟩
    · rintro i y σ' H1 T hi ⟨es, v1, v2, v3, rfl, s1, kr1, b1⟩ hT
      have il : i < rows.length := by
        have := (gi_ hi).1
        rw [lm_, hA.length] at this
        exact this
      obtain ⟨ra, e1, e2⟩ := hA.get il
      have ey : y = .ref ra := by rw [List.getElem?_map, e1] at hi; exact (Option.some.inj hi).symm
      subst ey
      have im : i < many := by rw [<- R.len]; exact il
      have lrow : rows[i].length = wide := R.row _ (List.getElem_mem il)
      have sT := same_new hT (HO.tup [V.int i, V.ref ra])
      have big : i * fs.length + fs.length <= 400 * 400 + 400 := by
        have := Nat.mul_le_mul (show i <= 400 by omega) lfs
        omega
      refine ⟨T, _, rfl, qT_ upd_same, rfl, _, _, rfl, _, _, rfl, rfl, ?_⟩
      refine ⟨_, rfl, tk, rfl, ⟨_, qT_ (sT _ _ (s1 _ _ htk))⟩, for_tup (K := K) (xs := fs.map V.int) (fun j σ' H' => ∃ (es : List (Int × Addr)) (v3 : OV), σ' = [some (.ref m), some (.ref gl), some (.ref tk), some (.ref B), some (.int i), some (.ref ra), v3, none, none, none] /\ Same H H' /\ (∀ e ∈ es, 0 <= e.1 /\ e.1 < (many : Int)) /\ BackOk H H' B es (PB rows fs many (i * fs.length + j) i j))
        ⟨es, v3, rfl, s1.trans sT, kr1, b1.same sT⟩ (fun j σ' H' _ ⟨_, _, _, e, _⟩ => qT_ (e _ _ htk)) ?_ ?_⟩
      · rintro j y σ' H2 hj ⟨es, v3, rfl, s2, kr2, b2⟩
        obtain ⟨fi, rfl, hfi⟩ := ints_at hj
        have jl : j < fs.length := (gi_ hfi).1
        have fm := mq_ hfi
        have fr := hfs fi fm
        have es0 : (rows[i]).getD fi.toNat 0 = stepI rows (i : Int) fi := by
          unfold stepI
          rw [Int.toNat_natCast, getD_at il]
        have at1 : atI (rows[i].map V.int) fi = some (.int (stepI rows (i : Int) fi)) := by
          rw [atI_ints fr.1 (by rw [lrow]; exact fr.2), es0]
        refine ⟨_, rfl, B, rfl, .inl ⟨_, .inl b2.at_⟩, _, rfl, _, rfl, ra, _, _, _, rfl, rfl, qT_ (s2 _ _ e2), at1, (by show 0 <= sizeLine; decide), fun L hL => ?_⟩
        have sL := same_new hL (HO.lst [])
        have b3 := b2.same sL
        have nL : ∀ e ∈ es, e.2 ≠ L := fun e he z => by
          obtain ⟨ls, h1, _⟩ := b2.lst e he
          rw [z, hL] at h1
          cases h1
        have nLB : B ≠ L := ne_of_none b2.at_ hL
        have fL : H L = none := s2.free hL
        have stq := stepI_ok R (show (0 : Int) <= (i : Int) by omega) (by omega) fr.1 fr.2
        have few := few_below many b3.nd (fun q hq => by
          obtain ⟨e, he, rfl⟩ := List.mem_map.mp hq
          exact kr2 e he)
        rw [lm_] at few
        have len : (kvL es).length < sizeLine := small1000 (by unfold kvL; rw [lm_]; omega)
        have oth : ∀ (p : Int) (ls : LI), p ≠ stepI rows (i : Int) fi -> PB rows fs many (i * fs.length + j) i j p ls -> PB rows fs many (i * fs.length + (j + 1)) i (j + 1) p ls := fun p ls np z => ⟨by have := z.1; omega, z.2.1, fun h f c e => by
          rcases c with c | ⟨rfl, c⟩
          · exact z.2.2 h f (.inl c) e
          · rcases (take_mem hfi).mp c with d | d
            · exact z.2.2 h f (.inr ⟨rfl, d⟩) e
            · rw [d] at e; exact absurd e.symm np⟩
        have one : (0 <= (i : Int) /\ (i : Int) < (many : Int)) /\ ∃ f ∈ fs, stepI rows (i : Int) f = stepI rows (i : Int) fi := ⟨⟨by omega, by omega⟩, fi, fm, rfl⟩
        have grow : ∀ ls : LI, PB rows fs many (i * fs.length + j) i j (stepI rows (i : Int) fi) ls -> PB rows fs many (i * fs.length + (j + 1)) i (j + 1) (stepI rows (i : Int) fi) (ls ++ [(i : Int)]) := fun ls z => ⟨by rw [List.length_append, List.length_singleton]; have := z.1; omega, fun h hh => by
            rcases ma_.mp hh with y | y
            · exact z.2.1 h y
            · rw [List.mem_singleton.mp y]; exact one, fun h f c e => by
            rcases c with c | ⟨rfl, c⟩
            · exact List.mem_append_left _ (z.2.2 h f (.inl c) e)
            · exact List.mem_append_right _ List.mem_cons_self⟩
        refine ⟨_, Sum.inl (stepI rows (i : Int) fi), b3.at_, rfl, len, fun v hv => ?_, fun hn => ?_⟩
        · obtain ⟨la, ls, rfl, hm, hla, hp⟩ := b3.get hv
          have lz : (ls.map V.int).length < sizeLine := Nat.lt_of_le_of_lt (show _ <= 1000000 by rw [lm_]; have := hp.1; omega) (by decide)
          refine ⟨.inl ⟨rfl, _, qL_ hla⟩, _, rfl, la, _, _, rfl, rfl, hla, lz, ?_⟩
          refine ⟨es, _, rfl, same_upd (s2.trans sL) (b2.fresh _ hm), kr2, b3.old hm hla (grow ls hp) oth⟩
        · have hq : stepI rows (i : Int) fi ∉ es.map Prod.fst := fun z => by
            obtain ⟨e, he, ee⟩ := List.mem_map.mp z
            obtain ⟨jj, hjj⟩ := List.mem_iff_getElem?.mp he
            have := kvL_at b3.nd (q := e.1) (a := e.2) hjj
            rw [ee, hn] at this
            cases this
          have hL3 : (upd (upd H2 L (HO.lst [])) B (HO.dK (putK (kvL es) (Sum.inl (stepI rows (i : Int) fi)) (V.ref L)))) L = some (.lst []) := by rw [upd_ne (Ne.symm nLB), upd_same]
          refine ⟨.inl ⟨rfl, _, qL_ hL3⟩, _, rfl, L, _, _, rfl, rfl, hL3, (by show 0 < sizeLine; decide), ?_⟩
          refine ⟨es ++ [(stepI rows (i : Int) fi, L)], _, rfl, same_upd (same_upd (s2.trans sL) hB) fL, fun e he => ?_, b3.new hq upd_same fL nL (grow [] (b3.non _ hq)) oth⟩
          rcases ma_.mp he with z | z
          · exact kr2 e z
          · rw [List.mem_singleton.mp z]; exact stq
      · rintro σ' H2 ⟨es, v3, rfl, s2, kr2, b2⟩
        rw [lm_] at b2
        refine ⟨es, _, _, _, rfl, s2, kr2, b2.weak fun q ls z => ⟨by rw [Nat.succ_mul]; exact z.1, z.2.1, fun h f c e => ?_⟩⟩
        rcases c with c | c
        · rcases Nat.lt_or_ge h i with d | d
          · exact z.2.2 h f (.inl ⟨d, c.2⟩) e
          · exact z.2.2 h f (.inr ⟨by omega, by rw [List.take_length]; exact c.2⟩) e
        · have := c.2
          simp at this
    · rintro σ' H1 ⟨es, v1, v2, v3, rfl, s1, kr1, b1⟩
      rw [lm_, hA.length] at b1
      exact nxt _ _ ⟨es, _, _, _, rfl, s1, b1⟩
  rintro σ' H1 ⟨es, v1, v2, v3, rfl, s1, b1⟩
  refine ⟨_, rfl, gl, _, rfl, .inl (qL_ (s1 _ _ hgl)), fun W hW => ?_⟩
  have sW := same_new hW (HO.lst (gs.map V.int))
  have fW : H W = none := s1.free hW
  refine ⟨_, rfl, W, rfl, ⟨_, qL_ upd_same⟩, ?_⟩
  refine comp_list (K := K) (xs := gs.map V.int) (fun D i ys H' => Same (upd H1 W (HO.lst (gs.map V.int))) H' /\ ∃ ts, ys = ts.map V.ref /\ PairsV H' ts (kvT (gs.take i))) (fun D hD => ⟨same_new hD _, [], rfl, .nil⟩) (fun D i ys H' _ ⟨e, _⟩ => qL_ (e _ _ upd_same)) ?_ ?_
  · rintro D i y ys H' Q' hD hi hy ⟨hs, ts, rfl, pv⟩ k'
    obtain ⟨q, rfl, hq⟩ := ints_at hi
    have il : i < gs.length := (gi_ hq).1
    have gl4 := few_below many ndg hgs
    refine ⟨_, rfl, (by show 2 <= sizeLine; decide), fun T hT => ?_⟩
    have sT := same_new hT (HO.tup [V.int q, V.bl true])
    have nD : D ≠ T := ne_of_none hy hT
    have lts : ts.length = i := by
      rw [Paired.length pv]
      unfold kvT
      rw [lm_, List.length_take]
      omega
    have hyT : (upd H' T (HO.tup [V.int q, V.bl true])) D = some (.lst (ts.map V.ref)) := by rw [upd_ne nD]; exact hy
    refine k' _ _ hyT (small1000 (by rw [lm_]; omega)) ⟨same_upd (same_upd hs (hs.free hT)) hD, ts ++ [T], by rw [List.map_append]; rfl, ?_⟩
    rw [List.take_add_one, hq]
    have up : ∀ b xs, (upd H' T (HO.tup [V.int q, V.bl true])) b = some (.tup xs) -> (upd (upd H' T (HO.tup [V.int q, V.bl true])) D (.lst (ts.map V.ref ++ [V.ref T]))) b = some (.tup xs) := fun b xs e => by
      rw [upd_ne (ne_of e hyT (by intro z; cases z))]; exact e
    show PairsV _ _ (kvT (gs.take i ++ [q]))
    unfold kvT
    rw [List.map_append]
    exact Paired.snoc (PairsV.same pv fun b xs e => up b xs (sT _ _ e)) (up _ _ upd_same)
  rintro L ys H2 fL hL ⟨s2, ts, rfl, pv⟩
  rw [lm_, List.take_length] at pv
  refine ⟨L, ts, _, rfl, hL, pv, fun D hD => ?_⟩
  rw [merge_kvT ndg]
  have s3 := s2.trans (same_new hD (HO.dK (kvT gs)))
  have fD : H D = none := (s1.trans sW).free (s2.free hD)
  have hW3 := s3 _ _ (show (upd H1 W (HO.lst (gs.map V.int))) W = _ from upd_same)
  have hWD : W ≠ D := ne_of hW3 (show (upd H2 D (HO.dK (kvT gs))) D = some (.dK (kvT gs)) from upd_same) (by intro z; cases z)
  have b3 : BackOk H (upd H2 D (HO.dK (kvT gs))) B es (PB rows fs many (rows.length * fs.length) rows.length 0) := (b1.same sW).same s3
  have nW : ∀ e ∈ es, e.2 ≠ W := fun e he z => by
    obtain ⟨ls, h1, _⟩ := b1.lst e he
    rw [z, hW] at h1
    cases h1
  have nBD : B ≠ D := fun z => by
    have := (b1.same sW).same s2
    rw [<- z, this.at_] at hD
    cases hD
  have neD : ∀ e ∈ es, e.2 ≠ D := fun e he z => by
    obtain ⟨ls, h1, _⟩ := ((b1.same sW).same s2).lst e he
    rw [z, hD] at h1
    cases h1
  try dsimp only [gName]
  refine cut_G (t := tWhile _ _) (fun σ' H' => ∃ (ks : LI) (v1 v2 v3 v4 : OV), σ' = [some (.ref m), some (.ref gl), some (.ref tk), some (.ref B), v1, v2, v3, some (.ref W), some (.ref D), v4] /\ Same H H' /\ H' D = some (.dK (kvT ks)) /\ ks.Nodup /\ (∀ q ∈ ks, (0 <= q /\ q < (many : Int)) /\ LeadsTo rows fs gs q) /\ (∀ q ∈ gs, q ∈ ks) /\ (∀ q ∈ ks, ∀ (h : Nat) (f : Int), h < many -> f ∈ fs -> stepI rows h f = q -> (h : Int) ∈ ks)) ?_ (fun D' nxt => ?_)
  rotate_left
  · refine while_W (fun mm σ' H' => ∃ (ks ws : LI) (v1 v2 v3 v4 : OV), mm = 2 * (many - ks.length) + ws.length /\ σ' = [some (.ref m), some (.ref gl), some (.ref tk), some (.ref B), v1, v2, v3, some (.ref W), some (.ref D), v4] /\ Same H H' /\ H' D = some (.dK (kvT ks)) /\ H' W = some (.lst (ws.map V.int)) /\ ks.Nodup /\ (∀ q ∈ ks, (0 <= q /\ q < (many : Int)) /\ LeadsTo rows fs gs q) /\ (∀ q ∈ ws, q ∈ ks) /\ ws.length <= ks.length /\ (∀ q ∈ gs, q ∈ ks) /\ (∀ q ∈ ks, q ∉ ws -> ∀ (h : Nat) (f : Int), h < many -> f ∈ fs -> stepI rows h f = q -> (h : Int) ∈ ks) /\ BackOk H H' B es (PB rows fs many (rows.length * fs.length) rows.length 0))
      ⟨_, gs, gs, v1, v2, v3, none, rfl, rfl, s1.trans (sW.trans s3), upd_same, hW3, ndg, fun q hq => ⟨hgs q hq, LeadsTo.goal hq⟩, fun q h => h, Nat.le_refl _, fun q h => h, fun q h n => absurd h n, b3⟩ ?_
    rintro mm σ' H4 ⟨ks, ws, v1, v2, v3, v4, rfl, rfl, s4, hD4, hW4, ndk, hk, hwk, lw, hgk, hcl, b4⟩
    have kl := few_below many ndk fun q hq => (hk q hq).1
    by_cases en : ws = []
    · subst en
      refine ⟨_, rfl, _, .inl ⟨_, qL_ hW4, rfl⟩, iteF ?_⟩
      exact nxt _ _ ⟨ks, _, _, _, _, rfl, s4, hD4, ndk, hk, hgk, fun q hq => hcl q hq (fun z => by cases z)⟩
    refine ⟨_, rfl, _, .inl ⟨_, qL_ hW4, rfl⟩, ?_⟩
    have ne : (!(ws.map V.int).isEmpty) = true := by
      cases ws with
      | nil => exact absurd rfl en
      | cons x r => rfl
    rw [ne]
    refine iteT ⟨fun σ' H' => ∃ m', m' < 2 * (many - ks.length) + ws.length /\ ∃ (ks ws : LI) (v1 v2 v3 v4 : OV), m' = 2 * (many - ks.length) + ws.length /\ σ' = [some (.ref m), some (.ref gl), some (.ref tk), some (.ref B), v1, v2, v3, some (.ref W), some (.ref D), v4] /\ Same H H' /\ H' D = some (.dK (kvT ks)) /\ H' W = some (.lst (ws.map V.int)) /\ ks.Nodup /\ (∀ q ∈ ks, (0 <= q /\ q < (many : Int)) /\ LeadsTo rows fs gs q) /\ (∀ q ∈ ws, q ∈ ks) /\ ws.length <= ks.length /\ (∀ q ∈ gs, q ∈ ks) /\ (∀ q ∈ ks, q ∉ ws -> ∀ (h : Nat) (f : Int), h < many -> f ∈ fs -> stepI rows h f = q -> (h : Int) ∈ ks) /\ BackOk H H' B es (PB rows fs many (rows.length * fs.length) rows.length 0), fun σ' H' h => h, ?_⟩
    have wl : 0 < ws.length := by
      cases ws with
      | nil => exact absurd rfl en
      | cons x r => exact Nat.succ_pos _
    have lastI : ws.length - 1 < ws.length := by omega
    obtain ⟨here, hlast⟩ : ∃ here, ws[ws.length - 1]? = some here := ⟨_, List.getElem?_eq_getElem lastI⟩
    have hks := hwk here (mq_ hlast)
    refine ⟨_, rfl, .inl ⟨rfl, _, qL_ hW4⟩, W, _, V.int here, rfl, rfl, hW4, by rw [lm_, List.getElem?_map, hlast]; rfl, ?_⟩
    have eDL : (ws.map V.int).dropLast = ws.dropLast.map V.int := by rw [List.map_dropLast]
    rw [eDL]
    have nBW : B ≠ W := ne_of b4.at_ hW4 (by intro z; cases z)
    have b5 : BackOk H (upd H4 W (HO.lst (ws.dropLast.map V.int))) B es (PB rows fs many (rows.length * fs.length) rows.length 0) := b4.keep (by rw [upd_ne nBW]) fun e he => by rw [upd_ne (nW e he)]
    have hD5 : (upd H4 W (HO.lst (ws.dropLast.map V.int))) D = some (.dK (kvT ks)) := by rw [upd_ne (Ne.symm hWD)]; exact hD4
    have sub5 : ∀ q ∈ ws.dropLast, q ∈ ks := fun q hq => hwk q (List.dropLast_subset _ hq)
    have ld5 : ws.dropLast.length = ws.length - 1 := List.length_dropLast
    have last5 : ∀ q, q ∈ ws -> q ∉ ws.dropLast -> q = here := fun q h1 h2 => by
      have hl : ws.length - 1 + 1 = ws.length := by omega
      have h3 : q ∈ ws.take (ws.length - 1 + 1) := by rw [hl, List.take_length]; exact h1
      rcases (take_mem hlast).mp h3 with z | z
      · exact absurd (by rw [List.dropLast_eq_take]; exact z) h2
      · exact z
    have cl5 : ∀ q ∈ ks, q ∉ ws.dropLast -> q ≠ here -> ∀ (h : Nat) (f : Int), h < many -> f ∈ fs -> stepI rows h f = q -> (h : Int) ∈ ks := fun q hq h1 h2 => hcl q hq fun z => h2 (last5 q z h1)
    refine ⟨_, rfl, B, rfl, .inl ⟨_, .inl b5.at_⟩, _, rfl, (by show 0 <= sizeLine; decide), fun t0 ht0 => ?_⟩
    have st0 := same_new ht0 (HO.tup [])
    have b6 := b5.same st0
    refine ⟨_, DGet.k (k := Sum.inl here) b6.at_, ?_⟩
    have hD6 := st0 _ _ hD5
    have hW6 := st0 _ _ (show (upd H4 W (HO.lst (ws.dropLast.map V.int))) W = _ from upd_same)
    have s6 : Same H (upd (upd H4 W (HO.lst (ws.dropLast.map V.int))) t0 (HO.tup [])) := (same_upd s4 fW).trans st0
    cases hv : valV (kvL es) (Sum.inl here) with
    | none =>
      refine ⟨t0, rfl, .inr ⟨⟨_, qT_ upd_same⟩, ?_⟩⟩
      refine for_tup (K := K) (xs := []) (fun i σ' H' => ∃ v4 v3, σ' = [some (.ref m), some (.ref gl), some (.ref tk), some (.ref B), some (.int here), v2, v3, some (.ref W), some (.ref D), v4] /\ H' = (upd (upd H4 W (HO.lst (ws.dropLast.map V.int))) t0 (HO.tup []))) ⟨_, _, rfl, rfl⟩ (fun i σ' H' _ ⟨_, _, _, e⟩ => by rw [e]; exact qT_ upd_same) (fun i x σ' H' hx _ => by simp at hx) ?_
      rintro σ' H' ⟨v4, v3, rfl, rfl⟩
      exact ⟨_, (by rw [ld5]; omega : 2 * (many - ks.length) + ws.dropLast.length < _), ks, ws.dropLast, _, _, _, _, rfl, rfl, s6, hD6, hW6, ndk, hk, sub5, by omega, hgk, (fun q hq hn h f hh hf e => by
        by_cases c : q = here
        · subst c
          have np : q ∉ es.map Prod.fst := fun z => by
            obtain ⟨e', he', ee⟩ := List.mem_map.mp z
            obtain ⟨jj, hjj⟩ := List.mem_iff_getElem?.mp he'
            have := kvL_at b6.nd (q := e'.1) (a := e'.2) hjj
            rw [ee, hv] at this
            cases this
          exact absurd ((b6.non q np).2.2 h f (.inl ⟨by rw [R.len]; exact hh, hf⟩) e) (by simp)
        · exact cl5 q hq hn c h f hh hf e), b6⟩
    | some v =>
      obtain ⟨la, ls, rfl, hm, hla, hp⟩ := b6.get hv
      refine ⟨la, rfl, .inl ⟨⟨_, qL_ hla⟩, ?_⟩⟩
      refine for_list (K := K) (xs := ls.map V.int) (fun i σ' H' => ∃ (ks' ws' : LI) (v4 : OV) (v3 : OV), σ' = [some (.ref m), some (.ref gl), some (.ref tk), some (.ref B), some (.int here), v2, v3, some (.ref W), some (.ref D), v4] /\ Same H H' /\ H' D = some (.dK (kvT ks')) /\ H' W = some (.lst (ws'.map V.int)) /\ ks'.Nodup /\ (∀ q ∈ ks', (0 <= q /\ q < (many : Int)) /\ LeadsTo rows fs gs q) /\ (∀ q ∈ ws', q ∈ ks') /\ ws'.length <= ks'.length /\ (∀ q ∈ gs, q ∈ ks') /\ (∀ q ∈ ks', q ∉ ws' -> q ≠ here -> ∀ (h : Nat) (f : Int), h < many -> f ∈ fs -> stepI rows h f = q -> (h : Int) ∈ ks') /\ (∀ h ∈ ls.take i, h ∈ ks') /\ 2 * (many - ks'.length) + ws'.length < 2 * (many - ks.length) + ws.length /\ here ∈ ks' /\ H' la = some (.lst (ls.map V.int)) /\ BackOk H H' B es (PB rows fs many (rows.length * fs.length) rows.length 0))
        ⟨ks, ws.dropLast, _, _, rfl, s6, hD6, hW6, ndk, hk, sub5, by omega, hgk, cl5, (fun h z => by simp at z), by omega, hks, hla, b6⟩ (fun i σ' H' _ ⟨_, _, _, _, _, _, _, _, _, _, _, _, _, _, _, _, _, e, _⟩ => qL_ e) ?_ ?_
      · rintro i y σ' H7 hi ⟨ks', ws', v4, v3, rfl, s7, hD7, hW7, nd7, hk7, sub7, lw7, hg7, cl7, tk7, meas, hh7, hla7, b7⟩
        obtain ⟨th, rfl, hth⟩ := ints_at hi
        obtain ⟨thr, fi, hfi, stp⟩ := hp.2.1 th (mq_ hth)
        have kl7 := few_below many nd7 fun q hq => (hk7 q hq).1
        refine ⟨_, rfl, _, rfl, D, _, rfl, DGet.k (k := Sum.inl th) hD7, _, rfl, ?_⟩
        rw [kvT_val]
        refine iteDn (fun c => ?_) (fun c => ?_)
        · refine ⟨_, rfl, _, rfl, D, _, rfl, DPut.k (k := Sum.inl th) hD7 (small1000 (by unfold kvT; rw [lm_]; omega)), ?_⟩
          rw [kvT_put c]
          have hW8 : (upd H7 D (HO.dK (kvT (ks' ++ [th])))) W = some (.lst (ws'.map V.int)) := by rw [upd_ne hWD]; exact hW7
          have nd8 : (ks' ++ [th]).Nodup := nd_snoc nd7 c
          have hk8 : ∀ q ∈ ks' ++ [th], (0 <= q /\ q < (many : Int)) /\ LeadsTo rows fs gs q := fun q hq => by
            rcases ma_.mp hq with z | z
            · exact hk7 q z
            · rw [List.mem_singleton.mp z]
              exact ⟨thr, LeadsTo.step hfi (by rw [stp]; exact (hk7 here hh7).2)⟩
          have kl8 := few_below many nd8 fun q hq => (hk8 q hq).1
          rw [List.length_append, List.length_singleton] at kl8
          refine ⟨_, rfl, .inl ⟨rfl, _, qL_ hW8⟩, _, rfl, W, _, _, rfl, rfl, hW8, small1000 (by rw [lm_]; omega), ?_⟩
          refine ⟨ks' ++ [th], ws' ++ [th], _, _, rfl, same_upd (same_upd s7 fD) fW, by rw [upd_ne (Ne.symm hWD), upd_same], by rw [upd_same, List.map_append]; rfl, nd8, hk8, ?_, by rw [List.length_append, List.length_append, List.length_singleton]; omega, fun q hq => List.mem_append_left _ (hg7 q hq), fun q hq hn nh h f hh hf e => ?_, fun h hh => ?_, by rw [List.length_append, List.length_append, List.length_singleton]; omega, List.mem_append_left _ hh7, ?_, ?_⟩
          · intro q hq
            rcases ma_.mp hq with z | z
            · exact List.mem_append_left _ (sub7 q z)
            · exact List.mem_append_right _ z
          · rcases ma_.mp hq with z | z
            · exact List.mem_append_left _ (cl7 q z (fun y => hn (List.mem_append_left _ y)) nh h f hh hf e)
            · exact absurd (List.mem_append_right _ z) hn
          · rcases (take_mem hth).mp hh with z | z
            · exact List.mem_append_left _ (tk7 h z)
            · rw [z]; exact List.mem_append_right _ List.mem_cons_self
          · rw [upd_ne (nW _ hm), upd_ne (neD _ hm)]; exact hla7
          · exact b7.keep (by rw [upd_ne nBW, upd_ne nBD]) fun e he => by rw [upd_ne (nW e he), upd_ne (neD e he)]
        · refine ⟨ks', ws', _, _, rfl, s7, hD7, hW7, nd7, hk7, sub7, lw7, hg7, cl7, fun h hh => ?_, meas, hh7, hla7, b7⟩
          rcases (take_mem hth).mp hh with z | z
          · exact tk7 h z
          · rw [z]; exact c
      · rintro σ' H7 ⟨ks', ws', v4, v3, rfl, s7, hD7, hW7, nd7, hk7, sub7, lw7, hg7, cl7, tk7, meas, hh7, hla7, b7⟩
        rw [lm_, List.take_length] at tk7
        refine ⟨_, meas, ks', ws', _, _, _, _, rfl, rfl, s7, hD7, hW7, nd7, hk7, sub7, lw7, hg7, fun q hq hn h f hh hf e => ?_, b7⟩
        by_cases c : q = here
        · subst c
          exact tk7 _ (hp.2.2 h f (.inl ⟨by rw [R.len]; exact hh, hf⟩) e)
        · exact cl7 q hq hn c h f hh hf e
  rintro σ' H4 ⟨ks, v1, v2, v3, v4, rfl, s4, hD4, ndk, hk, hgk, hcl⟩
  refine ⟨_, rfl, k D H4 ks s4 fD hD4 ndk hk ?_⟩
  have go : ∀ (row : LI) (q : Int), 0 <= q -> q < (many : Int) -> (∀ f ∈ row, f ∈ fs) -> walkI rows row q ∈ gs -> q ∈ ks := by
    intro row
    induction row with
    | nil => intro q _ _ _ h; exact hgk q h
    | cons f r ih =>
      intro q q0 q1 hf h
      have fin := hf f List.mem_cons_self
      have st := stepI_ok R q0 q1 (hfs f fin).1 (hfs f fin).2
      have h2 := ih (stepI rows q f) st.1 st.2 (fun g hg => hf g (List.mem_cons_of_mem _ hg)) h
      obtain ⟨n, rfl⟩ := nat_of q0
      exact hcl _ h2 n f (by omega) fin rfl
  exact fun q q0 q1 ⟨row, hr1, hr2⟩ => go row q q0 q1 hr1 hr2
end
theorem pair_step {H' : Hp} {D T : Addr} {ts : List Addr} {kv : List (Key × V)} {q : Int} (hy : H' D = some (.lst (ts.map V.ref))) (hT : H' T = none) (pv : PairsV H' ts kv) :
    PairsV (upd (upd H' T (.tup [V.int q, V.bl true])) D (.lst (ts.map V.ref ++ [V.ref T]))) (ts ++ [T]) (kv ++ [(Sum.inl q, V.bl true)]) := by
  have nD : D ≠ T := ne_of_none hy hT
  have hyT : (upd H' T (HO.tup [V.int q, V.bl true])) D = some (.lst (ts.map V.ref)) := by rw [upd_ne nD]; exact hy
  have up : ∀ b xs, (upd H' T (HO.tup [V.int q, V.bl true])) b = some (.tup xs) -> (upd (upd H' T (HO.tup [V.int q, V.bl true])) D (.lst (ts.map V.ref ++ [V.ref T]))) b = some (.tup xs) := fun b xs e => by
    rw [upd_ne (ne_of e hyT (by intro z; cases z))]; exact e
  exact Paired.snoc (PairsV.same pv fun b xs e => up b xs ((same_new hT _) _ _ e)) (up _ _ upd_same)
theorem filt_yes {p : Int -> Bool} {xs : LI} {i : Nat} {x : Int} (h : xs[i]? = some x) (hp : p x = true) : (xs.take (i + 1)).filter p = (xs.take i).filter p ++ [x] := by
  rw [List.take_add_one, h, List.filter_append]
  show _ ++ [x].filter p = _
  rw [List.filter_cons_of_pos hp]
  rfl
theorem filt_no {p : Int -> Bool} {xs : LI} {i : Nat} {x : Int} (h : xs[i]? = some x) (hp : p x = false) : (xs.take (i + 1)).filter p = (xs.take i).filter p := by
  rw [List.take_add_one, h, List.filter_append]
  show _ ++ [x].filter p = _
  rw [List.filter_cons_of_neg (by rw [hp]; decide)]
  exact List.append_nil _
theorem kvT_snoc (ks : LI) (q : Int) : kvT (ks ++ [q]) = kvT ks ++ [(Sum.inl q, V.bl true)] := by
  unfold kvT
  rw [List.map_append]
  rfl
theorem cut_tail {ns : LI} {c : Nat} (h : c <= ns.length) : cutV (ns.map V.int) (some (c : Int)) none = (ns.drop c).map V.int := by
  unfold cutV
  rw [HT.sIx_none, HT.sIx_nat, lm_, Nat.min_eq_left h, <- List.map_drop]
  rw [List.take_of_length_le (by rw [lm_, List.length_drop]; omega)]
theorem dec_int (a b : Int) : decide (V.int a = V.int b) = decide (a = b) := by
  by_cases h : a = b
  · rw [decide_eq_true h, decide_eq_true (congrArg V.int h)]
  · rw [decide_eq_false h, decide_eq_false fun z => h (V.int.inj z)]
theorem slT {K : PySem.W.Frag} {H : Hp} {a : Addr} {xs : List V} {lo hi : Option Int} {Q : VK} (ha : H a = some (.tup xs)) (hq : ∀ c H', Same H H' -> H' c = some (.tup (cutV xs lo hi)) -> Q (.ref c) H') : rSl K (.ref a) lo hi H Q :=
  ⟨a, xs, rfl, .inr ⟨qT_ ha, fun e => hq a H (Same.refl _) (by rw [e]; exact ha), fun p hp => hq p _ (same_new hp _) upd_same⟩⟩
def Clo (rows : LL) (signs : LI) (wide : Nat) (sg q : Int) : Prop := ∃ f : Int, 0 < f /\ f < (wide : Int) /\ signs.getD (stepI rows q f).toNat 0 = sg
def figsI (wide : Nat) : LI := (List.range wide).map fun i : Nat => (i : Int)
def Goes (rows : LL) (signs : LI) (wide : Nat) (sg q : Int) : Prop := ∃ row : LI, (∀ f ∈ row, 0 <= f /\ f < (wide : Int)) /\ Clo rows signs wide sg (walkI rows row q)
theorem figs_mem {wide : Nat} {f : Int} : f ∈ figsI wide ↔ 0 <= f /\ f < (wide : Int) := by
  unfold figsI
  rw [List.mem_map]
  constructor
  · rintro ⟨n, hn, rfl⟩
    have := List.mem_range.mp hn
    omega
  · rintro ⟨h0, h1⟩
    exact ⟨f.toNat, List.mem_range.mpr (by omega), by omega⟩
def spLiveC (K : PySem.W.Frag) : Sp := fun vs H Q _ => ∃ (m r g : Addr) (sg : Int) (many wide : Nat) (rows : LL) (signs : LI), vs = [.ref m, .int sg] /\ MachAt H m r g wide rows signs /\ RowsOk many wide rows /\ signs.length = many /\ (1 <= many /\ many <= 400) /\ (1 <= wide /\ wide <= 200) /\
  ∀ (D : Addr) (H' : Hp) (ks : LI), Same H H' -> H D = none -> H' D = some (.dK (kvT ks)) -> ks.Nodup -> (∀ q, q ∈ ks ↔ Reach wide rows 0 q /\ Goes rows signs wide sg q) -> Q (.ref D) H'
section
variable {P : Program} {w : World} {K : PySem.W.Frag} {mg : Str -> Option Value} {base : Heap} {f : Addr} {fd : FuncData} {dV : Value}
theorem sc_live_rooms : FnScope ["machine", "sign", "signs", "closing", "here", "row", "leading"] ["machine", "sign"] (defScope s_live_rooms) := ⟨rfl, rfl, rfl, by decide +kernel, rfl, by decide +kernel, by decide +kernel⟩
theorem bk_live_rooms_0 : BlkScope ["machine", "sign", "signs", "closing", "here", "row", "leading"] (defScope s_live_rooms) ["there", "sign", "signs"] [none, some 1, some 2] { kind := ScopeKind.function, names := [(".0", NameKind.local), ("there", NameKind.local), ("sign", NameKind.free), ("signs", NameKind.free)], isGenerator := false, isCoroutine := false, more := [] } := ⟨rfl, by decide +kernel, by decide +kernel, by decide +kernel, by decide +kernel, rfl, by decide +kernel⟩
theorem bk_live_rooms_1 : BlkScope ["machine", "sign", "signs", "closing", "here", "row", "leading"] (defScope s_live_rooms) ["here", "leading"] [none, some 6] { kind := ScopeKind.function, names := [(".0", NameKind.local), ("here", NameKind.local), ("leading", NameKind.free)], isGenerator := false, isCoroutine := false, more := [] } := ⟨rfl, by decide +kernel, by decide +kernel, by decide +kernel, by decide +kernel, rfl, by decide +kernel⟩
theorem ok_liveC (F : FunD K "live_rooms" "live_rooms" s_live_rooms dV f fd) (G_rooms_leading_to : DefOk P w K mg base "rooms_leading_to" 1 ["machine", "goals", "taken"] [] (spLeadC K)) (G_reached_rooms_d : DefOk P w K mg base "reached_rooms" 1 ["machine", "start"] [.int 0] (spReached K))
    (z_enumerate : mg "enumerate" = none) (z_any : mg "any" = none) (z_dict : mg "dict" = none) (z_tuple : mg "tuple" = none) (z_range : mg "range" = none) : FnOk P w K mg base CX0 2 f fd ["machine", "sign"] (spLiveC K) := by
  refine F.ok sc_live_rooms (fun vs H Q E h => ?_) (fun cdv A outer s H vs Q E hr h => ?_)
  · obtain ⟨m, r, g, sg, many, wide, rows, signs, rfl, _⟩ := h
    rfl
  obtain ⟨m, r, g, sg, many, wide, rows, signs, rfl, M, R, lsg, ⟨n0, n1⟩, ⟨w0, w1⟩, k⟩ := h
  obtain ⟨ras, hr', hA⟩ := M.rows
  have hu := hu_of hr
  refine ⟨_, (pss_cons (ps_set (i := 2) sc_live_rooms.nd rfl (Or.inr rfl) (pe_ix ix_tup (pv 0) pe_int (fun _ _ => rfl)))
      (pss_cons (ps_set (i := 3) sc_live_rooms.nd rfl (Or.inl rfl) (pe_lst pa_nil))
      (pss_cons (ps_for PassesOwn.never rfl (pi_enumT rfl z_enumerate (pa_cons (pe_ix ix_tup (pv 0) pe_int (fun _ _ => rfl)) pa_nil)) (pg_tup rfl (pgs_cons (pg_name (i := 4) sc_live_rooms.nd rfl (Or.inl rfl)) (pgs_cons (pg_name (i := 5) sc_live_rooms.nd rfl (Or.inl rfl)) pgs_nil))) (pss_one (ps_if (pt_val (pe_callB (call_any rfl) (by rfl) z_any bt_any (pa_cons (pe_comp rfl bk_live_rooms_0 (pi_tup (pe_slice sl_seq (pv 5) (po_some pe_int) po_none)) (fun _ _ _ _ => (pg_name (i := 0) bk_live_rooms_0.nd rfl (Or.inl rfl))) (fun _ _ _ _ => (pe_cmpR op_eq (pe_ix (ix_tupK K) (pv 2) (pv 0) (fun _ _ => rfl)) (pv 1) (nomark _)))) pa_nil))) (pss_one (ps_expr (pe_bm PySem.F.plainAttrs_list PySem.F.slot_list_append PySem.F.type_list_append mt_append (pv 3) (pa_cons (pv 4) pa_nil)))) pss_nil)))
      (pss_cons (ps_set (i := 6) sc_live_rooms.nd rfl (Or.inr rfl) (pe_cd G_rooms_leading_to hr (pa_cons (pv 0) (pa_cons (pv 3) (pa_cons (pe_tupRng rfl rfl z_tuple rfl z_range (pa_cons (pe_ix ix_tup (pv 0) pe_int (fun _ _ => rfl)) pa_nil)) pa_nil)))))
      (pss_one (ps_ret (pe_callTy (call_dictOf rfl) (by rfl) z_dict bt_dict (pa_cons (pe_compI rfl bk_live_rooms_1 (pi_list (pe_cd G_reached_rooms_d hr (pa_cons (pv 0) pa_nil))) (fun _ _ _ _ => (pg_name (i := 0) bk_live_rooms_1.nd rfl (Or.inl rfl))) (fun _ _ _ _ => (pt_cmp (pc_din hu (pv 0) (pv 1)) (by with_unfolding_all rfl))) (fun _ _ _ _ => (pe_tup (pa_cons (pv 0) (pa_cons pe_bl pa_nil))))) pa_nil)))))))), ?_⟩
  refine ⟨_, rfl, m, _, _, _, rfl, rfl, qT_ M.tup, rfl, ?_⟩
  refine ⟨(by show 0 <= sizeLine; decide), fun C hC => ?_⟩
  have sC := same_new hC (HO.lst [])
  try dsimp only [gName]
  refine cut_G (t := tFor _ _ _) (fun σ' H' => ∃ (cl : LI) (v1 v2 : OV), σ' = [some (.ref m), some (.int sg), some (.ref g), some (.ref C), v1, v2, none] /\ Same H H' /\ H' C = some (.lst (cl.map V.int)) /\ cl.Nodup /\ (∀ q ∈ cl, (0 <= q /\ q < (many : Int)) /\ Clo rows signs wide sg q) /\ (∀ q : Nat, q < many -> Clo rows signs wide sg q -> (q : Int) ∈ cl)) ?_ (fun D' nxt => ?_)
  rotate_left
  · refine ⟨_, rfl, m, _, _, _, rfl, rfl, qT_ (sC _ _ M.tup), rfl, r, rfl, ⟨_, qT_ (sC _ _ hr')⟩, for_enumT (K := K) (xs := ras.map V.ref) (fun i σ' H' => ∃ (cl : LI) (v1 v2 : OV), σ' = [some (.ref m), some (.int sg), some (.ref g), some (.ref C), v1, v2, none] /\ Same H H' /\ H' C = some (.lst (cl.map V.int)) /\ cl.Nodup /\ (∀ q ∈ cl, (0 <= q /\ q < (i : Int)) /\ Clo rows signs wide sg q) /\ (∀ q : Nat, q < i -> Clo rows signs wide sg q -> (q : Int) ∈ cl))
      ⟨[], none, none, rfl, sC, upd_same, List.Pairwise.nil, (fun q h => by cases h), (fun q h => by omega)⟩ (fun i σ' H' _ ⟨_, _, _, _, e, _⟩ => qT_ (e _ _ hr')) ?_ ?_⟩
    · rintro i y σ' H1 T hi ⟨cl, v1, v2, rfl, s1, hC1, nd1, cl1, cm1⟩ hT
      have il : i < rows.length := by
        have := (gi_ hi).1
        rw [lm_, hA.length] at this
        exact this
      obtain ⟨ra, e1, e2⟩ := hA.get il
      have ey : y = .ref ra := by rw [List.getElem?_map, e1] at hi; exact (Option.some.inj hi).symm
      subst ey
      have im : i < many := by rw [<- R.len]; exact il
      have lrow : rows[i].length = wide := R.row _ (List.getElem_mem il)
      have sT := same_new hT (HO.tup [V.int i, V.ref ra])
      have few := few_below many nd1 (fun q hq => by have := (cl1 q hq).1; omega)
      have wk : ∀ q ∈ cl, (0 <= q /\ q < ((i + 1 : Nat) : Int)) /\ Clo rows signs wide sg q := fun q hq => ⟨⟨(cl1 q hq).1.1, by have := (cl1 q hq).1.2; omega⟩, (cl1 q hq).2⟩
      refine ⟨T, _, rfl, qT_ upd_same, rfl, _, _, rfl, _, _, rfl, rfl, ?_⟩
      refine ⟨_, rfl, _, rfl, ?_⟩
      dsimp only [tNoPart]
      refine slT (lo := some ((1 : Nat) : Int)) (hi := none) (sT _ _ (s1 _ _ e2)) (fun c H3 s3 hc => ?_)
      rw [cut_tail (by omega)] at hc
      have s13 := s1.trans (sT.trans s3)
      refine ⟨c, rfl, ⟨_, qT_ hc⟩, ?_⟩
      refine comp_tup (K := K) (xs := (rows[i].drop 1).map V.int) (fun D j ys H' => Same H3 H' /\ ys = (((rows[i].drop 1).take j).map fun t => decide (signs.getD t.toNat 0 = sg)).map V.bl) (fun D hD => ⟨same_new hD _, rfl⟩) (fun D j ys H' _ ⟨e, _⟩ => qT_ (e _ _ hc)) ?_ ?_
      · rintro D j y ys H4 Q' hD hj hy ⟨s4, rfl⟩ k'
        obtain ⟨t, rfl, ht⟩ := ints_at hj
        have tin := R.val _ (List.getElem_mem il) t (List.mem_of_mem_drop (mq_ ht))
        refine ⟨_, rfl, _, rfl, g, _, _, _, rfl, rfl, qT_ (s4 _ _ (s13 _ _ M.sgn)), atI_ints tin.1 (by omega), _, rfl, rfl, k' _ _ hy (small1000 (by rw [lm_, lm_, List.length_take, List.length_drop]; omega)) ⟨same_upd s4 hD, ?_⟩⟩
        rw [List.take_add_one, ht, List.map_append, List.map_append]
        show _ ++ [V.bl (decide (V.int (signs.getD t.toNat 0) = V.int sg))] = _
        rw [dec_int]
        rfl
      rintro D ys H4 fD hD ⟨s4, rfl⟩
      rw [lm_, List.take_length] at hD
      refine ⟨D, _, rfl, qL_ hD, ?_⟩
      have s14 := s13.trans s4
      have hC4 := s4 _ _ (s3 _ _ (sT _ _ hC1))
      refine ⟨_, rfl, ite2 (fun c => ?_) (fun c => ?_)⟩
      · refine ⟨_, rfl, .inl ⟨rfl, _, qL_ hC4⟩, _, rfl, C, _, _, rfl, rfl, hC4, small1000 (by rw [lm_]; omega), ?_⟩
        refine ⟨cl ++ [(i : Int)], _, _, rfl, same_upd s14 hC, by rw [upd_same, List.map_append]; rfl, nd_snoc nd1 fun z => by have := (cl1 _ z).1; omega, fun q hq => ?_, fun q hq hc' => ?_⟩
        · rcases ma_.mp hq with z | z
          · exact wk q z
          rw [List.mem_singleton.mp z]
          refine ⟨⟨by omega, by omega⟩, ?_⟩
          rw [List.any_map] at c
          obtain ⟨t, ht, et⟩ := List.any_eq_true.mp c
          obtain ⟨j, hj⟩ := List.mem_iff_getElem?.mp ht
          rw [List.getElem?_drop] at hj
          have jl := (gi_ hj).1
          refine ⟨((1 + j : Nat) : Int), by omega, by omega, ?_⟩
          unfold stepI
          rw [Int.toNat_natCast, getD_at il, Int.toNat_natCast, getD_at jl, (gi_ hj).2]
          exact of_decide_eq_true et
        · rcases Nat.lt_or_ge q i with z | z
          · exact List.mem_append_left _ (cm1 q z hc')
          · exact List.mem_append_right _ (by rw [show q = i by omega]; exact List.mem_cons_self)
      · refine ⟨cl, _, _, rfl, s14, hC4, nd1, wk, fun q hq hc' => ?_⟩
        rcases Nat.lt_or_ge q i with z | z
        · exact cm1 q z hc'
        · have : q = i := by omega
          subst this
          obtain ⟨fg, f0, f1, fs⟩ := hc'
          obtain ⟨n, rfl⟩ := nat_of (show 0 <= fg by omega)
          exfalso
          apply c
          rw [List.any_map]
          refine List.any_eq_true.mpr ⟨rows[q][n]'(by omega), ?_, ?_⟩
          · refine List.mem_iff_getElem?.mpr ⟨n - 1, ?_⟩
            rw [List.getElem?_drop, show 1 + (n - 1) = n by omega, List.getElem?_eq_getElem]
          · unfold stepI at fs
            rw [Int.toNat_natCast, getD_at il, Int.toNat_natCast, getD_at (show n < rows[q].length by omega)] at fs
            exact decide_eq_true fs
    · rintro σ' H1 ⟨cl, v1, v2, rfl, s1, hC1, nd1, cl1, cm1⟩
      rw [lm_, hA.length, R.len] at cl1 cm1
      exact nxt _ _ ⟨cl, _, _, rfl, s1, hC1, nd1, cl1, cm1⟩
  rintro σ' H1 ⟨cl, v1, v2, rfl, s1, hC1, nd1, cl1, cm1⟩
  have M1 := M.same fun b xs e => s1 _ _ e
  refine ⟨_, rfl, _, rfl, _, rfl, m, _, _, _, rfl, rfl, qT_ M1.tup, rfl, wide, rfl, Nat.le_of_lt (small1000 (by omega)), fun tk htk => ?_⟩
  have s2 := same_new htk (HO.tup ((List.range wide).map fun i : Nat => V.int i))
  have htk2 : (upd H1 tk (HO.tup ((List.range wide).map fun i : Nat => V.int i))) tk = some (.tup ((figsI wide).map V.int)) := by
    rw [upd_same]
    unfold figsI
    rw [List.map_map]
    rfl
  refine ⟨m, r, g, C, tk, many, wide, rows, signs, cl, figsI wide, rfl, M1.same fun b xs e => s2 _ _ e, R, ⟨n0, n1⟩, ⟨w0, by omega⟩, s2 _ _ hC1, nd1, fun q hq => (cl1 q hq).1, htk2, by unfold figsI; rw [lm_, List.length_range]; omega, fun f hf => ?_, fun L H3 ls s3 fL hL ndl hls hlc => ?_⟩
  · unfold figsI at hf
    obtain ⟨n, hn, rfl⟩ := List.mem_map.mp hf
    have := List.mem_range.mp hn
    omega
  try dsimp only [gName]
  have s13 := s1.trans (s2.trans s3)
  refine ⟨_, rfl, m, r, g, 0, many, wide, rows, signs, rfl, ⟨by omega, by omega⟩, M.same fun b xs e => s13 _ _ e, R, ⟨n0, by omega⟩, fun l H4 qs s4 hl B => ?_⟩
  have hL4 := s4 _ _ hL
  refine ⟨l, rfl, ⟨_, qL_ hl⟩, ?_⟩
  refine comp_listI (K := K) (xs := qs.map V.int) (fun D i ys H' => Same H4 H' /\ ∃ ts, ys = ts.map V.ref /\ PairsV H' ts (kvT ((qs.take i).filter fun q => decide (q ∈ ls)))) (fun D hD => ⟨same_new hD _, [], rfl, .nil⟩) (fun D i ys H' _ ⟨e, _⟩ => qL_ (e _ _ hl)) ?_ ?_
  · rintro D i y ys H' Qy Qn hD hi hy ⟨hs, ts, rfl, pv⟩ ky kn
    obtain ⟨q, rfl, hq⟩ := ints_at hi
    have il : i < qs.length := (gi_ hq).1
    have lq := few_below many B.nd B.inr
    refine ⟨_, rfl, _, rfl, L, _, rfl, DGet.k (k := Sum.inl q) (hs _ _ hL4), _, rfl, ?_⟩
    rw [kvT_val]
    refine iteD (fun c => ?_) (fun c => ?_)
    · refine ⟨_, rfl, (by show 2 <= sizeLine; decide), fun T hT => ?_⟩
      have nD : D ≠ T := ne_of_none hy hT
      have lts : ts.length <= i := by
        rw [Paired.length pv]
        unfold kvT
        rw [lm_]
        exact Nat.le_trans (List.length_filter_le _ _) (by rw [List.length_take]; omega)
      refine ky _ _ (by rw [upd_ne nD]; exact hy) (small1000 (by rw [lm_]; omega)) ⟨same_upd (same_upd hs (hs.free hT)) hD, ts ++ [T], by rw [List.map_append]; rfl, ?_⟩
      rw [filt_yes hq (decide_eq_true c), kvT_snoc]
      exact pair_step hy hT pv
    · refine kn _ hy ⟨hs, ts, rfl, ?_⟩
      rw [filt_no hq (decide_eq_false c)]
      exact pv
  rintro L2 ys H5 fL2 hL2 ⟨s5, ts, rfl, pv⟩
  rw [lm_, List.take_length] at pv
  refine ⟨L2, ts, _, rfl, hL2, pv, fun D hD => ?_⟩
  have ndf : (qs.filter fun q => decide (q ∈ ls)).Nodup := B.nd.filter _
  rw [merge_kvT ndf]
  have s45 := s13.trans (s4.trans s5)
  refine k D _ _ (s45.trans (same_new hD _)) (s45.free hD) upd_same ndf fun q => ?_
  rw [List.mem_filter, B.re q]
  constructor
  · rintro ⟨h1, h2⟩
    refine ⟨h1, ?_⟩
    obtain ⟨row, hr1, hr2⟩ := (hls q (of_decide_eq_true h2)).2
    exact ⟨row, fun f hf => figs_mem.mp (hr1 f hf), (cl1 _ hr2).2⟩
  · rintro ⟨h1, row, hr1, hr2⟩
    refine ⟨h1, decide_eq_true ?_⟩
    have qin : 0 <= q /\ q < (many : Int) := B.inr q ((B.re q).mpr h1)
    refine hlc q qin.1 qin.2 ⟨row, fun f hf => figs_mem.mpr (hr1 f hf), ?_⟩
    have win := walkI_ok R hr1 qin.1 qin.2
    obtain ⟨n, en⟩ := nat_of win.1
    rw [en] at hr2 ⊢
    exact cm1 n (by omega) hr2
end
def kvF (ks : LI) (F : Int -> Int) : List (Key × V) := ks.map fun q => (Sum.inl q, V.int (F q))
theorem kvF_val (F : Int -> Int) : ∀ {ks : LI} {q : Int}, q ∈ ks -> valV (kvF ks F) (Sum.inl q) = some (V.int (F q))
  | [], _, h => by cases h
  | k :: ks, q, h => by
    by_cases e : k = q
    · subst e
      exact valV_pos rfl
    · rw [show kvF (k :: ks) F = (Sum.inl k, V.int (F k)) :: kvF ks F from rfl, valV_neg (fun z => e (Sum.inl.inj z))]
      rcases List.mem_cons.mp h with z | z
      · exact absurd z.symm e
      · exact kvF_val F z
theorem kvF_none (F : Int -> Int) : ∀ {ks : LI} {q : Int}, q ∉ ks -> valV (kvF ks F) (Sum.inl q) = none
  | [], _, _ => rfl
  | k :: ks, q, h => by
    rw [show kvF (k :: ks) F = (Sum.inl k, V.int (F k)) :: kvF ks F from rfl, valV_neg (fun z => h (by rw [<- Sum.inl.inj z]; exact List.mem_cons_self))]
    exact kvF_none F fun z => h (List.mem_cons_of_mem _ z)
theorem kvF_isSome (F : Int -> Int) (ks : LI) (q : Int) : (valV (kvF ks F) (Sum.inl q)).isSome = decide (q ∈ ks) := by
  by_cases h : q ∈ ks
  · rw [kvF_val F h, decide_eq_true h]; rfl
  · rw [kvF_none F h, decide_eq_false h]; rfl
def setF (F : Int -> Int) (q v : Int) : Int -> Int := fun p => if p = q then v else F p
theorem kvF_old {F : Int -> Int} {ks : LI} {q v : Int} (h : q ∈ ks) : putK (kvF ks F) (Sum.inl q) (V.int v) = kvF ks (setF F q v) := by
  unfold putK
  rw [if_pos (by rw [valV_any, kvF_val F h]; rfl)]
  unfold kvF
  rw [List.map_map]
  refine List.map_congr_left fun p _ => ?_
  unfold setF
  by_cases e : p = q
  · subst e
    simp
  · simp [e]
theorem kvF_new {F : Int -> Int} {ks : LI} {q v : Int} (h : q ∉ ks) : putK (kvF ks F) (Sum.inl q) (V.int v) = kvF (ks ++ [q]) (setF F q v) := by
  unfold putK
  rw [if_neg (by rw [valV_any, kvF_none F h]; decide)]
  unfold kvF setF
  rw [List.map_append]
  congr 1
  · refine List.map_congr_left fun p hp => ?_
    have e : p ≠ q := fun z => h (z ▸ hp)
    simp [e]
  · simp
theorem kvF_congr {F G : Int -> Int} {ks : LI} (h : ∀ q ∈ ks, F q = G q) : kvF ks F = kvF ks G := List.map_congr_left fun q hq => by rw [h q hq]
def onwI (rows : LL) (ks : LI) (h : Int) : LI := (onceI (rows.getD h.toNat [])).filter fun t => decide (t ∈ ks)
theorem onw_nd (rows : LL) (ks : LI) (h : Int) : (onwI rows ks h).Nodup := (once_nodup _).filter _
theorem onw_mem {rows : LL} {ks : LI} {h t : Int} : t ∈ onwI rows ks h ↔ t ∈ rows.getD h.toNat [] /\ t ∈ ks := by
  unfold onwI
  rw [List.mem_filter, once_mem]
  simp
def cntO (rows : LL) (ks pr : LI) (h : Int) : Nat := ((onwI rows ks h).filter fun t => !decide (t ∈ pr)).length
theorem rm_one {x : Int} : ∀ {l : LI}, l.Nodup -> (l.filter fun t => !decide (t = x)).length + (if x ∈ l then 1 else 0) = l.length
  | [], _ => rfl
  | y :: l, nd => by
    have nd' := List.nodup_cons.mp nd
    have ih := rm_one (x := x) nd'.2
    by_cases e : y = x
    · subst e
      rw [List.filter_cons_of_neg (by simp), if_pos List.mem_cons_self, List.length_cons]
      rw [if_neg nd'.1] at ih
      omega
    · rw [List.filter_cons_of_pos (by simp [e]), List.length_cons, List.length_cons]
      have : (x ∈ y :: l) ↔ x ∈ l := by simp [Ne.symm e]
      by_cases c : x ∈ l
      · rw [if_pos (this.mpr c)]
        rw [if_pos c] at ih
        omega
      · rw [if_neg (fun z => c (this.mp z))]
        rw [if_neg c] at ih
        omega
theorem cnt_step {rows : LL} {ks pr : LI} {h x : Int} (hx : x ∉ pr) : cntO rows ks (pr ++ [x]) h + (if x ∈ onwI rows ks h then 1 else 0) = cntO rows ks pr h := by
  have q := rm_one (x := x) ((onw_nd rows ks h).filter fun t => !decide (t ∈ pr))
  rw [List.filter_filter] at q
  have e1 : (onwI rows ks h).filter (fun t => !decide (t ∈ pr ++ [x])) = (onwI rows ks h).filter fun t => (!decide (t = x)) && !decide (t ∈ pr) := by
    refine List.filter_congr fun t _ => ?_
    by_cases a : t = x <;> by_cases b : t ∈ pr <;> simp [a, b]
  have e2 : (x ∈ (onwI rows ks h).filter fun t => !decide (t ∈ pr)) ↔ x ∈ onwI rows ks h := by
    rw [List.mem_filter]
    simp [hx]
  unfold cntO
  rw [e1]
  by_cases c : x ∈ onwI rows ks h
  · rw [if_pos c]
    rw [if_pos (e2.mpr c)] at q
    exact q
  · rw [if_neg c]
    rw [if_neg (fun z => c (e2.mp z))] at q
    exact q
theorem cnt_nil (rows : LL) (ks : LI) (h : Int) : cntO rows ks [] h = (onwI rows ks h).length := by
  unfold cntO
  rw [List.filter_eq_self.mpr fun t _ => by simp]
theorem cnt_pos {rows : LL} {ks pr : LI} {h : Int} (c : cntO rows ks pr h ≠ 0) : ∃ t ∈ rows.getD h.toNat [], t ∈ ks /\ t ∉ pr := by
  unfold cntO at c
  cases e : (onwI rows ks h).filter (fun t => !decide (t ∈ pr)) with
  | nil => rw [e] at c; exact absurd rfl c
  | cons t l =>
    have ht : t ∈ (onwI rows ks h).filter (fun t => !decide (t ∈ pr)) := by rw [e]; exact List.mem_cons_self
    have h1 := List.mem_filter.mp ht
    have h2 := onw_mem.mp h1.1
    exact ⟨t, h2.1, h2.2, by simpa using h1.2⟩
theorem nd_take {xs : LI} {j : Nat} {t : Int} (nd : xs.Nodup) (h : xs[j]? = some t) : t ∉ xs.take j := fun z => by
  obtain ⟨i, hi, e⟩ := List.getElem_of_mem z
  rw [List.getElem_take] at e
  have hj := (gi_ h).1
  have hij : i < j := by rw [List.length_take] at hi; omega
  have e2 : xs[j] = t := (gi_ h).2
  have := (List.getElem_inj nd).mp (e.trans e2.symm)
  omega
def PQ (R : Int -> Int -> Prop) : Int -> LI -> Prop := fun q ls => ls.Nodup /\ ∀ h, h ∈ ls ↔ R q h
theorem PQ.imp {R R' : Int -> Int -> Prop} (h : ∀ q h, R q h ↔ R' q h) {q : Int} {ls : LI} (p : PQ R q ls) : PQ R' q ls := ⟨p.1, fun x => (p.2 x).trans (h q x)⟩
theorem DGet.fz {H : Hp} {a : Addr} {o : Obj} {kvs : List (Key × V)} {k : Key} (e : H a = some (.frz o (.dK kvs))) : DGet H a (kV k) (valV kvs k) := .inl ⟨kvs, k, .inr ⟨o, e⟩, rfl, rfl⟩
theorem Same.held {H H1 : Hp} {a : Addr} {x : HO} (s : Same H H1) : Same (upd H a x) (upd H1 a x) := fun b u h => by
  by_cases e : b = a
  · subst e
    rw [upd_same] at h ⊢
    exact h
  · rw [upd_ne e] at h ⊢
    exact s _ _ h
theorem Same.melt {H H1 : Hp} {a : Addr} {x y : HO} (hy : H a = some y) (s : Same (upd H a x) H1) : Same H (upd H1 a y) := fun b u h => by
  by_cases e : b = a
  · subst e
    rw [upd_same]
    rw [hy] at h
    exact h
  · rw [upd_ne e]
    exact s _ _ (by rw [upd_ne e]; exact h)
theorem seq_const {v : V} {i : Nat} {u : TS} {D : Ends} {σ : St} {H : Hp} (h : u D (σ.set i (some v)) H) : tSeq (tAsg (tC v) (gName i)) u D σ H := h
structure HtOk (rows : LL) (ks pr : LI) (hf : Int -> Int) : Prop where
  nn : ∀ q ∈ pr, 0 <= hf q
  dn : ∀ q ∈ pr, ∀ t ∈ onwI rows ks q, t ∈ pr /\ hf t < hf q
  nx : ∀ q ∈ pr, 0 < hf q -> ∃ t ∈ onwI rows ks q, t ∈ pr /\ hf t = hf q - 1
theorem cnt_zero {rows : LL} {ks pr : LI} {h : Int} (c : cntO rows ks pr h = 0) : ∀ t ∈ onwI rows ks h, t ∈ pr := fun t ht => by
  unfold cntO at c
  refine Classical.byContradiction fun n => ?_
  have : t ∈ (onwI rows ks h).filter fun t => !decide (t ∈ pr) := List.mem_filter.mpr ⟨ht, by simp [n]⟩
  rw [List.length_eq_zero_iff.mp c] at this
  cases this
def spHeightC (K : PySem.W.Frag) : Sp := fun vs H Q _ => ∃ (r lv : Addr) (many wide : Nat) (ras : List Addr) (rows : LL) (ks : LI), vs = [.ref r, .ref lv] /\ H r = some (.tup (ras.map V.ref)) /\ RowsAt H ras rows /\ RowsOk many wide rows /\ (1 <= many /\ many <= 60) /\ wide <= 200 /\
  H lv = some (.dK (kvT ks)) /\ ks.Nodup /\ (∀ q ∈ ks, 0 <= q /\ q < (many : Int)) /\
  ∀ (D : Addr) (H' : Hp) (hs : LI) (hf : Int -> Int), Same H H' -> H D = none -> H' D = some (.dK (kvF hs hf)) -> (∀ q ∈ hs, q ∈ ks) -> HtOk rows ks hs hf -> (∀ q ∈ ks, q ∉ hs -> ∃ t ∈ rows.getD q.toNat [], t ∈ ks /\ t ∉ hs) -> Q (.ref D) H'
section
variable {P : Program} {w : World} {K : PySem.W.Frag} {mg : Str -> Option Value} {base : Heap} {f : Addr} {fd : FuncData} {dV : Value}
theorem sc_heights_of : FnScope ["rows", "live", "left", "back", "here", "onward", "there", "heights", "level", "high", "fresh"] ["rows", "live"] (defScope s_heights_of) := ⟨rfl, rfl, rfl, by decide +kernel, rfl, by decide +kernel, by decide +kernel⟩
theorem bk_heights_of_0 : BlkScope ["rows", "live", "left", "back", "here", "onward", "there", "heights", "level", "high", "fresh"] (defScope s_heights_of) ["there", "live"] [none, some 1] { kind := ScopeKind.function, names := [(".0", NameKind.local), ("there", NameKind.local), ("live", NameKind.free)], isGenerator := false, isCoroutine := false, more := [] } := ⟨rfl, by decide +kernel, by decide +kernel, by decide +kernel, by decide +kernel, rfl, by decide +kernel⟩
theorem bk_heights_of_1 : BlkScope ["rows", "live", "left", "back", "here", "onward", "there", "heights", "level", "high", "fresh"] (defScope s_heights_of) ["here", "left"] [none, some 2] { kind := ScopeKind.function, names := [(".0", NameKind.local), ("here", NameKind.local), ("left", NameKind.free)], isGenerator := false, isCoroutine := false, more := [] } := ⟨rfl, by decide +kernel, by decide +kernel, by decide +kernel, by decide +kernel, rfl, by decide +kernel⟩
theorem ok_heightC (F : FunD K "heights_of" "heights_of" s_heights_of dV f fd) (z_sorted : mg "sorted" = none) (z_set : mg "set" = none) (z_len : mg "len" = none) : FnOk P w K mg base CX0 1 f fd ["rows", "live"] (spHeightC K) := by
  refine F.ok sc_heights_of (fun vs H Q E h => ?_) (fun cdv A outer s H vs Q E hr h => ?_)
  · obtain ⟨r, lv, many, wide, ras, rows, ks, rfl, _⟩ := h
    rfl
  obtain ⟨r, lv, many, wide, ras, rows, ks, rfl, hr', hA, R, ⟨n0, n1⟩, w1, hlv, ndk, hk, k⟩ := h
  have hu := hu_of hr
  have kl := few_below many ndk hk
  refine ⟨_, (pss_cons (ps_set (i := 2) sc_heights_of.nd rfl (Or.inr rfl) pe_dnewK)
      (pss_cons (ps_set (i := 3) sc_heights_of.nd rfl (Or.inl rfl) pe_dnewK)
      (pss_cons (ps_for PassesOwn.never rfl (pi_dict (pv 1)) (pg_name (i := 4) sc_heights_of.nd rfl (Or.inl rfl)) (pss_cons (ps_setCompI (i := 5) rfl sc_heights_of.nd rfl (Or.inl rfl) bk_heights_of_0 (pi_list (pe_callB (call_sortedS rfl) (by rfl) z_sorted bt_sorted (pa_cons (pe_callTy ((call_setT rfl)) (by rfl) z_set bt_set (pa_cons (pe_ix ix_tup (pv 0) (pv 4) (fun _ _ => rfl)) pa_nil)) pa_nil))) (fun _ _ _ _ => (pg_name (i := 0) bk_heights_of_0.nd rfl (Or.inl rfl))) (fun _ _ _ _ => (pt_cmp (pc_din hu (pv 0) (pv 1)) (by with_unfolding_all rfl))) (fun _ _ _ _ => (pv 0)))
      (pss_cons (ps_dput hu (pv 2) (pv 4) (pe_callB call_len_seq (by rfl) z_len bt_len (pa_cons (pv 5) pa_nil)) rfl)
      (pss_one (ps_for PassesOwn.never rfl (pi_list (pv 5)) (pg_name (i := 6) sc_heights_of.nd rfl (Or.inl rfl)) (pss_one (ps_expr (pe_bm PySem.F.plainAttrs_list PySem.F.slot_list_append PySem.F.type_list_append mt_append (pe_dset (pv 3) (pv 6) (pe_lst pa_nil) ⟨rfl, rfl, rfl, rfl⟩) (pa_cons (pv 4) pa_nil)))))))))
      (pss_cons (ps_set (i := 7) sc_heights_of.nd rfl (Or.inl rfl) pe_dnewK)
      (pss_cons (ps_thaw (ps_setCompI (i := 8) rfl sc_heights_of.nd rfl (Or.inl rfl) bk_heights_of_1 (pi_dict (pv 1)) (fun _ _ _ _ => (pg_name (i := 0) bk_heights_of_1.nd rfl (Or.inl rfl))) (fun _ _ _ _ => (pt_cmpR op_eq (pe_dget hu (pv 1) (pv 0) (fun _ _ => rfl)) pe_int (nomark _))) (fun _ _ _ _ => (pv 0))))
      (pss_cons (ps_set (i := 9) sc_heights_of.nd rfl (Or.inl rfl) pe_int)
      (pss_cons (ps_while PassesOwn.never (pt_truth (pv 8) (fun _ => rfl)) (pss_cons (ps_set (i := 10) sc_heights_of.nd rfl (Or.inl rfl) (pe_lst pa_nil))
      (pss_cons (ps_for PassesOwn.never rfl (pi_list (pv 8)) (pg_name (i := 4) sc_heights_of.nd rfl (Or.inl rfl)) (pss_cons (ps_dput hu (pv 7) (pv 4) (pv 9) rfl)
      (pss_one (ps_for PassesOwn.never rfl (pi_seq (pe_dget2 hu (pv 3) (pv 4) (pe_tup pa_nil) ⟨rfl, rfl, rfl, rfl⟩)) (pg_name (i := 6) sc_heights_of.nd rfl (Or.inl rfl)) (pss_cons (ps_dput hu (pv 2) (pv 6) (pe_op op_sub (pe_dget hu (pv 2) (pv 6) (fun _ _ => rfl)) pe_int) rfl)
      (pss_one (ps_if (pt_cmpR op_eq (pe_dget hu (pv 2) (pv 6) (fun _ _ => rfl)) pe_int (nomark _)) (pss_one (ps_expr (pe_bm PySem.F.plainAttrs_list PySem.F.slot_list_append PySem.F.type_list_append mt_append (pv 10) (pa_cons (pv 6) pa_nil)))) pss_nil)))))))
      (pss_cons (ps_set (i := 8) sc_heights_of.nd rfl (Or.inl rfl) (pv 10))
      (pss_one (ps_set (i := 9) sc_heights_of.nd rfl (Or.inl rfl) (pe_op op_add (pv 9) pe_int)))))))
      (pss_one (ps_ret (pv 7)))))))))), ?_⟩
  refine fun Lf hLf => ?_
  have sLf := same_new hLf (HO.dK [])
  refine fun B hB => ?_
  have fB : H B = none := sLf.free hB
  have nLB : Lf ≠ B := fun z => by rw [<- z, upd_same] at hB; cases hB
  have s0 := sLf.trans (same_new hB (HO.dK []))
  try dsimp only [gName]
  have nlL : lv ≠ Lf := ne_of_none hlv hLf
  have nlB : lv ≠ B := ne_of_none hlv fB
  have at0 : (upd (upd H Lf (HO.dK [])) B (HO.dK [])) lv = some (.dK (kvT ks)) := s0 _ _ hlv
  refine cut_G (t := tFor _ _ _) (fun σ' H' => ∃ (o : Obj) (es : List (Int × Addr)) (v4 v5 v6 : OV), σ' = [some (.ref r), some (.ref lv), some (.ref Lf), some (.ref B), v4, v5, v6, none, none, none, none] /\ Same (upd H lv (.frz o (.dK (kvT ks)))) H' /\ H' Lf = some (.dK (kvF ks fun h => (onwI rows ks h).length)) /\ BackOk (upd H lv (.frz o (.dK (kvT ks)))) H' B es (PQ fun q h => h ∈ ks /\ q ∈ onwI rows ks h)) ?_ (fun D' nxt => ?_)
  rotate_left
  · refine ⟨_, rfl, lv, kvT ks, rfl, .inl ⟨at0, fun o => ?_⟩⟩
    have sz : Same (upd H lv (.frz o (.dK (kvT ks)))) (upd (upd (upd H Lf (HO.dK [])) B (HO.dK [])) lv (.frz o (.dK (kvT ks)))) := Same.held s0
    obtain ⟨Hz, eHz⟩ : ∃ Hz, upd H lv (.frz o (.dK (kvT ks))) = Hz := ⟨_, rfl⟩
    obtain ⟨H1, eH1⟩ : ∃ H1, upd (upd (upd H Lf (HO.dK [])) B (HO.dK [])) lv (.frz o (.dK (kvT ks))) = H1 := ⟨_, rfl⟩
    rw [eHz, eH1] at sz
    rw [eH1]
    have zlv : Hz lv = some (.frz o (.dK (kvT ks))) := by rw [<- eHz, upd_same]
    have zLf : Hz Lf = none := by rw [<- eHz, upd_ne (Ne.symm nlL)]; exact hLf
    have zB : Hz B = none := by rw [<- eHz, upd_ne (Ne.symm nlB)]; exact fB
    have zt : ∀ b xs, H b = some (.tup xs) -> Hz b = some (.tup xs) := fun b xs e => by rw [<- eHz, upd_ne (ne_of e hlv (by intro z; cases z))]; exact e
    have zr := zt _ _ hr'
    have zA : RowsAt Hz ras rows := hA.same zt
    have h1L : H1 Lf = some (.dK (kvF (ks.take 0) fun h => (onwI rows ks h).length)) := by rw [<- eH1, upd_ne (Ne.symm nlL), upd_ne nLB, upd_same]; rfl
    have h1B : H1 B = some (.dK []) := by rw [<- eH1, upd_ne (Ne.symm nlB), upd_same]
    refine for_dict (o := o) (kvs := kvT ks) (fun i σ' H' => ∃ (es : List (Int × Addr)) (v4 v5 v6 : OV), σ' = [some (.ref r), some (.ref lv), some (.ref Lf), some (.ref B), v4, v5, v6, none, none, none, none] /\ Same Hz H' /\ H' Lf = some (.dK (kvF (ks.take i) fun h => (onwI rows ks h).length)) /\ (∀ e ∈ es, 0 <= e.1 /\ e.1 < (many : Int)) /\ BackOk Hz H' B es (PQ fun q h => h ∈ ks.take i /\ q ∈ onwI rows ks h))
      ⟨[], none, none, none, rfl, sz, h1L, (fun e h => by cases h), ⟨h1B, List.Pairwise.nil, List.Pairwise.nil, (fun e h => by cases h), (fun e h => by cases h), fun q _ => ⟨List.Pairwise.nil, fun h => ⟨(fun z => by cases z), fun z => by simp at z⟩⟩⟩⟩ (fun i σ' H' _ ⟨_, _, _, _, _, e, _⟩ => e _ _ zlv) ?_ ?_
    · rintro i p σ' H2 hi ⟨es, v4, v5, v6, rfl, s2, hL2, kr2, b2⟩
      obtain ⟨here, rfl, hz⟩ : ∃ here, p = (Sum.inl here, V.bl true) /\ ks[i]? = some here := by
        unfold kvT at hi
        rw [List.getElem?_map] at hi
        obtain ⟨q, h1, h2⟩ := Option.map_eq_some_iff.mp hi
        exact ⟨q, h2.symm, h1⟩
      have hin := hk here (mq_ hz)
      have il : i < ks.length := (gi_ hz).1
      have l1 : here.toNat < rows.length := by rw [R.len]; omega
      obtain ⟨ra, e1, e2⟩ := zA.get l1
      have lr : rows[here.toNat].length = wide := R.row _ (List.getElem_mem l1)
      have nhere := nd_take ndk hz
      show _
      refine ⟨_, rfl, _, rfl, r, _, _, _, rfl, rfl, qT_ (s2 _ _ zr), atI_refs hin.1 e1, ra, rows[here.toNat], rfl, qT_ (s2 _ _ e2), by omega, fun S hS => ?_⟩
      have sS := same_new hS (SetAt P w S (onceI rows[here.toNat]))
      have ol := few_below many (once_nodup rows[here.toNat]) fun q hq => R.val _ (List.getElem_mem l1) q (once_mem.mp hq)
      refine ⟨S, _, rfl, upd_same, by omega, fun l ms hl perm _ => ?_⟩
      have sl := same_new hl (HO.lst (ms.map V.int))
      have s24 := s2.trans (sS.trans sl)
      have zl : Hz l = none := s2.free (sS.free hl)
      obtain ⟨H4, eH4⟩ : ∃ H4, upd (upd H2 S (SetAt P w S (onceI rows[here.toNat]))) l (HO.lst (ms.map V.int)) = H4 := ⟨_, rfl⟩
      have hl4 : H4 l = some (.lst (ms.map V.int)) := by rw [<- eH4, upd_same]
      have s4 : Same H2 H4 := by rw [<- eH4]; exact sS.trans sl
      refine ⟨l, rfl, ⟨_, qL_ upd_same⟩, ?_⟩
      show CompWI _ _ _ _ _ _ (upd (upd H2 S (SetAt P w S (onceI rows[here.toNat]))) l (HO.lst (ms.map V.int))) _
      rw [eH4]
      have lm : ms.length <= 60 := by
        rw [perm.length_eq]
        omega
      refine comp_listI (K := K) (xs := ms.map V.int) (fun D j ys H' => Same H4 H' /\ ys = ((ms.take j).filter fun t => decide (t ∈ ks)).map V.int) (fun D hD => ⟨same_new hD _, rfl⟩) (fun D j ys H' _ ⟨e, _⟩ => qL_ (e _ _ hl4)) ?_ ?_
      · rintro D j y ys H' Qy Qn hD hj hy ⟨hs, rfl⟩ ky kn
        obtain ⟨t, rfl, ht⟩ := ints_at hj
        refine ⟨_, rfl, _, rfl, lv, _, rfl, DGet.fz (k := Sum.inl t) (hs _ _ (s4 _ _ (s2 _ _ zlv))), _, rfl, ?_⟩
        rw [kvT_val]
        refine iteD (fun c => ?_) (fun c => ?_)
        · refine ⟨_, rfl, ky _ _ hy (small1000 (by rw [lm_]; have := List.length_filter_le (fun t => decide (t ∈ ks)) (ms.take j); rw [List.length_take] at this; omega)) ⟨same_upd hs hD, ?_⟩⟩
          rw [filt_yes ht (decide_eq_true c), List.map_append]
          rfl
        · refine kn _ hy ⟨hs, ?_⟩
          rw [filt_no ht (decide_eq_false c)]
      rintro O ys H5 fO hO ⟨s5, rfl⟩
      rw [lm_, List.take_length] at hO
      obtain ⟨ow, eow⟩ : ∃ ow, ms.filter (fun t => decide (t ∈ ks)) = ow := ⟨_, rfl⟩
      rw [eow] at hO
      have permO : ow.Perm (onwI rows ks here) := by
        rw [<- eow]
        unfold onwI
        rw [getD_at l1]
        exact perm.filter _
      have ndO : ow.Nodup := permO.nodup_iff.mpr (onw_nd rows ks here)
      have memO : ∀ t, t ∈ ow ↔ t ∈ onwI rows ks here := fun t => permO.mem_iff
      have s25 : Same H2 H5 := s4.trans s5
      have zO : Hz O = none := s2.free (s4.free fO)
      have b5 := b2.same s25
      have hL5 := s25 _ _ hL2
      try dsimp only [gName]
      have lt : (kvF (ks.take i) fun h => ((onwI rows ks h).length : Int)).length < sizeLine := small1000 (by unfold kvF; rw [lm_, List.length_take]; omega)
      refine ⟨_, rfl, O, _, rfl, .inl (qL_ hO), _, rfl, _, rfl, Lf, _, rfl, DPut.k (k := Sum.inl here) hL5 lt, ?_⟩
      have e6 : putK (kvF (ks.take i) fun h => ((onwI rows ks h).length : Int)) (Sum.inl here) (V.int ((ow.map V.int).length : Nat)) = kvF (ks.take (i + 1)) fun h => ((onwI rows ks h).length : Int) := by
        rw [kvF_new nhere, List.take_add_one, hz]
        refine kvF_congr fun q hq => ?_
        unfold setF
        split
        · next e => rw [e, lm_, permO.length_eq]
        · rfl
      rw [e6]
      have nOL : O ≠ Lf := ne_of hO hL5 (by intro z; cases z)
      have nBL : B ≠ Lf := fun z => nLB z.symm
      have neL : ∀ e ∈ es, e.2 ≠ Lf := fun e he z => by
        obtain ⟨ls, h1, _⟩ := b5.lst e he
        rw [z, hL5] at h1
        cases h1
      obtain ⟨H6, eH6⟩ : ∃ H6, upd H5 Lf (HO.dK (kvF (ks.take (i + 1)) fun h => ((onwI rows ks h).length : Int))) = H6 := ⟨_, rfl⟩
      have hO6 : H6 O = some (.lst (ow.map V.int)) := by rw [<- eH6, upd_ne nOL]; exact hO
      have hL6 : H6 Lf = some (.dK (kvF (ks.take (i + 1)) fun h => ((onwI rows ks h).length : Int))) := by rw [<- eH6, upd_same]
      have s6 : Same Hz H6 := by rw [<- eH6]; exact same_upd (s2.trans s25) zLf
      have b6 : BackOk Hz H6 B es (PQ fun q h => h ∈ ks.take i /\ q ∈ onwI rows ks h) := b5.keep (by rw [<- eH6, upd_ne nBL]) fun e he => by rw [<- eH6, upd_ne (neL e he)]
      rw [eH6]
      refine ⟨_, rfl, O, rfl, ⟨_, qL_ hO6⟩, for_list (K := K) (xs := ow.map V.int) (fun j σ' H' => ∃ (es : List (Int × Addr)) (v6 : OV), σ' = [some (.ref r), some (.ref lv), some (.ref Lf), some (.ref B), some (.int here), some (.ref O), v6, none, none, none, none] /\ Same Hz H' /\ H' O = some (.lst (ow.map V.int)) /\ H' Lf = some (.dK (kvF (ks.take (i + 1)) fun h => ((onwI rows ks h).length : Int))) /\ (∀ e ∈ es, 0 <= e.1 /\ e.1 < (many : Int)) /\ (∀ e ∈ es, e.2 ≠ O) /\ (∀ e ∈ es, e.2 ≠ Lf) /\ BackOk Hz H' B es (PQ fun q h => (h ∈ ks.take i /\ q ∈ onwI rows ks h) \/ (h = here /\ q ∈ ow.take j)))
        ⟨es, v6, rfl, s6, hO6, hL6, kr2, ?_, neL, b6.weak fun q ls z => z.imp fun q h => by simp⟩ (fun i σ' H' _ ⟨_, _, _, _, e, _⟩ => qL_ e) ?_ ?_⟩
      · intro e he z
        obtain ⟨ls, h1, _⟩ := b2.lst e he
        have := s4.free fO
        rw [<- z, h1] at this
        cases this
      · rintro j y σ' H7 hj ⟨es, v6, rfl, s7, hO7, hL7, kr7, nO7, nL7, b7⟩
        obtain ⟨t, rfl, ht⟩ := ints_at hj
        have tO := mq_ ht
        have tk := (onw_mem.mp ((memO t).mp tO)).2
        have ntake := nd_take ndO ht
        refine ⟨_, rfl, B, rfl, .inl ⟨_, .inl b7.at_⟩, _, rfl, (by show 0 <= sizeLine; decide), fun L hL => ?_⟩
        have sL := same_new hL (HO.lst [])
        have b8 := b7.same sL
        have nL : ∀ e ∈ es, e.2 ≠ L := fun e he z => by
          obtain ⟨ls, h1, _⟩ := b7.lst e he
          rw [z, hL] at h1
          cases h1
        have nBL' : B ≠ L := ne_of_none b7.at_ hL
        have zL : Hz L = none := s7.free hL
        have few := few_below many b8.nd (fun q hq => by
          obtain ⟨e, he, rfl⟩ := List.mem_map.mp hq
          exact kr7 e he)
        rw [lm_] at few
        have len : (kvL es).length < sizeLine := small1000 (by unfold kvL; rw [lm_]; omega)
        have oth : ∀ (p : Int) (ls : LI), p ≠ t -> PQ (fun q h => (h ∈ ks.take i /\ q ∈ onwI rows ks h) \/ (h = here /\ q ∈ ow.take j)) p ls -> PQ (fun q h => (h ∈ ks.take i /\ q ∈ onwI rows ks h) \/ (h = here /\ q ∈ ow.take (j + 1))) p ls := fun p ls np z => ⟨z.1, fun h => by
          rw [z.2 h]
          dsimp only
          rw [take_mem ht]
          simp [np]⟩
        have grow : ∀ ls : LI, PQ (fun q h => (h ∈ ks.take i /\ q ∈ onwI rows ks h) \/ (h = here /\ q ∈ ow.take j)) t ls -> PQ (fun q h => (h ∈ ks.take i /\ q ∈ onwI rows ks h) \/ (h = here /\ q ∈ ow.take (j + 1))) t (ls ++ [here]) := fun ls z => ⟨nd_snoc z.1 fun y => by
            rcases (z.2 here).mp y with y | y
            · exact nhere y.1
            · exact ntake y.2, fun h => by
          rw [List.mem_append, List.mem_singleton, z.2 h]
          dsimp only
          rw [take_mem ht]
          constructor
          · rintro ((y | y) | y)
            · exact .inl y
            · exact .inr ⟨y.1, .inl y.2⟩
            · exact .inr ⟨y, .inr rfl⟩
          · rintro (y | ⟨y1, y2 | y2⟩)
            · exact .inl (.inl y)
            · exact .inl (.inr ⟨y1, y2⟩)
            · exact .inr y1⟩
        have small : ∀ ls : LI, PQ (fun q h => (h ∈ ks.take i /\ q ∈ onwI rows ks h) \/ (h = here /\ q ∈ ow.take j)) t ls -> ls.length <= many := fun ls z => few_below many z.1 fun h hh => by
          rcases (z.2 h).mp hh with y | y
          · exact hk h (List.mem_of_mem_take y.1)
          · rw [y.1]; exact hin
        have hO8 := sL _ _ hO7
        have hL8 := sL _ _ hL7
        refine ⟨_, Sum.inl t, b8.at_, rfl, len, fun v hv => ?_, fun hn => ?_⟩
        · obtain ⟨la, ls, rfl, hm, hla, hp⟩ := b8.get hv
          have lz : (ls.map V.int).length < sizeLine := small1000 (by rw [lm_]; have := small ls hp; omega)
          refine ⟨.inl ⟨rfl, _, qL_ hla⟩, _, rfl, la, _, _, rfl, rfl, hla, lz, ?_⟩
          refine ⟨es, _, rfl, same_upd (s7.trans sL) (b7.fresh _ hm), ?_, ?_, kr7, nO7, nL7, b8.old hm hla (grow ls hp) oth⟩
          · rw [upd_ne (Ne.symm (nO7 _ hm))]; exact hO8
          · rw [upd_ne (Ne.symm (nL7 _ hm))]; exact hL8
        · have hq : t ∉ es.map Prod.fst := fun z => by
            obtain ⟨e, he, ee⟩ := List.mem_map.mp z
            obtain ⟨jj, hjj⟩ := List.mem_iff_getElem?.mp he
            have := kvL_at b8.nd (q := e.1) (a := e.2) hjj
            rw [ee, hn] at this
            cases this
          have hL3 : (upd (upd H7 L (HO.lst [])) B (HO.dK (putK (kvL es) (Sum.inl t) (V.ref L)))) L = some (.lst []) := by rw [upd_ne (Ne.symm nBL'), upd_same]
          have nOL' : O ≠ L := ne_of_none hO7 hL
          have nLL' : Lf ≠ L := ne_of_none hL7 hL
          have nOB : O ≠ B := ne_of hO7 b7.at_ (by intro z; cases z)
          refine ⟨.inl ⟨rfl, _, qL_ hL3⟩, _, rfl, L, _, _, rfl, rfl, hL3, (by show 0 < sizeLine; decide), ?_⟩
          refine ⟨es ++ [(t, L)], _, rfl, same_upd (same_upd (s7.trans sL) zB) zL, ?_, ?_, fun e he => ?_, fun e he => ?_, fun e he => ?_, b8.new hq upd_same zL nL (grow [] (b8.non t hq)) oth⟩
          · rw [upd_ne nOL', upd_ne nOB]; exact hO8
          · rw [upd_ne nLL', upd_ne nLB]; exact hL8
          · rcases ma_.mp he with z | z
            · exact kr7 e z
            · rw [List.mem_singleton.mp z]; exact hk t tk
          · rcases ma_.mp he with z | z
            · exact nO7 e z
            · rw [List.mem_singleton.mp z]; exact Ne.symm nOL'
          · rcases ma_.mp he with z | z
            · exact nL7 e z
            · rw [List.mem_singleton.mp z]; exact Ne.symm nLL'
      · rintro σ' H7 ⟨es, v6, rfl, s7, hO7, hL7, kr7, nO7, nL7, b7⟩
        rw [lm_, List.take_length] at b7
        refine ⟨es, _, _, _, rfl, s7, hL7, kr7, b7.weak fun q ls z => z.imp fun q h => ?_⟩
        rw [take_mem hz, memO]
        constructor
        · rintro (y | ⟨rfl, y⟩)
          · exact ⟨.inl y.1, y.2⟩
          · exact ⟨.inr rfl, y⟩
        · rintro ⟨y | rfl, y2⟩
          · exact .inl ⟨y, y2⟩
          · exact .inr ⟨rfl, y2⟩
    · rintro σ' H2 ⟨es, v4, v5, v6, rfl, s2, hL2, kr2, b2⟩
      have e : (kvT ks).length = ks.length := by unfold kvT; rw [lm_]
      rw [e, List.take_length] at hL2 b2
      exact nxt _ _ ⟨o, es, _, _, _, rfl, by rw [eHz]; exact s2, hL2, by rw [eHz]; exact b2⟩
  rintro σ' H2 ⟨o, es, v4, v5, v6, rfl, s2, hL2, b2⟩
  have fz : ∀ a, (upd H lv (.frz o (.dK (kvT ks)))) a = none -> H a = none := fun a z => by
    by_cases e : a = lv
    · rw [e, upd_same] at z; cases z
    · rw [upd_ne e] at z; exact z
  have zlv : (upd H lv (.frz o (.dK (kvT ks)))) lv = some (.frz o (.dK (kvT ks))) := upd_same
  refine fun Hd hHd => ?_
  have fHd : H Hd = none := fz _ (s2.free hHd)
  have nLH : Lf ≠ Hd := ne_of_none hL2 hHd
  have nBH : B ≠ Hd := ne_of_none b2.at_ hHd
  have neH : ∀ e ∈ es, e.2 ≠ Hd := fun e he z => by
    obtain ⟨ls, h1, _⟩ := b2.lst e he
    rw [z, hHd] at h1
    cases h1
  have neL : ∀ e ∈ es, e.2 ≠ Lf := fun e he z => by
    obtain ⟨ls, h1, _⟩ := b2.lst e he
    rw [z, hL2] at h1
    cases h1
  have sH := same_new hHd (HO.dK [])
  obtain ⟨H3, eH3⟩ : ∃ H3, upd H2 Hd (HO.dK []) = H3 := ⟨_, rfl⟩
  rw [eH3] at sH
  have hH3 : H3 Hd = some (.dK []) := by rw [<- eH3, upd_same]
  try dsimp only [gName]
  rw [eH3]
  have s3 := s2.trans sH
  have hL3 := sH _ _ hL2
  have b3 := b2.same sH
  refine ⟨_, rfl, lv, kvT ks, rfl, .inr ⟨o, s3 _ _ zlv, ?_⟩⟩
  refine comp_dictI (o := o) (kvs := kvT ks) (fun D i ys H' => Same H3 H' /\ ys = ((ks.take i).filter fun h => decide (((onwI rows ks h).length : Int) = 0)).map V.int) (fun D hD => ⟨same_new hD _, rfl⟩) (fun D i ys H' _ ⟨e, _⟩ => e _ _ (s3 _ _ zlv)) ?_ ?_
  · rintro D i p ys H' Qy Qn hD hi hy ⟨hs, rfl⟩ ky kn
    obtain ⟨here, rfl, hz⟩ : ∃ here, p = (Sum.inl here, V.bl true) /\ ks[i]? = some here := by
      unfold kvT at hi
      rw [List.getElem?_map] at hi
      obtain ⟨q, h1, h2⟩ := Option.map_eq_some_iff.mp hi
      exact ⟨q, h2.symm, h1⟩
    have il : i < ks.length := (gi_ hz).1
    have dg : DGet H' Lf (V.int here) (some (V.int ((onwI rows ks here).length : Int))) := by
      have q := DGet.k (k := Sum.inl here) (hs _ _ hL3)
      rw [kvF_val _ (mq_ hz)] at q
      exact q
    refine ⟨_, rfl, _, rfl, Lf, _, rfl, dg, rfl, _, rfl, iteI (fun c => ?_) (fun c => ?_)⟩
    · refine ⟨_, rfl, ky _ _ hy (small1000 (by rw [lm_]; have := List.length_filter_le (fun h => decide (((onwI rows ks h).length : Int) = 0)) (ks.take i); rw [List.length_take] at this; omega)) ⟨same_upd hs hD, ?_⟩⟩
      rw [filt_yes hz (decide_eq_true c), List.map_append]
      rfl
    · refine kn _ hy ⟨hs, ?_⟩
      rw [filt_no hz (decide_eq_false c)]
  rintro W ys H5 fW hW ⟨s5, rfl⟩
  have ekl : (kvT ks).length = ks.length := by unfold kvT; rw [lm_]
  rw [ekl, List.take_length] at hW
  obtain ⟨l0, el0⟩ : ∃ l0, ks.filter (fun h => decide (((onwI rows ks h).length : Int) = 0)) = l0 := ⟨_, rfl⟩
  rw [el0] at hW
  have mem0 : ∀ h, h ∈ l0 ↔ h ∈ ks /\ ((onwI rows ks h).length : Int) = 0 := fun h => by
    rw [<- el0, List.mem_filter]
    simp
  have nd0 : l0.Nodup := by rw [<- el0]; exact ndk.filter _
  try dsimp only [gName]
  refine .inr ⟨lv, o, kvT ks, s5 _ _ (s3 _ _ zlv), (fun o' u z => by have z' : H lv = _ := z; rw [hlv] at z'; cases z'), ?_⟩
  have nWl : W ≠ lv := fun z => by rw [z, s3 _ _ zlv] at fW; cases fW
  have fW0 : H W = none := fz _ (s3.free fW)
  obtain ⟨H6, eH6⟩ : ∃ H6, upd H5 lv (.dK (kvT ks)) = H6 := ⟨_, rfl⟩
  have s6 : Same H H6 := by rw [<- eH6]; exact Same.melt hlv (s3.trans s5)
  have up6 : ∀ b u, b ≠ lv -> H5 b = some u -> H6 b = some u := fun b u n e => by rw [<- eH6, upd_ne n]; exact e
  have nHl : Hd ≠ lv := fun z => by rw [z, s2 _ _ zlv] at hHd; cases hHd
  have hL6 : H6 Lf = some (.dK (kvF ks fun h => ((onwI rows ks h).length : Int))) := up6 _ _ (Ne.symm nlL) (s5 _ _ hL3)
  have hH6 : H6 Hd = some (.dK []) := up6 _ _ nHl (s5 _ _ hH3)
  have hW6 : H6 W = some (.lst (l0.map V.int)) := up6 _ _ nWl hW
  have b5 := b3.same s5
  have nel : ∀ e ∈ es, e.2 ≠ lv := fun e he z => by
    have := b2.fresh e he
    rw [z, zlv] at this
    cases this
  have b6 : BackOk H H6 B es (PQ fun q h => h ∈ ks /\ q ∈ onwI rows ks h) := ⟨up6 _ _ (Ne.symm nlB) b5.at_, b5.nd, b5.nd2, fun e he => fz _ (b5.fresh e he), fun e he => by
    obtain ⟨ls, h1, h2⟩ := b5.lst e he
    exact ⟨ls, up6 _ _ (nel e he) h1, h2⟩, b5.non⟩
  have neW : ∀ e ∈ es, e.2 ≠ W := fun e he z => by
    obtain ⟨ls, h1, _⟩ := b3.lst e he
    rw [z, fW] at h1
    cases h1
  show tSeq _ _ _ _ (upd H5 lv (.dK (kvT ks)))
  rw [eH6]
  refine seq_const ?_
  try dsimp only [gName]
  refine cut_G (t := tWhile _ _) (fun σ' H' => ∃ (pr : LI) (F hf : Int -> Int) (hi : Int) (W : Addr) (v4 v6 v10 : OV), σ' = [some (.ref r), some (.ref lv), some (.ref Lf), some (.ref B), v4, v5, v6, some (.ref Hd), some (.ref W), some (.int hi), v10] /\ Same H H' /\ H' Hd = some (.dK (kvF pr hf)) /\ (∀ h ∈ ks, F h = (cntO rows ks pr h : Int)) /\ (∀ h ∈ ks, h ∈ pr ↔ F h = 0) /\ (∀ q ∈ pr, q ∈ ks) /\ HtOk rows ks pr hf) ?_ (fun D' nxt => ?_)
  rotate_left
  · refine while_W (fun mm σ' H' => ∃ (pr lvl : LI) (W : Addr) (F hf : Int -> Int) (hi : Int) (v4 v6 v10 : OV), mm = 2 * (many - (pr ++ lvl).length) + lvl.length /\ σ' = [some (.ref r), some (.ref lv), some (.ref Lf), some (.ref B), v4, v5, v6, some (.ref Hd), some (.ref W), some (.int hi), v10] /\ Same H H' /\ H' Lf = some (.dK (kvF ks F)) /\ H' Hd = some (.dK (kvF pr hf)) /\ H' W = some (.lst (lvl.map V.int)) /\ (∀ e ∈ es, e.2 ≠ W) /\ BackOk H H' B es (PQ fun q h => h ∈ ks /\ q ∈ onwI rows ks h) /\ (∀ h ∈ ks, F h = (cntO rows ks pr h : Int)) /\ (∀ h ∈ ks, h ∈ pr ++ lvl ↔ F h = 0) /\ (pr ++ lvl).Nodup /\ (∀ q ∈ pr ++ lvl, q ∈ ks) /\ HtOk rows ks pr hf /\ (∀ q ∈ pr, hf q < hi) /\ 0 <= hi /\ (∀ q ∈ lvl, 0 < hi -> ∃ t ∈ onwI rows ks q, t ∈ pr /\ hf t = hi - 1))
      ⟨_, [], l0, W, _, (fun _ => 0), 0, v4, v6, none, rfl, rfl, s6, hL6, hH6, hW6, neW, b6, fun h _ => by rw [cnt_nil], fun h hh => by rw [List.nil_append, mem0]; exact ⟨fun z => z.2, fun z => ⟨hh, z⟩⟩, by rw [List.nil_append]; exact nd0, fun q hq => by rw [List.nil_append] at hq; exact ((mem0 q).mp hq).1, ⟨(fun q h => by cases h), (fun q h => by cases h), (fun q h => by cases h)⟩, (fun q h => by cases h), Int.le_refl _, fun q _ z => absurd z (Int.lt_irrefl _)⟩ ?_
    rintro mm σ' H7 ⟨pr, lvl, W, F, hf, hi, v4, v6, v10, rfl, rfl, s7, hL7, hH7, hW7, neW, b7, eq7, ze7, nd7, sub7, ht7, lt7, hi0, nx7⟩
    by_cases en : lvl = []
    · subst en
      refine ⟨_, rfl, _, .inl ⟨_, qL_ hW7, rfl⟩, iteF ?_⟩
      rw [List.append_nil] at ze7
      exact nxt _ _ ⟨pr, F, hf, hi, W, _, _, _, rfl, s7, hH7, eq7, ze7, by rw [List.append_nil] at sub7; exact sub7, ht7⟩
    refine ⟨_, rfl, _, .inl ⟨_, qL_ hW7, rfl⟩, ?_⟩
    have ne : (!(lvl.map V.int).isEmpty) = true := by
      cases lvl with
      | nil => exact absurd rfl en
      | cons x r => rfl
    have zero7 : ∀ q ∈ lvl, ∀ t ∈ onwI rows ks q, t ∈ pr := fun q hq => cnt_zero (by
      have hk' := sub7 q (List.mem_append_right _ hq)
      have h1 := (ze7 q hk').mp (List.mem_append_right _ hq)
      rw [eq7 q hk'] at h1
      omega)
    obtain ⟨hf7, ehf7⟩ : ∃ hf7, hf = hf7 := ⟨_, rfl⟩
    have lv1 : 1 <= lvl.length := by
      cases lvl with
      | nil => exact absurd rfl en
      | cons x r => exact Nat.succ_le_succ (Nat.zero_le _)
    rw [ne]
    refine iteT ⟨fun σ' H' => ∃ m', m' < 2 * (many - (pr ++ lvl).length) + lvl.length /\ ∃ (pr lvl : LI) (W : Addr) (F hf : Int -> Int) (hi : Int) (v4 v6 v10 : OV), m' = 2 * (many - (pr ++ lvl).length) + lvl.length /\ σ' = [some (.ref r), some (.ref lv), some (.ref Lf), some (.ref B), v4, v5, v6, some (.ref Hd), some (.ref W), some (.int hi), v10] /\ Same H H' /\ H' Lf = some (.dK (kvF ks F)) /\ H' Hd = some (.dK (kvF pr hf)) /\ H' W = some (.lst (lvl.map V.int)) /\ (∀ e ∈ es, e.2 ≠ W) /\ BackOk H H' B es (PQ fun q h => h ∈ ks /\ q ∈ onwI rows ks h) /\ (∀ h ∈ ks, F h = (cntO rows ks pr h : Int)) /\ (∀ h ∈ ks, h ∈ pr ++ lvl ↔ F h = 0) /\ (pr ++ lvl).Nodup /\ (∀ q ∈ pr ++ lvl, q ∈ ks) /\ HtOk rows ks pr hf /\ (∀ q ∈ pr, hf q < hi) /\ 0 <= hi /\ (∀ q ∈ lvl, 0 < hi -> ∃ t ∈ onwI rows ks q, t ∈ pr /\ hf t = hi - 1), fun σ' H' h => h, ?_⟩
    refine ⟨(by show 0 <= sizeLine; decide), fun N hN => ?_⟩
    have sN := same_new hN (HO.lst [])
    have fN : H N = none := s7.free hN
    have nWN : W ≠ N := ne_of_none hW7 hN
    have neN : ∀ e ∈ es, e.2 ≠ N := fun e he z => by
      obtain ⟨ls, h1, _⟩ := b7.lst e he
      rw [z, hN] at h1
      cases h1
    try dsimp only [gName]
    refine cut_G (t := tFor _ _ _) (fun σ' H' => ∃ (fr : LI) (F hf : Int -> Int) (v4 v6 : OV), σ' = [some (.ref r), some (.ref lv), some (.ref Lf), some (.ref B), v4, v5, v6, some (.ref Hd), some (.ref W), some (.int hi), some (.ref N)] /\ Same H H' /\ H' Lf = some (.dK (kvF ks F)) /\ H' Hd = some (.dK (kvF (pr ++ lvl) hf)) /\ H' W = some (.lst (lvl.map V.int)) /\ H' N = some (.lst (fr.map V.int)) /\ BackOk H H' B es (PQ fun q h => h ∈ ks /\ q ∈ onwI rows ks h) /\ (∀ h ∈ ks, F h = (cntO rows ks (pr ++ lvl) h : Int)) /\ (∀ h ∈ ks, h ∈ pr ++ lvl ++ fr ↔ F h = 0) /\ (pr ++ lvl ++ fr).Nodup /\ (∀ q ∈ pr ++ lvl ++ fr, q ∈ ks) /\ (∀ q ∈ pr, hf q = hf7 q) /\ (∀ q ∈ lvl, hf q = hi) /\ (∀ q ∈ fr, ∃ t ∈ onwI rows ks q, t ∈ lvl)) ?_ (fun D' nxt2 => ?_)
    rotate_left
    · refine ⟨_, rfl, W, rfl, ⟨_, qL_ (sN _ _ hW7)⟩, for_list (K := K) (xs := lvl.map V.int) (fun i σ' H' => ∃ (fr : LI) (F hf : Int -> Int) (v4 v6 : OV), σ' = [some (.ref r), some (.ref lv), some (.ref Lf), some (.ref B), v4, v5, v6, some (.ref Hd), some (.ref W), some (.int hi), some (.ref N)] /\ Same H H' /\ H' Lf = some (.dK (kvF ks F)) /\ H' Hd = some (.dK (kvF (pr ++ lvl.take i) hf)) /\ H' W = some (.lst (lvl.map V.int)) /\ H' N = some (.lst (fr.map V.int)) /\ BackOk H H' B es (PQ fun q h => h ∈ ks /\ q ∈ onwI rows ks h) /\ (∀ h ∈ ks, F h = (cntO rows ks (pr ++ lvl.take i) h : Int)) /\ (∀ h ∈ ks, h ∈ pr ++ lvl ++ fr ↔ F h = 0) /\ (pr ++ lvl ++ fr).Nodup /\ (∀ q ∈ pr ++ lvl ++ fr, q ∈ ks) /\ (∀ q ∈ pr, hf q = hf7 q) /\ (∀ q ∈ lvl.take i, hf q = hi) /\ (∀ q ∈ fr, ∃ t ∈ onwI rows ks q, t ∈ lvl.take i))
        ⟨[], F, hf, v4, v6, rfl, s7.trans sN, sN _ _ hL7, by rw [List.take_zero, List.append_nil]; exact sN _ _ hH7, sN _ _ hW7, upd_same, b7.same sN, by rw [List.take_zero, List.append_nil]; exact eq7, by rw [List.append_nil]; exact ze7, by rw [List.append_nil]; exact nd7, by rw [List.append_nil]; exact sub7, fun q _ => by rw [ehf7], (fun q z => by simp at z), (fun q z => by cases z)⟩ (fun i σ' H' _ ⟨_, _, _, _, _, _, _, _, _, e, _⟩ => qL_ e) ?_ ?_⟩
      · rintro i y σ' H8 hi' ⟨fr, F, hf, v4, v6, rfl, s8, hL8, hH8, hW8, hN8, b8, eq8, ze8, nd8, sub8, hp8, hl8, hfr8⟩
        obtain ⟨here, rfl, hz⟩ := ints_at hi'
        have hmem : here ∈ pr ++ lvl ++ fr := List.mem_append_left _ (List.mem_append_right _ (mq_ hz))
        have hks := sub8 here hmem
        have hnot : here ∉ pr ++ lvl.take i := by
          have nd' := (List.nodup_append.mp nd8).1
          have nd2 := List.nodup_append.mp nd'
          intro z
          rcases ma_.mp z with z | z
          · exact nd2.2.2 here z here (mq_ hz) rfl
          · exact nd_take nd2.2.1 hz z
        have tk1 : pr ++ lvl.take (i + 1) = pr ++ lvl.take i ++ [here] := by rw [List.take_add_one, hz, List.append_assoc]; rfl
        have lpr : (pr ++ lvl.take i).length <= many := few_below many (by
            have nd' := (List.nodup_append.mp nd8).1
            exact nd'.sublist (List.Sublist.append (List.Sublist.refl pr) (List.take_sublist i lvl))) fun q hq => hk q (sub8 q (by
              rcases ma_.mp hq with z | z
              · exact List.mem_append_left _ (List.mem_append_left _ z)
              · exact List.mem_append_left _ (List.mem_append_right _ (List.mem_of_mem_take z))))
        refine ⟨_, rfl, _, rfl, _, rfl, Hd, _, rfl, DPut.k (k := Sum.inl here) hH8 (small1000 (by unfold kvF; rw [lm_]; omega)), ?_⟩
        rw [kvF_new hnot, <- tk1]
        obtain ⟨hf', ehf'⟩ : ∃ hf', setF hf here hi = hf' := ⟨_, rfl⟩
        rw [ehf']
        have hp9 : ∀ q ∈ pr, hf' q = hf7 q := fun q hq => by
          rw [<- ehf']
          unfold setF
          rw [if_neg (fun z => hnot (by rw [<- z]; exact List.mem_append_left _ hq))]
          exact hp8 q hq
        have hl9 : ∀ q ∈ lvl.take (i + 1), hf' q = hi := fun q hq => by
          rw [<- ehf']
          unfold setF
          by_cases z : q = here
          · rw [if_pos z]
          · rw [if_neg z]
            rcases (take_mem hz).mp hq with y | y
            · exact hl8 q y
            · exact absurd y z
        have hfr9 : ∀ q ∈ fr, ∃ t ∈ onwI rows ks q, t ∈ lvl.take (i + 1) := fun q hq => by
          obtain ⟨t, h1, h2⟩ := hfr8 q hq
          exact ⟨t, h1, (take_mem hz).mpr (.inl h2)⟩
        obtain ⟨H9, eH9⟩ : ∃ H9, upd H8 Hd (HO.dK (kvF (pr ++ lvl.take (i + 1)) hf')) = H9 := ⟨_, rfl⟩
        have nHW : W ≠ Hd := ne_of hW8 hH8 (by intro z; cases z)
        have nHN : N ≠ Hd := ne_of hN8 hH8 (by intro z; cases z)
        have hH9 : H9 Hd = some (.dK (kvF (pr ++ lvl.take (i + 1)) hf')) := by rw [<- eH9, upd_same]
        have hL9 : H9 Lf = some (.dK (kvF ks F)) := by rw [<- eH9, upd_ne nLH]; exact hL8
        have hW9 : H9 W = some (.lst (lvl.map V.int)) := by rw [<- eH9, upd_ne nHW]; exact hW8
        have hN9 : H9 N = some (.lst (fr.map V.int)) := by rw [<- eH9, upd_ne nHN]; exact hN8
        have s9 : Same H H9 := by rw [<- eH9]; exact same_upd s8 fHd
        have b9 : BackOk H H9 B es (PQ fun q h => h ∈ ks /\ q ∈ onwI rows ks h) := b8.keep (by rw [<- eH9, upd_ne nBH]) fun e he => by rw [<- eH9, upd_ne (neH e he)]
        rw [eH9]
        have fin : ∀ (ls : LI) (F' : Int -> Int), (PQ fun q h => h ∈ ks /\ q ∈ onwI rows ks h) here ls -> (∀ h ∈ ks, F' h = (cntO rows ks (pr ++ lvl.take i) h : Int) - (if h ∈ ls then 1 else 0)) -> ∀ h ∈ ks, F' h = (cntO rows ks (pr ++ lvl.take (i + 1)) h : Int) := fun ls F' pq e h hh => by
          have st := cnt_step (rows := rows) (ks := ks) (h := h) hnot
          rw [tk1, e h hh]
          by_cases c : here ∈ onwI rows ks h
          · rw [if_pos ((pq.2 h).mpr ⟨hh, c⟩)]
            rw [if_pos c] at st
            omega
          · rw [if_neg fun z => c ((pq.2 h).mp z).2]
            rw [if_neg c] at st
            omega
        refine ⟨_, rfl, B, rfl, .inl ⟨_, .inl b9.at_⟩, _, rfl, (by show 0 <= sizeLine; decide), fun t0 ht0 => ?_⟩
        have st0 := same_new ht0 (HO.tup [])
        have b10 := b9.same st0
        refine ⟨_, DGet.k (k := Sum.inl here) b10.at_, ?_⟩
        obtain ⟨H10, eH10⟩ : ∃ H10, upd H9 t0 (HO.tup []) = H10 := ⟨_, rfl⟩
        rw [eH10] at st0 b10
        rw [eH10]
        have s10 := s9.trans st0
        have hL10 := st0 _ _ hL9
        have hH10 := st0 _ _ hH9
        have hW10 := st0 _ _ hW9
        have hN10 := st0 _ _ hN9
        cases hv : valV (kvL es) (Sum.inl here) with
        | none =>
          have h0 : H10 t0 = some (.tup []) := by rw [<- eH10, upd_same]
          refine ⟨t0, rfl, .inr ⟨⟨_, qT_ h0⟩, ?_⟩⟩
          refine for_tup (K := K) (xs := []) (fun i σ' H' => ∃ v6, σ' = [some (.ref r), some (.ref lv), some (.ref Lf), some (.ref B), some (.int here), v5, v6, some (.ref Hd), some (.ref W), some (.int hi), some (.ref N)] /\ H' = H10) ⟨_, rfl, rfl⟩ (fun i σ' H' _ ⟨_, _, e⟩ => by rw [e]; exact qT_ h0) (fun i x σ' H' hx _ => by simp at hx) ?_
          rintro σ' H' ⟨v6, rfl, rfl⟩
          have hq : here ∉ es.map Prod.fst := fun z => by
            obtain ⟨e, he, ee⟩ := List.mem_map.mp z
            obtain ⟨jj, hjj⟩ := List.mem_iff_getElem?.mp he
            have := kvL_at b10.nd (q := e.1) (a := e.2) hjj
            rw [ee, hv] at this
            cases this
          exact ⟨fr, F, hf', _, _, rfl, s10, hL10, hH10, hW10, hN10, b10, fin [] F (b10.non here hq) (fun h hh => by rw [eq8 h hh]; simp), ze8, nd8, sub8, hp9, hl9, hfr9⟩
        | some v =>
          obtain ⟨la, ls, rfl, hm, hla, hp⟩ := b10.get hv
          refine ⟨la, rfl, .inl ⟨⟨_, qL_ hla⟩, ?_⟩⟩
          refine for_list (K := K) (xs := ls.map V.int) (fun j σ' H' => ∃ (fr : LI) (F : Int -> Int) (v6 : OV), σ' = [some (.ref r), some (.ref lv), some (.ref Lf), some (.ref B), some (.int here), v5, v6, some (.ref Hd), some (.ref W), some (.int hi), some (.ref N)] /\ Same H H' /\ H' Lf = some (.dK (kvF ks F)) /\ H' Hd = some (.dK (kvF (pr ++ lvl.take (i + 1)) hf')) /\ H' W = some (.lst (lvl.map V.int)) /\ H' N = some (.lst (fr.map V.int)) /\ H' la = some (.lst (ls.map V.int)) /\ BackOk H H' B es (PQ fun q h => h ∈ ks /\ q ∈ onwI rows ks h) /\ (∀ h ∈ ks, F h = (cntO rows ks (pr ++ lvl.take i) h : Int) - (if h ∈ ls.take j then 1 else 0)) /\ (∀ h ∈ ks, h ∈ pr ++ lvl ++ fr ↔ F h = 0) /\ (pr ++ lvl ++ fr).Nodup /\ (∀ q ∈ pr ++ lvl ++ fr, q ∈ ks) /\ (∀ q ∈ fr, ∃ t ∈ onwI rows ks q, t ∈ lvl.take (i + 1)))
            ⟨fr, F, v6, rfl, s10, hL10, hH10, hW10, hN10, hla, b10, fun h hh => by rw [eq8 h hh]; simp, ze8, nd8, sub8, hfr9⟩ (fun i σ' H' _ ⟨_, _, _, _, _, _, _, _, _, e, _⟩ => qL_ e) ?_ ?_
          · rintro j y σ' H11 hj ⟨fr, F, v6, rfl, s11, hL11, hH11, hW11, hN11, hla11, b11, eq11, ze11, nd11, sub11, hfr11⟩
            obtain ⟨t, rfl, ht⟩ := ints_at hj
            obtain ⟨tks, ton⟩ := (hp.2 t).mp (mq_ ht)
            have ntake := nd_take hp.1 ht
            have st := cnt_step (rows := rows) (ks := ks) (h := t) hnot
            rw [if_pos ton] at st
            have Ft := eq11 t tks
            rw [if_neg ntake] at Ft
            have F1 : F t ≠ 0 := by omega
            have tnot : t ∉ pr ++ lvl ++ fr := fun z => F1 ((ze11 t tks).mp z)
            have dg : DGet H11 Lf (V.int t) (some (V.int (F t))) := by
              have q := DGet.k (k := Sum.inl t) hL11
              rw [kvF_val F tks] at q
              exact q
            have lks : (kvF ks F).length < sizeLine := small1000 (by unfold kvF; rw [lm_]; omega)
            refine ⟨_, rfl, _, rfl, Lf, _, rfl, dg, _, _, rfl, rfl, _, rfl, _, rfl, Lf, _, rfl, DPut.k (k := Sum.inl t) hL11 lks, ?_⟩
            rw [kvF_old tks]
            obtain ⟨F', eF'⟩ : ∃ F', setF F t (F t - 1) = F' := ⟨_, rfl⟩
            have F't : F' t = F t - 1 := by rw [<- eF']; unfold setF; rw [if_pos rfl]
            have F'o : ∀ h, h ≠ t -> F' h = F h := fun h n => by rw [<- eF']; unfold setF; rw [if_neg n]
            rw [eF']
            obtain ⟨H12, eH12⟩ : ∃ H12, upd H11 Lf (HO.dK (kvF ks F')) = H12 := ⟨_, rfl⟩
            have nLW : W ≠ Lf := ne_of hW11 hL11 (by intro z; cases z)
            have nLN : N ≠ Lf := ne_of hN11 hL11 (by intro z; cases z)
            have hL12 : H12 Lf = some (.dK (kvF ks F')) := by rw [<- eH12, upd_same]
            have hH12 : H12 Hd = some (.dK (kvF (pr ++ lvl.take (i + 1)) hf')) := by rw [<- eH12, upd_ne (Ne.symm nLH)]; exact hH11
            have hW12 : H12 W = some (.lst (lvl.map V.int)) := by rw [<- eH12, upd_ne nLW]; exact hW11
            have hN12 : H12 N = some (.lst (fr.map V.int)) := by rw [<- eH12, upd_ne nLN]; exact hN11
            have hla12 : H12 la = some (.lst (ls.map V.int)) := by rw [<- eH12, upd_ne (neL _ hm)]; exact hla11
            have s12 : Same H H12 := by rw [<- eH12]; exact same_upd s11 hLf
            have b12 : BackOk H H12 B es (PQ fun q h => h ∈ ks /\ q ∈ onwI rows ks h) := b11.keep (by rw [<- eH12, upd_ne (Ne.symm nLB)]) fun e he => by rw [<- eH12, upd_ne (neL e he)]
            rw [eH12]
            have dg2 : DGet H12 Lf (V.int t) (some (V.int (F' t))) := by
              have q := DGet.k (k := Sum.inl t) hL12
              rw [kvF_val F' tks] at q
              exact q
            have eq12 : ∀ h ∈ ks, F' h = (cntO rows ks (pr ++ lvl.take i) h : Int) - (if h ∈ ls.take (j + 1) then 1 else 0) := fun h hh => by
              by_cases c : h = t
              · subst c
                rw [F't, if_pos ((take_mem ht).mpr (.inr rfl))]
                omega
              · rw [F'o h c, eq11 h hh]
                have : (h ∈ ls.take (j + 1)) ↔ h ∈ ls.take j := by rw [take_mem ht]; simp [c]
                by_cases d : h ∈ ls.take j
                · rw [if_pos d, if_pos (this.mpr d)]
                · rw [if_neg d, if_neg fun z => d (this.mp z)]
            refine ⟨_, rfl, _, rfl, Lf, _, rfl, dg2, rfl, _, rfl, iteI (fun c => ?_) (fun c => ?_)⟩
            · refine ⟨_, rfl, .inl ⟨rfl, _, qL_ hN12⟩, _, rfl, N, _, _, rfl, rfl, hN12, small1000 (by
                rw [lm_]
                have := few_below many nd11 fun q hq => hk q (sub11 q hq)
                rw [List.length_append] at this
                omega), ?_⟩
              have nNH : Hd ≠ N := Ne.symm nHN
              refine ⟨fr ++ [t], F', _, rfl, same_upd s12 fN, ?_, ?_, ?_, ?_, ?_, b12.keep (by rw [upd_ne (ne_of b12.at_ hN12 (by intro z; cases z))]) (fun e he => by rw [upd_ne (neN e he)]), eq12, fun h hh => ?_, ?_, fun q hq => ?_, fun q hq => ?_⟩
              · rw [upd_ne (Ne.symm nLN)]; exact hL12
              · rw [upd_ne nNH]; exact hH12
              · rw [upd_ne nWN]; exact hW12
              · rw [upd_same, List.map_append]; rfl
              · rw [upd_ne (neN _ hm)]; exact hla12
              · rw [<- List.append_assoc, List.mem_append, List.mem_singleton]
                by_cases d : h = t
                · subst d
                  exact ⟨fun _ => c, fun _ => .inr rfl⟩
                · rw [F'o h d, <- ze11 h hh]
                  exact ⟨fun z => z.resolve_right d, .inl⟩
              · rw [<- List.append_assoc]; exact nd_snoc nd11 tnot
              · rw [<- List.append_assoc] at hq
                rcases ma_.mp hq with z | z
                · exact sub11 q z
                · rw [List.mem_singleton.mp z]; exact tks
              · rcases ma_.mp hq with z | z
                · exact hfr11 q z
                · rw [List.mem_singleton.mp z]
                  exact ⟨here, ton, (take_mem hz).mpr (.inr rfl)⟩
            · refine ⟨fr, F', _, rfl, s12, hL12, hH12, hW12, hN12, hla12, b12, eq12, fun h hh => ?_, nd11, sub11, hfr11⟩
              by_cases d : h = t
              · subst d
                exact ⟨fun z => absurd z tnot, fun z => absurd z c⟩
              · rw [F'o h d]; exact ze11 h hh
          · rintro σ' H11 ⟨fr, F, v6, rfl, s11, hL11, hH11, hW11, hN11, hla11, b11, eq11, ze11, nd11, sub11, hfr11⟩
            rw [lm_, List.take_length] at eq11
            exact ⟨fr, F, hf', _, _, rfl, s11, hL11, hH11, hW11, hN11, b11, fin ls F hp eq11, ze11, nd11, sub11, hp9, hl9, hfr11⟩
      · rintro σ' H8 ⟨fr, F, hf, v4, v6, rfl, s8, hL8, hH8, hW8, hN8, b8, eq8, ze8, nd8, sub8, hp8, hl8, hfr8⟩
        rw [lm_, List.take_length] at hH8 eq8 hl8 hfr8
        exact nxt2 _ _ ⟨fr, F, hf, _, _, rfl, s8, hL8, hH8, hW8, hN8, b8, eq8, ze8, nd8, sub8, hp8, hl8, hfr8⟩
    rintro σ' H8 ⟨fr, F, hf, v4, v6, rfl, s8, hL8, hH8, hW8, hN8, b8, eq8, ze8, nd8, sub8, hp8, hl8, hfr8⟩
    have few := few_below many nd8 fun q hq => hk q (sub8 q hq)
    rw [List.length_append] at few
    rw [ehf7] at ht7 lt7 nx7
    have ht8 : HtOk rows ks (pr ++ lvl) hf := by
      refine ⟨fun q hq => ?_, fun q hq t ht => ?_, fun q hq h0 => ?_⟩
      · rcases ma_.mp hq with z | z
        · rw [hp8 q z]; exact ht7.nn q z
        · rw [hl8 q z]; exact hi0
      · rcases ma_.mp hq with z | z
        · obtain ⟨h1, h2⟩ := ht7.dn q z t ht
          rw [hp8 q z, hp8 t h1]
          exact ⟨List.mem_append_left _ h1, h2⟩
        · have h1 := zero7 q z t ht
          rw [hl8 q z, hp8 t h1]
          exact ⟨List.mem_append_left _ h1, lt7 t h1⟩
      · rcases ma_.mp hq with z | z
        · rw [hp8 q z] at h0 ⊢
          obtain ⟨t, h1, h2, h3⟩ := ht7.nx q z h0
          exact ⟨t, h1, List.mem_append_left _ h2, by rw [hp8 t h2]; exact h3⟩
        · rw [hl8 q z] at h0 ⊢
          obtain ⟨t, h1, h2, h3⟩ := nx7 q z h0
          exact ⟨t, h1, List.mem_append_left _ h2, by rw [hp8 t h2]; exact h3⟩
    have lt8 : ∀ q ∈ pr ++ lvl, hf q < hi + 1 := fun q hq => by
      rcases ma_.mp hq with z | z
      · rw [hp8 q z]; have := lt7 q z; omega
      · rw [hl8 q z]; omega
    refine ⟨_, rfl, _, rfl, _, _, rfl, rfl, ?_⟩
    refine ⟨_, (by rw [List.length_append (as := pr ++ lvl)]; omega : 2 * (many - (pr ++ lvl ++ fr).length) + fr.length < _), pr ++ lvl, fr, N, F, hf, _, _, _, _, rfl, rfl, s8, hL8, hH8, hN8, neN, b8, eq8, ze8, nd8, sub8, ht8, lt8, by omega, fun q hq _ => ?_⟩
    obtain ⟨t, h1, h2⟩ := hfr8 q hq
    exact ⟨t, h1, List.mem_append_right _ h2, by rw [hl8 t h2]; omega⟩
  rintro σ' H7 ⟨pr, F, hf, hi, W, v4, v6, v10, rfl, s7, hH7, eq7, ze7, sb7, ht7⟩
  refine ⟨_, rfl, k Hd H7 pr hf s7 fHd hH7 sb7 ht7 fun q hq hn => ?_⟩
  refine cnt_pos fun z => hn ((ze7 q hq).mpr ?_)
  rw [eq7 q hq, z]
  rfl
end
theorem first_true : ∀ {bs : List Bool}, true ∈ bs -> ∃ j : Nat, bs[j]? = some true /\ ∀ m : Nat, m < j -> bs[m]? = some false
  | [], h => by cases h
  | true :: bs, _ => ⟨0, rfl, fun m hm => by omega⟩
  | false :: bs, h => by
    obtain ⟨j, h1, h2⟩ := first_true (bs := bs) (by simpa using h)
    refine ⟨j + 1, by simpa using h1, fun m hm => ?_⟩
    cases m with
    | zero => rfl
    | succ m => simpa using h2 m (by omega)
def spRoundC (K : PySem.W.Frag) : Sp := fun vs H Q _ => ∃ (r go : Addr) (many wide : Nat) (ras : List Addr) (rows : LL) (gs : LI), vs = [.ref r, .ref go] /\ H r = some (.tup (ras.map V.ref)) /\ RowsAt H ras rows /\ RowsOk many wide rows /\ (1 <= many /\ many <= 60) /\ wide <= 200 /\
  H go = some (.dK (kvT gs)) /\ (∀ q ∈ gs, 0 <= q /\ q < (many : Int)) /\ (0 : Int) ∈ gs /\ (∀ q ∈ gs, ∃ t ∈ rows.getD q.toNat [], t ∈ gs) /\
  ∀ (u a b : Addr) (H' : Hp) (xs ys : LI) (here : Int), Same H H' -> H' u = some (.tup [.ref a, .ref b, .int here]) -> H' a = some (.tup (xs.map V.int)) -> H' b = some (.tup (ys.map V.int)) -> xs.length <= many -> ys.length <= many -> here ∈ gs -> (∀ f ∈ xs, 0 <= f /\ f < (wide : Int)) -> (∀ f ∈ ys, 0 <= f /\ f < (wide : Int)) -> walkI rows xs 0 = here -> walkI rows ys here = here -> ys ≠ [] -> Q (.ref u) H'
section
variable {P : Program} {w : World} {K : PySem.W.Frag} {mg : Str -> Option Value} {base : Heap} {f : Addr} {fd : FuncData} {dV : Value}
theorem sc_way_round : FnScope ["rows", "going", "met", "taken", "here", "figure"] ["rows", "going"] (defScope s_way_round) := ⟨rfl, rfl, rfl, by decide +kernel, rfl, by decide +kernel, by decide +kernel⟩
theorem bk_way_round_0 : BlkScope ["rows", "going", "met", "taken", "here", "figure"] (defScope s_way_round) ["there", "going"] [none, some 1] { kind := ScopeKind.function, names := [(".0", NameKind.local), ("there", NameKind.local), ("going", NameKind.free)], isGenerator := false, isCoroutine := false, more := [] } := ⟨rfl, by decide +kernel, by decide +kernel, by decide +kernel, by decide +kernel, rfl, by decide +kernel⟩
theorem ok_roundC (F : FunD K "way_round" "way_round" s_way_round dV f fd) (z_len : mg "len" = none) (z_tuple : mg "tuple" = none) : FnOk P w K mg base CX0 1 f fd ["rows", "going"] (spRoundC K) := by
  refine F.ok sc_way_round (fun vs H Q E h => ?_) (fun cdv A outer s H vs Q E hr h => ?_)
  · obtain ⟨r, go, many, wide, ras, rows, gs, rfl, _⟩ := h
    rfl
  obtain ⟨r, go, many, wide, ras, rows, gs, rfl, hr', hA, R, ⟨n0, n1⟩, w1, hgo, hgs, h0, hnx, k⟩ := h
  have hu := hu_of hr
  refine ⟨_, (pss_cons (ps_set (i := 2) sc_way_round.nd rfl (Or.inl rfl) pe_dnewK)
      (pss_cons (ps_set (i := 3) sc_way_round.nd rfl (Or.inl rfl) (pe_lst pa_nil))
      (pss_cons (ps_set (i := 4) sc_way_round.nd rfl (Or.inl rfl) pe_int)
      (pss_cons (ps_while PassesOwn.never (pt_cmp (pc_dnotin hu (pv 4) (pv 2)) (by with_unfolding_all rfl)) (pss_cons (ps_dput hu (pv 2) (pv 4) (pe_callB call_len_seq (by rfl) z_len bt_len (pa_cons (pv 3) pa_nil)) rfl)
      (pss_cons (ps_set (i := 5) sc_way_round.nd rfl (Or.inl rfl) (pe_bm PySem.F.plainAttrs_list PySem.F.slot_list_index PySem.F.type_list_index mt_indexB (pe_comp rfl bk_way_round_0 (pi_tup (pe_ix ix_tup (pv 0) (pv 4) (fun _ _ => rfl))) (fun _ _ _ _ => (pg_name (i := 0) bk_way_round_0.nd rfl (Or.inl rfl))) (fun _ _ _ _ => (pe_cmp (pc_din hu (pv 0) (pv 1)) (by with_unfolding_all rfl)))) (pa_cons pe_bl pa_nil)))
      (pss_cons (ps_expr (pe_bm PySem.F.plainAttrs_list PySem.F.slot_list_append PySem.F.type_list_append mt_append (pv 3) (pa_cons (pv 5) pa_nil)))
      (pss_one (ps_set (i := 4) sc_way_round.nd rfl (Or.inl rfl) (pe_ix ix_tup (pe_ix ix_tup (pv 0) (pv 4) (fun _ _ => rfl)) (pv 5) (fun _ _ => rfl))))))))
      (pss_one (ps_ret (pe_tup (pa_cons (pe_callTy call_tuple_of (by rfl) z_tuple bt_tuple (pa_cons (pe_slice sl_list (pv 3) po_none (po_some (pe_dget hu (pv 2) (pv 4) (fun _ _ => rfl)))) pa_nil)) (pa_cons (pe_callTy call_tuple_of (by rfl) z_tuple bt_tuple (pa_cons (pe_slice sl_list (pv 3) (po_some (pe_dget hu (pv 2) (pv 4) (fun _ _ => rfl))) po_none) pa_nil)) (pa_cons (pv 4) pa_nil)))))))))), ?_⟩
  refine fun Mt hMt => ?_
  have sM := same_new hMt (HO.dK [])
  refine ⟨(by show 0 <= sizeLine; decide), fun T hT => ?_⟩
  have fT : H T = none := sM.free hT
  have nTM : T ≠ Mt := fun z => by rw [z, upd_same] at hT; cases hT
  have s0 := sM.trans (same_new hT (HO.lst []))
  refine seq_const ?_
  try dsimp only [gName]
  refine cut_G (t := tWhile _ _) (fun σ' H' => ∃ (ms tk : LI) (mf : Int -> Int) (here : Int) (v5 : OV), σ' = [some (.ref r), some (.ref go), some (.ref Mt), some (.ref T), some (.int here), v5] /\ Same H H' /\ H' Mt = some (.dK (kvF ms mf)) /\ H' T = some (.lst (tk.map V.int)) /\ tk.length <= many /\ here ∈ ms /\ here ∈ gs /\ (∀ q ∈ ms, ∃ c : Nat, mf q = (c : Int) /\ c < tk.length /\ walkI rows (tk.take c) 0 = q) /\ (∀ f ∈ tk, 0 <= f /\ f < (wide : Int)) /\ walkI rows tk 0 = here) ?_ (fun D' nxt => ?_)
  rotate_left
  · refine while_W (fun mm σ' H' => ∃ (ms tk : LI) (mf : Int -> Int) (here : Int) (v5 : OV), mm = many - ms.length /\ σ' = [some (.ref r), some (.ref go), some (.ref Mt), some (.ref T), some (.int here), v5] /\ Same H H' /\ H' Mt = some (.dK (kvF ms mf)) /\ H' T = some (.lst (tk.map V.int)) /\ tk.length = ms.length /\ ms.Nodup /\ (∀ q ∈ ms, q ∈ gs) /\ here ∈ gs /\ (∀ q ∈ ms, ∃ c : Nat, mf q = (c : Int) /\ c < tk.length /\ walkI rows (tk.take c) 0 = q) /\ (∀ f ∈ tk, 0 <= f /\ f < (wide : Int)) /\ walkI rows tk 0 = here)
      ⟨_, [], [], (fun _ => 0), 0, none, rfl, rfl, s0, by rw [upd_ne (Ne.symm nTM), upd_same]; rfl, upd_same, rfl, List.Pairwise.nil, (fun q h => by cases h), h0, (fun q h => by cases h), (fun f h => by cases h), rfl⟩ ?_
    rintro mm σ' H1 ⟨ms, tk, mf, here, v5, rfl, rfl, s1, hM1, hT1, lt1, nd1, sub1, hg1, mf1, fg1, wk1⟩
    have few := few_below many nd1 fun q hq => hgs q (sub1 q hq)
    refine ⟨_, rfl, _, rfl, Mt, _, rfl, DGet.k (k := Sum.inl here) hM1, _, rfl, ?_⟩
    rw [kvF_isSome]
    refine iteDn (fun c => ?_) (fun c => ?_)
    · have nd2 := nd_snoc nd1 c
      have few2 := few_below many nd2 fun q hq => by
        rcases ma_.mp hq with z | z
        · exact hgs q (sub1 q z)
        · rw [List.mem_singleton.mp z]; exact hgs here hg1
      rw [List.length_append, List.length_singleton] at few2
      refine ⟨fun σ' H' => ∃ m', m' < many - ms.length /\ ∃ (ms tk : LI) (mf : Int -> Int) (here : Int) (v5 : OV), m' = many - ms.length /\ σ' = [some (.ref r), some (.ref go), some (.ref Mt), some (.ref T), some (.int here), v5] /\ Same H H' /\ H' Mt = some (.dK (kvF ms mf)) /\ H' T = some (.lst (tk.map V.int)) /\ tk.length = ms.length /\ ms.Nodup /\ (∀ q ∈ ms, q ∈ gs) /\ here ∈ gs /\ (∀ q ∈ ms, ∃ c : Nat, mf q = (c : Int) /\ c < tk.length /\ walkI rows (tk.take c) 0 = q) /\ (∀ f ∈ tk, 0 <= f /\ f < (wide : Int)) /\ walkI rows tk 0 = here, fun σ' H' h => h, ?_⟩
      have hin := hgs here hg1
      have l1 : here.toNat < rows.length := by rw [R.len]; omega
      obtain ⟨ra, e1, e2⟩ := hA.get l1
      have lr : rows[here.toNat].length = wide := R.row _ (List.getElem_mem l1)
      refine ⟨_, rfl, T, _, rfl, .inl (qL_ hT1), _, rfl, _, rfl, Mt, _, rfl, DPut.k (k := Sum.inl here) hM1 (small1000 (by unfold kvF; rw [lm_]; omega)), ?_⟩
      rw [kvF_new c]
      obtain ⟨mf', emf⟩ : ∃ mf', setF mf here ((tk.map V.int).length : Int) = mf' := ⟨_, rfl⟩
      rw [emf]
      have hmf : ∀ j : Int, ∀ q ∈ ms ++ [here], ∃ c : Nat, mf' q = (c : Int) /\ c < (tk ++ [j]).length /\ walkI rows ((tk ++ [j]).take c) 0 = q := fun j q hq => by
        rw [<- emf]
        unfold setF
        by_cases d : q = here
        · rw [if_pos d]
          refine ⟨tk.length, by rw [lm_], by rw [List.length_append, List.length_singleton]; omega, ?_⟩
          rw [List.take_left' rfl, d]
          exact wk1
        · rw [if_neg d]
          rcases ma_.mp hq with z | z
          · obtain ⟨c', h1, h2, h3⟩ := mf1 q z
            refine ⟨c', h1, by rw [List.length_append]; omega, ?_⟩
            rw [List.take_append_of_le_length (by omega)]
            exact h3
          · exact absurd (List.mem_singleton.mp z) d
      obtain ⟨H2, eH2⟩ : ∃ H2, upd H1 Mt (HO.dK (kvF (ms ++ [here]) mf')) = H2 := ⟨_, rfl⟩
      have s2 : Same H H2 := by rw [<- eH2]; exact same_upd s1 hMt
      have hM2 : H2 Mt = some (.dK (kvF (ms ++ [here]) mf')) := by rw [<- eH2, upd_same]
      have hT2 : H2 T = some (.lst (tk.map V.int)) := by rw [<- eH2, upd_ne nTM]; exact hT1
      rw [eH2]
      refine ⟨_, rfl, _, rfl, r, _, _, _, rfl, rfl, qT_ (s2 _ _ hr'), atI_refs hin.1 e1, ra, rfl, ⟨_, qT_ (s2 _ _ e2)⟩, ?_⟩
      refine comp_tup (K := K) (xs := rows[here.toNat].map V.int) (fun D j ys H' => Same H2 H' /\ ys = ((rows[here.toNat].take j).map fun t => decide (t ∈ gs)).map V.bl) (fun D hD => ⟨same_new hD _, rfl⟩) (fun D j ys H' _ ⟨e, _⟩ => qT_ (e _ _ (s2 _ _ e2))) ?_ ?_
      · rintro D j y ys H' Q' hD hj hy ⟨hs, rfl⟩ k'
        obtain ⟨t, rfl, ht⟩ := ints_at hj
        refine ⟨_, rfl, _, rfl, go, _, rfl, DGet.k (k := Sum.inl t) (hs _ _ (s2 _ _ hgo)), ?_⟩
        rw [kvT_val]
        refine k' _ _ hy (small1000 (by rw [lm_, lm_, List.length_take]; omega)) ⟨same_upd hs hD, ?_⟩
        rw [List.take_add_one, ht, List.map_append, List.map_append]
        rfl
      rintro D ys H3 fD hD ⟨s3, rfl⟩
      rw [lm_, List.take_length] at hD
      obtain ⟨t, ht, tg⟩ := hnx here hg1
      rw [getD_at l1] at ht
      obtain ⟨j, hj, hno⟩ := first_true (bs := rows[here.toNat].map fun t => decide (t ∈ gs)) (List.mem_map.mpr ⟨t, ht, decide_eq_true tg⟩)
      have jl : j < rows[here.toNat].length := by have := (gi_ hj).1; rw [lm_] at this; exact this
      have tj : rows[here.toNat][j] ∈ gs := by
        rw [List.getElem?_map, List.getElem?_eq_getElem jl] at hj
        exact of_decide_eq_true (Option.some.inj hj)
      refine ⟨.inl ⟨rfl, _, qL_ hD⟩, D, _, j, rfl, rfl, hD, hj, hno, ?_⟩
      have hT3 := s3 _ _ hT2
      have hM3 := s3 _ _ hM2
      have s23 := s2.trans s3
      refine ⟨_, rfl, .inl ⟨rfl, _, qL_ hT3⟩, _, rfl, T, _, _, rfl, rfl, hT3, small1000 (by rw [lm_]; omega), ?_⟩
      obtain ⟨H4, eH4⟩ : ∃ H4, upd H3 T (HO.lst (tk.map V.int ++ [V.int (j : Int)])) = H4 := ⟨_, rfl⟩
      have s4 : Same H H4 := by rw [<- eH4]; exact same_upd s23 fT
      have hM4 : H4 Mt = some (.dK (kvF (ms ++ [here]) mf')) := by rw [<- eH4, upd_ne (Ne.symm nTM)]; exact hM3
      have hT4 : H4 T = some (.lst ((tk ++ [(j : Int)]).map V.int)) := by rw [<- eH4, upd_same, List.map_append]; rfl
      dsimp only [gName]
      rw [eH4]
      have a2 : atI (rows[here.toNat].map V.int) (j : Int) = some (.int rows[here.toNat][j]) := by
        rw [atI_ints (by omega) (by omega), Int.toNat_natCast, getD_at jl]
      refine ⟨_, rfl, _, rfl, r, _, _, _, rfl, rfl, qT_ (s4 _ _ hr'), atI_refs hin.1 e1, _, rfl, ra, _, _, _, rfl, rfl, qT_ (s4 _ _ e2), a2, ?_⟩
      refine ⟨_, (by rw [List.length_append, List.length_singleton]; omega : many - (ms ++ [here]).length < _), ms ++ [here], tk ++ [(j : Int)], mf', _, _, rfl, rfl, s4, hM4, hT4, by rw [List.length_append, List.length_append, lt1]; rfl, nd2, fun q hq => ?_, tj, hmf _, fun f hf => ?_, ?_⟩
      · rcases ma_.mp hq with z | z
        · exact sub1 q z
        · rw [List.mem_singleton.mp z]; exact hg1
      · rcases ma_.mp hf with z | z
        · exact fg1 f z
        · rw [List.mem_singleton.mp z]; omega
      · rw [walkI_append, wk1]
        show stepI rows here (j : Int) = _
        unfold stepI
        rw [getD_at l1, Int.toNat_natCast, getD_at jl]
    · exact nxt _ _ ⟨ms, tk, mf, here, v5, rfl, s1, hM1, hT1, by omega, c, hg1, mf1, fg1, wk1⟩
  rintro σ' H1 ⟨ms, tk, mf, here, v5, rfl, s1, hM1, hT1, lt1, hms, hg1, mf1, fg1, wk1⟩
  obtain ⟨c, ec, cl, wc⟩ := mf1 here hms
  have dg : ∀ {H' : Hp}, H' Mt = some (.dK (kvF ms mf)) -> DGet H' Mt (V.int here) (some (V.int (c : Int))) := fun h => by
    have q := DGet.k (k := Sum.inl here) h
    rw [kvF_val mf hms, ec] at q
    exact q
  refine ⟨_, rfl, _, rfl, _, rfl, Mt, _, rfl, dg hM1, _, rfl, T, _, rfl, qL_ hT1, fun p hp => ?_⟩
  rw [cut_front]
  have sp := same_new hp (HO.lst ((tk.take c).map V.int))
  refine ⟨p, _, rfl, .inl ⟨qL_ upd_same, fun a ha => ?_⟩⟩
  have sa := same_new ha (HO.tup ((tk.take c).map V.int))
  have s2 := sp.trans sa
  have hT2 := s2 _ _ hT1
  refine ⟨_, rfl, _, rfl, _, rfl, Mt, _, rfl, dg (s2 _ _ hM1), _, rfl, T, _, rfl, qL_ hT2, fun p2 hp2 => ?_⟩
  rw [cut_tail (by omega)]
  have sp2 := same_new hp2 (HO.lst ((tk.drop c).map V.int))
  refine ⟨p2, _, rfl, .inl ⟨qL_ upd_same, fun b hb => ?_⟩⟩
  have sb := same_new hb (HO.tup ((tk.drop c).map V.int))
  refine ⟨_, rfl, (by show 3 <= sizeLine; decide), fun u hu' => ?_⟩
  have su := same_new hu' (HO.tup [V.ref a, V.ref b, V.int here])
  have s3 := sp2.trans (sb.trans su)
  exact k u a b _ (tk.take c) (tk.drop c) here (s1.trans (s2.trans s3)) upd_same (s3 _ _ upd_same) (su _ _ upd_same) (by rw [List.length_take]; omega) (by rw [List.length_drop]; omega) hg1 (fun f hf => fg1 f (List.mem_of_mem_take hf)) (fun f hf => fg1 f (List.mem_of_mem_drop hf)) wc (by
    have e := walkI_append rows (tk.take c) (tk.drop c) 0
    rw [List.take_append_drop, wc, wk1] at e
    exact e.symm) (fun z => by
    have := congrArg List.length z
    rw [List.length_drop] at this
    simp at this
    omega)
end
def spOutC (K : PySem.W.Frag) : Sp := fun vs H Q _ => ∃ (m r g : Addr) (sg st : Int) (many wide : Nat) (rows : LL) (signs : LI), vs = [.ref m, .int sg, .int st] /\ MachAt H m r g wide rows signs /\ RowsOk many wide rows /\ signs.length = many /\ (1 <= many /\ many <= 60) /\ wide <= 200 /\ (0 <= st /\ st < (many : Int)) /\
  Goes rows signs wide sg st /\
  ∀ (t : Addr) (H' : Hp) (xs : LI) (x : Int), Same H H' -> H' t = some (.tup ((xs ++ [x]).map V.int)) -> xs.length < many -> (∀ f ∈ xs ++ [x], 0 <= f /\ f < (wide : Int)) -> 0 < x -> signs.getD (walkI rows (xs ++ [x]) st).toNat 0 = sg -> Q (.ref t) H'
section
variable {P : Program} {w : World} {K : PySem.W.Frag} {mg : Str -> Option Value} {base : Heap} {f : Addr} {fd : FuncData} {dV : Value}
theorem sc_way_out : FnScope ["machine", "sign", "start", "signs", "here", "row", "figure", "there"] ["machine", "sign", "start"] (defScope s_way_out) := ⟨rfl, rfl, rfl, by decide +kernel, rfl, by decide +kernel, by decide +kernel⟩
theorem ok_outC (F : FunD K "way_out" "way_out" s_way_out dV f fd) (G_first_rows : DefOk P w K mg base "first_rows" 2 ["machine", "start"] [] (spFirstC K)) (z_enumerate : mg "enumerate" = none) : FnOk P w K mg base CX0 3 f fd ["machine", "sign", "start"] (spOutC K) := by
  refine F.ok sc_way_out (fun vs H Q E h => ?_) (fun cdv A outer s H vs Q E hr h => ?_)
  · obtain ⟨m, r, g, sg, st, many, wide, rows, signs, rfl, _⟩ := h
    rfl
  obtain ⟨m, r, g, sg, st, many, wide, rows, signs, rfl, M, R, lsg, ⟨n0, n1⟩, w1, ⟨st0, st1⟩, lead, k⟩ := h
  obtain ⟨ras, hr', hA⟩ := M.rows
  have hu := hu_of hr
  refine body_w (ws_cons (PSW.mk (ps_set (i := 3) sc_way_out.nd rfl (Or.inl rfl) (pe_ix ix_tup (pv 0) pe_int (fun _ _ => rfl))))
      (ws_cons (PSW.mk (ps_for PassesOwn.never rfl (pi_items (pe_bm0 PySem.F.plainAttrs_dict PySem.F.slot_dict_items PySem.F.type_dict_items mt_items (pe_cd G_first_rows hr (pa_cons (pv 0) (pa_cons (pv 2) pa_nil))))) (pg_tup rfl (pgs_cons (pg_name (i := 4) sc_way_out.nd rfl (Or.inl rfl)) (pgs_cons (pg_name (i := 5) sc_way_out.nd rfl (Or.inl rfl)) pgs_nil))) (pss_one (ps_for PassesOwn.never rfl (pi_enumT rfl z_enumerate (pa_cons (pe_ix ix_tup (pe_ix ix_tup (pv 0) pe_int (fun _ _ => rfl)) (pv 4) (fun _ _ => rfl)) pa_nil)) (pg_tup rfl (pgs_cons (pg_name (i := 6) sc_way_out.nd rfl (Or.inl rfl)) (pgs_cons (pg_name (i := 7) sc_way_out.nd rfl (Or.inl rfl)) pgs_nil))) (pss_one (ps_if (PW.pt (pw_and (pt_cmpR op_gt (pv 6) pe_int (nomark _)) (pw_and1 (pt_cmpR op_eq (pe_ix ix_tup (pv 3) (pv 7) (fun _ _ => rfl)) (pv 1) (nomark _))))) (pss_one (ps_ret (pe_op op_catA (pv 5) (pe_tup (pa_cons (pv 6) pa_nil))))) pss_nil))))))
      (ws_one (PSW.mk (ps_ret pe_non))))) ?_
  refine ⟨_, rfl, m, _, _, _, rfl, rfl, qT_ M.tup, rfl, ?_⟩
  try dsimp only [gName]
  refine cut_seq (t := tFor _ _ _) (fun σ' H' => False) (fun σ' H' z => z.elim) (fun nxt => ?_)
  refine ⟨_, rfl, _, rfl, m, r, g, st, many, wide, rows, signs, rfl, ⟨st0, st1⟩, M, R, ⟨n0, by omega⟩, fun D H1 es s1 hD1 fD RI B => ?_⟩
  refine ⟨.inr (.inr (.inl ⟨rfl, .inl ⟨_, hD1⟩⟩)), D, _, rfl, rfl, hD1, fun vw hvw => ?_⟩
  have nDv : D ≠ vw := ne_of_none hD1 hvw
  refine ⟨vw, D, kvL es, rfl, upd_same, by rw [upd_ne nDv]; exact hD1, fun o => ?_⟩
  have fvw : H vw = none := s1.free hvw
  obtain ⟨H2, eH2⟩ : ∃ H2, upd (upd H1 vw (ItemsAt vw D)) D (.frz o (.dK (kvL es))) = H2 := ⟨_, rfl⟩
  have s2 : Same H H2 := by rw [<- eH2]; exact same_upd (same_upd s1 fvw) fD
  have hD2 : H2 D = some (.frz o (.dK (kvL es))) := by rw [<- eH2, upd_same]
  have RI2 : RowsIn wide rows st H2 es := RI.same fun b xs e => by
    rw [<- eH2, upd_ne (ne_of e hD1 (by intro z; cases z)), upd_ne (ne_of_none e hvw)]; exact e
  rw [eH2]
  have few := few_below many B.nd B.inr
  rw [lm_] at few
  refine for_items (o := o) (kvs := kvL es) (fun i σ' H' => ∃ v4 v5 v6 v7 : OV, σ' = [some (.ref m), some (.int sg), some (.int st), some (.ref g), v4, v5, v6, v7] /\ Same H2 H' /\ ∀ (q : Nat) (e : Int × Addr), q < i -> es[q]? = some e -> ¬ Clo rows signs wide sg e.1)
    ⟨none, none, none, none, rfl, Same.refl _, fun q e h => by omega⟩ (fun i σ' H' _ ⟨_, _, _, _, _, e, _⟩ => e _ _ hD2) ?_ ?_
  · rintro i p σ' H3 T hi ⟨v4, v5, v6, v7, rfl, s3, non3⟩ hT
    obtain ⟨e, he, rfl⟩ : ∃ e, es[i]? = some e /\ p = (Sum.inl e.1, V.ref e.2) := by
      unfold kvL at hi
      rw [List.getElem?_map] at hi
      obtain ⟨e, h1, h2⟩ := Option.map_eq_some_iff.mp hi
      exact ⟨e, h1, h2.symm⟩
    obtain ⟨here, ro⟩ := e
    have il : i < es.length := (gi_ he).1
    have hin := B.inr here (List.mem_map.mpr ⟨_, mq_ he, rfl⟩)
    obtain ⟨ns, hro, lns, nfig, nwk⟩ := RI2 i _ he
    have l1 : here.toNat < rows.length := by rw [R.len]; omega
    obtain ⟨ra, e1, e2⟩ := hA.get l1
    have lr : rows[here.toNat].length = wide := R.row _ (List.getElem_mem l1)
    have sT := same_new hT (HO.tup [V.int here, V.ref ro])
    refine ⟨T, _, rfl, qT_ upd_same, rfl, _, _, rfl, _, _, rfl, rfl, ?_⟩
    have s4 := s2.trans (s3.trans sT)
    refine ⟨_, rfl, m, _, _, _, rfl, rfl, qT_ (s4 _ _ M.tup), rfl, _, rfl, r, _, _, _, rfl, rfl, qT_ (s4 _ _ hr'), atI_refs hin.1 e1, ra, rfl, ⟨_, qT_ (s4 _ _ e2)⟩, for_enumT (K := K) (xs := rows[here.toNat].map V.int) (fun j σ' H' => ∃ v6 v7 : OV, σ' = [some (.ref m), some (.int sg), some (.int st), some (.ref g), some (.int here), some (.ref ro), v6, v7] /\ Same (upd H3 T (HO.tup [V.int here, V.ref ro])) H' /\ ∀ q : Nat, 0 < q -> q < j -> q < wide -> signs.getD (stepI rows here q).toNat 0 ≠ sg)
      ⟨v6, v7, rfl, Same.refl _, fun q _ h => by omega⟩ (fun j σ' H' _ ⟨_, _, _, e, _⟩ => qT_ (e _ _ (s4 _ _ e2))) ?_ ?_⟩
    · rintro j y σ' H5 T2 hj ⟨v6, v7, rfl, s5, non5⟩ hT2
      obtain ⟨t, rfl, ht⟩ := ints_at hj
      have jl : j < rows[here.toNat].length := (gi_ ht).1
      have tin := R.val _ (List.getElem_mem l1) t (mq_ ht)
      have stp : stepI rows here (j : Int) = t := by
        unfold stepI
        rw [getD_at l1, Int.toNat_natCast, getD_at jl]
        exact (gi_ ht).2
      have sT2 := same_new hT2 (HO.tup [V.int j, V.int t])
      have s6 := s4.trans (s5.trans sT2)
      refine ⟨T2, _, rfl, qT_ upd_same, rfl, _, _, rfl, _, _, rfl, rfl, ?_⟩
      refine ⟨_, rfl, _, _, rfl, rfl, _, rfl, iteD (fun c => ?_) (fun c => ?_)⟩
      · refine ⟨_, rfl, _, rfl, g, _, _, _, rfl, rfl, qT_ (s6 _ _ M.sgn), atI_ints tin.1 (by omega), _, rfl, rfl, _, rfl, iteI (fun d => ?_) (fun d => ?_)⟩
        · have hro6 : (upd H5 T2 (HO.tup [V.int j, V.int t])) ro = some (.tup (ns.map V.int)) := sT2 _ _ (s5 _ _ (sT _ _ (s3 _ _ hro)))
          have figs : ∀ f ∈ ns ++ [(j : Int)], 0 <= f /\ f < (wide : Int) := fun f hf => by
            rcases ma_.mp hf with y | y
            · exact nfig f y
            · rw [List.mem_singleton.mp y]; omega
          have sgn : signs.getD (walkI rows (ns ++ [(j : Int)]) st).toNat 0 = sg := by
            rw [walkI_append, nwk]
            show signs.getD (stepI rows here (j : Int)).toNat 0 = sg
            rw [stp]; exact d
          refine ⟨_, rfl, _, rfl, (by show 1 <= sizeLine; decide), fun t1 ht1 => ?_⟩
          have st1 := same_new ht1 (HO.tup [V.int j])
          refine ⟨ro, t1, _, _, rfl, rfl, qT_ (st1 _ _ hro6), qT_ upd_same, Nat.le_of_lt (Nat.lt_of_le_of_lt (show _ <= 1001 by rw [lm_]; simp only [List.length_singleton]; omega) (by decide)), fun en => ?_, (fun _ z => by cases z), fun _ _ p hp => ?_⟩
          · have en' : ns = [] := by simpa using en
            exact k t1 _ ns (j : Int) (s6.trans st1) (by rw [upd_same, en']; rfl) (by omega) figs c sgn
          · exact k p _ ns (j : Int) (s6.trans (st1.trans (same_new hp _))) (by rw [upd_same, List.map_append]; rfl) (by omega) figs c sgn
        · refine ⟨_, _, rfl, s5.trans sT2, fun q q0 q1 q2 => ?_⟩
          rcases Nat.lt_or_ge q j with z | z
          · exact non5 q q0 z q2
          · have : q = j := by omega
            subst this
            rw [stp]; exact d
      · refine ⟨_, _, rfl, s5.trans sT2, fun q q0 q1 q2 => ?_⟩
        rcases Nat.lt_or_ge q j with z | z
        · exact non5 q q0 z q2
        · omega
    · rintro σ' H5 ⟨v6, v7, rfl, s5, non5⟩
      rw [lm_, lr] at non5
      refine ⟨_, _, _, _, rfl, s3.trans (sT.trans s5), fun q e hq hqe => ?_⟩
      rcases Nat.lt_or_ge q i with z | z
      · exact non3 q e z hqe
      · have : q = i := by omega
        subst this
        rw [he] at hqe
        cases hqe
        rintro ⟨fg, f0, f1, fs⟩
        obtain ⟨n, rfl⟩ := nat_of (show 0 <= fg by omega)
        exact non5 n (by omega) (by omega) (by omega) fs
  · rintro σ' H3 ⟨v4, v5, v6, v7, rfl, s3, non3⟩
    obtain ⟨row, hrow, hcw⟩ := lead
    have hre : Reach wide rows st (walkI rows row st) := ⟨row, hrow, rfl⟩
    obtain ⟨e, he, ee⟩ := List.mem_map.mp ((B.re _).mpr hre)
    obtain ⟨q, hq⟩ := List.mem_iff_getElem?.mp he
    have ql : q < (kvL es).length := by unfold kvL; rw [lm_]; exact (gi_ hq).1
    have := non3 q e ql hq
    rw [ee] at this
    exact absurd hcw this
end
def LvQ (rows : LL) (signs : LI) (wide : Nat) (sg q : Int) : Prop := Reach wide rows 0 q /\ Goes rows signs wide sg q
def Run (rows : LL) (signs : LI) (wide : Nat) (sg : Int) : Nat -> Int -> Prop
  | 0, q => LvQ rows signs wide sg q
  | n + 1, q => LvQ rows signs wide sg q /\ ∃ f : Int, (0 <= f /\ f < (wide : Int)) /\ Run rows signs wide sg n (stepI rows q f)
theorem Run.lv {rows : LL} {signs : LI} {wide : Nat} {sg : Int} : ∀ {n : Nat} {q : Int}, Run rows signs wide sg n q -> LvQ rows signs wide sg q
  | 0, _, h => h
  | _ + 1, _, h => h.1
def Endl (rows : LL) (signs : LI) (wide : Nat) (sg : Int) : Prop := ∀ n, Run rows signs wide sg n 0
section
variable {rows : LL} {signs : LI} {many wide : Nat} {sg : Int} {ks hs : LI} {hf : Int -> Int}
theorem row_fig (R : RowsOk many wide rows) {q t : Int} (q0 : 0 <= q) (q1 : q < (many : Int)) (h : t ∈ rows.getD q.toNat []) : ∃ f : Int, (0 <= f /\ f < (wide : Int)) /\ stepI rows q f = t := by
  have l1 : q.toNat < rows.length := by rw [R.len]; omega
  rw [getD_at l1] at h
  have lr : rows[q.toNat].length = wide := R.row _ (List.getElem_mem l1)
  obtain ⟨j, hj, e⟩ := List.getElem_of_mem h
  refine ⟨(j : Int), ⟨by omega, by omega⟩, ?_⟩
  unfold stepI
  rw [getD_at l1, Int.toNat_natCast, getD_at hj, e]
theorem fig_row (R : RowsOk many wide rows) {q f : Int} (q0 : 0 <= q) (q1 : q < (many : Int)) (f0 : 0 <= f) (f1 : f < (wide : Int)) : stepI rows q f ∈ rows.getD q.toNat [] := by
  have l1 : q.toNat < rows.length := by rw [R.len]; omega
  have lr : rows[q.toNat].length = wide := R.row _ (List.getElem_mem l1)
  unfold stepI
  rw [getD_at l1, getD_at (show f.toNat < rows[q.toNat].length by omega)]
  exact List.getElem_mem _
theorem run_on (R : RowsOk many wide rows) (hin : ∀ q ∈ ks, 0 <= q /\ q < (many : Int)) (hk : ∀ q, q ∈ ks ↔ LvQ rows signs wide sg q) (stay : ∀ q ∈ ks, q ∉ hs -> ∃ t ∈ rows.getD q.toNat [], t ∈ ks /\ t ∉ hs) : ∀ (n : Nat) (q : Int), q ∈ ks -> q ∉ hs -> Run rows signs wide sg n q
  | 0, q, h, _ => (hk q).mp h
  | n + 1, q, h, h' => by
    obtain ⟨t, h1, h2, h3⟩ := stay q h h'
    obtain ⟨f, hf, e⟩ := row_fig R (hin q h).1 (hin q h).2 h1
    exact ⟨(hk q).mp h, f, hf, by rw [e]; exact run_on R hin hk stay n t h2 h3⟩
theorem run_le (R : RowsOk many wide rows) (hin : ∀ q ∈ ks, 0 <= q /\ q < (many : Int)) (hk : ∀ q, q ∈ ks ↔ LvQ rows signs wide sg q) (sub : ∀ q ∈ hs, q ∈ ks) (ht : HtOk rows ks hs hf) : ∀ (n : Nat) (q : Int), q ∈ hs -> Run rows signs wide sg n q -> (n : Int) <= hf q
  | 0, q, h, _ => ht.nn q h
  | n + 1, q, h, ⟨_, f, hf', r⟩ => by
    have qi := hin q (sub q h)
    have tk := (hk _).mpr r.lv
    obtain ⟨h1, h2⟩ := ht.dn q h _ (onw_mem.mpr ⟨fig_row R qi.1 qi.2 hf'.1 hf'.2, tk⟩)
    have := run_le R hin hk sub ht n _ h1 r
    omega
theorem endl_iff (R : RowsOk many wide rows) (hin : ∀ q ∈ ks, 0 <= q /\ q < (many : Int)) (hk : ∀ q, q ∈ ks ↔ LvQ rows signs wide sg q) (sub : ∀ q ∈ hs, q ∈ ks) (ht : HtOk rows ks hs hf) (stay : ∀ q ∈ ks, q ∉ hs -> ∃ t ∈ rows.getD q.toNat [], t ∈ ks /\ t ∉ hs) : Endl rows signs wide sg ↔ (0 : Int) ∈ ks /\ (0 : Int) ∉ hs := by
  constructor
  · intro e
    refine ⟨(hk 0).mpr (e 0), fun z => ?_⟩
    have := run_le R hin hk sub ht (hf 0).toNat.succ 0 z (e _)
    have := ht.nn 0 z
    omega
  · exact fun ⟨h1, h2⟩ n => run_on R hin hk stay n 0 h1 h2
end
def spEndlessC (K : PySem.W.Frag) : Sp := fun vs H Q _ => ∃ (m r g : Addr) (sg : Int) (many wide : Nat) (rows : LL) (signs : LI), vs = [.ref m, .int sg] /\ MachAt H m r g wide rows signs /\ RowsOk many wide rows /\ signs.length = many /\ (1 <= many /\ many <= 60) /\ (1 <= wide /\ wide <= 200) /\
  (¬ Endl rows signs wide sg -> ∀ H', Same H H' -> Q .non H') /\ (Endl rows signs wide sg -> ∀ (u a b c : Addr) (H' : Hp) (xs ys zs : LI) (here z : Int), Same H H' -> H' u = some (.tup [.ref a, .ref b, .ref c]) -> H' a = some (.tup (xs.map V.int)) -> H' b = some (.tup (ys.map V.int)) -> H' c = some (.tup ((zs ++ [z]).map V.int)) -> xs.length <= many -> ys.length <= many -> zs.length < many ->
    (∀ f ∈ xs, 0 <= f /\ f < (wide : Int)) -> (∀ f ∈ ys, 0 <= f /\ f < (wide : Int)) -> (∀ f ∈ zs ++ [z], 0 <= f /\ f < (wide : Int)) -> (0 <= here /\ here < (many : Int)) -> walkI rows xs 0 = here -> walkI rows ys here = here -> ys ≠ [] -> 0 < z -> signs.getD (walkI rows (zs ++ [z]) here).toNat 0 = sg -> Q (.ref u) H')
section
variable {P : Program} {w : World} {K : PySem.W.Frag} {mg : Str -> Option Value} {base : Heap} {f : Addr} {fd : FuncData} {dV : Value}
theorem sc_endless : FnScope ["machine", "sign", "live", "heights", "way"] ["machine", "sign"] (defScope s_endless) := ⟨rfl, rfl, rfl, by decide +kernel, rfl, by decide +kernel, by decide +kernel⟩
theorem bk_endless_0 : BlkScope ["machine", "sign", "live", "heights", "way"] (defScope s_endless) ["here", "heights"] [none, some 3] { kind := ScopeKind.function, names := [(".0", NameKind.local), ("here", NameKind.local), ("heights", NameKind.free)], isGenerator := false, isCoroutine := false, more := [] } := ⟨rfl, by decide +kernel, by decide +kernel, by decide +kernel, by decide +kernel, rfl, by decide +kernel⟩
theorem ok_endlessC (F : FunD K "endless" "endless" s_endless dV f fd) (G_live_rooms : DefOk P w K mg base "live_rooms" 2 ["machine", "sign"] [] (spLiveC K)) (G_heights_of : DefOk P w K mg base "heights_of" 1 ["rows", "live"] [] (spHeightC K)) (G_way_round : DefOk P w K mg base "way_round" 1 ["rows", "going"] [] (spRoundC K)) (G_way_out : DefOk P w K mg base "way_out" 3 ["machine", "sign", "start"] [] (spOutC K))
    (z_dict : mg "dict" = none) : FnOk P w K mg base CX0 4 f fd ["machine", "sign"] (spEndlessC K) := by
  refine F.ok sc_endless (fun vs H Q E h => ?_) (fun cdv A outer s H vs Q E hr h => ?_)
  · obtain ⟨m, r, g, sg, many, wide, rows, signs, rfl, _⟩ := h
    rfl
  obtain ⟨m, r, g, sg, many, wide, rows, signs, rfl, M, R, lsg, ⟨n0, n1⟩, ⟨w0, w1⟩, kn, ky⟩ := h
  obtain ⟨ras, hr', hA⟩ := M.rows
  have hu := hu_of hr
  refine body_w (ws_cons (PSW.mk (ps_set (i := 2) sc_endless.nd rfl (Or.inl rfl) (pe_cd G_live_rooms hr (pa_cons (pv 0) (pa_cons (pv 1) pa_nil)))))
      (ws_cons (PSW.mk (ps_set (i := 3) sc_endless.nd rfl (Or.inr rfl) (pe_cd G_heights_of hr (pa_cons (pe_ix ix_tup (pv 0) pe_int (fun _ _ => rfl)) (pa_cons (pv 2) pa_nil)))))
      (ws_cons (PSW.mk (ps_if (PW.pt (pw_or (pt_cmp (pc_dnotin hu pe_int (pv 2)) (by with_unfolding_all rfl)) (pw_or1 (pt_cmp (pc_din hu pe_int (pv 3)) (by with_unfolding_all rfl))))) (pss_one (ps_ret pe_non)) pss_nil))
      (ws_cons (PSW.mk (ps_set (i := 4) sc_endless.nd rfl (Or.inl rfl) (pe_cd G_way_round hr (pa_cons (pe_ix ix_tup (pv 0) pe_int (fun _ _ => rfl)) (pa_cons (pe_callTy (call_dictOf rfl) (by rfl) z_dict bt_dict (pa_cons (pe_compI rfl bk_endless_0 (pi_dict (pv 2)) (fun _ _ _ _ => (pg_name (i := 0) bk_endless_0.nd rfl (Or.inl rfl))) (fun _ _ _ _ => (pt_cmp (pc_dnotin hu (pv 0) (pv 1)) (by with_unfolding_all rfl))) (fun _ _ _ _ => (pe_tup (pa_cons (pv 0) (pa_cons pe_bl pa_nil))))) pa_nil)) pa_nil)))))
      (ws_one (w_ret (w_tup (wa_cons (PEW.mk (pe_ix ix_tup (pv 4) pe_int (fun _ _ => rfl))) (wa_cons (PEW.mk (pe_ix ix_tup (pv 4) pe_int (fun _ _ => rfl))) (wa_cons (PEW.mk (pe_cd G_way_out hr (pa_cons (pv 0) (pa_cons (pv 1) (pa_cons (pe_ix ix_tup (pv 4) pe_int (fun _ _ => rfl)) pa_nil))))) wa_nil)))))))))) ?_
  refine ⟨_, rfl, _, rfl, m, r, g, sg, many, wide, rows, signs, rfl, M, R, lsg, ⟨n0, by omega⟩, ⟨w0, w1⟩, fun D H1 ks s1 fD hD ndk hlv => ?_⟩
  have hks : ∀ q ∈ ks, 0 <= q /\ q < (many : Int) := fun q hq => by
    obtain ⟨row, hr1, e⟩ := ((hlv q).mp hq).1
    rw [<- e]
    exact walkI_ok R hr1 (by omega) (by omega)
  refine ⟨_, rfl, m, _, _, _, rfl, rfl, qT_ (s1 _ _ M.tup), rfl, _, rfl, r, D, many, wide, ras, rows, ks, rfl, s1 _ _ hr', hA.same fun b xs e => s1 _ _ e, R, ⟨n0, n1⟩, w1, hD, ndk, hks, fun Hd H2 hs hf s2 fHd hHd sub ht stay => ?_⟩
  have ei := endl_iff R hks hlv sub ht stay
  have hD2 := s2 _ _ hD
  have s12 := s1.trans s2
  try dsimp only [gName]
  refine ⟨_, rfl, D, _, rfl, DGet.k (k := Sum.inl (0 : Int)) hD2, _, rfl, ?_⟩
  rw [kvT_val]
  refine iteDn (fun c => iteT (kn (fun z => c (ei.mp z).1) _ s12)) (fun c0 => ?_)
  refine ⟨_, rfl, Hd, _, rfl, DGet.k (k := Sum.inl (0 : Int)) hHd, _, rfl, ?_⟩
  rw [kvF_isSome]
  refine iteD (fun c => kn (fun z => (ei.mp z).2 c) _ s12) (fun c1 => ?_)
  refine ⟨_, rfl, m, _, _, _, rfl, rfl, qT_ (s12 _ _ M.tup), rfl, _, rfl, D, kvT ks, rfl, .inl ⟨hD2, fun o => ?_⟩⟩
  obtain ⟨H3, eH3⟩ : ∃ H3, upd H2 D (.frz o (.dK (kvT ks))) = H3 := ⟨_, rfl⟩
  have s3 : Same H H3 := by rw [<- eH3]; exact same_upd s12 fD
  have hD3 : H3 D = some (.frz o (.dK (kvT ks))) := by rw [<- eH3, upd_same]
  have nDH : Hd ≠ D := fun z => by
    rw [z] at fHd
    rw [fHd] at hD
    cases hD
  have hH3 : H3 Hd = some (.dK (kvF hs hf)) := by rw [<- eH3, upd_ne nDH]; exact hHd
  show CompWI _ _ _ _ _ _ (upd H2 D (.frz o (.dK (kvT ks)))) _
  rw [eH3]
  have kl := few_below many ndk hks
  refine comp_dictI (o := o) (kvs := kvT ks) (fun L i ys H' => Same H3 H' /\ ∃ ts, ys = ts.map V.ref /\ PairsV H' ts (kvT ((ks.take i).filter fun q => !decide (q ∈ hs)))) (fun L hL => ⟨same_new hL _, [], rfl, .nil⟩) (fun L i ys H' _ ⟨e, _⟩ => e _ _ hD3) ?_ ?_
  · rintro L i p ys H' Qy Qn hL hi hy ⟨hs', ts, rfl, pv⟩ ky' kn'
    obtain ⟨q, rfl, hq⟩ : ∃ q, p = (Sum.inl q, V.bl true) /\ ks[i]? = some q := by
      unfold kvT at hi
      rw [List.getElem?_map] at hi
      obtain ⟨q, h1, h2⟩ := Option.map_eq_some_iff.mp hi
      exact ⟨q, h2.symm, h1⟩
    have il : i < ks.length := (gi_ hq).1
    refine ⟨_, rfl, _, rfl, Hd, _, rfl, DGet.k (k := Sum.inl q) (hs' _ _ hH3), _, rfl, ?_⟩
    rw [kvF_isSome]
    refine iteDn (fun c => ?_) (fun c => ?_)
    · refine ⟨_, rfl, (by show 2 <= sizeLine; decide), fun T hT => ?_⟩
      have nD : L ≠ T := ne_of_none hy hT
      have lts : ts.length <= i := by
        rw [Paired.length pv]
        unfold kvT
        rw [lm_]
        exact Nat.le_trans (List.length_filter_le _ _) (by rw [List.length_take]; omega)
      refine ky' _ _ (by rw [upd_ne nD]; exact hy) (small1000 (by rw [lm_]; omega)) ⟨same_upd (same_upd hs' (hs'.free hT)) hL, ts ++ [T], by rw [List.map_append]; rfl, ?_⟩
      rw [filt_yes hq (by simp [c]), kvT_snoc]
      exact pair_step hy hT pv
    · refine kn' _ hy ⟨hs', ts, rfl, ?_⟩
      rw [filt_no hq (by simp [c])]
      exact pv
  rintro L ys H4 fL hL ⟨s4, ts, rfl, pv⟩
  have ekl : (kvT ks).length = ks.length := by unfold kvT; rw [lm_]
  rw [ekl, List.take_length] at pv
  obtain ⟨gs, egs⟩ : ∃ gs, ks.filter (fun q => !decide (q ∈ hs)) = gs := ⟨_, rfl⟩
  rw [egs] at pv
  have ndg : gs.Nodup := by rw [<- egs]; exact ndk.filter _
  have memg : ∀ q, q ∈ gs ↔ q ∈ ks /\ q ∉ hs := fun q => by
    rw [<- egs, List.mem_filter]
    simp
  refine ⟨L, ts, _, rfl, hL, pv, fun G hG => ?_⟩
  rw [merge_kvT ndg]
  have s5 := s3.trans (s4.trans (same_new hG (HO.dK (kvT gs))))
  refine ⟨r, G, many, wide, ras, rows, gs, rfl, s5 _ _ hr', hA.same fun b xs e => s5 _ _ e, R, ⟨n0, n1⟩, w1, upd_same, fun q hq => hks q ((memg q).mp hq).1, (memg 0).mpr ⟨c0, c1⟩, fun q hq => ?_, fun u a b H6 xs ys here s6 hu6 ha6 hb6 lx ly hhere fx fy wx wy ny => ?_⟩
  · obtain ⟨h1, h2⟩ := (memg q).mp hq
    obtain ⟨t, t1, t2, t3⟩ := stay q h1 h2
    exact ⟨t, t1, (memg t).mpr ⟨t2, t3⟩⟩
  have s56 := s5.trans s6
  try dsimp only [gName]
  refine ⟨_, rfl, u, _, _, _, rfl, rfl, qT_ hu6, rfl, _, rfl, u, _, _, _, rfl, rfl, qT_ hu6, rfl, _, rfl, _, rfl, _, rfl, u, _, _, _, rfl, rfl, qT_ hu6, rfl, ?_⟩
  have hlh := (memg here).mp hhere
  have hk := hks here hlh.1
  refine ⟨m, r, g, sg, here, many, wide, rows, signs, rfl, M.same (fun b xs e => s56 _ _ e), R, lsg, ⟨n0, n1⟩, w1, hk, ((hlv here).mp hlh.1).2, fun t H7 zs z s7 ht7 lz fz z0 sz => ?_⟩
  refine ⟨(by show 3 <= sizeLine; decide), fun v hv => ?_⟩
  have s8 := same_new hv (HO.tup [V.ref a, V.ref b, V.ref t])
  have s78 := s7.trans s8
  exact ky (ei.mpr ⟨c0, c1⟩) v a b t _ xs ys zs here z (s56.trans s78) upd_same (s78 _ _ ha6) (s78 _ _ hb6) (s8 _ _ ht7) lx ly lz fx fy fz hk wx wy ny z0 sz
end
def valB (b : Int) : LI -> Int
  | [] => 0
  | p :: r => p + b * valB b r
def InB (b : Int) (ps : LI) : Prop := ∀ p ∈ ps, 0 <= p /\ p < b
theorem InB.nil {b : Int} : InB b [] := fun p h => by cases h
theorem InB.cons {b p : Int} {r : LI} (h0 : 0 <= p) (h1 : p < b) (h : InB b r) : InB b (p :: r) := fun x hx => by
  rcases List.mem_cons.mp hx with z | z
  · rw [z]; exact ⟨h0, h1⟩
  · exact h x z
theorem InB.tail {b p : Int} {r : LI} (h : InB b (p :: r)) : InB b r := fun x hx => h x (List.mem_cons_of_mem _ hx)
theorem valB_nonneg {b : Int} (hb : 0 <= b) : ∀ {ps : LI}, InB b ps -> 0 <= valB b ps
  | [], _ => Int.le_refl 0
  | p :: r, h => Int.add_nonneg (h p List.mem_cons_self).1 (Int.mul_nonneg hb (valB_nonneg hb h.tail))
theorem valB_append (b : Int) : ∀ (ps qs : LI), valB b (ps ++ qs) = valB b ps + b ^ ps.length * valB b qs
  | [], qs => by simp [valB]
  | p :: r, qs => by
    simp only [List.cons_append, valB, valB_append b r qs, List.length_cons]
    rw [Int.mul_add, Int.pow_succ, Int.add_assoc, <- Int.mul_assoc, Int.mul_comm b (b ^ r.length)]
theorem valB_snoc (b : Int) (ps : LI) (x : Int) : valB b (ps ++ [x]) = valB b ps + x * b ^ ps.length := by
  rw [valB_append]
  simp [valB, Int.mul_comm]
def pw (w : Int) : Nat -> Int
  | 0 => w
  | i + 1 => pw w i * pw w i
theorem pw_two {w : Int} (h : 2 <= w) : ∀ i, 2 <= pw w i
  | 0 => h
  | i + 1 => by
    have q := pw_two h i
    have := Int.mul_le_mul q q (by decide) (by omega)
    show 2 <= pw w i * pw w i
    omega
structure Figs (w n : Int) (ds : LI) : Prop where
  inb : InB w ds
  val : valB w ds = n
  top : ∀ d, ds.getLast? = some d -> d ≠ 0
theorem last_cases (ds : LI) : ds = [] \/ ∃ r x, ds = r ++ [x] := by
  rcases List.eq_nil_or_concat ds with h | ⟨r, x, h⟩
  · exact .inl h
  · exact .inr ⟨r, x, by simpa using h⟩
def spWhole : Sp := fun vs H Q _ => ∃ z : Int, vs = [.int z] /\ Q (.bl true) H
def spFrom : Sp := fun vs H Q _ => ∃ z y : Int, vs = [.int z, .int y] /\ Q (.bl (decide (y <= z))) H
def spNeed : Sp := fun vs H Q _ => ∃ (z y : Int) (x : Str), vs = [.int z, .int y, .str x] /\ y <= z /\ Q .non H
section
variable {P : Program} {w : World} {K : PySem.W.Frag} {mg : Str -> Option Value} {base : Heap} {f : Addr} {fd : FuncData} {dV : Value}
theorem sc_is_whole : FnScope ["thing"] ["thing"] (defScope s_is_whole) := ⟨rfl, rfl, rfl, by decide +kernel, rfl, by decide +kernel, by decide +kernel⟩
theorem sc_is_whole_from : FnScope ["thing", "least"] ["thing", "least"] (defScope s_is_whole_from) := ⟨rfl, rfl, rfl, by decide +kernel, rfl, by decide +kernel, by decide +kernel⟩
theorem sc_need_whole : FnScope ["thing", "least", "called"] ["thing", "least", "called"] (defScope s_need_whole) := ⟨rfl, rfl, rfl, by decide +kernel, rfl, by decide +kernel, by decide +kernel⟩
theorem ok_is_whole (F : FunD K "is_whole" "is_whole" s_is_whole dV f fd) (z_isinstance : mg "isinstance" = none) (z_int : mg "int" = none) (z_bool : mg "bool" = none) : FnOk P w K mg base CX0 1 f fd ["thing"] spWhole := by
  refine F.ok sc_is_whole (fun vs H Q E h => ?_) (fun cdv A outer s H vs Q E hr h => ?_)
  · obtain ⟨z, rfl, _⟩ := h
    rfl
  obtain ⟨z, rfl, q⟩ := h
  refine ⟨_, (pss_one (ps_ret (pe_and (pe_callB call_isi (by rfl) z_isinstance bt_isinstance (pa_cons (pv 0) (pa_cons (pe_bltn (v := .ty "int") rfl z_int bt_int rfl) pa_nil))) (pe_one (pe_not (pe_callB call_isi (by rfl) z_isinstance bt_isinstance (pa_cons (pv 0) (pa_cons (pe_bltn (v := .ty "bool") rfl z_bool bt_bool rfl) pa_nil)))))))), ?_⟩
  refine ⟨_, rfl, _, _, _, _, rfl, TyOf.int z, kit_int_int K, _, rfl, iteT ?_⟩
  exact ⟨_, rfl, _, _, _, _, rfl, TyOf.int z, kit_int_bool K, _, rfl, q⟩
theorem ok_from (F : FunD K "is_whole_from" "is_whole_from" s_is_whole_from dV f fd) (G_is_whole : DefOk P w K mg base "is_whole" 1 ["thing"] [] spWhole) : FnOk P w K mg base CX0 2 f fd ["thing", "least"] spFrom := by
  refine F.ok sc_is_whole_from (fun vs H Q E h => ?_) (fun cdv A outer s H vs Q E hr h => ?_)
  · obtain ⟨z, y, rfl, _⟩ := h
    rfl
  obtain ⟨z, y, rfl, q⟩ := h
  refine ⟨_, (pss_one (ps_ret (pe_and (pe_cd G_is_whole hr (pa_cons (pv 0) pa_nil)) (pe_one (pe_cmpR op_ge (pv 0) (pv 1) (nomark _)))))), ?_⟩
  exact ⟨_, rfl, z, rfl, _, rfl, iteT ⟨_, rfl, _, rfl, _, _, rfl, rfl, q⟩⟩
theorem ok_need (F : FunD K "need_whole" "need_whole" s_need_whole dV f fd) (G_is_whole_from : DefOk P w K mg base "is_whole_from" 2 ["thing", "least"] [] spFrom) : FnOk P w K mg base CX0 3 f fd ["thing", "least", "called"] spNeed := by
  refine F.ok sc_need_whole (fun vs H Q E h => ?_) (fun cdv A outer s H vs Q E hr h => ?_)
  · obtain ⟨z, y, x, rfl, _⟩ := h
    rfl
  obtain ⟨z, y, x, rfl, hy, q⟩ := h
  refine ⟨_, (pss_one (ps_if (pt_not (pt_val (pe_cd G_is_whole_from hr (pa_cons (pv 0) (pa_cons (pv 1) pa_nil))))) (pss_one ps_never) pss_nil)), ?_⟩
  refine ⟨_, rfl, _, rfl, z, y, rfl, _, rfl, iteNS hy ?_⟩
  exact q
end
def mergeB (m : Int) : LI -> LI
  | [] => []
  | [p] => [p + m * 0]
  | p :: q :: r => (p + m * q) :: mergeB m r
theorem mergeB_val (m : Int) : ∀ ps : LI, valB (m * m) (mergeB m ps) = valB m ps
  | [] => rfl
  | [p] => by simp [mergeB, valB]
  | p :: q :: r => by
    simp only [mergeB, valB, mergeB_val m r]
    rw [Int.mul_add, Int.mul_assoc, Int.add_assoc]
theorem mergeB_len (m : Int) : ∀ ps : LI, (mergeB m ps).length = (ps.length + 1) / 2
  | [] => rfl
  | [p] => by simp [mergeB]
  | p :: q :: r => by
    simp only [mergeB, List.length_cons, mergeB_len m r]
    omega
theorem mergeB_in {m : Int} (hm : 0 < m) : ∀ {ps : LI}, InB m ps -> InB (m * m) (mergeB m ps)
  | [], _ => InB.nil
  | [p], h => by
    have hp := h p List.mem_cons_self
    have mm : m * 1 <= m * m := Int.mul_le_mul_of_nonneg_left (by omega) (by omega)
    exact InB.cons (by omega) (by omega) InB.nil
  | p :: q :: r, h => by
    have hp := h p List.mem_cons_self
    have hq := h q (List.mem_cons_of_mem _ List.mem_cons_self)
    have a0 : 0 <= m * q := Int.mul_nonneg (by omega) hq.1
    have a1 : m * q <= m * (m - 1) := Int.mul_le_mul_of_nonneg_left (by omega) (by omega)
    have a2 : m * (m - 1) = m * m - m := by rw [Int.mul_sub, Int.mul_one]
    exact InB.cons (by omega) (by omega) (mergeB_in hm h.tail.tail)
theorem mergeB_take {m : Int} {ps : LI} : ∀ {i : Nat}, 2 * i < ps.length -> mergeB m (ps.take (2 * (i + 1))) = mergeB m (ps.take (2 * i)) ++ [ps.getD (2 * i) 0 + m * ps.getD (2 * i + 1) 0] := by
  intro i
  induction i generalizing ps with
  | zero =>
    intro h
    rcases ps with _ | ⟨p, _ | ⟨q, r⟩⟩
    · simp at h
    · simp [mergeB]
    · simp [mergeB]
  | succ i ih =>
    intro h
    rcases ps with _ | ⟨p, _ | ⟨q, r⟩⟩
    · simp at h
    · simp at h
    · have h' : 2 * i < r.length := by simp at h; omega
      have e := ih (ps := r) h'
      have e1 : 2 * (i + 1 + 1) = 2 * (i + 1) + 1 + 1 := by omega
      have e2 : 2 * (i + 1) = 2 * i + 1 + 1 := by omega
      rw [e1, List.take_succ_cons, List.take_succ_cons]
      show (p + m * q) :: mergeB m (r.take (2 * (i + 1))) = _
      rw [e, e2, List.take_succ_cons, List.take_succ_cons]
      rfl
theorem pw_pow {w : Int} : ∀ t : Nat, pw w t = w ^ (2 ^ t)
  | 0 => (Int.pow_one w).symm
  | t + 1 => by
    show pw w t * pw w t = _
    rw [pw_pow t, Nat.pow_succ, Nat.mul_two, Int.pow_add]
theorem ipow_mono {w : Int} (h : 1 <= w) {i : Nat} : ∀ {j : Nat}, i <= j -> w ^ i <= w ^ j
  | 0, h' => by rw [Nat.le_zero.mp h']; exact Int.le_refl _
  | j + 1, h' => by
    rcases Nat.lt_or_ge i (j + 1) with q | q
    · have ih := ipow_mono h (i := i) (j := j) (by omega)
      have p0 : (0 : Int) < w ^ j := Int.pow_pos (by omega)
      have : w ^ j * 1 <= w ^ j * w := Int.mul_le_mul_of_nonneg_left h (by omega)
      rw [Int.pow_succ]
      omega
    · rw [Nat.le_antisymm h' q]; exact Int.le_refl _
theorem valB_lt {w : Int} (h : 0 < w) : ∀ {ps : LI}, InB w ps -> valB w ps < w ^ ps.length
  | [], _ => by simp [valB]
  | p :: r, hin => by
    have hp := hin p List.mem_cons_self
    have ih := valB_lt h hin.tail
    have : w * (valB w r + 1) <= w * w ^ r.length := Int.mul_le_mul_of_nonneg_left (by omega) (by omega)
    rw [Int.mul_add, Int.mul_one] at this
    rw [List.length_cons, Int.pow_succ, Int.mul_comm (w ^ r.length) w]
    show p + w * valB w r < _
    omega
theorem InB.append {b : Int} {ps qs : LI} (h : InB b ps) (h' : InB b qs) : InB b (ps ++ qs) := fun x hx => (ma_.mp hx).elim (h x) (h' x)
theorem figs_one {w : Int} (hw : 2 <= w) : ∀ {ds es : LI} {n : Int}, Figs w n ds -> Figs w n es -> ds = es
  | [], [], _, _, _ => rfl
  | [], e :: es, n, h, h' => by
    exfalso
    have z : valB w (e :: es) = 0 := h'.val.trans h.val.symm
    exact no_zero hw h' z
  | d :: ds, [], n, h, h' => by
    exfalso
    have z : valB w (d :: ds) = 0 := h.val.trans h'.val.symm
    exact no_zero hw h z
  | d :: ds, e :: es, n, h, h' => by
    have hd := h.inb d List.mem_cons_self
    have he := h'.inb e List.mem_cons_self
    have v1 : d + w * valB w ds = n := h.val
    have v2 : e + w * valB w es = n := h'.val
    have e1 : n % w = d := by rw [<- v1, Int.add_mul_emod_self_left]; exact Int.emod_eq_of_lt hd.1 hd.2
    have e2 : n % w = e := by rw [<- v2, Int.add_mul_emod_self_left]; exact Int.emod_eq_of_lt he.1 he.2
    have ede : d = e := e1.symm.trans e2
    have ev : valB w ds = valB w es := by
      have : w * valB w ds = w * valB w es := by omega
      exact Int.eq_of_mul_eq_mul_left (by omega) this
    have t1 : Figs w (valB w ds) ds := ⟨h.inb.tail, rfl, fun x hx => by
      cases ds with
      | nil => cases hx
      | cons a r => exact h.top x (by rw [List.getLast?_cons_cons]; exact hx)⟩
    have t2 : Figs w (valB w ds) es := ⟨h'.inb.tail, ev.symm, fun x hx => by
      cases es with
      | nil => cases hx
      | cons a r => exact h'.top x (by rw [List.getLast?_cons_cons]; exact hx)⟩
    rw [ede, figs_one hw t1 t2]
where
  no_zero {w : Int} (hw : 2 <= w) : ∀ {es : LI} {e n : Int}, Figs w n (e :: es) -> valB w (e :: es) = 0 -> False
  | [], e, n, h, z => by
    have : e + w * 0 = 0 := z
    exact h.top e rfl (by omega)
  | a :: r, e, n, h, z => by
    have hz : e + w * valB w (a :: r) = 0 := z
    have he := h.inb e List.mem_cons_self
    have hv := valB_nonneg (by omega : (0 : Int) <= w) h.inb.tail
    have : 0 <= w * valB w (a :: r) := Int.mul_nonneg (by omega) hv
    have z2 : w * valB w (a :: r) = 0 := by omega
    have z3 : valB w (a :: r) = 0 := by
      rcases Int.mul_eq_zero.mp z2 with q | q
      · omega
      · exact q
    exact no_zero hw (es := r) (e := a) (n := valB w (a :: r)) ⟨h.inb.tail, rfl, fun x hx => h.top x (by rw [List.getLast?_cons_cons]; exact hx)⟩ z3
def spWithin : Sp := fun vs H Q _ => ∃ z lo hi : Int, vs = [.int z, .int lo, .int hi] /\ (lo <= z /\ z <= hi) /\ Q (.bl true) H
def spNeedRow : Sp := fun vs H Q _ => ∃ (b : Addr) (xs : List V) (x : Str), vs = [.ref b, .str x] /\ (H b = some (.lst xs) \/ H b = some (.tup xs)) /\ ∀ H', Same H H' -> Q .non H'
def spMerged (K : PySem.W.Frag) : Sp := fun vs H Q _ => ∃ (a : Addr) (m : Int) (ps : LI), vs = [.ref a, .int m] /\ H a = some (.lst (ps.map V.int)) /\ ps.length <= 5000 /\ (0 <= m /\ m < BIG) /\ (∀ p ∈ ps, 0 <= p /\ p < BIG) /\
  ∀ (l : Addr) (H' : Hp), Same H H' -> H l = none -> H' l = some (.lst ((mergeB m ps).map V.int)) -> Q (.ref l) H'
def spNumOf (K : PySem.W.Frag) : Sp := fun vs H Q _ => ∃ (b : Addr) (w : Int) (ds : LI), vs = [.ref b, .int w] /\ (H b = some (.lst (ds.map V.int)) \/ H b = some (.tup (ds.map V.int))) /\ 2 <= w /\ ds.length <= 4000 /\ w ^ (ds.length + 1) < BIG /\ InB w ds /\
  ∀ H', Same H H' -> Q (.int (valB w ds)) H'
theorem kitany_list (K : PySem.W.Frag) : PySem.W.kitAny K (.type "list") (["tuple", "list"].map Value.type) = some true := by with_unfolding_all rfl
theorem kitany_tuple (K : PySem.W.Frag) : PySem.W.kitAny K (.type "tuple") (["tuple", "list"].map Value.type) = some true := by with_unfolding_all rfl
section
variable {P : Program} {w : World} {K : PySem.W.Frag} {mg : Str -> Option Value} {base : Heap} {f : Addr} {fd : FuncData} {dV : Value}
theorem sc_is_whole_within : FnScope ["thing", "least", "most"] ["thing", "least", "most"] (defScope s_is_whole_within) := ⟨rfl, rfl, rfl, by decide +kernel, rfl, by decide +kernel, by decide +kernel⟩
theorem sc_need_row : FnScope ["thing", "called"] ["thing", "called"] (defScope s_need_row) := ⟨rfl, rfl, rfl, by decide +kernel, rfl, by decide +kernel, by decide +kernel⟩
theorem sc_number_of : FnScope ["row", "wide", "figure", "parts", "middle"] ["row", "wide"] (defScope s_number_of) := ⟨rfl, rfl, rfl, by decide +kernel, rfl, by decide +kernel, by decide +kernel⟩
theorem sc_merged : FnScope ["parts", "middle", "wholes", "at", "high"] ["parts", "middle"] (defScope s_merged) := ⟨rfl, rfl, rfl, by decide +kernel, rfl, by decide +kernel, by decide +kernel⟩
theorem ok_within (F : FunD K "is_whole_within" "is_whole_within" s_is_whole_within dV f fd) (G_is_whole : DefOk P w K mg base "is_whole" 1 ["thing"] [] spWhole) : FnOk P w K mg base CX0 2 f fd ["thing", "least", "most"] spWithin := by
  refine F.ok sc_is_whole_within (fun vs H Q E h => ?_) (fun cdv A outer s H vs Q E hr h => ?_)
  · obtain ⟨z, lo, hi, rfl, _⟩ := h
    rfl
  obtain ⟨z, lo, hi, rfl, ⟨h1, h2⟩, q⟩ := h
  refine ⟨_, (pss_one (ps_ret (pe_and (pe_cd G_is_whole hr (pa_cons (pv 0) pa_nil)) (pe_one (pe_chain op_le op_le (pv 1) (pv 0) (pv 2)))))), ?_⟩
  refine ⟨_, rfl, z, rfl, _, rfl, iteT ⟨_, rfl, _, rfl, _, _, rfl, rfl, _, rfl, iteD (fun _ => ?_) (fun c => absurd h1 c)⟩⟩
  refine ⟨_, rfl, _, _, rfl, rfl, ?_⟩
  show Q (.bl (decide (z <= hi))) H
  rw [decide_eq_true h2]
  exact q
theorem ok_need_row (F : FunD K "need_row" "need_row" s_need_row dV f fd) (z_isinstance : mg "isinstance" = none) (z_tuple : mg "tuple" = none) (z_list : mg "list" = none) : FnOk P w K mg base CX0 1 f fd ["thing", "called"] spNeedRow := by
  refine F.ok sc_need_row (fun vs H Q E h => ?_) (fun cdv A outer s H vs Q E hr h => ?_)
  · obtain ⟨b, xs, x, rfl, _⟩ := h
    rfl
  obtain ⟨b, xs, x, rfl, hb, q⟩ := h
  refine ⟨_, (pss_one (ps_if (pt_not (pt_val (pe_callB call_isiT (by rfl) z_isinstance bt_isinstance (pa_cons (pv 0) (pa_cons (pe_tup (pa_cons (pe_bltn (v := .ty "tuple") rfl z_tuple bt_tuple rfl) (pa_cons (pe_bltn (v := .ty "list") rfl z_list bt_list rfl) pa_nil))) pa_nil))))) (pss_one ps_never) pss_nil)), ?_⟩
  refine ⟨_, rfl, (by show 2 <= sizeLine; decide), fun p hp => ?_⟩
  have s1 := same_new hp (HO.tup [V.ty "tuple", V.ty "list"])
  rcases hb with hb | hb
  · exact ⟨_, p, ["tuple", "list"], _, _, rfl, upd_same, TyOf.lst (s1 _ _ hb), kitany_list K, _, rfl, iteF (q _ s1)⟩
  · exact ⟨_, p, ["tuple", "list"], _, _, rfl, upd_same, TyOf.tup (s1 _ _ hb), kitany_tuple K, _, rfl, iteF (q _ s1)⟩
theorem ok_merged (F : FunD K "merged" "merged" s_merged dV f fd) (z_range : mg "range" = none) (z_len : mg "len" = none) : FnOk P w K mg base CX0 1 f fd ["parts", "middle"] (spMerged K) := by
  refine F.ok sc_merged (fun vs H Q E h => ?_) (fun cdv A outer s H vs Q E hr h => ?_)
  · obtain ⟨a, m, ps, rfl, _⟩ := h
    rfl
  obtain ⟨a, m, ps, rfl, ha, hl, ⟨m0, m1⟩, hps, k⟩ := h
  have lp : (ps.map V.int).length = ps.length := List.length_map _
  have big : 5001 < sizeLine := by decide
  refine ⟨_, (pss_cons (ps_set (i := 2) sc_merged.nd rfl (Or.inl rfl) (pe_lst pa_nil))
      (pss_cons (ps_for PassesOwn.never rfl (pi_range3 rfl z_range (pa_cons pe_int (pa_cons (pe_callB call_len_seq (by rfl) z_len bt_len (pa_cons (pv 0) pa_nil)) (pa_cons pe_int pa_nil)))) (pg_name (i := 3) sc_merged.nd rfl (Or.inl rfl)) (pss_cons (ps_set (i := 4) sc_merged.nd rfl (Or.inl rfl) (pe_ifExp (pt_cmpR op_lt (pe_op op_add (pv 3) pe_int) (pe_callB call_len_seq (by rfl) z_len bt_len (pa_cons (pv 0) pa_nil)) (nomark _)) (pe_ix ix_list (pv 0) (pe_op op_add (pv 3) pe_int) (fun _ _ => rfl)) pe_int))
      (pss_one (ps_expr (pe_bm PySem.F.plainAttrs_list PySem.F.slot_list_append PySem.F.type_list_append mt_append (pv 2) (pa_cons (pe_op op_add (pe_ix ix_list (pv 0) (pv 3) (fun _ _ => rfl)) (pe_op op_mulB (pv 1) (pv 4))) pa_nil))))))
      (pss_one (ps_ret (pv 2))))), ?_⟩
  refine ⟨(by show 0 <= sizeLine; decide), fun l hl0 => ?_⟩
  have nla : a ≠ l := ne_of_none ha hl0
  refine ⟨_, rfl, a, _, rfl, .inl (qL_ (by rw [upd_ne nla]; exact ha)), _, rfl, ⟨by omega, by omega⟩, for_rangeS (fun i σ' H' => ∃ v1 v2, σ' = [some (.ref a), some (.int m), some (.ref l), v1, v2] /\ Same H H' /\ H' l = some (.lst ((mergeB m (ps.take (2 * i))).map V.int)))
    ⟨none, none, rfl, same_new hl0 _, by rw [upd_same]; rfl⟩ ?_ ?_⟩
  · rintro i σ' H' hi ⟨v1, v2, rfl, s1, h1⟩
    have hi2 : 2 * i < ps.length := by omega
    have a1 := s1 _ _ ha
    have g0 : (ps.getD (2 * i) 0) = ps[2 * i] := getD_at hi2
    have at0 : atI (ps.map V.int) (0 + (i : Int) * 2) = some (.int (ps.getD (2 * i) 0)) := by
      have q := atI_ints (ns := ps) (k := 0 + (i : Int) * 2) (by omega) (by omega)
      rw [show (0 + (i : Int) * 2).toNat = 2 * i by omega] at q
      exact q
    have step : ∀ hh : Int, hh = ps.getD (2 * i + 1) 0 -> ∃ v1 v2, [some (V.ref a), some (V.int m), some (V.ref l), some (V.int (0 + (i : Int) * 2)), some (V.int hh)] = [some (V.ref a), some (V.int m), some (V.ref l), v1, v2] /\ Same H (upd H' l (.lst ((mergeB m (ps.take (2 * i))).map V.int ++ [V.int (ps.getD (2 * i) 0 + m * hh)]))) /\
        (upd H' l (.lst ((mergeB m (ps.take (2 * i))).map V.int ++ [V.int (ps.getD (2 * i) 0 + m * hh)]))) l = some (.lst ((mergeB m (ps.take (2 * (i + 1)))).map V.int)) := fun hh e => by
      refine ⟨_, _, rfl, same_upd s1 hl0, ?_⟩
      rw [upd_same, mergeB_take hi2, e, List.map_append]
      rfl
    have lenl : ((mergeB m (ps.take (2 * i))).map V.int).length < sizeLine := by
      rw [lm_, mergeB_len, List.length_take]
      omega
    refine ⟨_, rfl, _, _, rfl, rfl, _, rfl, a, _, rfl, .inl (qL_ a1), _, _, rfl, rfl, _, rfl, iteD (fun c => ?_) (fun c => ?_)⟩
    · have c' : 0 + (i : Int) * 2 + 1 < (ps.length : Int) := by rw [<- lp]; exact c
      have hi3 : 2 * i + 1 < ps.length := by omega
      have hh := hps _ (List.getElem_mem hi3)
      rw [<- getD_at (d := 0) hi3] at hh
      have at1 : atI (ps.map V.int) (0 + (i : Int) * 2 + 1) = some (.int (ps.getD (2 * i + 1) 0)) := by
        have q := atI_ints (ns := ps) (k := 0 + (i : Int) * 2 + 1) (by omega) (by omega)
        rw [show (0 + (i : Int) * 2 + 1).toNat = 2 * i + 1 by omega] at q
        exact q
      refine ⟨_, rfl, _, rfl, _, _, rfl, rfl, a, _, _, _, rfl, rfl, qL_ a1, at1, ?_⟩
      refine ⟨_, rfl, .inl ⟨rfl, _, qL_ h1⟩, _, rfl, _, rfl, a, _, _, _, rfl, rfl, qL_ a1, at0, _, rfl, _, rfl, _, _, rfl, rfl, ⟨⟨m0, m1⟩, hh⟩, _, _, rfl, rfl, l, _, _, rfl, rfl, h1, lenl, step _ rfl⟩
    · have c' : ¬ (0 + (i : Int) * 2 + 1 < (ps.length : Int)) := by rw [<- lp]; exact c
      have e0 : (0 : Int) = ps.getD (2 * i + 1) 0 := by
        rw [List.getD_eq_getElem?_getD, List.getElem?_eq_none (by omega)]
        rfl
      refine ⟨_, rfl, .inl ⟨rfl, _, qL_ h1⟩, _, rfl, _, rfl, a, _, _, _, rfl, rfl, qL_ a1, at0, _, rfl, _, rfl, _, _, rfl, rfl, ⟨⟨m0, m1⟩, ⟨by decide, by decide +kernel⟩⟩, _, _, rfl, rfl, l, _, _, rfl, rfl, h1, lenl, step _ e0⟩
  · rintro σ' H' ⟨v1, v2, rfl, s1, h1⟩
    rw [List.take_of_length_le (by omega)] at h1
    exact ⟨_, rfl, k l H' s1 hl0 h1⟩
theorem ok_number_of (F : FunD K "number_of" "number_of" s_number_of dV f fd) (G_need_whole : DefOk P w K mg base "need_whole" 3 ["thing", "least", "called"] [] spNeed) (G_need_row : DefOk P w K mg base "need_row" 1 ["thing", "called"] [] spNeedRow)
    (G_is_whole_within : DefOk P w K mg base "is_whole_within" 2 ["thing", "least", "most"] [] spWithin) (G_merged : DefOk P w K mg base "merged" 1 ["parts", "middle"] [] (spMerged K)) (z_list : mg "list" = none) (z_len : mg "len" = none) :
    FnOk P w K mg base CX0 4 f fd ["row", "wide"] (spNumOf K) := by
  refine F.ok sc_number_of (fun vs H Q E h => ?_) (fun cdv A outer s H vs Q E hr h => ?_)
  · obtain ⟨b, w, ds, rfl, _⟩ := h
    rfl
  obtain ⟨b, wd, ds, rfl, hb, w0, hl, hB, hin, k⟩ := h
  have lp : (ds.map V.int).length = ds.length := List.length_map _
  have big : 5001 < sizeLine := by decide
  have w1 : wd ^ 1 <= wd ^ (ds.length + 1) := ipow_mono (by omega) (by omega)
  rw [Int.pow_one] at w1
  rcases hb with hb | hb
  · refine ⟨_, (pss_cons (ps_expr (pe_cd G_need_whole hr (pa_cons (pv 1) (pa_cons pe_int (pa_cons pe_str pa_nil)))))
      (pss_cons (ps_expr (pe_cd G_need_row hr (pa_cons (pv 0) (pa_cons pe_str pa_nil))))
      (pss_cons (ps_for PassesOwn.never rfl (pi_list (pv 0)) (pg_name (i := 2) sc_number_of.nd rfl (Or.inl rfl)) (pss_one (ps_if (pt_not (pt_val (pe_cd G_is_whole_within hr (pa_cons (pv 2) (pa_cons pe_int (pa_cons (pe_op op_sub (pv 1) pe_int) pa_nil)))))) (pss_one ps_never) pss_nil)))
      (pss_cons (ps_set (i := 3) sc_number_of.nd rfl (Or.inl rfl) (pe_op op_cat (pe_callTy call_list_of (by rfl) z_list bt_list (pa_cons (pv 0) pa_nil)) (pe_lst (pa_cons pe_int pa_nil))))
      (pss_cons (ps_set (i := 4) sc_number_of.nd rfl (Or.inl rfl) (pv 1))
      (pss_cons (ps_while PassesOwn.never (pt_cmpR op_gt (pe_callB call_len_seq (by rfl) z_len bt_len (pa_cons (pv 3) pa_nil)) pe_int (nomark _)) (pss_cons (ps_set (i := 3) sc_number_of.nd rfl (Or.inl rfl) (pe_cd G_merged hr (pa_cons (pv 3) (pa_cons (pv 4) pa_nil))))
      (pss_one (ps_set (i := 4) sc_number_of.nd rfl (Or.inl rfl) (pe_op op_mulB (pv 4) (pv 4))))))
      (pss_one (ps_ret (pe_ix ix_list (pv 3) pe_int (fun _ _ => rfl)))))))))), ?_⟩
    refine ⟨_, rfl, wd, 2, _, rfl, w0, ?_⟩
    refine ⟨_, rfl, b, _, _, rfl, (.inl hb), fun H1 s1 => ?_⟩
    have hb1 := s1 _ _ hb
    refine ⟨_, rfl, b, rfl, ⟨_, qL_ hb1⟩, for_list (K := K) (xs := ds.map V.int) (fun i σ' H' => ∃ v, σ' = [some (.ref b), some (.int wd), v, none, none] /\ H' = H1) ⟨none, rfl, rfl⟩ (fun i σ' H' _ ⟨_, _, e⟩ => by rw [e]; exact qL_ hb1) ?_ ?_⟩
    · rintro i y σ' H' hi ⟨v, rfl, rfl⟩
      obtain ⟨z, rfl, hz⟩ := ints_at hi
      have hz' := hin z (mq_ hz)
      refine ⟨_, rfl, _, rfl, _, _, rfl, rfl, z, 0, _, rfl, ⟨hz'.1, by omega⟩, _, rfl, iteF ?_⟩
      exact ⟨_, rfl, rfl⟩
    · rintro σ' H' ⟨v, rfl, rfl⟩
      refine ⟨_, rfl, b, _, rfl, .inl (qL_ hb1), fun l1 hl1 => ?_⟩
      refine ⟨(by show 1 <= sizeLine; decide), fun l2 hl2 => ?_⟩
      have n12 : l1 ≠ l2 := ne_of_none upd_same hl2
      refine ⟨l1, l2, _, _, rfl, rfl, (by rw [upd_ne n12, upd_same]), upd_same, (by rw [lp]; simp only [List.length_singleton]; omega), fun D hD => ?_⟩
      have s2 := (same_new hl1 (HO.lst (ds.map V.int))).trans ((same_new hl2 (HO.lst [V.int 0])).trans (same_new hD (HO.lst (ds.map V.int ++ [V.int 0]))))
      have s3 := s1.trans s2
      have fD : H D = none := (s1.trans ((same_new hl1 (HO.lst (ds.map V.int))).trans (same_new hl2 (HO.lst [V.int 0])))).free hD
      refine ⟨_, rfl, ?_⟩
      try dsimp only [gName]
      refine cut_G (t := tWhile _ _) (fun σ' H' => ∃ (D : Addr) (x : Int) (v v' : OV), σ' = [some (.ref b), some (.int wd), v, some (.ref D), v'] /\ Same H H' /\ H' D = some (.lst [V.int x]) /\ x = valB wd ds) ?_ (fun D' nxt => ?_)
      rotate_left
      · refine while_W (fun m σ' H' => ∃ (D : Addr) (t : Nat) (ps : LI) (v : OV), m = ps.length /\ σ' = [some (.ref b), some (.int wd), v, some (.ref D), some (.int (pw wd t))] /\ Same H H' /\ H' D = some (.lst (ps.map V.int)) /\ InB (pw wd t) ps /\ valB (pw wd t) ps = valB wd ds /\ 1 <= ps.length /\ ps.length <= ds.length + 1 /\ (1 < ps.length -> 2 ^ t <= ds.length /\ 2 ^ t * (ps.length - 1) <= ds.length))
          ⟨_, D, 0, ds ++ [0], _, rfl, rfl, s3, ?_, hin.append (InB.cons (by decide) (by omega) InB.nil), ?_, by simp, by simp, fun h => by simp at h ⊢; omega⟩ ?_
        · rw [upd_same, List.map_append]; rfl
        · show valB wd (ds ++ [0]) = _
          rw [valB_snoc, Int.zero_mul, Int.add_zero]
        rintro m σ' H2 ⟨D, t, ps, v, rfl, rfl, s4, h4, hi4, hv4, hl4, hl5, h6⟩
        have lq : (ps.map V.int).length = ps.length := List.length_map _
        refine ⟨_, rfl, D, _, rfl, .inl (qL_ h4), _, _, rfl, rfl, _, rfl, iteD (fun c => ?_) (fun c => ?_)⟩
        · have c' : 1 < ps.length := by
            have : (1 : Int) < (((ps.map V.int).length : Nat) : Int) := c
            omega
          obtain ⟨q1, q2⟩ := h6 c'
          have mB : pw wd t < BIG := by
            have : wd ^ (2 ^ t) <= wd ^ (ds.length + 1) := ipow_mono (by omega) (by omega)
            rw [pw_pow]
            omega
          have p2 := pw_two w0 t
          refine ⟨_, fun σ' H' h => h, ?_⟩
          refine ⟨_, rfl, _, rfl, D, _, ps, rfl, h4, by omega, ⟨by omega, mB⟩, fun p hp => ⟨(hi4 p hp).1, by have := (hi4 p hp).2; omega⟩, fun l H3 s5 fl hl3 => ?_⟩
          refine ⟨_, rfl, _, rfl, _, _, rfl, rfl, ⟨⟨by omega, mB⟩, ⟨by omega, mB⟩⟩, (mergeB (pw wd t) ps).length, ?_, l, t + 1, mergeB (pw wd t) ps, _, rfl, rfl, s4.trans s5, hl3, mergeB_in (by omega) hi4, ?_, ?_, ?_, fun h => ?_⟩
          · rw [mergeB_len]; omega
          · show valB (pw wd t * pw wd t) _ = _
            rw [mergeB_val]; exact hv4
          · rw [mergeB_len]; omega
          · rw [mergeB_len]; omega
          · rw [mergeB_len] at h ⊢
            have e2 : 2 ^ (t + 1) = 2 * 2 ^ t := by rw [Nat.pow_succ, Nat.mul_comm]
            have k1 : 2 ^ t * 2 <= 2 ^ t * (ps.length - 1) := Nat.mul_le_mul_left _ (by omega)
            have k2 : 2 ^ t * (2 * ((ps.length + 1) / 2 - 1)) <= 2 ^ t * (ps.length - 1) := Nat.mul_le_mul_left _ (by omega)
            rw [<- Nat.mul_assoc] at k2
            rw [e2]
            constructor
            · omega
            · rw [Nat.mul_comm 2 (2 ^ t)]; omega
        · have c' : ps.length = 1 := by
            have : ¬ ((1 : Int) < (((ps.map V.int).length : Nat) : Int)) := c
            omega
          obtain ⟨x, rfl⟩ := List.length_eq_one_iff.mp c'
          exact nxt _ _ ⟨D, x, _, _, rfl, s4, h4, by rw [<- hv4]; simp [valB]⟩
      rintro σ' H2 ⟨D, x, v, v', rfl, s4, h4, rfl⟩
      exact ⟨_, rfl, D, _, _, _, rfl, rfl, qL_ h4, rfl, k H2 s4⟩
  · refine ⟨_, (pss_cons (ps_expr (pe_cd G_need_whole hr (pa_cons (pv 1) (pa_cons pe_int (pa_cons pe_str pa_nil)))))
      (pss_cons (ps_expr (pe_cd G_need_row hr (pa_cons (pv 0) (pa_cons pe_str pa_nil))))
      (pss_cons (ps_for PassesOwn.never rfl (pi_tup (pv 0)) (pg_name (i := 2) sc_number_of.nd rfl (Or.inl rfl)) (pss_one (ps_if (pt_not (pt_val (pe_cd G_is_whole_within hr (pa_cons (pv 2) (pa_cons pe_int (pa_cons (pe_op op_sub (pv 1) pe_int) pa_nil)))))) (pss_one ps_never) pss_nil)))
      (pss_cons (ps_set (i := 3) sc_number_of.nd rfl (Or.inl rfl) (pe_op op_cat (pe_callTy call_list_of (by rfl) z_list bt_list (pa_cons (pv 0) pa_nil)) (pe_lst (pa_cons pe_int pa_nil))))
      (pss_cons (ps_set (i := 4) sc_number_of.nd rfl (Or.inl rfl) (pv 1))
      (pss_cons (ps_while PassesOwn.never (pt_cmpR op_gt (pe_callB call_len_seq (by rfl) z_len bt_len (pa_cons (pv 3) pa_nil)) pe_int (nomark _)) (pss_cons (ps_set (i := 3) sc_number_of.nd rfl (Or.inl rfl) (pe_cd G_merged hr (pa_cons (pv 3) (pa_cons (pv 4) pa_nil))))
      (pss_one (ps_set (i := 4) sc_number_of.nd rfl (Or.inl rfl) (pe_op op_mulB (pv 4) (pv 4))))))
      (pss_one (ps_ret (pe_ix ix_list (pv 3) pe_int (fun _ _ => rfl)))))))))), ?_⟩
    refine ⟨_, rfl, wd, 2, _, rfl, w0, ?_⟩
    refine ⟨_, rfl, b, _, _, rfl, (.inr hb), fun H1 s1 => ?_⟩
    have hb1 := s1 _ _ hb
    refine ⟨_, rfl, b, rfl, ⟨_, qT_ hb1⟩, for_tup (K := K) (xs := ds.map V.int) (fun i σ' H' => ∃ v, σ' = [some (.ref b), some (.int wd), v, none, none] /\ H' = H1) ⟨none, rfl, rfl⟩ (fun i σ' H' _ ⟨_, _, e⟩ => by rw [e]; exact qT_ hb1) ?_ ?_⟩
    · rintro i y σ' H' hi ⟨v, rfl, rfl⟩
      obtain ⟨z, rfl, hz⟩ := ints_at hi
      have hz' := hin z (mq_ hz)
      refine ⟨_, rfl, _, rfl, _, _, rfl, rfl, z, 0, _, rfl, ⟨hz'.1, by omega⟩, _, rfl, iteF ?_⟩
      exact ⟨_, rfl, rfl⟩
    · rintro σ' H' ⟨v, rfl, rfl⟩
      refine ⟨_, rfl, b, _, rfl, .inr (qT_ hb1), fun l1 hl1 => ?_⟩
      refine ⟨(by show 1 <= sizeLine; decide), fun l2 hl2 => ?_⟩
      have n12 : l1 ≠ l2 := ne_of_none upd_same hl2
      refine ⟨l1, l2, _, _, rfl, rfl, (by rw [upd_ne n12, upd_same]), upd_same, (by rw [lp]; simp only [List.length_singleton]; omega), fun D hD => ?_⟩
      have s2 := (same_new hl1 (HO.lst (ds.map V.int))).trans ((same_new hl2 (HO.lst [V.int 0])).trans (same_new hD (HO.lst (ds.map V.int ++ [V.int 0]))))
      have s3 := s1.trans s2
      have fD : H D = none := (s1.trans ((same_new hl1 (HO.lst (ds.map V.int))).trans (same_new hl2 (HO.lst [V.int 0])))).free hD
      refine ⟨_, rfl, ?_⟩
      try dsimp only [gName]
      refine cut_G (t := tWhile _ _) (fun σ' H' => ∃ (D : Addr) (x : Int) (v v' : OV), σ' = [some (.ref b), some (.int wd), v, some (.ref D), v'] /\ Same H H' /\ H' D = some (.lst [V.int x]) /\ x = valB wd ds) ?_ (fun D' nxt => ?_)
      rotate_left
      · refine while_W (fun m σ' H' => ∃ (D : Addr) (t : Nat) (ps : LI) (v : OV), m = ps.length /\ σ' = [some (.ref b), some (.int wd), v, some (.ref D), some (.int (pw wd t))] /\ Same H H' /\ H' D = some (.lst (ps.map V.int)) /\ InB (pw wd t) ps /\ valB (pw wd t) ps = valB wd ds /\ 1 <= ps.length /\ ps.length <= ds.length + 1 /\ (1 < ps.length -> 2 ^ t <= ds.length /\ 2 ^ t * (ps.length - 1) <= ds.length))
          ⟨_, D, 0, ds ++ [0], _, rfl, rfl, s3, ?_, hin.append (InB.cons (by decide) (by omega) InB.nil), ?_, by simp, by simp, fun h => by simp at h ⊢; omega⟩ ?_
        · rw [upd_same, List.map_append]; rfl
        · show valB wd (ds ++ [0]) = _
          rw [valB_snoc, Int.zero_mul, Int.add_zero]
        rintro m σ' H2 ⟨D, t, ps, v, rfl, rfl, s4, h4, hi4, hv4, hl4, hl5, h6⟩
        have lq : (ps.map V.int).length = ps.length := List.length_map _
        refine ⟨_, rfl, D, _, rfl, .inl (qL_ h4), _, _, rfl, rfl, _, rfl, iteD (fun c => ?_) (fun c => ?_)⟩
        · have c' : 1 < ps.length := by
            have : (1 : Int) < (((ps.map V.int).length : Nat) : Int) := c
            omega
          obtain ⟨q1, q2⟩ := h6 c'
          have mB : pw wd t < BIG := by
            have : wd ^ (2 ^ t) <= wd ^ (ds.length + 1) := ipow_mono (by omega) (by omega)
            rw [pw_pow]
            omega
          have p2 := pw_two w0 t
          refine ⟨_, fun σ' H' h => h, ?_⟩
          refine ⟨_, rfl, _, rfl, D, _, ps, rfl, h4, by omega, ⟨by omega, mB⟩, fun p hp => ⟨(hi4 p hp).1, by have := (hi4 p hp).2; omega⟩, fun l H3 s5 fl hl3 => ?_⟩
          refine ⟨_, rfl, _, rfl, _, _, rfl, rfl, ⟨⟨by omega, mB⟩, ⟨by omega, mB⟩⟩, (mergeB (pw wd t) ps).length, ?_, l, t + 1, mergeB (pw wd t) ps, _, rfl, rfl, s4.trans s5, hl3, mergeB_in (by omega) hi4, ?_, ?_, ?_, fun h => ?_⟩
          · rw [mergeB_len]; omega
          · show valB (pw wd t * pw wd t) _ = _
            rw [mergeB_val]; exact hv4
          · rw [mergeB_len]; omega
          · rw [mergeB_len]; omega
          · rw [mergeB_len] at h ⊢
            have e2 : 2 ^ (t + 1) = 2 * 2 ^ t := by rw [Nat.pow_succ, Nat.mul_comm]
            have k1 : 2 ^ t * 2 <= 2 ^ t * (ps.length - 1) := Nat.mul_le_mul_left _ (by omega)
            have k2 : 2 ^ t * (2 * ((ps.length + 1) / 2 - 1)) <= 2 ^ t * (ps.length - 1) := Nat.mul_le_mul_left _ (by omega)
            rw [<- Nat.mul_assoc] at k2
            rw [e2]
            constructor
            · omega
            · rw [Nat.mul_comm 2 (2 ^ t)]; omega
        · have c' : ps.length = 1 := by
            have : ¬ ((1 : Int) < (((ps.map V.int).length : Nat) : Int)) := c
            omega
          obtain ⟨x, rfl⟩ := List.length_eq_one_iff.mp c'
          exact nxt _ _ ⟨D, x, _, _, rfl, s4, h4, by rw [<- hv4]; simp [valB]⟩
      rintro σ' H2 ⟨D, x, v, v', rfl, s4, h4, rfl⟩
      exact ⟨_, rfl, D, _, _, _, rfl, rfl, qL_ h4, rfl, k H2 s4⟩
end
def Path (rows : LL) (wide : Nat) (G : Int -> Prop) : LL -> Int -> LI -> Prop
  | [], q, r => r = [] /\ G q
  | l :: ls, q, r => q ∈ l /\ ∃ (f : Int) (r' : LI), r = f :: r' /\ (0 <= f /\ f < (wide : Int)) /\ Path rows wide G ls (stepI rows q f) r'
theorem Path.inb {rows : LL} {wide : Nat} {G : Int -> Prop} : ∀ {ls : LL} {q : Int} {r : LI}, Path rows wide G ls q r -> InB (wide : Int) r
  | [], _, _, ⟨e, _⟩ => by rw [e]; exact InB.nil
  | _ :: _, _, _, ⟨_, f, r', e, hf, p⟩ => by rw [e]; exact InB.cons hf.1 hf.2 p.inb
theorem Path.len {rows : LL} {wide : Nat} {G : Int -> Prop} : ∀ {ls : LL} {q : Int} {r : LI}, Path rows wide G ls q r -> r.length = ls.length
  | [], _, _, ⟨e, _⟩ => by rw [e]; rfl
  | _ :: _, _, _, ⟨_, f, r', e, hf, p⟩ => by rw [e, List.length_cons, List.length_cons, p.len]
theorem Path.walk {rows : LL} {wide : Nat} {G : Int -> Prop} : ∀ {ls : LL} {q : Int} {r : LI}, Path rows wide G ls q r -> G (walkI rows r q)
  | [], _, _, ⟨e, g⟩ => by rw [e]; exact g
  | _ :: _, _, _, ⟨_, f, r', e, hf, p⟩ => by rw [e]; exact p.walk
theorem valB_one {w : Int} (hw : 2 <= w) : ∀ {r s : LI}, InB w r -> InB w s -> r.length = s.length -> valB w r = valB w s -> r = s
  | [], [], _, _, _, _ => rfl
  | [], _ :: _, _, _, h, _ => by cases h
  | _ :: _, [], _, _, h, _ => by cases h
  | d :: ds, e :: es, h, h', l, v => by
    have hd := h d List.mem_cons_self
    have he := h' e List.mem_cons_self
    have v1 : d + w * valB w ds = e + w * valB w es := v
    have e1 : (d + w * valB w ds) % w = d := by rw [Int.add_mul_emod_self_left]; exact Int.emod_eq_of_lt hd.1 hd.2
    have e2 : (e + w * valB w es) % w = e := by rw [Int.add_mul_emod_self_left]; exact Int.emod_eq_of_lt he.1 he.2
    have ede : d = e := by rw [<- e1, <- e2, v1]
    subst ede
    have ev : w * valB w ds = w * valB w es := by omega
    have ev' := Int.eq_of_mul_eq_mul_left (by omega : w ≠ 0) ev
    rw [valB_one hw h.tail h'.tail (by simpa using l) ev']
structure Tdn (rows : LL) (wide many : Nat) (G : Int -> Prop) (ls : LL) (R : LI) (gb : Int -> Bool) : Prop where
  iff : ∀ q : Int, 0 <= q -> q < (many : Int) -> (gb q = true ↔ Path rows wide G ls q R)
  inb : InB (wide : Int) R
  len : R.length = ls.length
  max : ∀ (q : Int) (r : LI), 0 <= q -> q < (many : Int) -> Path rows wide G ls q r -> valB wide r <= valB wide R
theorem Tdn.step {rows : LL} {wide many : Nat} {G : Int -> Prop} {ls : LL} {R l : LI} {gb gb' : Int -> Bool} {f : Int} (w2 : 2 <= wide) (RO : RowsOk many wide rows) (t : Tdn rows wide many G ls R gb) (f0 : 0 <= f) (f1 : f < (wide : Int))
    (hmax : ∀ g : Int, f < g -> g < (wide : Int) -> ∀ h ∈ l, gb (stepI rows h g) = false) (hg : ∀ q : Int, 0 <= q -> q < (many : Int) -> (gb' q = true ↔ q ∈ l /\ gb (stepI rows q f) = true)) : Tdn rows wide many G (l :: ls) (f :: R) gb' := by
  refine ⟨fun q q0 q1 => ?_, InB.cons f0 f1 t.inb, by rw [List.length_cons, List.length_cons, t.len], fun q r q0 q1 p => ?_⟩
  · rw [hg q q0 q1]
    have st := stepI_ok RO q0 q1 f0 f1
    constructor
    · rintro ⟨h1, h2⟩
      exact ⟨h1, f, R, rfl, ⟨f0, f1⟩, (t.iff _ st.1 st.2).mp h2⟩
    · rintro ⟨h1, f', r', e, hf, p⟩
      cases e
      exact ⟨h1, (t.iff _ st.1 st.2).mpr p⟩
  · obtain ⟨h1, g, r', rfl, hgi, p⟩ := p
    have st := stepI_ok RO q0 q1 hgi.1 hgi.2
    have m := t.max _ _ st.1 st.2 p
    show g + (wide : Int) * valB wide r' <= f + (wide : Int) * valB wide R
    by_cases c : valB (wide : Int) r' = valB wide R
    · have e := valB_one (by omega) p.inb t.inb (by rw [p.len, t.len]) c
      subst e
      have : g <= f := by
        refine Classical.byContradiction fun n => ?_
        have := hmax g (by omega) hgi.2 q h1
        rw [(t.iff _ st.1 st.2).mpr p] at this
        cases this
      omega
    · have : (wide : Int) * (valB wide r' + 1) <= (wide : Int) * valB wide R := Int.mul_le_mul_of_nonneg_left (by omega) (by omega)
      rw [Int.mul_add, Int.mul_one] at this
      omega
theorem kvT_push (ks : LI) (q : Int) : putK (kvT ks) (Sum.inl q) (V.bl true) = kvT (pushN ks q) := by
  unfold pushN
  by_cases h : q ∈ ks
  · rw [if_pos h]
    unfold putK
    rw [if_pos (by rw [valV_any, kvT_val, decide_eq_true h])]
    unfold kvT
    rw [List.map_map]
    refine List.map_congr_left fun p _ => ?_
    show (if Sum.inl p = Sum.inl q then (Sum.inl p, V.bl true) else (Sum.inl p, V.bl true)) = _
    rw [ite_self]
  · rw [if_neg h, kvT_put h]
theorem push_iff {s : LI} {x y : Int} : y ∈ pushN s x ↔ y ∈ s \/ y = x := by
  unfold pushN
  by_cases h : x ∈ s
  · rw [if_pos h]
    exact ⟨.inl, fun z => z.elim id fun e => e ▸ h⟩
  · rw [if_neg h, List.mem_append, List.mem_singleton]
theorem push_nd {s : LI} {x : Int} (h : s.Nodup) : (pushN s x).Nodup := by
  unfold pushN
  by_cases c : x ∈ s
  · rw [if_pos c]; exact h
  · rw [if_neg c]; exact nd_snoc h c
def spNextR (K : PySem.W.Frag) : Sp := fun vs H Q _ => ∃ (r lv tk : Addr) (many wide : Nat) (ras : List Addr) (rows : LL) (ls fs : LI), vs = [.ref r, .ref lv, .ref tk] /\ H r = some (.tup (ras.map V.ref)) /\ RowsAt H ras rows /\ RowsOk many wide rows /\ (1 <= many /\ many <= 400) /\
  H lv = some (.lst (ls.map V.int)) /\ (∀ q ∈ ls, 0 <= q /\ q < (many : Int)) /\ H tk = some (.tup (fs.map V.int)) /\ (∀ f ∈ fs, 0 <= f /\ f < (wide : Int)) /\
  ∀ (l : Addr) (H' : Hp) (qs : LI), Same H H' -> H' l = some (.lst (qs.map V.int)) -> qs.Nodup -> (∀ q, q ∈ qs ↔ ∃ h ∈ ls, ∃ f ∈ fs, stepI rows h f = q) -> Q (.ref l) H'
def spFirstL (K : PySem.W.Frag) : Sp := fun vs H Q _ => ∃ (r lv o g : Addr) (many wide : Nat) (ras : List Addr) (rows : LL) (ls fs : LI) (gb : Int -> Bool), vs = [.ref r, .ref lv, .ref o, .ref g] /\ H r = some (.tup (ras.map V.ref)) /\ RowsAt H ras rows /\ RowsOk many wide rows /\
  H lv = some (.lst (ls.map V.int)) /\ (∀ q ∈ ls, 0 <= q /\ q < (many : Int)) /\ H o = some (.tup (fs.map V.int)) /\ (∀ f ∈ fs, 0 <= f /\ f < (wide : Int)) /\ H g = some (.lst (((List.range many).map fun q : Nat => gb q).map V.bl)) /\
  (∃ f ∈ fs, ∃ h ∈ ls, gb (stepI rows h f) = true) /\ ∀ (j : Nat) (f : Int), fs[j]? = some f -> (∃ h ∈ ls, gb (stepI rows h f) = true) -> (∀ (i : Nat) (e : Int), i < j -> fs[i]? = some e -> ∀ h ∈ ls, gb (stepI rows h e) = false) -> Q (.int f) H
theorem atI_bl {gb : Nat -> Bool} {many : Nat} {k : Int} (h0 : 0 <= k) (h1 : k < (many : Int)) : atI (((List.range many).map gb).map V.bl) k = some (.bl (gb k.toNat)) := by
  have ek : k = ((k.toNat : Nat) : Int) := by omega
  have q : atI (((List.range many).map gb).map V.bl) ((k.toNat : Nat) : Int) = some (.bl (gb k.toNat)) := atI_nat (by
    rw [List.getElem?_map, List.getElem?_map, List.getElem?_range (show k.toNat < many by omega)]
    rfl)
  rw [<- ek] at q
  exact q
section
variable {P : Program} {w : World} {K : PySem.W.Frag} {mg : Str -> Option Value} {base : Heap} {f : Addr} {fd : FuncData} {dV : Value}
theorem sc_next_rooms : FnScope ["rows", "level", "taken", "reached", "here", "row", "figure"] ["rows", "level", "taken"] (defScope s_next_rooms) := ⟨rfl, rfl, rfl, by decide +kernel, rfl, by decide +kernel, by decide +kernel⟩
theorem sc_first_leading : FnScope ["rows", "level", "order", "goal", "figure", "here"] ["rows", "level", "order", "goal"] (defScope s_first_leading) := ⟨rfl, rfl, rfl, by decide +kernel, rfl, by decide +kernel, by decide +kernel⟩
theorem ok_nextR (F : FunD K "next_rooms" "next_rooms" s_next_rooms dV f fd) (z_list : mg "list" = none) : FnOk P w K mg base CX0 1 f fd ["rows", "level", "taken"] (spNextR K) := by
  refine F.ok sc_next_rooms (fun vs H Q E h => ?_) (fun cdv A outer s H vs Q E hr h => ?_)
  · obtain ⟨r, lv, tk, many, wide, ras, rows, ls, fs, rfl, _⟩ := h
    rfl
  obtain ⟨r, lv, tk, many, wide, ras, rows, ls, fs, rfl, hr', hA, R, ⟨n0, n1⟩, hlv, lin, htk, fin, k⟩ := h
  have hu := hu_of hr
  refine ⟨_, (pss_cons (ps_set (i := 3) sc_next_rooms.nd rfl (Or.inl rfl) pe_dnewK)
      (pss_cons (ps_for PassesOwn.never rfl (pi_list (pv 1)) (pg_name (i := 4) sc_next_rooms.nd rfl (Or.inl rfl)) (pss_cons (ps_set (i := 5) sc_next_rooms.nd rfl (Or.inl rfl) (pe_ix ix_tup (pv 0) (pv 4) (fun _ _ => rfl)))
      (pss_one (ps_for PassesOwn.never rfl (pi_tup (pv 2)) (pg_name (i := 6) sc_next_rooms.nd rfl (Or.inl rfl)) (pss_one (ps_dput hu (pv 3) (pe_ix ix_tup (pv 5) (pv 6) (fun _ _ => rfl)) pe_bl rfl))))))
      (pss_one (ps_ret (pe_callTy (call_listD rfl) (by rfl) z_list bt_list (pa_cons (pv 3) pa_nil)))))), ?_⟩
  refine fun D hD => ?_
  have sD := same_new hD (HO.dK [])
  try dsimp only [gName]
  refine cut_seq (t := tFor _ _ _) (fun σ' H' => ∃ (qs : LI) (v4 v5 v6 : OV), σ' = [some (.ref r), some (.ref lv), some (.ref tk), some (.ref D), v4, v5, v6] /\ Same H H' /\ H' D = some (.dK (kvT qs)) /\ qs.Nodup /\ (∀ q, q ∈ qs ↔ ∃ h ∈ ls, ∃ f ∈ fs, stepI rows h f = q)) ?_ (fun nxt => ?_)
  rotate_left
  · refine ⟨_, rfl, lv, rfl, ⟨_, qL_ (sD _ _ hlv)⟩, for_list (K := K) (xs := ls.map V.int) (fun i σ' H' => ∃ (qs : LI) (v4 v5 v6 : OV), σ' = [some (.ref r), some (.ref lv), some (.ref tk), some (.ref D), v4, v5, v6] /\ Same H H' /\ H' D = some (.dK (kvT qs)) /\ qs.Nodup /\ (∀ q, q ∈ qs ↔ ∃ h ∈ ls.take i, ∃ f ∈ fs, stepI rows h f = q))
      ⟨[], none, none, none, rfl, sD, upd_same, List.Pairwise.nil, fun q => ⟨(fun z => by cases z), fun ⟨h, z, _⟩ => by simp at z⟩⟩ (fun i σ' H' _ ⟨_, _, _, _, _, e, _⟩ => qL_ (e _ _ hlv)) ?_ ?_⟩
    · rintro i y σ' H1 hi ⟨qs, v4, v5, v6, rfl, s1, hD1, nd1, m1⟩
      obtain ⟨here, rfl, hz⟩ := ints_at hi
      have hin := lin here (mq_ hz)
      have l1 : here.toNat < rows.length := by rw [R.len]; omega
      obtain ⟨ra, e1, e2⟩ := hA.get l1
      have lr : rows[here.toNat].length = wide := R.row _ (List.getElem_mem l1)
      refine ⟨_, rfl, _, rfl, r, _, _, _, rfl, rfl, qT_ (s1 _ _ hr'), atI_refs hin.1 e1, ?_⟩
      try dsimp only [gName]
      refine ⟨_, rfl, tk, rfl, ⟨_, qT_ (s1 _ _ htk)⟩, for_tup (K := K) (xs := fs.map V.int) (fun j σ' H' => ∃ (qs : LI) (v6 : OV), σ' = [some (.ref r), some (.ref lv), some (.ref tk), some (.ref D), some (.int here), some (.ref ra), v6] /\ Same H H' /\ H' D = some (.dK (kvT qs)) /\ qs.Nodup /\ (∀ q, q ∈ qs ↔ (∃ h ∈ ls.take i, ∃ f ∈ fs, stepI rows h f = q) \/ ∃ f ∈ fs.take j, stepI rows here f = q))
        ⟨qs, v6, rfl, s1, hD1, nd1, fun q => by rw [m1 q]; simp⟩ (fun j σ' H' _ ⟨_, _, _, e, _⟩ => qT_ (e _ _ htk)) ?_ ?_⟩
      · rintro j y σ' H2 hj ⟨qs, v6, rfl, s2, hD2, nd2, m2⟩
        obtain ⟨fi, rfl, hfi⟩ := ints_at hj
        have ff := fin fi (mq_ hfi)
        have at1 : atI (rows[here.toNat].map V.int) fi = some (.int (stepI rows here fi)) := by
          rw [atI_ints ff.1 (by omega)]
          unfold stepI
          rw [getD_at l1]
        have few := few_below many nd2 fun q hq => by
          rcases (m2 q).mp hq with ⟨h, hh, f, hf, e⟩ | ⟨f, hf, e⟩
          · have hi2 := lin h (List.mem_of_mem_take hh)
            rw [<- e]; exact stepI_ok R hi2.1 hi2.2 (fin f hf).1 (fin f hf).2
          · have := fin f (List.mem_of_mem_take hf)
            rw [<- e]; exact stepI_ok R hin.1 hin.2 this.1 this.2
        refine ⟨_, rfl, _, rfl, _, rfl, ra, _, _, _, rfl, rfl, qT_ (s2 _ _ e2), at1, D, _, rfl, DPut.k (k := Sum.inl (stepI rows here fi)) hD2 (small1000 (by unfold kvT; rw [lm_]; omega)), ?_⟩
        rw [kvT_push]
        refine ⟨pushN qs (stepI rows here fi), _, rfl, same_upd s2 hD, upd_same, push_nd nd2, fun q => ?_⟩
        rw [push_iff, m2 q]
        constructor
        · rintro ((z | ⟨f, z, e⟩) | z)
          · exact .inl z
          · exact .inr ⟨f, (take_mem hfi).mpr (.inl z), e⟩
          · exact .inr ⟨fi, (take_mem hfi).mpr (.inr rfl), z.symm⟩
        · rintro (z | ⟨f, z, e⟩)
          · exact .inl (.inl z)
          · rcases (take_mem hfi).mp z with y | y
            · exact .inl (.inr ⟨f, y, e⟩)
            · rw [y] at e; exact .inr e.symm
      · rintro σ' H2 ⟨qs, v6, rfl, s2, hD2, nd2, m2⟩
        rw [lm_, List.take_length] at m2
        refine ⟨qs, _, _, _, rfl, s2, hD2, nd2, fun q => ?_⟩
        rw [m2 q]
        constructor
        · rintro (⟨h, z, e⟩ | z)
          · exact ⟨h, (take_mem hz).mpr (.inl z), e⟩
          · exact ⟨here, (take_mem hz).mpr (.inr rfl), z⟩
        · rintro ⟨h, z, e⟩
          rcases (take_mem hz).mp z with y | y
          · exact .inl ⟨h, y, e⟩
          · rw [y] at e; exact .inr e
    · rintro σ' H1 ⟨qs, v4, v5, v6, rfl, s1, hD1, nd1, m1⟩
      rw [lm_, List.take_length] at m1
      exact nxt _ _ ⟨qs, _, _, _, rfl, s1, hD1, nd1, m1⟩
  rintro σ' H1 ⟨qs, v4, v5, v6, rfl, s1, hD1, nd1, m1⟩
  refine ⟨_, rfl, D, _, rfl, hD1, fun l hl => ?_⟩
  have e : (kvT qs).map (fun q => kV q.1) = qs.map V.int := by
    unfold kvT
    rw [List.map_map]
    rfl
  rw [e]
  exact k l _ qs (s1.trans (same_new hl _)) upd_same nd1 m1
theorem ok_firstL (F : FunD K "first_leading" "first_leading" s_first_leading dV f fd) : FnOk P w K mg base CX0 1 f fd ["rows", "level", "order", "goal"] (spFirstL K) := by
  refine F.ok sc_first_leading (fun vs H Q E h => ?_) (fun cdv A outer s H vs Q E hr h => ?_)
  · obtain ⟨r, lv, o, g, many, wide, ras, rows, ls, fs, gb, rfl, _⟩ := h
    rfl
  obtain ⟨r, lv, o, g, many, wide, ras, rows, ls, fs, gb, rfl, hr', hA, R, hlv, lin, ho, fin, hg, ex, k⟩ := h
  refine ⟨_, (pss_cons (ps_for PassesOwn.never rfl (pi_tup (pv 2)) (pg_name (i := 4) sc_first_leading.nd rfl (Or.inl rfl)) (pss_one (ps_for PassesOwn.never rfl (pi_list (pv 1)) (pg_name (i := 5) sc_first_leading.nd rfl (Or.inl rfl)) (pss_one (ps_if (pt_val (pe_ix ix_list (pv 3) (pe_ix ix_tup (pe_ix ix_tup (pv 0) (pv 5) (fun _ _ => rfl)) (pv 4) (fun _ _ => rfl)) (fun _ _ => rfl))) (pss_one (ps_ret (pv 4))) pss_nil)))))
      (pss_one (ps_ret pe_non))), ?_⟩
  try dsimp only [gName]
  refine cut_seq (t := tFor _ _ _) (fun σ' H' => False) (fun σ' H' z => z.elim) (fun nxt => ?_)
  refine ⟨_, rfl, o, rfl, ⟨_, qT_ ho⟩, for_tup (K := K) (xs := fs.map V.int) (fun i σ' H' => ∃ (v4 v5 : OV), σ' = [some (.ref r), some (.ref lv), some (.ref o), some (.ref g), v4, v5] /\ H' = H /\ ∀ (j : Nat) (e : Int), j < i -> fs[j]? = some e -> ∀ h ∈ ls, gb (stepI rows h e) = false)
    ⟨none, none, rfl, rfl, fun j e z => by omega⟩ (fun i σ' H' _ ⟨_, _, _, e, _⟩ => by rw [e]; exact qT_ ho) ?_ ?_⟩
  · rintro i y σ' H' hi ⟨v4, v5, rfl, rfl, non⟩
    obtain ⟨fi, rfl, hfi⟩ := ints_at hi
    have ff := fin fi (mq_ hfi)
    try dsimp only [gName]
    refine ⟨_, rfl, lv, rfl, ⟨_, qL_ hlv⟩, for_list (K := K) (xs := ls.map V.int) (fun j σ' H'' => ∃ v5 : OV, σ' = [some (.ref r), some (.ref lv), some (.ref o), some (.ref g), some (.int fi), v5] /\ H'' = H' /\ ∀ h ∈ ls.take j, gb (stepI rows h fi) = false)
      ⟨v5, rfl, rfl, fun h z => by simp at z⟩ (fun j σ' H'' _ ⟨_, _, e, _⟩ => by rw [e]; exact qL_ hlv) ?_ ?_⟩
    · rintro j y σ' H'' hj ⟨v5, rfl, rfl, no⟩
      obtain ⟨here, rfl, hz⟩ := ints_at hj
      have hin := lin here (mq_ hz)
      obtain ⟨ra, rr, e1, e2, e3⟩ := row_step hA R hin.1 hin.2 ff.1 ff.2
      have st := stepI_ok R hin.1 hin.2 ff.1 ff.2
      have at3 : atI (((List.range many).map fun q : Nat => gb q).map V.bl) (stepI rows here fi) = some (.bl (gb (stepI rows here fi))) := by
        rw [atI_bl (gb := fun q : Nat => gb q) st.1 st.2, Int.toNat_of_nonneg st.1]
      refine ⟨_, rfl, _, rfl, _, rfl, r, _, _, _, rfl, rfl, qT_ hr', e1, _, rfl, ra, _, _, _, rfl, rfl, qT_ e2, e3, g, _, _, _, rfl, rfl, qL_ hg, at3, _, rfl, ite2 (fun c => ?_) (fun c => ?_)⟩
      · exact ⟨_, rfl, k i fi hfi ⟨here, mq_ hz, c⟩ non⟩
      · refine ⟨_, rfl, rfl, fun h hh => ?_⟩
        rcases (take_mem hz).mp hh with y | y
        · exact no h y
        · rw [y]; exact eq_false_of_ne_true c
    · rintro σ' H'' ⟨v5, rfl, rfl, no⟩
      rw [lm_, List.take_length] at no
      refine ⟨_, _, rfl, rfl, fun j e hj he => ?_⟩
      rcases Nat.lt_or_ge j i with z | z
      · exact non j e z he
      · have : j = i := by omega
        subst this
        rw [hfi] at he
        cases he
        exact no
  · rintro σ' H' ⟨v4, v5, rfl, rfl, non⟩
    obtain ⟨fi, hf, h, hh, e⟩ := ex
    obtain ⟨j, hj⟩ := List.mem_iff_getElem?.mp hf
    have jl := (gi_ hj).1
    have := non j fi (by rw [lm_]; exact jl) hj h hh
    rw [e] at this
    cases this
end
def LsAt (H : Hp) : List Addr -> LL -> Prop := Paired fun a l => H a = some (.lst (l.map V.int))
theorem LsAt.get : ∀ {H : Hp} {as : List Addr} {ls : LL} {i : Nat} {l : LI}, LsAt H as ls -> ls[i]? = some l -> ∃ a, as[i]? = some a /\ H a = some (.lst (l.map V.int))
  | _, _, _, _, _, .nil, h => by simp at h
  | _, _, _, 0, _, .cons (a := a) r _, h => by
    have e := Option.some.inj h
    subst e
    exact ⟨a, rfl, r⟩
  | _, _, _, i + 1, _, .cons _ t, h => by
    obtain ⟨a, h1, h2⟩ := LsAt.get (i := i) t (by simpa using h)
    exact ⟨a, by simpa using h1, h2⟩
theorem LsAt.same {H H' : Hp} {as : List Addr} {ls : LL} (h : LsAt H as ls) (s : ∀ b xs, H b = some (.lst xs) -> H' b = some (.lst xs)) : LsAt H' as ls := Paired.mapP h fun _ _ q => s _ _ q
theorem rep_false (n : Nat) : (List.replicate n [V.bl false]).flatten = ((List.range n).map fun _ : Nat => false).map V.bl := by
  induction n with
  | zero => rfl
  | succ n ih =>
    rw [List.replicate_succ', List.flatten_append, ih, List.range_succ, List.map_append, List.map_append]
    rfl
theorem down_at {n : Nat} {j : Nat} (h : j < n) : (downI n)[j]? = some ((n : Int) - 1 - j) := by
  unfold downI
  rw [List.getElem?_map, List.getElem?_range h]
  rfl
theorem down_mem {n : Nat} {f : Int} : f ∈ downI n ↔ 0 <= f /\ f < (n : Int) := by
  unfold downI
  rw [List.mem_map]
  constructor
  · rintro ⟨i, hi, rfl⟩
    have := List.mem_range.mp hi
    omega
  · rintro ⟨h0, h1⟩
    exact ⟨n - 1 - f.toNat, List.mem_range.mpr (by omega), by omega⟩
theorem set_range {many k : Nat} {F F' : Nat -> Bool} {v : Bool} (hk : F' k = v) (ho : ∀ q, q ≠ k -> F' q = F q) : (((List.range many).map F).map V.bl).set k (V.bl v) = ((List.range many).map F').map V.bl := by
  apply List.ext_getElem?
  intro q
  rw [List.getElem?_set, lm_, lm_, List.length_range]
  by_cases e : k = q
  · subst e
    rw [if_pos rfl, List.getElem?_map, List.getElem?_map]
    by_cases c : k < many
    · rw [if_pos c, List.getElem?_range c]
      simp [hk]
    · rw [if_neg c, List.getElem?_eq_none (by simpa using c)]
      rfl
  · rw [if_neg e, List.getElem?_map, List.getElem?_map, List.getElem?_map, List.getElem?_map]
    by_cases c : q < many
    · rw [List.getElem?_range c]
      simp [ho q (Ne.symm e)]
    · rw [List.getElem?_eq_none (by simpa using c)]
      rfl
def spTaken (K : PySem.W.Frag) : Sp := fun vs H Q _ => ∃ (r lv o g : Addr) (many wide : Nat) (ras las oas : List Addr) (rows ls : LL) (gb : Int -> Bool) (G : Int -> Prop), vs = [.ref r, .ref lv, .ref o, .ref g] /\ H r = some (.tup (ras.map V.ref)) /\ RowsAt H ras rows /\ RowsOk many wide rows /\ (1 <= many /\ many <= 400) /\ (2 <= wide /\ wide <= 400) /\
  H lv = some (.lst (las.map V.ref)) /\ LsAt H las ls /\ ls.length <= 400 /\ (∀ l ∈ ls, ∀ q ∈ l, 0 <= q /\ q < (many : Int)) /\ H o = some (.lst (oas.map V.ref)) /\ oas.length = las.length /\ (∀ a ∈ oas, H a = some (.tup ((downI wide).map V.int))) /\ H g = some (.lst (((List.range many).map fun q : Nat => gb q).map V.bl)) /\ (∀ q : Int, 0 <= q -> q < (many : Int) -> (gb q = true ↔ G q)) /\
  (∀ (j : Nat) (l l' : LI), ls[j]? = some l -> ls[j + 1]? = some l' -> ∀ q ∈ l', ∃ h ∈ l, ∃ f : Int, (0 <= f /\ f < (wide : Int)) /\ stepI rows h f = q) /\ (∃ l, ls[ls.length - 1]? = some l /\ ∃ h ∈ l, ∃ f : Int, (0 <= f /\ f < (wide : Int)) /\ G (stepI rows h f)) /\
  ∀ (t : Addr) (H' : Hp) (R : LI), Same H H' -> H' t = some (.tup (R.map V.int)) -> InB wide R -> R.length = ls.length -> (∀ (q : Int) (r : LI), 0 <= q -> q < (many : Int) -> Path rows wide G ls q r -> valB wide r <= valB wide R) -> (∃ q, Path rows wide G ls q R) -> Q (.ref t) H'
section
variable {P : Program} {w : World} {K : PySem.W.Frag} {mg : Str -> Option Value} {base : Heap} {f : Addr} {fd : FuncData} {dV : Value}
theorem sc_taken_down : FnScope ["rows", "levels", "orders", "goal", "taken", "at", "figure", "nearer", "here"] ["rows", "levels", "orders", "goal"] (defScope s_taken_down) := ⟨rfl, rfl, rfl, by decide +kernel, rfl, by decide +kernel, by decide +kernel⟩
theorem ok_taken (F : FunD K "taken_down" "taken_down" s_taken_down dV f fd) (G_first_leading : DefOk P w K mg base "first_leading" 1 ["rows", "level", "order", "goal"] [] (spFirstL K)) (z_len : mg "len" = none) (z_range : mg "range" = none) (z_tuple : mg "tuple" = none) : FnOk P w K mg base CX0 2 f fd ["rows", "levels", "orders", "goal"] (spTaken K) := by
  refine F.ok sc_taken_down (fun vs H Q E h => ?_) (fun cdv A outer s H vs Q E hr h => ?_)
  · obtain ⟨r, lv, o, g, many, wide, ras, las, oas, rows, ls, gb, G, rfl, _⟩ := h
    rfl
  obtain ⟨r, lv, o, g, many, wide, ras, las, oas, rows, ls, gb, G, rfl, hr', hA, R, ⟨n0, n1⟩, ⟨w0, w1⟩, hlv, hL, ll, lin, ho, lo, hO, hg, hG, chain, top, k⟩ := h
  have lla : las.length = ls.length := Paired.length hL
  have lr : ras.length = many := by rw [hA.length, R.len]
  refine ⟨_, (pss_cons (ps_set (i := 4) sc_taken_down.nd rfl (Or.inl rfl) (pe_lst pa_nil))
      (pss_cons (ps_for PassesOwn.never rfl (pi_rangeD rfl z_range (pa_cons (pe_op op_sub (pe_callB call_len_seq (by rfl) z_len bt_len (pa_cons (pv 1) pa_nil)) pe_int) (pa_cons (pe_un un_neg pe_int) (pa_cons (pe_un un_neg pe_int) pa_nil)))) (pg_name (i := 5) sc_taken_down.nd rfl (Or.inl rfl)) (pss_cons (ps_set (i := 6) sc_taken_down.nd rfl (Or.inl rfl) (pe_cd G_first_leading hr (pa_cons (pv 0) (pa_cons (pe_ix ix_list (pv 1) (pv 5) (fun _ _ => rfl)) (pa_cons (pe_ix ix_list (pv 2) (pv 5) (fun _ _ => rfl)) (pa_cons (pv 3) pa_nil))))))
      (pss_cons (ps_set (i := 7) sc_taken_down.nd rfl (Or.inl rfl) (pe_op op_rep (pe_lst (pa_cons pe_bl pa_nil)) (pe_callB call_len_seq (by rfl) z_len bt_len (pa_cons (pv 0) pa_nil))))
      (pss_cons (ps_for PassesOwn.never rfl (pi_list (pe_ix ix_list (pv 1) (pv 5) (fun _ _ => rfl))) (pg_name (i := 8) sc_taken_down.nd rfl (Or.inl rfl)) (pss_one (ps_asg (pe_ix ix_list (pv 3) (pe_ix ix_tup (pe_ix ix_tup (pv 0) (pv 8) (fun _ _ => rfl)) (pv 6) (fun _ _ => rfl)) (fun _ _ => rfl)) (pg_sub (pv 7) (pv 8) set_list))))
      (pss_cons (ps_set (i := 3) sc_taken_down.nd rfl (Or.inl rfl) (pv 7))
      (pss_one (ps_expr (pe_bm PySem.F.plainAttrs_list PySem.F.slot_list_append PySem.F.type_list_append mt_append (pv 4) (pa_cons (pv 6) pa_nil)))))))))
      (pss_one (ps_ret (pe_callTy call_tuple_of (by rfl) z_tuple bt_tuple (pa_cons (pe_slice3 sl3_list (pv 4) po_none po_none (po_some (pe_un un_neg pe_int))) pa_nil)))))), ?_⟩
  refine ⟨(by show 0 <= sizeLine; decide), fun T hT => ?_⟩
  have sT := same_new hT (HO.lst [])
  try dsimp only [gName]
  refine cut_G (t := tFor _ _ _) (fun σ' H' => ∃ (ga : Addr) (gb' : Int -> Bool) (Rw : LI) (v5 v6 v7 v8 : OV), σ' = [some (.ref r), some (.ref lv), some (.ref o), some (.ref ga), some (.ref T), v5, v6, v7, v8] /\ Same H H' /\ H' T = some (.lst (Rw.reverse.map V.int)) /\ Tdn rows wide many G ls Rw gb' /\ ∃ q, Path rows wide G ls q Rw) ?_ (fun D' nxt => ?_)
  rotate_left
  · have lln : ((las.map V.ref).length : Int) = (ls.length : Int) := by rw [lm_, lla]
    have lpos : 0 < ls.length := by
      obtain ⟨l, hl, _⟩ := top
      have := (gi_ hl).1
      omega
    refine ⟨_, rfl, lv, _, rfl, .inl (qL_ (sT _ _ hlv)), _, _, rfl, rfl, _, rfl, _, rfl, _, rfl, ⟨by omega, by omega⟩, ?_⟩
    have nTg : g ≠ T := ne_of_none hg hT
    refine for_rangeS (fun i σ' H' => ∃ (ga : Addr) (gb' : Int -> Bool) (Rw : LI) (v5 v6 v7 v8 : OV), σ' = [some (.ref r), some (.ref lv), some (.ref o), some (.ref ga), some (.ref T), v5, v6, v7, v8] /\ Same H H' /\ H' ga = some (.lst (((List.range many).map fun q : Nat => gb' q).map V.bl)) /\ ga ≠ T /\ H' T = some (.lst (Rw.reverse.map V.int)) /\ Tdn rows wide many G (ls.drop (ls.length - i)) Rw gb' /\ (0 < i -> ∃ q, Path rows wide G (ls.drop (ls.length - i)) q Rw))
      ⟨g, gb, [], none, none, none, none, rfl, sT, sT _ _ hg, nTg, upd_same, ?_, fun z => by omega⟩ ?_ ?_
    · rw [Nat.sub_zero, List.drop_length]
      refine ⟨fun q q0 q1 => ?_, InB.nil, rfl, fun q r _ _ p => ?_⟩
      · rw [hG q q0 q1]
        exact ⟨fun z => ⟨rfl, z⟩, fun z => z.2⟩
      · rw [p.1]; exact Int.le_refl _
    · rintro i σ' H1 hi ⟨ga, gb', Rw, v5, v6, v7, v8, rfl, s1, hga, nga, hT1, td, ex⟩
      have hi' : i < ls.length := by omega
      obtain ⟨p, ep⟩ : ∃ p : Nat, ls.length - (i + 1) = p := ⟨_, rfl⟩
      have hp : p < ls.length := by omega
      have eat : ((las.map V.ref).length : Int) - 1 + (i : Int) * (-1) = (p : Int) := by omega
      rw [eat]
      obtain ⟨l, hl⟩ : ∃ l, ls[p]? = some l := ⟨_, List.getElem?_eq_getElem hp⟩
      obtain ⟨la, hla1, hla⟩ := hL.get hl
      have lmem := mq_ hl
      obtain ⟨oa, hoa1⟩ : ∃ oa, oas[p]? = some oa := ⟨_, List.getElem?_eq_getElem (by omega)⟩
      have hoa := hO oa (mq_ hoa1)
      have drop1 : ls.drop (ls.length - (i + 1)) = l :: ls.drop (ls.length - i) := by
        rw [ep, List.drop_eq_getElem_cons hp, show p + 1 = ls.length - i by omega]
        rw [List.getElem?_eq_getElem hp] at hl
        rw [Option.some.inj hl]
      have exf : ∃ f ∈ downI wide, ∃ h ∈ l, gb' (stepI rows h f) = true := by
        rcases Nat.eq_zero_or_pos i with z | z
        · subst z
          obtain ⟨l2, hl2, h, hh, f, hf, hgf⟩ := top
          have : p = ls.length - 1 := by omega
          rw [<- this, hl] at hl2
          cases hl2
          have hin := lin l lmem h hh
          have st := stepI_ok R hin.1 hin.2 hf.1 hf.2
          refine ⟨f, down_mem.mpr hf, h, hh, (td.iff _ st.1 st.2).mpr ?_⟩
          have e0 : ls.drop (ls.length - 0) = [] := by rw [Nat.sub_zero, List.drop_length]
          have el := td.len
          rw [e0] at el ⊢
          exact ⟨List.length_eq_zero_iff.mp el, hgf⟩
        · obtain ⟨q, pq⟩ := ex z
          have hp1 : p + 1 < ls.length := by omega
          have e0 : ls.drop (ls.length - i) = ls[p + 1] :: ls.drop (p + 2) := by
            rw [show ls.length - i = p + 1 by omega, List.drop_eq_getElem_cons hp1]
          have pq' := pq
          rw [e0] at pq'
          obtain ⟨h, hh, f, hf, e⟩ := chain p l ls[p + 1] hl (List.getElem?_eq_getElem hp1) q pq'.1
          have hin := lin l lmem h hh
          have st := stepI_ok R hin.1 hin.2 hf.1 hf.2
          exact ⟨f, down_mem.mpr hf, h, hh, (td.iff _ st.1 st.2).mpr (by rw [e]; exact pq)⟩
      have at1 : atI (las.map V.ref) (p : Int) = some (.ref la) := atI_refs (by omega) (by rw [Int.toNat_natCast]; exact hla1)
      have at2 : atI (oas.map V.ref) (p : Int) = some (.ref oa) := atI_refs (by omega) (by rw [Int.toNat_natCast]; exact hoa1)
      refine ⟨_, rfl, _, rfl, _, rfl, lv, _, _, _, rfl, rfl, qL_ (s1 _ _ hlv), at1, _, rfl, _, rfl, o, _, _, _, rfl, rfl, qL_ (s1 _ _ ho), at2, _, rfl, ?_⟩
      refine ⟨r, la, oa, ga, many, wide, ras, rows, l, downI wide, gb', rfl, s1 _ _ hr', hA.same fun b xs e => s1 _ _ e, R, s1 _ _ hla, lin l lmem, s1 _ _ hoa, fun f hf => down_mem.mp hf, hga, exf, fun j f hf exh minf => ?_⟩
      have ff := down_mem.mp (mq_ hf)
      have jl : j < wide := by
        have := (gi_ hf).1
        unfold downI at this
        rw [lm_, List.length_range] at this
        exact this
      have ef : f = (wide : Int) - 1 - j := by rw [down_at jl] at hf; exact (Option.some.inj hf).symm
      have hmax : ∀ g : Int, f < g -> g < (wide : Int) -> ∀ h ∈ l, gb' (stepI rows h g) = false := fun g g0 g1 => minf (wide - 1 - g.toNat) g (by omega) (by rw [down_at (by omega)]; congr 1; omega)
      try dsimp only [gName]
      refine ⟨(by show 1 <= sizeLine; decide), fun z hz => ?_⟩
      have sz := same_new hz (HO.lst [V.bl false])
      refine ⟨_, rfl, r, _, rfl, .inr (qT_ (sz _ _ (s1 _ _ hr'))), ?_⟩
      rw [lm_, lr]
      refine ⟨z, _, _, rfl, rfl, upd_same, by omega, by omega, (by show 1 * ((many : Int)).toNat <= sizeLine; exact small (by omega)), fun N hN => ?_⟩
      rw [Int.toNat_natCast, rep_false]
      have sN := same_new hN (HO.lst (((List.range many).map fun _ : Nat => false).map V.bl))
      obtain ⟨H2, eH2⟩ : ∃ H2, upd (upd H1 z (HO.lst [V.bl false])) N (HO.lst (((List.range many).map fun _ : Nat => false).map V.bl)) = H2 := ⟨_, rfl⟩
      have s12 : Same H1 H2 := by rw [<- eH2]; exact sz.trans sN
      have hN2 : H2 N = some (.lst (((List.range many).map fun _ : Nat => false).map V.bl)) := by rw [<- eH2, upd_same]
      have fN : H1 N = none := sz.free hN
      rw [eH2]
      try dsimp only [gName]
      refine cut_G (t := tFor _ _ _) (fun σ' H' => ∃ v8 : OV, σ' = [some (.ref r), some (.ref lv), some (.ref o), some (.ref ga), some (.ref T), some (.int p), some (.int f), some (.ref N), v8] /\ Same H1 H' /\ H' N = some (.lst (((List.range many).map fun q : Nat => decide ((q : Int) ∈ l) && gb' (stepI rows q f)).map V.bl))) ?_ (fun D' nxt2 => ?_)
      rotate_left
      · refine ⟨_, rfl, _, rfl, lv, _, _, _, rfl, rfl, qL_ (s12 _ _ (s1 _ _ hlv)), at1, la, rfl, ⟨_, qL_ (s12 _ _ (s1 _ _ hla))⟩, for_list (K := K) (xs := l.map V.int) (fun j σ' H' => ∃ v8 : OV, σ' = [some (.ref r), some (.ref lv), some (.ref o), some (.ref ga), some (.ref T), some (.int p), some (.int f), some (.ref N), v8] /\ Same H1 H' /\ H' N = some (.lst (((List.range many).map fun q : Nat => decide ((q : Int) ∈ l.take j) && gb' (stepI rows q f)).map V.bl)))
          ⟨v8, rfl, s12, by rw [hN2]; simp⟩ (fun j σ' H' _ ⟨_, _, e, _⟩ => qL_ (e _ _ (s1 _ _ hla))) ?_ ?_⟩
        · rintro j y σ' H3 hj ⟨v8, rfl, s3, hN3⟩
          obtain ⟨here, rfl, hz'⟩ := ints_at hj
          have hin := lin l lmem here (mq_ hz')
          have sH := s1.trans s3
          obtain ⟨ra, rr, e1, e2, e3⟩ := row_step (hA.same fun b xs e => sH _ _ e) R hin.1 hin.2 ff.1 ff.2
          have st := stepI_ok R hin.1 hin.2 ff.1 ff.2
          have at3 : atI (((List.range many).map fun q : Nat => gb' q).map V.bl) (stepI rows here f) = some (.bl (gb' (stepI rows here f))) := by
            rw [atI_bl (gb := fun q : Nat => gb' q) st.1 st.2, Int.toNat_of_nonneg st.1]
          have ix : ixN (((List.range many).map fun q : Nat => decide ((q : Int) ∈ l.take j) && gb' (stepI rows q f)).map V.bl).length here = some here.toNat := by
            rw [lm_, lm_, List.length_range]
            unfold ixN
            rw [if_pos hin.1, if_pos hin.2]
          refine ⟨_, rfl, _, rfl, _, rfl, r, _, _, _, rfl, rfl, qT_ (sH _ _ hr'), e1, _, rfl, ra, _, _, _, rfl, rfl, qT_ e2, e3, ga, _, _, _, rfl, rfl, qL_ (s3 _ _ hga), at3, _, rfl, _, rfl, N, _, _, _, rfl, rfl, hN3, ix, ?_⟩
          refine ⟨_, rfl, same_upd s3 fN, ?_⟩
          rw [upd_same]
          congr 2
          refine set_range ?_ fun q hq => ?_
          · rw [Int.toNat_of_nonneg hin.1, decide_eq_true ((take_mem hz').mpr (.inr rfl)), Bool.true_and]
          · have : ((q : Int) ∈ l.take (j + 1)) ↔ (q : Int) ∈ l.take j := by
              rw [take_mem hz']
              exact ⟨fun z => z.resolve_right (fun e => hq (by omega)), .inl⟩
            simp only [this]
        · rintro σ' H3 ⟨v8, rfl, s3, hN3⟩
          rw [lm_, List.take_length] at hN3
          exact nxt2 _ _ ⟨_, rfl, s3, hN3⟩
      rintro σ' H3 ⟨v8, rfl, s3, hN3⟩
      have hT3 := s3 _ _ hT1
      have nNT : N ≠ T := fun e => by rw [e, hT1] at fN; cases fN
      refine ⟨_, rfl, _, rfl, .inl ⟨rfl, _, qL_ hT3⟩, _, rfl, T, _, _, rfl, rfl, hT3, small1000 (by
        rw [lm_, List.length_reverse, td.len, List.length_drop]
        omega), ?_⟩
      have sH := s1.trans s3
      have gq : ∀ q : Int, 0 <= q -> q < (many : Int) -> ((decide (q ∈ l) && gb' (stepI rows q f)) = true ↔ q ∈ l /\ gb' (stepI rows q f) = true) := fun q _ _ => by simp
      have td2 := Tdn.step (gb' := fun q => decide (q ∈ l) && gb' (stepI rows q f)) w0 R td ff.1 ff.2 hmax gq
      refine ⟨N, (fun q => decide (q ∈ l) && gb' (stepI rows q f)), f :: Rw, _, _, _, _, rfl, same_upd sH hT, by rw [upd_ne nNT]; exact hN3, nNT, ?_, by rw [drop1]; exact td2, fun _ => ?_⟩
      · rw [upd_same, List.reverse_cons, List.map_append]; rfl
      · obtain ⟨h, hh, e⟩ := exh
        have hin := lin l lmem h hh
        have st := stepI_ok R hin.1 hin.2 ff.1 ff.2
        exact ⟨h, by rw [drop1]; exact ⟨hh, f, Rw, rfl, ff, (td.iff _ st.1 st.2).mp e⟩⟩
    · rintro σ' H1 ⟨ga, gb', Rw, v5, v6, v7, v8, rfl, s1, hga, nga, hT1, td, ex⟩
      have en : (((las.map V.ref).length : Int) - 1 + 1).toNat = ls.length := by omega
      rw [en, Nat.sub_self, List.drop_zero] at td ex
      exact nxt _ _ ⟨ga, gb', Rw, _, _, _, _, rfl, s1, hT1, td, ex lpos⟩
  rintro σ' H1 ⟨ga, gb', Rw, v5, v6, v7, v8, rfl, s1, hT1, td, ex⟩
  refine ⟨_, rfl, _, rfl, _, rfl, T, _, rfl, rfl, rfl, rfl, qL_ hT1, fun p hp => ?_⟩
  have e : (Rw.reverse.map V.int).reverse = Rw.map V.int := by rw [<- List.map_reverse, List.reverse_reverse]
  rw [e]
  have sp := same_new hp (HO.lst (Rw.map V.int))
  refine ⟨p, _, rfl, .inl ⟨qL_ upd_same, fun t ht => ?_⟩⟩
  have st := same_new ht (HO.tup (Rw.map V.int))
  exact k t _ Rw (s1.trans (sp.trans st)) upd_same td.inb td.len td.max ex
end
structure Sit (many wide : Nat) (rows : LL) (signs : LI) (sg : Int) (ks hs : LI) (hf : Int -> Int) : Prop where
  R : RowsOk many wide rows
  hin : ∀ q ∈ ks, 0 <= q /\ q < (many : Int)
  hk : ∀ q, q ∈ ks ↔ LvQ rows signs wide sg q
  sub : ∀ q ∈ hs, q ∈ ks
  ht : HtOk rows ks hs hf
  z0 : (0 : Int) ∈ hs
structure EndsAt (rows : LL) (signs : LI) (wide : Nat) (sg q : Int) (ds : LI) : Prop where
  inb : InB (wide : Int) ds
  ne : ds ≠ []
  top : ∀ d, ds.getLast? = some d -> d ≠ 0
  sgn : signs.getD (walkI rows ds q).toNat 0 = sg
section
variable {many wide : Nat} {rows : LL} {signs : LI} {sg : Int} {ks hs : LI} {hf : Int -> Int}
theorem EndsAt.tail {q f g : Int} {ds : LI} (h : EndsAt rows signs wide sg q (f :: g :: ds)) : EndsAt rows signs wide sg (stepI rows q f) (g :: ds) :=
  ⟨h.inb.tail, (fun z => by cases z), fun d hd => h.top d (by rw [List.getLast?_cons_cons]; exact hd), h.sgn⟩
theorem live_run : ∀ {ds : LI} {q : Int}, EndsAt rows signs wide sg q ds -> Reach wide rows 0 q -> Run rows signs wide sg (ds.length - 1) q
  | [], q, h, _ => absurd rfl h.ne
  | [f], q, h, r => by
    have ff := h.inb f List.mem_cons_self
    have f0 : f ≠ 0 := h.top f rfl
    exact ⟨r, [], (fun g z => by cases z), f, by omega, ff.2, h.sgn⟩
  | f :: g :: ds, q, h, r => by
    have ff := h.inb f List.mem_cons_self
    have ih := live_run h.tail (r.step ff.1 ff.2)
    refine ⟨⟨r, ?_⟩, f, ff, ih⟩
    obtain ⟨row, hr1, hr2⟩ := ih.lv.2
    exact ⟨f :: row, fun e he => by
      rcases List.mem_cons.mp he with z | z
      · rw [z]; exact ff
      · exact hr1 e z, hr2⟩
theorem Sit.closes (S : Sit many wide rows signs sg ks hs hf) {q : Int} (h : q ∈ hs) (h0 : hf q = 0) : Clo rows signs wide sg q := by
  obtain ⟨rch, row, hr1, hr2⟩ := (S.hk q).mp (S.sub q h)
  cases row with
  | nil => exact hr2
  | cons f row =>
    exfalso
    have ff := hr1 f List.mem_cons_self
    have tk : stepI rows q f ∈ ks := (S.hk _).mpr ⟨rch.step ff.1 ff.2, row, fun e he => hr1 e (List.mem_cons_of_mem _ he), hr2⟩
    have qi := S.hin q (S.sub q h)
    obtain ⟨h1, h2⟩ := S.ht.dn q h _ (onw_mem.mpr ⟨fig_row S.R qi.1 qi.2 ff.1 ff.2, tk⟩)
    have := S.ht.nn _ h1
    omega
theorem Sit.ex (S : Sit many wide rows signs sg ks hs hf) : ∀ (n : Nat) (q : Int), q ∈ hs -> hf q = (n : Int) -> ∃ ds, EndsAt rows signs wide sg q ds /\ ds.length = n + 1
  | 0, q, h, e => by
    obtain ⟨f, f0, f1, fs⟩ := S.closes h e
    exact ⟨[f], ⟨InB.cons (by omega) f1 InB.nil, (fun z => by cases z), fun d hd => (show f = d by simpa using hd) ▸ (by omega), fs⟩, rfl⟩
  | n + 1, q, h, e => by
    obtain ⟨t, t1, t2, t3⟩ := S.ht.nx q h (by omega)
    obtain ⟨ds, h1, h2⟩ := S.ex n t t2 (by omega)
    have qi := S.hin q (S.sub q h)
    obtain ⟨f, ff, ef⟩ := row_fig S.R qi.1 qi.2 (onw_mem.mp t1).1
    refine ⟨f :: ds, ⟨InB.cons ff.1 ff.2 h1.inb, (fun z => by cases z), fun d hd => ?_, ?_⟩, by rw [List.length_cons, h2]⟩
    · cases ds with
      | nil => exact absurd rfl h1.ne
      | cons g ds => rw [List.getLast?_cons_cons] at hd; exact h1.top d hd
    · show signs.getD (walkI rows ds (stepI rows q f)).toNat 0 = sg
      rw [ef]; exact h1.sgn
theorem Sit.low (S : Sit many wide rows signs sg ks hs hf) : ∀ (n : Nat) (q : Int), q ∈ hs -> hf q = (n : Int) -> ∃ L : LI, L.Nodup /\ L.length = n + 1 /\ ∀ p ∈ L, p ∈ hs /\ hf p <= (n : Int)
  | 0, q, h, e => ⟨[q], by simp, rfl, fun p hp => by rw [List.mem_singleton.mp hp]; exact ⟨h, by omega⟩⟩
  | n + 1, q, h, e => by
    obtain ⟨t, t1, t2, t3⟩ := S.ht.nx q h (by omega)
    obtain ⟨L, h1, h2, h3⟩ := S.low n t t2 (by omega)
    refine ⟨q :: L, List.nodup_cons.mpr ⟨fun z => ?_, h1⟩, by rw [List.length_cons, h2], fun p hp => ?_⟩
    · have := (h3 q z).2
      omega
    · rcases List.mem_cons.mp hp with z | z
      · rw [z]; exact ⟨h, by omega⟩
      · have := h3 p z
        exact ⟨this.1, by omega⟩
theorem Sit.few (S : Sit many wide rows signs sg ks hs hf) {q : Int} (h : q ∈ hs) : hf q + 1 <= (many : Int) := by
  obtain ⟨n, e⟩ := nat_of (S.ht.nn q h)
  obtain ⟨L, h1, h2, h3⟩ := S.low n q h e
  have := few_below many h1 fun p hp => S.hin p (S.sub p (h3 p hp).1)
  omega
structure Lev (wide : Nat) (rows : LL) (hs : LI) (hf : Int -> Int) (ls : LL) : Prop where
  hd : ls[0]? = some [0]
  nx : ∀ (j : Nat) (l l' : LI), ls[j]? = some l -> ls[j + 1]? = some l' -> ∀ q, q ∈ l' ↔ (∃ h ∈ l, ∃ f : Int, (0 <= f /\ f < (wide : Int)) /\ stepI rows h f = q) /\ q ∈ hs /\ hf q = hf 0 - ((j : Int) + 1)
theorem Sit.path (S : Sit many wide rows signs sg ks hs hf) {ls : LL} (L : Lev wide rows hs hf ls) (len : (ls.length : Int) = hf 0 + 1) : ∀ (ds : LI) (j : Nat) (l : LI) (q : Int), ls[j]? = some l -> q ∈ l -> q ∈ hs -> hf q = hf 0 - (j : Int) -> Reach wide rows 0 q -> EndsAt rows signs wide sg q ds -> j + ds.length = ls.length ->
    Path rows wide (fun p => signs.getD p.toNat 0 = sg) (ls.drop j) q ds
  | [], _, _, _, _, _, _, _, _, h, _ => absurd rfl h.ne
  | [f], j, l, q, hl, hq, _, _, _, h, e => by
    have ff := h.inb f List.mem_cons_self
    have jl : j < ls.length := (gi_ hl).1
    rw [List.length_singleton] at e
    rw [List.drop_eq_getElem_cons jl, List.drop_eq_nil_of_le (by omega), (gi_ hl).2]
    exact ⟨hq, f, [], rfl, ff, rfl, h.sgn⟩
  | f :: g :: ds, j, l, q, hl, hq, hh, hqf, r, h, e => by
    have ff := h.inb f List.mem_cons_self
    have jl : j < ls.length := (gi_ hl).1
    rw [List.length_cons, List.length_cons] at e
    have jl1 : j + 1 < ls.length := by omega
    have rs := r.step ff.1 ff.2
    have run := live_run h.tail rs
    have tk := (S.hk _).mpr run.lv
    have qi := S.hin q (S.sub q hh)
    obtain ⟨h1, h2⟩ := S.ht.dn q hh _ (onw_mem.mpr ⟨fig_row S.R qi.1 qi.2 ff.1 ff.2, tk⟩)
    have le := run_le S.R S.hin S.hk S.sub S.ht _ _ h1 run
    rw [List.length_cons] at le
    have hft : hf (stepI rows q f) = hf 0 - ((j : Int) + 1) := by omega
    have mem := (L.nx j l ls[j + 1] hl (List.getElem?_eq_getElem jl1) (stepI rows q f)).mpr ⟨⟨q, hq, f, ff, rfl⟩, h1, hft⟩
    have ih := S.path L len (g :: ds) (j + 1) ls[j + 1] (stepI rows q f) (List.getElem?_eq_getElem jl1) mem h1 (by omega) rs h.tail (by rw [List.length_cons]; omega)
    rw [List.drop_eq_getElem_cons jl, (gi_ hl).2]
    exact ⟨hq, f, g :: ds, rfl, ff, ih⟩
theorem Sit.lev_ne (S : Sit many wide rows signs sg ks hs hf) {ls : LL} (L : Lev wide rows hs hf ls) (len : (ls.length : Int) = hf 0 + 1) : ∀ j : Nat, j < ls.length -> ∃ l, ls[j]? = some l /\ ∃ q ∈ l, q ∈ hs /\ hf q = hf 0 - (j : Int)
  | 0, _ => ⟨[0], L.hd, 0, List.mem_cons_self, S.z0, by omega⟩
  | j + 1, hj => by
    obtain ⟨l, hl, q, hq, h1, h2⟩ := S.lev_ne L len j (by omega)
    obtain ⟨t, t1, t2, t3⟩ := S.ht.nx q h1 (by omega)
    have qi := S.hin q (S.sub q h1)
    obtain ⟨f, ff, ef⟩ := row_fig S.R qi.1 qi.2 (onw_mem.mp t1).1
    refine ⟨ls[j + 1], List.getElem?_eq_getElem hj, t, (L.nx j l _ hl (List.getElem?_eq_getElem hj) t).mpr ⟨⟨q, hq, f, ff, ef⟩, t2, by omega⟩, t2, by push_cast; omega⟩
structure TopRow (rows : LL) (signs : LI) (wide : Nat) (sg : Int) (R : LI) : Prop where
  ends : EndsAt rows signs wide sg 0 R
  max : ∀ ds, EndsAt rows signs wide sg 0 ds -> valB wide ds <= valB wide R
theorem Sit.topRow (S : Sit many wide rows signs sg ks hs hf) (w2 : 2 <= wide) (m1 : 1 <= many) {ls : LL} (L : Lev wide rows hs hf ls) (len : (ls.length : Int) = hf 0 + 1) {R : LI} (inb : InB (wide : Int) R) (lR : R.length = ls.length)
    (max : ∀ (q : Int) (r : LI), 0 <= q -> q < (many : Int) -> Path rows wide (fun p => signs.getD p.toNat 0 = sg) ls q r -> valB wide r <= valB wide R) (p0 : Path rows wide (fun p => signs.getD p.toNat 0 = sg) ls 0 R) : TopRow rows signs wide sg R := by
  have full : ∀ ds, EndsAt rows signs wide sg 0 ds -> ds.length = ls.length -> valB wide ds <= valB wide R := fun ds h e => by
    have := S.path L len ds 0 [0] 0 L.hd List.mem_cons_self S.z0 (by omega) Reach.zero h (by omega)
    rw [List.drop_zero] at this
    exact max 0 ds (by omega) (by omega) this
  have wp : (0 : Int) < (wide : Int) := by omega
  have low : ∀ ds : LI, (∃ r x, ds = r ++ [x] /\ 0 < x) -> InB (wide : Int) ds -> (wide : Int) ^ (ds.length - 1) <= valB wide ds := fun ds ⟨r, x, e, x0⟩ h => by
    have hr : InB (wide : Int) r := fun y hy => h y (by rw [e]; exact List.mem_append_left _ hy)
    rw [e, valB_snoc, List.length_append, List.length_singleton, Nat.add_sub_cancel]
    have h1 := valB_nonneg (b := (wide : Int)) (by omega) hr
    have h2 : 1 * (wide : Int) ^ r.length <= x * (wide : Int) ^ r.length := Int.mul_le_mul_of_nonneg_right (by omega) (Int.pow_nonneg (by omega))
    omega
  have snoc : ∀ ds, EndsAt rows signs wide sg 0 ds -> ∃ r x, ds = r ++ [x] /\ 0 < x := fun ds h => by
    rcases last_cases ds with z | ⟨r, x, e⟩
    · exact absurd z h.ne
    · have hx := h.inb x (by rw [e]; exact List.mem_append_right _ List.mem_cons_self)
      have := h.top x (by rw [e]; simp)
      exact ⟨r, x, e, by omega⟩
  obtain ⟨n, en⟩ := nat_of (S.ht.nn 0 S.z0)
  obtain ⟨d0, hd0, ld0⟩ := S.ex n 0 S.z0 en
  have big : (wide : Int) ^ n <= valB wide R := by
    have h1 := low d0 (snoc d0 hd0) hd0.inb
    rw [ld0, Nat.add_sub_cancel] at h1
    have h2 := full d0 hd0 (by omega)
    omega
  have neR : R ≠ [] := fun z => by
    rw [z] at lR
    rw [List.length_nil] at lR
    omega
  refine ⟨⟨inb, neR, fun d hd => ?_, p0.walk⟩, fun ds h => ?_⟩
  · rcases last_cases R with z | ⟨r, x, e⟩
    · exact absurd z neR
    · rw [e] at hd
      have ed : x = d := by simpa using hd
      subst ed
      intro z
      have hr : InB (wide : Int) r := fun y hy => inb y (by rw [e]; exact List.mem_append_left _ hy)
      have h1 := valB_lt wp hr
      rw [e, valB_snoc, z, Int.zero_mul, Int.add_zero] at big
      have : r.length = n := by
        have := congrArg List.length e
        rw [List.length_append, List.length_singleton] at this
        omega
      rw [this] at h1
      omega
  · have run := live_run h Reach.zero
    have le := run_le S.R S.hin S.hk S.sub S.ht _ _ S.z0 run
    have dpos : 0 < ds.length := List.length_pos_iff.mpr h.ne
    by_cases c : ds.length = ls.length
    · exact full ds h c
    · have h1 := valB_lt wp h.inb
      have h2 := ipow_mono (w := (wide : Int)) (by omega) (show ds.length <= n by omega)
      omega
end
theorem rep_ref (n : Nat) (a : Addr) : (List.replicate n [V.ref a]).flatten = (List.replicate n a).map V.ref := by
  induction n with
  | zero => rfl
  | succ n ih => rw [List.replicate_succ, List.flatten_cons, ih, List.replicate_succ]; rfl
theorem LsAt.snoc : ∀ {H : Hp} {as : List Addr} {ls : LL} {a : Addr} {l : LI}, LsAt H as ls -> H a = some (.lst (l.map V.int)) -> LsAt H (as ++ [a]) (ls ++ [l])
  | _, _, _, _, _, .nil, h => .cons h .nil
  | _, _, _, _, _, .cons q t, h => .cons q (LsAt.snoc t h)
theorem LsAt.keep : ∀ {H H' : Hp} {as : List Addr} {ls : LL}, LsAt H as ls -> (∀ b xs, b ∈ as -> H b = some (.lst xs) -> H' b = some (.lst xs)) -> LsAt H' as ls
  | _, _, _, _, .nil, _ => .nil
  | _, _, _, _, .cons q t, s => .cons (s _ _ List.mem_cons_self q) (LsAt.keep t fun b xs hb => s b xs (List.mem_cons_of_mem _ hb))
def spHigh (K : PySem.W.Frag) : Sp := fun vs H Q _ => ∃ (m r g hd : Addr) (sg : Int) (many wide : Nat) (rows : LL) (signs ks hs : LI) (hf : Int -> Int), vs = [.ref m, .int sg, .ref hd] /\ MachAt H m r g wide rows signs /\ signs.length = many /\ (1 <= many /\ many <= 60) /\ (2 <= wide /\ wide <= 200) /\
  H hd = some (.dK (kvF hs hf)) /\ Sit many wide rows signs sg ks hs hf /\
  ∀ (t : Addr) (H' : Hp) (R : LI), Same H H' -> H' t = some (.tup (R.map V.int)) -> R.length <= many -> TopRow rows signs wide sg R -> Q (.ref t) H'
section
variable {P : Program} {w : World} {K : PySem.W.Frag} {mg : Str -> Option Value} {base : Heap} {f : Addr} {fd : FuncData} {dV : Value}
theorem sc_highest_row : FnScope ["machine", "sign", "heights", "rows", "falling", "levels", "high", "goal"] ["machine", "sign", "heights"] (defScope s_highest_row) := ⟨rfl, rfl, rfl, by decide +kernel, rfl, by decide +kernel, by decide +kernel⟩
theorem bk_highest_row_0 : BlkScope ["machine", "sign", "heights", "rows", "falling", "levels", "high", "goal"] (defScope s_highest_row) ["there", "heights", "high"] [none, some 2, some 6] { kind := ScopeKind.function, names := [(".0", NameKind.local), ("there", NameKind.local), ("heights", NameKind.free), ("high", NameKind.free)], isGenerator := false, isCoroutine := false, more := [] } := ⟨rfl, by decide +kernel, by decide +kernel, by decide +kernel, by decide +kernel, rfl, by decide +kernel⟩
theorem bk_highest_row_1 : BlkScope ["machine", "sign", "heights", "rows", "falling", "levels", "high", "goal"] (defScope s_highest_row) ["other", "sign"] [none, some 1] { kind := ScopeKind.function, names := [(".0", NameKind.local), ("other", NameKind.local), ("sign", NameKind.free)], isGenerator := false, isCoroutine := false, more := [] } := ⟨rfl, by decide +kernel, by decide +kernel, by decide +kernel, by decide +kernel, rfl, by decide +kernel⟩
theorem ok_high (F : FunD K "highest_row" "highest_row" s_highest_row dV f fd) (G_next_rooms : DefOk P w K mg base "next_rooms" 1 ["rows", "level", "taken"] [] (spNextR K)) (G_taken_down : DefOk P w K mg base "taken_down" 2 ["rows", "levels", "orders", "goal"] [] (spTaken K)) (z_len : mg "len" = none) (z_range : mg "range" = none) (z_tuple : mg "tuple" = none) : FnOk P w K mg base CX0 3 f fd ["machine", "sign", "heights"] (spHigh K) := by
  refine F.ok sc_highest_row (fun vs H Q E h => ?_) (fun cdv A outer s H vs Q E hr h => ?_)
  · obtain ⟨m, r, g, hd, sg, many, wide, rows, signs, ks, hs, hf, rfl, _⟩ := h
    rfl
  obtain ⟨m, r, g, hd, sg, many, wide, rows, signs, ks, hs, hf, rfl, M, lsg, ⟨n0, n1⟩, ⟨w0, w1⟩, hhd, S, k⟩ := h
  obtain ⟨ras, hr', hA⟩ := M.rows
  have R := S.R
  have hu := hu_of hr
  obtain ⟨n, en⟩ := nat_of (S.ht.nn 0 S.z0)
  have nfew := S.few S.z0
  have dg0 : ∀ {H' : Hp}, H' hd = some (.dK (kvF hs hf)) -> DGet H' hd (V.int 0) (some (V.int (n : Int))) := fun h => by
    have q := DGet.k (k := Sum.inl (0 : Int)) h
    rw [kvF_val hf S.z0, en] at q
    exact q
  refine ⟨_, (pss_cons (ps_set (i := 3) sc_highest_row.nd rfl (Or.inl rfl) (pe_ix ix_tup (pv 0) pe_int (fun _ _ => rfl)))
      (pss_cons (ps_set (i := 4) sc_highest_row.nd rfl (Or.inl rfl) (pe_tupDown rfl rfl z_tuple rfl z_range (pa_cons (pe_op op_sub (pe_ix ix_tup (pv 0) pe_int (fun _ _ => rfl)) pe_int) (pa_cons (pe_un un_neg pe_int) (pa_cons (pe_un un_neg pe_int) pa_nil)))))
      (pss_cons (ps_set (i := 5) sc_highest_row.nd rfl (Or.inl rfl) (pe_lst (pa_cons (pe_lst (pa_cons pe_int pa_nil)) pa_nil)))
      (pss_cons (ps_for PassesOwn.never rfl (pi_rangeD rfl z_range (pa_cons (pe_op op_sub (pe_dget hu (pv 2) pe_int (fun _ _ => rfl)) pe_int) (pa_cons (pe_un un_neg pe_int) (pa_cons (pe_un un_neg pe_int) pa_nil)))) (pg_name (i := 6) sc_highest_row.nd rfl (Or.inr rfl)) (pss_one (ps_expr (pe_bm PySem.F.plainAttrs_list PySem.F.slot_list_append PySem.F.type_list_append mt_append (pv 5) (pa_cons (pe_compI rfl bk_highest_row_0 (pi_list (pe_cd G_next_rooms hr (pa_cons (pv 3) (pa_cons (pe_ix ix_list (pv 5) (pe_un un_neg pe_int) (fun _ _ => rfl)) (pa_cons (pv 4) pa_nil))))) (fun _ _ _ _ => (pg_name (i := 0) bk_highest_row_0.nd rfl (Or.inl rfl))) (fun _ _ _ _ => (pt_cmpR op_eq (pe_dget1 hu (pv 1) (pv 0) ⟨rfl, rfl, rfl, rfl⟩) (pv 2) (nomark _))) (fun _ _ _ _ => (pv 0))) pa_nil)))))
      (pss_cons (ps_setComp (i := 7) rfl sc_highest_row.nd rfl (Or.inl rfl) bk_highest_row_1 (pi_tup (pe_ix ix_tup (pv 0) pe_int (fun _ _ => rfl))) (fun _ _ _ _ => (pg_name (i := 0) bk_highest_row_1.nd rfl (Or.inl rfl))) (fun _ _ _ _ => (pe_cmpR op_eq (pv 0) (pv 1) (nomark _))))
      (pss_one (ps_ret (pe_cd G_taken_down hr (pa_cons (pv 3) (pa_cons (pv 5) (pa_cons (pe_op op_rep (pe_lst (pa_cons (pv 4) pa_nil)) (pe_callB call_len_seq (by rfl) z_len bt_len (pa_cons (pv 5) pa_nil))) (pa_cons (pv 7) pa_nil)))))))))))), ?_⟩
  refine ⟨_, rfl, m, _, _, _, rfl, rfl, qT_ M.tup, rfl, ?_⟩
  refine ⟨_, rfl, m, _, _, _, rfl, rfl, qT_ M.tup, rfl, _, _, rfl, rfl, _, rfl, _, rfl, wide, rfl, Nat.le_of_lt (small1000 (by omega)), fun fa hfa => ?_⟩
  have sf := same_new hfa (HO.tup ((downI wide).map V.int))
  refine ⟨(by show 1 <= sizeLine; decide), fun l0 hl0 => ?_⟩
  have sl0 := same_new hl0 (HO.lst [V.int 0])
  refine ⟨(by show 1 <= sizeLine; decide), fun lv hlv => ?_⟩
  have slv := same_new hlv (HO.lst [V.ref l0])
  have nlv : l0 ≠ lv := fun z => by rw [<- z, upd_same] at hlv; cases hlv
  obtain ⟨H1, eH1⟩ : ∃ H1, upd (upd (upd H fa (HO.tup ((downI wide).map V.int))) l0 (HO.lst [V.int 0])) lv (HO.lst [V.ref l0]) = H1 := ⟨_, rfl⟩
  have sfl : Same (upd H fa (HO.tup ((downI wide).map V.int))) H1 := by rw [<- eH1]; exact sl0.trans slv
  have s1 : Same H H1 := sf.trans sfl
  have hfa1 : H1 fa = some (.tup ((downI wide).map V.int)) := sfl _ _ upd_same
  have hl01 : H1 l0 = some (.lst (([0] : LI).map V.int)) := by rw [<- eH1]; exact slv _ _ upd_same
  have hlv1 : H1 lv = some (.lst (([l0] : List Addr).map V.ref)) := by rw [<- eH1, upd_same]; rfl
  have flv : H lv = none := sf.free (sl0.free hlv)
  have flv0 : (upd H fa (HO.tup ((downI wide).map V.int))) lv = none := sl0.free hlv
  rw [eH1]
  try dsimp only [gName]
  refine cut_G (t := tFor _ _ _) (fun σ' H' => ∃ (las : List Addr) (ls : LL) (v6 : OV), σ' = [some (.ref m), some (.int sg), some (.ref hd), some (.ref r), some (.ref fa), some (.ref lv), v6, none] /\ Same (upd H fa (HO.tup ((downI wide).map V.int))) H' /\ H' lv = some (.lst (las.map V.ref)) /\ LsAt H' las ls /\ ls.length = n + 1 /\ Lev wide rows hs hf ls /\ (∀ l ∈ ls, ∀ q ∈ l, 0 <= q /\ q < (many : Int))) ?_ (fun D' nxt => ?_)
  rotate_left
  · refine ⟨_, rfl, hd, _, rfl, dg0 (s1 _ _ hhd), _, _, rfl, rfl, _, rfl, _, rfl, _, rfl, ⟨by omega, by omega⟩, ?_⟩
    refine for_rangeS (fun i σ' H' => ∃ (las : List Addr) (ls : LL) (v6 : OV), σ' = [some (.ref m), some (.int sg), some (.ref hd), some (.ref r), some (.ref fa), some (.ref lv), v6, none] /\ Same (upd H fa (HO.tup ((downI wide).map V.int))) H' /\ H' lv = some (.lst (las.map V.ref)) /\ LsAt H' las ls /\ (∀ a ∈ las, a ≠ lv) /\ ls.length = i + 1 /\ Lev wide rows hs hf ls /\ (∀ l ∈ ls, ∀ q ∈ l, 0 <= q /\ q < (many : Int)))
      ⟨[l0], [[0]], none, rfl, sfl, hlv1, .cons hl01 .nil, (fun a ha => by rw [List.mem_singleton.mp ha]; exact nlv), rfl, ⟨rfl, fun j l l' h1 h2 => by simp at h2⟩, fun l hl q hq => by rw [List.mem_singleton.mp hl] at hq; rw [List.mem_singleton.mp hq]; omega⟩ ?_ ?_
    · rintro i σ' H2 hi ⟨las, ls, v6, rfl, s2, hlv2, LA, nel, ll, L, lin⟩
      have hi' : i < n := by omega
      have lla : las.length = ls.length := Paired.length LA
      obtain ⟨l, hl⟩ : ∃ l, ls[i]? = some l := ⟨_, List.getElem?_eq_getElem (by omega)⟩
      obtain ⟨la, hla1, hla⟩ := LA.get hl
      have lmem := mq_ hl
      have at1 : atI (las.map V.ref) (-1) = some (.ref la) := by
        have e : las.take (i + 1) = las.take i ++ [la] := by rw [List.take_add_one, hla1]; rfl
        rw [List.take_of_length_le (by omega)] at e
        rw [e, List.map_append]
        exact atI_last _ _
      have S2 := sf.trans s2
      have hfa2 : H2 fa = some (.tup ((downI wide).map V.int)) := s2 _ _ upd_same
      refine ⟨_, rfl, .inl ⟨rfl, _, qL_ hlv2⟩, _, rfl, _, rfl, _, rfl, lv, _, _, _, rfl, rfl, qL_ hlv2, at1, _, rfl, ?_⟩
      refine ⟨r, la, fa, many, wide, ras, rows, l, downI wide, rfl, S2 _ _ hr', hA.same (fun b xs e => S2 _ _ e), R, ⟨n0, by omega⟩, hla, lin l lmem, hfa2, fun f hf => down_mem.mp hf, fun q H3 qs s3 hq ndq mq => ?_⟩
      refine ⟨q, rfl, ⟨_, qL_ hq⟩, ?_⟩
      have S3 := S2.trans s3
      have hhd3 := S3 _ _ hhd
      have qin : ∀ x ∈ qs, 0 <= x /\ x < (many : Int) := fun x hx => by
        obtain ⟨h, hh, f, hf, e⟩ := (mq x).mp hx
        have hi2 := lin l lmem h hh
        have ff := down_mem.mp hf
        rw [<- e]; exact stepI_ok R hi2.1 hi2.2 ff.1 ff.2
      have fewq := few_below many ndq qin
      have ehigh : (n : Int) - 1 + (i : Int) * (-1) = hf 0 - ((i : Int) + 1) := by omega
      rw [ehigh]
      refine comp_listI (K := K) (xs := qs.map V.int) (fun D j ys H' => Same H3 H' /\ ys = ((qs.take j).filter fun q => decide (q ∈ hs /\ hf q = hf 0 - ((i : Int) + 1))).map V.int) (fun D hD => ⟨same_new hD _, rfl⟩) (fun D j ys H' _ ⟨e, _⟩ => qL_ (e _ _ hq)) ?_ ?_
      · rintro D j y ys H' Qy Qn hD hj hy ⟨hs', rfl⟩ ky kn
        obtain ⟨x, rfl, hx⟩ := ints_at hj
        have fit : (((qs.take j).filter fun q => decide (q ∈ hs /\ hf q = hf 0 - ((i : Int) + 1))).map V.int).length < sizeLine := small1000 (by
          rw [lm_]
          have := List.length_filter_le (fun q => decide (q ∈ hs /\ hf q = hf 0 - ((i : Int) + 1))) (qs.take j)
          rw [List.length_take] at this
          omega)
        refine ⟨_, rfl, hd, rfl, .inl ⟨_, .inl (hs' _ _ hhd3)⟩, _, rfl, _, DGet.k (k := Sum.inl x) (hs' _ _ hhd3), _, rfl, ?_⟩
        by_cases c : x ∈ hs
        · rw [kvF_val hf c]
          refine ⟨rfl, _, rfl, iteI (fun d => ?_) (fun d => ?_)⟩
          · refine ⟨_, rfl, ky _ _ hy fit ⟨same_upd hs' hD, ?_⟩⟩
            rw [filt_yes hx (decide_eq_true ⟨c, d⟩), List.map_append]
            rfl
          · refine kn _ hy ⟨hs', ?_⟩
            rw [filt_no hx (decide_eq_false fun z => d z.2)]
        · rw [kvF_none hf c]
          refine ⟨rfl, _, rfl, iteF ?_⟩
          refine kn _ hy ⟨hs', ?_⟩
          rw [filt_no hx (decide_eq_false fun z => c z.1)]
      rintro C ys H4 fC hC ⟨s4, rfl⟩
      rw [lm_, List.take_length] at hC
      obtain ⟨l', el'⟩ : ∃ l', qs.filter (fun q => decide (q ∈ hs /\ hf q = hf 0 - ((i : Int) + 1))) = l' := ⟨_, rfl⟩
      rw [el'] at hC
      have meml : ∀ x, x ∈ l' ↔ (∃ h ∈ l, ∃ f : Int, (0 <= f /\ f < (wide : Int)) /\ stepI rows h f = x) /\ x ∈ hs /\ hf x = hf 0 - ((i : Int) + 1) := fun x => by
        rw [<- el', List.mem_filter, mq x, decide_eq_true_iff]
        constructor
        · rintro ⟨⟨h, hh, f, hf', e⟩, z⟩
          exact ⟨⟨h, hh, f, down_mem.mp hf', e⟩, z⟩
        · rintro ⟨⟨h, hh, f, hf', e⟩, z⟩
          exact ⟨⟨h, hh, f, down_mem.mpr hf', e⟩, z⟩
      have s34 := s3.trans s4
      have hlv4 := s34 _ _ hlv2
      have nCl : C ≠ lv := fun z => by rw [z, s3 _ _ hlv2] at fC; cases fC
      refine ⟨lv, _, _, rfl, rfl, hlv4, small1000 (by rw [lm_]; omega), ?_⟩
      have keep : ∀ b xs, b ∈ las -> H2 b = some (.lst xs) -> (upd H4 lv (.lst (las.map V.ref ++ [V.ref C]))) b = some (.lst xs) := fun b xs hb e => by
        rw [upd_ne (nel b hb)]; exact s34 _ _ e
      refine ⟨las ++ [C], ls ++ [l'], _, rfl, same_upd (s2.trans s34) flv0, by rw [upd_same, List.map_append]; rfl, ?_, fun a ha => ?_, by rw [List.length_append, ll]; rfl, ⟨?_, fun j l1 l2 h1 h2 => ?_⟩, fun l1 hl1 q1 hq1 => ?_⟩
      · exact LsAt.snoc (LA.keep keep) (by rw [upd_ne nCl]; exact hC)
      · rcases ma_.mp ha with z | z
        · exact nel a z
        · rw [List.mem_singleton.mp z]; exact nCl
      · rw [List.getElem?_append_left (by omega)]; exact L.hd
      · rcases snoc_cases h2 with h2 | ⟨h2, rfl⟩
        · have jl := (gi_ h2).1
          rw [List.getElem?_append_left (by omega)] at h1
          exact L.nx j l1 l2 h1 h2
        · have ej : j = i := by omega
          subst ej
          rw [List.getElem?_append_left (by omega), hl] at h1
          cases h1
          exact meml
      · rcases ma_.mp hl1 with z | z
        · exact lin l1 z q1 hq1
        · rw [List.mem_singleton.mp z] at hq1
          exact S.hin q1 (S.sub q1 ((meml q1).mp hq1).2.1)
    · rintro σ' H2 ⟨las, ls, v6, rfl, s2, hlv2, LA, nel, ll, L, lin⟩
      rw [show ((n : Int) - 1 + 1).toNat = n by omega] at ll
      exact nxt _ _ ⟨las, ls, _, rfl, s2, hlv2, LA, ll, L, lin⟩
  rintro σ' H2 ⟨las, ls, v6, rfl, s2, hlv2, LA, ll, L, lin⟩
  have S2 := sf.trans s2
  have lla : las.length = ls.length := Paired.length LA
  have hfa2 : H2 fa = some (.tup ((downI wide).map V.int)) := s2 _ _ upd_same
  refine ⟨_, rfl, m, _, _, _, rfl, rfl, qT_ (S2 _ _ M.tup), rfl, g, rfl, ⟨_, qT_ (S2 _ _ M.sgn)⟩, ?_⟩
  refine comp_tup (K := K) (xs := signs.map V.int) (fun D i ys H' => Same H2 H' /\ ys = ((List.range i).map fun q : Nat => decide (signs.getD q 0 = sg)).map V.bl) (fun D hD => ⟨same_new hD _, rfl⟩) (fun D i ys H' _ ⟨e, _⟩ => qT_ (e _ _ (S2 _ _ M.sgn))) ?_ ?_
  · rintro D i y ys H' Q' hD hi hy ⟨hs', rfl⟩ k'
    obtain ⟨z, rfl, hz⟩ := ints_at hi
    have il := (gi_ hz).1
    refine ⟨_, rfl, _, rfl, rfl, k' _ _ hy (small1000 (by rw [lm_, lm_, List.length_range]; omega)) ⟨same_upd hs' hD, ?_⟩⟩
    rw [List.range_succ, List.map_append, List.map_append]
    show _ ++ [V.bl (decide (V.int z = V.int sg))] = _
    rw [dec_int]
    have : signs.getD i 0 = z := by rw [getD_at il]; exact (gi_ hz).2
    rw [<- this]
    rfl
  rintro Gl ys H3 fG hG ⟨s3, rfl⟩
  rw [lm_, lsg] at hG
  try dsimp only [gName]
  have S3 := S2.trans s3
  refine ⟨_, rfl, _, rfl, _, rfl, (by show 1 <= sizeLine; decide), fun z hz => ?_⟩
  have sz := same_new hz (HO.lst [V.ref fa])
  refine ⟨_, rfl, lv, _, rfl, .inl (qL_ (sz _ _ (s3 _ _ hlv2))), ?_⟩
  rw [lm_]
  refine ⟨z, _, _, rfl, rfl, upd_same, by omega, by omega, (by show 1 * ((las.length : Int)).toNat <= sizeLine; exact Nat.le_of_lt (small1000 (by omega))), fun oA hoA => ?_⟩
  rw [Int.toNat_natCast, rep_ref]
  have so := same_new hoA (HO.lst ((List.replicate las.length fa).map V.ref))
  have s35 := sz.trans so
  have s25 := s3.trans s35
  have S5 := S2.trans s25
  have len : (ls.length : Int) = hf 0 + 1 := by omega
  refine ⟨_, rfl, ?_⟩
  refine ⟨r, lv, oA, Gl, many, wide, ras, las, List.replicate las.length fa, rows, ls, (fun q => decide (signs.getD q.toNat 0 = sg)), (fun p => signs.getD p.toNat 0 = sg), rfl, S5 _ _ hr', hA.same (fun b xs e => S5 _ _ e), R, ⟨n0, by omega⟩, ⟨w0, by omega⟩, s25 _ _ hlv2, LA.same (fun b xs e => s25 _ _ e), by omega, lin, upd_same, by rw [List.length_replicate], fun a ha => ?_, ?_, fun q _ _ => decide_eq_true_iff, fun j l l' h1 h2 q hq => ?_, ?_, fun t H6 Rw s6 ht inb lR max ex => ?_⟩
  · rw [List.eq_of_mem_replicate ha]; exact s25 _ _ hfa2
  · rw [s35 _ _ hG]
    rfl
  · obtain ⟨⟨h, hh, f, hf', e⟩, _⟩ := (L.nx j l l' h1 h2 q).mp hq
    exact ⟨h, hh, f, hf', e⟩
  · obtain ⟨l, hl, q, hq, h1, h2⟩ := S.lev_ne L len (ls.length - 1) (by omega)
    obtain ⟨f, f0, f1, fs⟩ := S.closes h1 (by omega)
    exact ⟨l, hl, q, hq, f, ⟨by omega, f1⟩, fs⟩
  · refine k t H6 Rw (S5.trans s6) ht (by omega) (S.topRow w0 n0 L len inb lR max ?_)
    obtain ⟨q, pq⟩ := ex
    have e0 : ls = [0] :: ls.drop 1 := by
      have h0 : 0 < ls.length := by omega
      have := List.drop_eq_getElem_cons h0
      rw [List.drop_zero, (gi_ L.hd).2] at this
      exact this
    have pq' := pq
    rw [e0] at pq'
    rw [List.mem_singleton.mp pq'.1] at pq
    exact pq
end
theorem base_mono {a b : Int} (h0 : 0 <= a) (h : a <= b) : ∀ n : Nat, a ^ n <= b ^ n
  | 0 => by rw [Int.pow_zero, Int.pow_zero]; exact Int.le_refl _
  | n + 1 => by
    rw [Int.pow_succ, Int.pow_succ]
    have p : 0 <= b ^ n := Int.pow_nonneg (by omega)
    exact Int.mul_le_mul (base_mono h0 h n) h h0 p
structure LastIs (rows : LL) (signs : LI) (wide : Nat) (sg : Int) (n : Int) : Prop where
  ge : -1 <= n
  at_ : 0 <= n -> ∃ ds, Figs wide n ds /\ signs.getD (walkI rows ds 0).toNat 0 = sg
  max : ∀ (k : Int) (ds : LI), Figs wide k ds -> signs.getD (walkI rows ds 0).toNat 0 = sg -> k <= n
def spLast (K : PySem.W.Frag) : Sp := fun vs H Q _ => ∃ (m r g : Addr) (sg : Int) (many wide : Nat) (rows : LL) (signs : LI), vs = [.ref m, .int sg] /\ MachAt H m r g wide rows signs /\ RowsOk many wide rows /\ signs.length = many /\ (1 <= many /\ many <= 60) /\ (2 <= wide /\ wide <= 200) /\
  (Endl rows signs wide sg -> ∀ H', Same H H' -> Q .non H') /\ (¬ Endl rows signs wide sg -> ∀ (H' : Hp) (n : Int), Same H H' -> LastIs rows signs wide sg n -> n < (wide : Int) ^ many -> Q (.int n) H')
section
variable {P : Program} {w : World} {K : PySem.W.Frag} {mg : Str -> Option Value} {base : Heap} {f : Addr} {fd : FuncData} {dV : Value}
theorem sc_last_number : FnScope ["machine", "sign", "live", "heights"] ["machine", "sign"] (defScope s_last_number) := ⟨rfl, rfl, rfl, by decide +kernel, rfl, by decide +kernel, by decide +kernel⟩
theorem ok_last (F : FunD K "last_number" "last_number" s_last_number dV f fd) (G_live_rooms : DefOk P w K mg base "live_rooms" 2 ["machine", "sign"] [] (spLiveC K)) (G_heights_of : DefOk P w K mg base "heights_of" 1 ["rows", "live"] [] (spHeightC K)) (G_highest_row : DefOk P w K mg base "highest_row" 3 ["machine", "sign", "heights"] [] (spHigh K)) (G_number_of : DefOk P w K mg base "number_of" 4 ["row", "wide"] [] (spNumOf K)) :
    FnOk P w K mg base CX0 5 f fd ["machine", "sign"] (spLast K) := by
  refine F.ok sc_last_number (fun vs H Q E h => ?_) (fun cdv A outer s H vs Q E hr h => ?_)
  · obtain ⟨m, r, g, sg, many, wide, rows, signs, rfl, _⟩ := h
    rfl
  obtain ⟨m, r, g, sg, many, wide, rows, signs, rfl, M, R, lsg, ⟨n0, n1⟩, ⟨w0, w1⟩, ke, kl⟩ := h
  obtain ⟨ras, hr', hA⟩ := M.rows
  have hu := hu_of hr
  have wp : (0 : Int) < (wide : Int) ^ many := Int.pow_pos (by omega)
  refine ⟨_, (pss_cons (ps_set (i := 2) sc_last_number.nd rfl (Or.inl rfl) (pe_cd G_live_rooms hr (pa_cons (pv 0) (pa_cons (pv 1) pa_nil))))
      (pss_cons (ps_if (pt_cmp (pc_dnotin hu pe_int (pv 2)) (by with_unfolding_all rfl)) (pss_one (ps_ret (pe_ifExp (pt_cmpR op_eq (pe_ix ix_tup (pe_ix ix_tup (pv 0) pe_int (fun _ _ => rfl)) pe_int (fun _ _ => rfl)) (pv 1) (nomark _)) pe_int (pe_un un_neg pe_int)))) pss_nil)
      (pss_cons (ps_set (i := 3) sc_last_number.nd rfl (Or.inl rfl) (pe_cd G_heights_of hr (pa_cons (pe_ix ix_tup (pv 0) pe_int (fun _ _ => rfl)) (pa_cons (pv 2) pa_nil))))
      (pss_cons (ps_if (pt_cmp (pc_dnotin hu pe_int (pv 3)) (by with_unfolding_all rfl)) (pss_one (ps_ret pe_non)) pss_nil)
      (pss_one (ps_ret (pe_cd G_number_of hr (pa_cons (pe_cd G_highest_row hr (pa_cons (pv 0) (pa_cons (pv 1) (pa_cons (pv 3) pa_nil)))) (pa_cons (pe_ix ix_tup (pv 0) pe_int (fun _ _ => rfl)) pa_nil))))))))), ?_⟩
  refine ⟨_, rfl, _, rfl, m, r, g, sg, many, wide, rows, signs, rfl, M, R, lsg, ⟨n0, by omega⟩, ⟨by omega, w1⟩, fun D H1 ks s1 fD hD ndk hlv => ?_⟩
  have hks : ∀ q ∈ ks, 0 <= q /\ q < (many : Int) := fun q hq => by
    obtain ⟨row, hr1, e⟩ := ((hlv q).mp hq).1
    rw [<- e]
    exact walkI_ok R hr1 (by omega) (by omega)
  try dsimp only [gName]
  refine ⟨_, rfl, D, _, rfl, DGet.k (k := Sum.inl (0 : Int)) hD, _, rfl, ?_⟩
  rw [kvT_val]
  have nz : ∀ (k : Int) (ds : LI), Figs wide k ds -> ds ≠ [] -> signs.getD (walkI rows ds 0).toNat 0 = sg -> EndsAt rows signs wide sg 0 ds := fun k ds h ne e => ⟨h.inb, ne, h.top, e⟩
  have g0 : (signs.map V.int).length = many := by rw [lm_, lsg]
  refine iteDn (fun c => ?_) (fun c => ?_)
  · -- nothing is live
    have none' : ∀ (k : Int) (ds : LI), Figs wide k ds -> signs.getD (walkI rows ds 0).toNat 0 = sg -> ds = [] := fun k ds h e => by
      refine Classical.byContradiction fun ne => c ((hlv 0).mpr ?_)
      exact (live_run (nz k ds h ne e) Reach.zero).lv
    have nend : ¬ Endl rows signs wide sg := fun z => c ((hlv 0).mpr (z 0))
    refine ⟨_, rfl, m, _, _, _, rfl, rfl, qT_ (s1 _ _ M.tup), rfl, g, _, _, _, rfl, rfl, qT_ (s1 _ _ M.sgn), atI_ints (by decide) (by omega), _, rfl, rfl, _, rfl, iteI (fun d => ?_) (fun d => ?_)⟩
    · refine kl nend _ 0 s1 ⟨by decide, fun _ => ⟨[], ⟨InB.nil, rfl, fun d hd => by simp at hd⟩, d⟩, fun k ds h e => ?_⟩ wp
      have := none' k ds h e
      subst this
      have := h.val
      rw [<- this]
      exact Int.le_refl _
    · refine ⟨_, rfl, kl nend _ (-1) s1 ⟨by decide, fun z => absurd z (by decide), fun k ds h e => ?_⟩ (by omega)⟩
      have := none' k ds h e
      subst this
      exact absurd e d
  · refine ⟨_, rfl, m, _, _, _, rfl, rfl, qT_ (s1 _ _ M.tup), rfl, _, rfl, r, D, many, wide, ras, rows, ks, rfl, s1 _ _ hr', hA.same (fun b xs e => s1 _ _ e), R, ⟨n0, n1⟩, w1, hD, ndk, hks, fun Hd H2 hs hf s2 fHd hHd sub ht stay => ?_⟩
    have ei := endl_iff R hks hlv sub ht stay
    have s12 := s1.trans s2
    try dsimp only [gName]
    refine ⟨_, rfl, Hd, _, rfl, DGet.k (k := Sum.inl (0 : Int)) hHd, _, rfl, ?_⟩
    rw [kvF_isSome]
    refine iteDn (fun d => ?_) (fun d => ?_)
    · exact ke (ei.mpr ⟨c, d⟩) _ s12
    · have nend : ¬ Endl rows signs wide sg := fun z => (ei.mp z).2 d
      have S : Sit many wide rows signs sg ks hs hf := ⟨R, hks, hlv, sub, ht, d⟩
      refine ⟨_, rfl, _, rfl, _, rfl, m, r, g, Hd, sg, many, wide, rows, signs, ks, hs, hf, rfl, M.same (fun b xs e => s12 _ _ e), lsg, ⟨n0, n1⟩, ⟨w0, w1⟩, hHd, S, fun t H3 Rw s3 ht3 lR top => ?_⟩
      have s13 := s12.trans s3
      have big : (wide : Int) ^ (Rw.length + 1) < BIG := by
        have h1 := ipow_mono (w := (wide : Int)) (by omega) (show Rw.length + 1 <= 61 by omega)
        have h2 := base_mono (a := (wide : Int)) (b := 200) (by omega) (by omega) 61
        have h3 : (200 : Int) ^ 61 < BIG := by decide +kernel
        omega
      refine ⟨_, rfl, m, _, _, _, rfl, rfl, qT_ (s13 _ _ M.tup), rfl, t, wide, Rw, rfl, .inr ht3, by omega, by omega, big, top.ends.inb, fun H4 s4 => ?_⟩
      refine kl nend _ _ (s13.trans s4) ⟨?_, fun _ => ⟨Rw, ⟨top.ends.inb, rfl, top.ends.top⟩, top.ends.sgn⟩, fun k ds h e => ?_⟩ ?_
      · have := valB_nonneg (b := (wide : Int)) (by omega) top.ends.inb
        omega
      · rcases Classical.em (ds = []) with z | z
        · subst z
          have h1 := h.val
          have := valB_nonneg (b := (wide : Int)) (by omega) top.ends.inb
          have h0 : valB (wide : Int) [] = 0 := rfl
          omega
        · have := top.max ds (nz k ds h z e)
          rw [h.val] at this
          exact this
      · have h1 := valB_lt (w := (wide : Int)) (by omega) top.ends.inb
        have h2 := ipow_mono (w := (wide : Int)) (by omega) lR
        omega
end
def spNum (K : PySem.W.Frag) : Sp := fun vs H Q _ => ∃ (a : Addr) (k : Int) (ns : LI), vs = [.ref a, .int k] /\ SqL K H a (ns.map V.int) /\ ns.length <= 63 /\ 0 <= k /\ k < 1000000 /\
  ∀ v : Int, 0 <= v -> v < 2147483399 -> Q (.int v) H
section
variable {P : Program} {w : World} {K : PySem.W.Frag} {mg : Str -> Option Value} {base : Heap} {f : Addr} {fd : FuncData} {dV : Value}
theorem sc__law_number : FnScope ["_law_script", "_law_k", "_law_number_here"] ["_law_script", "_law_k"] (defScope s__law_number) := ⟨rfl, rfl, rfl, by decide +kernel, rfl, by decide +kernel, by decide +kernel⟩
theorem ok_num (F : FunD K "_law_number" "_law_number" s__law_number dV f fd) (z_len : mg "len" = none) : FnOk P w K mg base CX0 1 f fd ["_law_script", "_law_k"] (spNum K) := by
  refine F.ok sc__law_number (fun vs H Q E h => ?_) (fun cdv A outer s H vs Q E hr h => ?_)
  · obtain ⟨a, k, ns, rfl, _⟩ := h
    rfl
  obtain ⟨a, k, ns, rfl, hS, h63, h0, h1, q⟩ := h
  have hl : (ns.map V.int).length = ns.length := List.length_map _
  refine ⟨_, (pss_cons (ps_if (pt_cmpR op_lt (pv 1) (pe_callB call_len_seq (by rfl) z_len bt_len (pa_cons (pv 0) pa_nil)) (nomark _)) (pss_one (ps_ret (pe_op op_mod (pe_ix ix_list (pv 0) (pv 1) (fun _ _ => rfl)) pe_int))) pss_nil)
      (pss_cons (ps_set (i := 2) sc__law_number.nd rfl (Or.inl rfl) (pe_op op_add (pe_op op_add (pe_op op_mul (pe_op op_mul pe_int (pv 1)) (pv 1)) (pe_op op_mul pe_int (pv 1))) pe_int))
      (pss_cons (ps_if (pt_cmpR op_gt (pe_callB call_len_seq (by rfl) z_len bt_len (pa_cons (pv 0) pa_nil)) pe_int (nomark _)) (pss_one (ps_set (i := 2) sc__law_number.nd rfl (Or.inl rfl) (pe_op op_mul (pv 2) (pe_op op_add (pe_op op_mod (pe_ix ix_list (pv 0) (pe_op op_mod (pv 1) (pe_callB call_len_seq (by rfl) z_len bt_len (pa_cons (pv 0) pa_nil))) (fun _ _ => rfl)) pe_int) pe_int)))) pss_nil)
      (pss_one (ps_ret (pe_op op_mod (pe_op op_mul (pv 2) pe_int) pe_int)))))), ?_⟩
  have fin : ∀ c : Int, Q (.int (c * 40692 % 2147483399)) H := fun c => by
    have r := mod_in (a := c * 40692) (b := 2147483399) (by decide)
    exact q _ r.1 r.2
  refine ⟨_, rfl, _, rfl, a, _, rfl, .inl hS, _, _, rfl, rfl, _, rfl, iteD (fun c => ?_) (fun c => ?_)⟩
  · rw [hl] at c
    have r := mod_in (a := ns.getD k.toNat 0) (b := 1000000007) (by decide)
    exact ⟨_, rfl, _, rfl, a, _, _, _, rfl, rfl, hS, atI_ints h0 c, _, _, rfl, rfl, (by show (0 : Int) < 1000000007; decide), q _ r.1 (by omega)⟩
  refine ⟨_, rfl, _, _, rfl, rfl, .inl ⟨by decide, by decide⟩, _, rfl, _, _, rfl, rfl, .inr ⟨by omega, by omega⟩, _, rfl, _, _, rfl, rfl, .inl ⟨by decide, by decide⟩, _, _, rfl, rfl, _, _, rfl, rfl, ?_⟩
  refine ⟨_, rfl, a, _, rfl, .inl hS, _, _, rfl, rfl, _, rfl, ?_⟩
  refine iteD (fun c => ?_) (fun c => ?_)
  · have c' : (0 : Int) < (((ns.map V.int).length : Nat) : Int) := c
    have m0 := Int.emod_nonneg k (show (((ns.map V.int).length : Nat) : Int) ≠ 0 by omega)
    have m1 := Int.emod_lt_of_pos k c'
    have m2 := mod_in (a := ns.getD (k % (((ns.map V.int).length : Nat) : Int)).toNat 0) (b := 65521) (by decide)
    refine ⟨_, rfl, _, rfl, _, rfl, _, rfl, a, _, rfl, .inl hS, _, _, rfl, rfl, c', a, _, _, _, rfl, rfl, hS, atI_ints m0 (by rw [<- hl]; exact m1), _, _, rfl, rfl, (by show (0 : Int) < 65521; decide), _, _, rfl, rfl, _, _, rfl, rfl, .inr ⟨by omega, by omega⟩, ?_⟩
    exact ⟨_, rfl, _, _, rfl, rfl, .inr ⟨by decide, by decide⟩, _, _, rfl, rfl, (by show (0 : Int) < 2147483399; decide), fin _⟩
  · exact ⟨_, rfl, _, _, rfl, rfl, .inr ⟨by decide, by decide⟩, _, _, rfl, rfl, (by show (0 : Int) < 2147483399; decide), fin _⟩
end
def it0 (rows : LL) (q : Int) : Nat -> Int
  | 0 => q
  | k + 1 => stepI rows (it0 rows q k) 0
theorem it0_in {many wide : Nat} {rows : LL} (R : RowsOk many wide rows) (w1 : 1 <= wide) {q : Int} (q0 : 0 <= q) (q1 : q < (many : Int)) : ∀ k, 0 <= it0 rows q k /\ it0 rows q k < (many : Int)
  | 0 => ⟨q0, q1⟩
  | k + 1 => by
    have h := it0_in R w1 q0 q1 k
    exact stepI_ok R h.1 h.2 (by decide) (by omega)
def lowI (rows : LL) (q : Int) (n : Nat) : Nat -> Int
  | 0 => it0 rows q n
  | k + 1 => if it0 rows q (n + k + 1) < lowI rows q n k then it0 rows q (n + k + 1) else lowI rows q n k
theorem lowI_is {rows : LL} {q : Int} {n : Nat} : ∀ k : Nat, ∃ i, i <= k /\ lowI rows q n k = it0 rows q (n + i)
  | 0 => ⟨0, Nat.le_refl _, rfl⟩
  | k + 1 => by
    simp only [lowI]
    split
    · exact ⟨k + 1, Nat.le_refl _, rfl⟩
    · obtain ⟨i, hi, e⟩ := lowI_is (rows := rows) (q := q) (n := n) k
      exact ⟨i, by omega, e⟩
def restI (rows : LL) (n : Nat) (q : Int) : Int := lowI rows q n n
theorem restI_in {many wide : Nat} {rows : LL} (R : RowsOk many wide rows) (w1 : 1 <= wide) {q : Int} (q0 : 0 <= q) (q1 : q < (many : Int)) : 0 <= restI rows many q /\ restI rows many q < (many : Int) := by
  obtain ⟨i, _, e⟩ := lowI_is (rows := rows) (q := q) (n := many) many
  unfold restI
  rw [e]
  exact it0_in R w1 q0 q1 _
def spRest (K : PySem.W.Frag) : Sp := fun vs H Q _ => ∃ (r : Addr) (q : Int) (many wide : Nat) (ras : List Addr) (rows : LL), vs = [.ref r, .int q] /\ H r = some (.lst (ras.map V.ref)) /\ RowsAt H ras rows /\ RowsOk many wide rows /\ 1 <= wide /\ many <= 1000 /\ (0 <= q /\ q < (many : Int)) /\
  Q (.int (restI rows many q)) H
section
variable {P : Program} {w : World} {K : PySem.W.Frag} {mg : Str -> Option Value} {base : Heap} {f : Addr} {fd : FuncData} {dV : Value}
theorem sc__law_rest : FnScope ["_law_rows", "_law_here", "_law_k", "_law_lowest"] ["_law_rows", "_law_here"] (defScope s__law_rest) := ⟨rfl, rfl, rfl, by decide +kernel, rfl, by decide +kernel, by decide +kernel⟩
theorem ok_rest (F : FunD K "_law_rest" "_law_rest" s__law_rest dV f fd) (z_len : mg "len" = none) (z_range : mg "range" = none) (z_min : mg "min" = none) : FnOk P w K mg base CX0 1 f fd ["_law_rows", "_law_here"] (spRest K) := by
  refine F.ok sc__law_rest (fun vs H Q E h => ?_) (fun cdv A outer s H vs Q E hr h => ?_)
  · obtain ⟨r, q, many, wide, ras, rows, rfl, _⟩ := h
    rfl
  obtain ⟨r, q, many, wide, ras, rows, rfl, hr', hA, R, w1, n1, ⟨q0, q1⟩, k⟩ := h
  have lr : (ras.map V.ref).length = many := by rw [lm_, hA.length, R.len]
  refine ⟨_, (pss_cons (ps_for PassesOwn.never rfl (pi_range1 rfl z_range (pa_cons (pe_callB call_len_seq (by rfl) z_len bt_len (pa_cons (pv 0) pa_nil)) pa_nil)) (pg_name (i := 2) sc__law_rest.nd rfl (Or.inl rfl)) (pss_one (ps_set (i := 1) sc__law_rest.nd rfl (Or.inl rfl) (pe_ix ix_tup (pe_ix ix_list (pv 0) (pv 1) (fun _ _ => rfl)) pe_int (fun _ _ => rfl)))))
      (pss_cons (ps_set (i := 3) sc__law_rest.nd rfl (Or.inl rfl) (pv 1))
      (pss_cons (ps_for PassesOwn.never rfl (pi_range1 rfl z_range (pa_cons (pe_callB call_len_seq (by rfl) z_len bt_len (pa_cons (pv 0) pa_nil)) pa_nil)) (pg_name (i := 2) sc__law_rest.nd rfl (Or.inl rfl)) (pss_cons (ps_set (i := 1) sc__law_rest.nd rfl (Or.inl rfl) (pe_ix ix_tup (pe_ix ix_list (pv 0) (pv 1) (fun _ _ => rfl)) pe_int (fun _ _ => rfl)))
      (pss_one (ps_set (i := 3) sc__law_rest.nd rfl (Or.inl rfl) (pe_callB (call_min2 rfl) (by rfl) z_min bt_min (pa_cons (pv 3) (pa_cons (pv 1) pa_nil)))))))
      (pss_one (ps_ret (pv 3)))))), ?_⟩
  have stp : ∀ (x : Int), 0 <= x -> x < (many : Int) -> ∃ (ra : Addr) (rr : LI), atI (ras.map V.ref) x = some (.ref ra) /\ H ra = some (.tup (rr.map V.int)) /\ atI (rr.map V.int) 0 = some (.int (stepI rows x 0)) := fun x x0 x1 => row_step hA R x0 x1 (by decide) (by omega)
  try dsimp only [gName]
  refine cut_seq (t := tFor _ _ _) (fun σ' H' => ∃ v, σ' = [some (.ref r), some (.int (it0 rows q many)), v, none] /\ H' = H) ?_ (fun nxt => ?_)
  rotate_left
  · refine ⟨_, rfl, r, _, rfl, .inl (qL_ hr'), ?_⟩
    rw [lr]
    refine ⟨(many : Int), rfl, by omega, by omega, for_range (fun i σ' H' => ∃ v, σ' = [some (.ref r), some (.int (it0 rows q i)), v, none] /\ H' = H) ⟨none, rfl, rfl⟩ ?_ ?_⟩
    · rintro i σ' H' hi ⟨v, rfl, rfl⟩
      have hx := it0_in R w1 q0 q1 i
      obtain ⟨ra, rr, e1, e2, e3⟩ := stp _ hx.1 hx.2
      exact ⟨_, rfl, _, rfl, r, _, _, _, rfl, rfl, qL_ hr', e1, ra, _, _, _, rfl, rfl, qT_ e2, e3, _, rfl, rfl⟩
    · rintro σ' H' ⟨v, rfl, rfl⟩
      rw [Int.toNat_natCast]
      exact nxt _ _ ⟨v, rfl, rfl⟩
  rintro σ' H' ⟨v, rfl, rfl⟩
  refine ⟨_, rfl, ?_⟩
  try dsimp only [gName]
  refine cut_seq (t := tFor _ _ _) (fun σ' H'' => ∃ v x, σ' = [some (.ref r), x, v, some (.int (restI rows many q))] /\ H'' = H') ?_ (fun nxt => ?_)
  rotate_left
  · refine ⟨_, rfl, r, _, rfl, .inl (qL_ hr'), ?_⟩
    rw [lr]
    refine ⟨(many : Int), rfl, by omega, by omega, for_range (fun i σ' H'' => ∃ v, σ' = [some (.ref r), some (.int (it0 rows q (many + i))), v, some (.int (lowI rows q many i))] /\ H'' = H') ⟨v, rfl, rfl⟩ ?_ ?_⟩
    · rintro i σ' H'' hi ⟨v, rfl, rfl⟩
      have hx := it0_in R w1 q0 q1 (many + i)
      obtain ⟨ra, rr, e1, e2, e3⟩ := stp _ hx.1 hx.2
      refine ⟨_, rfl, _, rfl, r, _, _, _, rfl, rfl, qL_ hr', e1, ra, _, _, _, rfl, rfl, qT_ e2, e3, ?_⟩
      exact ⟨_, rfl, _, rfl, _, _, rfl, some (.int (0 + i)), rfl, rfl⟩
    · rintro σ' H'' ⟨v, rfl, rfl⟩
      rw [Int.toNat_natCast]
      exact nxt _ _ ⟨_, _, rfl, rfl⟩
  rintro σ' H'' ⟨v, x, rfl, rfl⟩
  exact ⟨_, rfl, k⟩
end
def In4 (z : Int) : Prop := z = 0 \/ z = 1 \/ z = 2 \/ z = 999999
theorem in4_ints : ∀ {ys : List V}, (∀ y ∈ ys, ∃ z, y = V.int z /\ In4 z) -> ∃ drawn : LI, ys = drawn.map V.int /\ ∀ z ∈ drawn, In4 z
  | [], _ => ⟨[], rfl, (fun z h => by cases h)⟩
  | y :: r, h => by
    obtain ⟨z, e, hz⟩ := h y List.mem_cons_self
    obtain ⟨d, ed, hd⟩ := in4_ints (ys := r) fun y' h' => h y' (List.mem_cons_of_mem _ h')
    exact ⟨z :: d, by rw [e, ed]; rfl, fun x hx => by
      rcases List.mem_cons.mp hx with q | q
      · rw [q]; exact hz
      · exact hd x q⟩
def spThereE : Sp := fun vs H Q _ => ∃ v q f m way : Int, vs = [.int v, .int q, .int f, .int m, .int way] /\ 0 <= v /\ (0 <= q /\ q < m) /\ ∀ t : Int, 0 <= t -> t < m -> Q (.int t) H
section
variable {P : Program} {w : World} {K : PySem.W.Frag} {mg : Str -> Option Value} {base : Heap} {f : Addr} {fd : FuncData} {dV : Value}
theorem sc__law_there : FnScope ["_law_number_here", "_law_q", "_law_f", "_law_many", "_law_way"] ["_law_number_here", "_law_q", "_law_f", "_law_many", "_law_way"] (defScope s__law_there) := ⟨rfl, rfl, rfl, by decide +kernel, rfl, by decide +kernel, by decide +kernel⟩
theorem ok_thereE (F : FunD K "_law_there" "_law_there" s__law_there dV f fd) : FnOk P w K mg base CX0 1 f fd ["_law_number_here", "_law_q", "_law_f", "_law_many", "_law_way"] spThereE := by
  refine F.ok sc__law_there (fun vs H Q E h => ?_) (fun cdv A outer s H vs Q E hr h => ?_)
  · obtain ⟨v, q, f, m, way, rfl, _⟩ := h
    rfl
  obtain ⟨v, q, f, m, way, rfl, v0, ⟨q0, q1⟩, k⟩ := h
  refine ⟨_, (pss_cons (ps_if (pt_cmpR op_eq (pv 4) pe_int (nomark _)) (pss_cons (ps_if (PW.pt (pw_or (pt_cmpR op_eq (pv 1) (pe_op op_sub (pv 3) pe_int) (nomark _)) (pw_or1 (PW.pt (pw_and (pt_cmpR op_eq (pv 1) (pe_op op_sub (pv 3) pe_int) (nomark _)) (pw_and1 (pt_cmpR op_eq (pv 2) pe_int (nomark _)))))))) (pss_one (ps_ret (pv 1))) pss_nil)
      (pss_one (ps_ret (pe_op op_add (pe_op op_add (pv 1) pe_int) (pe_op op_mod (pv 0) (pe_op op_sub (pe_op op_sub (pv 3) (pv 1)) pe_int)))))) pss_nil)
      (pss_cons (ps_if (PW.pt (pw_and (pt_cmpR op_eq (pv 2) pe_int (nomark _)) (pw_and1 (pt_cmpR op_eq (pe_op op_mod (pe_op op_fdiv (pv 0) pe_int) pe_int) pe_int (nomark _))))) (pss_one (ps_ret (pv 1))) pss_nil)
      (pss_cons (ps_if (PW.pt (pw_and (pt_cmpR op_eq (pv 4) pe_int (nomark _)) (pw_and1 (PW.pt (pw_or (pt_cmpR op_eq (pv 1) (pe_op op_sub (pv 3) pe_int) (nomark _)) (pw_or1 (pt_cmpR op_eq (pe_op op_mod (pv 0) pe_int) pe_int (nomark _)))))))) (pss_one (ps_ret (pe_op op_sub (pv 3) pe_int))) pss_nil)
      (pss_one (ps_ret (pe_op op_mod (pe_op op_fdiv (pv 0) pe_int) (pv 3))))))), ?_⟩
  refine ⟨_, rfl, rfl, _, rfl, iteI (fun c => ?_) (fun c => ?_)⟩
  · have kq : Q (.int q) H := k q q0 q1
    have go : q ≠ m - 1 -> Q (.int (q + 1 + v % (m - q - 1))) H := fun n => by
      have r := mod_in (a := v) (b := m - q - 1) (by omega)
      exact k _ (by omega) (by omega)
    refine ⟨_, rfl, _, rfl, _, _, rfl, rfl, rfl, _, rfl, iteI (fun d => iteT ⟨_, rfl, kq⟩) (fun d => ?_)⟩
    refine ⟨_, rfl, _, rfl, _, _, rfl, rfl, rfl, _, rfl, iteI (fun d2 => ?_) (fun d2 => ?_)⟩
    · refine ⟨_, rfl, rfl, _, rfl, iteI (fun d3 => ⟨_, rfl, kq⟩) (fun d3 => ?_)⟩
      exact ⟨_, rfl, _, _, rfl, rfl, _, rfl, _, rfl, _, rfl, _, _, rfl, rfl, _, _, rfl, rfl, _, _, rfl, rfl, (by omega), _, _, rfl, rfl, go d⟩
    · exact iteF ⟨_, rfl, _, _, rfl, rfl, _, rfl, _, rfl, _, rfl, _, _, rfl, rfl, _, _, rfl, rfl, _, _, rfl, rfl, (by omega), _, _, rfl, rfl, go d⟩
  · have fin : Q (.int (v / 2 % m)) H := by
      have r := mod_in (a := v / 2) (b := m) (by omega)
      exact k _ r.1 r.2
    refine ⟨_, rfl, rfl, _, rfl, iteI (fun d => ?_) (fun d => ?_)⟩
    · refine ⟨_, rfl, _, _, rfl, rfl, ⟨by decide, by decide⟩, _, _, rfl, rfl, (by show (0 : Int) < 3; decide), rfl, _, rfl, iteI (fun _ => ⟨_, rfl, k q q0 q1⟩) (fun _ => ?_)⟩
      refine ⟨_, rfl, rfl, _, rfl, iteI (fun d => ?_) (fun d => ?_)⟩
      · refine ⟨_, rfl, _, rfl, _, _, rfl, rfl, rfl, _, rfl, iteI (fun _ => iteT ⟨_, rfl, _, _, rfl, rfl, k _ (by omega) (by omega)⟩) (fun _ => ?_)⟩
        exact ⟨_, rfl, _, _, rfl, rfl, (by show (0 : Int) < 2; decide), rfl, _, rfl, iteI (fun _ => ⟨_, rfl, _, _, rfl, rfl, k _ (by omega) (by omega)⟩) (fun _ => ⟨_, rfl, _, _, rfl, rfl, ⟨by decide, by decide⟩, _, rfl, _, _, rfl, rfl, (by omega), fin⟩)⟩
      · exact ⟨_, rfl, _, _, rfl, rfl, ⟨by decide, by decide⟩, _, rfl, _, _, rfl, rfl, (by omega), fin⟩
    · refine ⟨_, rfl, rfl, _, rfl, iteI (fun d => ?_) (fun d => ?_)⟩
      · refine ⟨_, rfl, _, rfl, _, _, rfl, rfl, rfl, _, rfl, iteI (fun _ => iteT ⟨_, rfl, _, _, rfl, rfl, k _ (by omega) (by omega)⟩) (fun _ => ?_)⟩
        exact ⟨_, rfl, _, _, rfl, rfl, (by show (0 : Int) < 2; decide), rfl, _, rfl, iteI (fun _ => ⟨_, rfl, _, _, rfl, rfl, k _ (by omega) (by omega)⟩) (fun _ => ⟨_, rfl, _, _, rfl, rfl, ⟨by decide, by decide⟩, _, rfl, _, _, rfl, rfl, (by omega), fin⟩)⟩
      · exact ⟨_, rfl, _, _, rfl, rfl, ⟨by decide, by decide⟩, _, rfl, _, _, rfl, rfl, (by omega), fin⟩
end
def spMachW (K : PySem.W.Frag) : Sp := fun vs H Q _ => ∃ (l : Addr) (st way : Int) (many wide : Nat) (ns : LI), vs = [.ref l, .int st, .int wide, .int many, .int way] /\ SqL K H l (ns.map V.int) /\ ns.length <= 63 /\
  (0 <= st /\ st < 10) /\ (1 <= many /\ many <= 6) /\ (2 <= wide /\ wide <= 100) /\
  ∀ (m r g : Addr) (H' : Hp) (rows : LL) (signs : LI), Same H H' -> MachAt H' m r g wide rows signs -> RowsOk many wide rows -> signs.length = many -> Q (.ref m) H'
section
variable {P : Program} {w : World} {K : PySem.W.Frag} {mg : Str -> Option Value} {base : Heap} {f : Addr} {fd : FuncData} {dV : Value}
theorem sc__law_machine : FnScope ["_law_script", "_law_start", "_law_wide", "_law_many", "_law_way", "_law_rows", "_law_q", "_law_row", "_law_f", "_law_at", "_law_drawn"] ["_law_script", "_law_start", "_law_wide", "_law_many", "_law_way"] (defScope s__law_machine) := ⟨rfl, rfl, rfl, by decide +kernel, rfl, by decide +kernel, by decide +kernel⟩
theorem bk__law_machine_0 : BlkScope ["_law_script", "_law_start", "_law_wide", "_law_many", "_law_way", "_law_rows", "_law_q", "_law_row", "_law_f", "_law_at", "_law_drawn"] (defScope s__law_machine) ["_law_q", "_law_at", "_law_script"] [none, some 9, some 0] { kind := ScopeKind.function, names := [(".0", NameKind.local), ("_law_q", NameKind.local), ("_law_number", NameKind.globalImplicit), ("_law_at", NameKind.free), ("_law_script", NameKind.free)], isGenerator := false, isCoroutine := false, more := [] } := ⟨rfl, by decide +kernel, by decide +kernel, by decide +kernel, by decide +kernel, rfl, by decide +kernel⟩
theorem bk__law_machine_1 : BlkScope ["_law_script", "_law_start", "_law_wide", "_law_many", "_law_way", "_law_rows", "_law_q", "_law_row", "_law_f", "_law_at", "_law_drawn"] (defScope s__law_machine) ["_law_q", "_law_drawn", "_law_rows"] [none, some 10, some 5] { kind := ScopeKind.function, names := [(".0", NameKind.local), ("_law_q", NameKind.local), ("_law_rest", NameKind.globalImplicit), ("_law_drawn", NameKind.free), ("_law_rows", NameKind.free)], isGenerator := false, isCoroutine := false, more := [] } := ⟨rfl, by decide +kernel, by decide +kernel, by decide +kernel, by decide +kernel, rfl, by decide +kernel⟩
theorem ok_machW (F : FunD K "_law_machine" "_law_machine" s__law_machine dV f fd) (G__law_number : DefOk P w K mg base "_law_number" 1 ["_law_script", "_law_k"] [] (spNum K))
    (G__law_there : DefOk P w K mg base "_law_there" 1 ["_law_number_here", "_law_q", "_law_f", "_law_many", "_law_way"] [] spThereE) (G__law_rest : DefOk P w K mg base "_law_rest" 1 ["_law_rows", "_law_here"] [] (spRest K)) (z_range : mg "range" = none) (z_tuple : mg "tuple" = none) :
    FnOk P w K mg base CX0 2 f fd ["_law_script", "_law_start", "_law_wide", "_law_many", "_law_way"] (spMachW K) := by
  refine F.ok sc__law_machine (fun vs H Q E h => ?_) (fun cdv A outer s H vs Q E hr h => ?_)
  · obtain ⟨l, st, way, many, wide, ns, rfl, _⟩ := h
    rfl
  obtain ⟨l, st, way, many, wide, ns, rfl, hS, h63, ⟨st0, st1⟩, ⟨m0, m1⟩, ⟨w0, w1⟩, k⟩ := h
  refine ⟨_, (pss_cons (ps_set (i := 5) sc__law_machine.nd rfl (Or.inr rfl) (pe_lst pa_nil))
      (pss_cons (ps_for PassesOwn.never rfl (pi_range1 rfl z_range (pa_cons (pv 3) pa_nil)) (pg_name (i := 6) sc__law_machine.nd rfl (Or.inl rfl)) (pss_cons (ps_set (i := 7) sc__law_machine.nd rfl (Or.inl rfl) (pe_lst pa_nil))
      (pss_cons (ps_for PassesOwn.never rfl (pi_range1 rfl z_range (pa_cons (pv 2) pa_nil)) (pg_name (i := 8) sc__law_machine.nd rfl (Or.inl rfl)) (pss_one (ps_expr (pe_bm PySem.F.plainAttrs_list PySem.F.slot_list_append PySem.F.type_list_append mt_append (pv 7) (pa_cons (pe_cd G__law_there hr (pa_cons (pe_cd G__law_number hr (pa_cons (pv 0) (pa_cons (pe_op op_add (pe_op op_add (pv 1) (pe_op op_mul (pv 6) (pv 2))) (pv 8)) pa_nil))) (pa_cons (pv 6) (pa_cons (pv 8) (pa_cons (pv 3) (pa_cons (pv 4) pa_nil)))))) pa_nil)))))
      (pss_one (ps_expr (pe_bm PySem.F.plainAttrs_list PySem.F.slot_list_append PySem.F.type_list_append mt_append (pv 5) (pa_cons (pe_callTy call_tuple_of (by rfl) z_tuple bt_tuple (pa_cons (pv 7) pa_nil)) pa_nil)))))))
      (pss_cons (ps_set (i := 9) sc__law_machine.nd rfl (Or.inr rfl) (pe_op op_add (pv 1) (pe_op op_mul (pv 3) (pv 2))))
      (pss_cons (ps_set (i := 10) sc__law_machine.nd rfl (Or.inr rfl) (pe_comp rfl bk__law_machine_0 (pi_range1 rfl z_range (pa_cons (pv 3) pa_nil)) (fun _ _ _ _ => (pg_name (i := 0) bk__law_machine_0.nd rfl (Or.inl rfl))) (fun _ _ _ _ => (pe_ix (ix_listK K) (pe_lst (pa_cons pe_int (pa_cons pe_int (pa_cons pe_int (pa_cons pe_int (pa_cons pe_int (pa_cons pe_int pa_nil))))))) (pe_op op_mod (pe_cd G__law_number hr (pa_cons (pv 2) (pa_cons (pe_op op_add (pv 1) (pv 0)) pa_nil))) pe_int) (fun _ _ => rfl)))))
      (pss_one (ps_ret (pe_tup (pa_cons (pv 2) (pa_cons (pe_callTy call_tuple_of (by rfl) z_tuple bt_tuple (pa_cons (pv 5) pa_nil)) (pa_cons (pe_callTy call_tuple_of (by rfl) z_tuple bt_tuple (pa_cons (pe_comp rfl bk__law_machine_1 (pi_range1 rfl z_range (pa_cons (pv 3) pa_nil)) (fun _ _ _ _ => (pg_name (i := 0) bk__law_machine_1.nd rfl (Or.inl rfl))) (fun _ _ _ _ => (pe_ix (ix_listK K) (pv 1) (pe_cd G__law_rest hr (pa_cons (pv 2) (pa_cons (pv 0) pa_nil))) (fun _ _ => rfl)))) pa_nil)) pa_nil)))))))))), ?_⟩
  have hmw : many * wide + many <= 700 := by
    have := Nat.mul_le_mul m1 w1
    omega
  have prod : ∀ i : Nat, i <= many -> i * wide <= many * wide := fun i hi => Nat.mul_le_mul_right _ hi
  have prod1 : ∀ i : Nat, i < many -> i * wide + wide <= many * wide := fun i hi => by
    have := Nat.mul_le_mul_right wide hi
    rw [Nat.succ_mul] at this
    exact this
  have cst : ∀ i : Nat, ((i : Int) * (wide : Int)) = ((i * wide : Nat) : Int) := fun i => by push_cast; rfl
  refine ⟨(by show 0 <= sizeLine; decide), fun R hR => ?_⟩
  try dsimp only [gName]
  refine cut_G (t := tFor _ _ _) (fun σ' H' => ∃ (ras : List Addr) (rws : LL) (v1 v2 v3 : OV), σ' = [some (.ref l), some (.int st), some (.int wide), some (.int many), some (.int way), some (.ref R), v1, v2, v3, none, none] /\ Same H H' /\ H' R = some (.lst (ras.map V.ref)) /\ RowsAt H' ras rws /\ RowsOk many wide rws) ?_ (fun D' nxt => ?_)
  rotate_left
  · refine ⟨_, rfl, (many : Int), rfl, by omega, by omega, for_range (fun i σ' H'' => ∃ (ras : List Addr) (rws : LL) (v1 v2 v3 : OV), σ' = [some (.ref l), some (.int st), some (.int wide), some (.int many), some (.int way), some (.ref R), v1, v2, v3, none, none] /\ Same H H'' /\ H'' R = some (.lst (ras.map V.ref)) /\ RowsAt H'' ras rws /\
        (∀ r ∈ rws, r.length = wide) /\ (∀ r ∈ rws, ∀ v ∈ r, 0 <= v /\ v < (many : Int)) /\ rws.length = i)
      ⟨[], [], none, none, none, rfl, same_new hR _, upd_same, .nil, (fun r h => by cases h), (fun r h => by cases h), rfl⟩ ?_ ?_⟩
    · rintro i σ' H3 hi ⟨ras, rws, v1, v2, v3, rfl, hs3, hR3, hA3, hl3, hv3, hn3⟩
      have hi' : i < many := by omega
      have lenR : ras.length = i := by rw [hA3.length]; exact hn3
      have z0 : (0 : Int) + (i : Int) = (i : Int) := Int.zero_add _
      rw [z0]
      have pi := prod1 i hi'
      refine ⟨(by show 0 <= sizeLine; decide), fun W hW => ?_⟩
      have nRW : R ≠ W := ne_of_none hR3 hW
      try dsimp only [gName]
      refine cut_G (t := tFor _ _ _) (fun σ' H'' => ∃ (row : LI) (v3 : OV), σ' = [some (.ref l), some (.int st), some (.int wide), some (.int many), some (.int way), some (.ref R), some (.int i), some (.ref W), v3, none, none] /\ Same H3 H'' /\ H'' W = some (.lst (row.map V.int)) /\ row.length = wide /\ ∀ v ∈ row, 0 <= v /\ v < (many : Int)) ?_ (fun D' nxt2 => ?_)
      rotate_left
      · refine ⟨_, rfl, (wide : Int), rfl, by omega, by omega, for_range (fun j σ' H'' => ∃ (row : LI) (v3 : OV), σ' = [some (.ref l), some (.int st), some (.int wide), some (.int many), some (.int way), some (.ref R), some (.int i), some (.ref W), v3, none, none] /\ Same H3 H'' /\ H'' W = some (.lst (row.map V.int)) /\ row.length = j /\ ∀ v ∈ row, 0 <= v /\ v < (many : Int))
          ⟨[], v3, rfl, same_new hW _, upd_same, rfl, (fun v h => by cases h)⟩ ?_ ?_⟩
        · rintro j σ' H4 hj ⟨row, v3, rfl, hs4, hW4, hl4, hv4⟩
          have hj' : j < wide := by omega
          have z1 : (0 : Int) + (j : Int) = (j : Int) := Int.zero_add _
          rw [z1]
          have fit : (row.map V.int).length < sizeLine := small1000 (by rw [lm_]; omega)
          refine ⟨_, rfl, .inl ⟨rfl, _, qL_ hW4⟩, ?_⟩
          refine ⟨_, rfl, _, rfl, _, rfl, _, rfl, _, _, rfl, rfl, .inl ⟨by omega, by omega⟩, _, _, rfl, rfl, _, rfl, _, _, rfl, rfl, l, _, ns, rfl, (hs3.trans hs4).seq hS, h63, by rw [cst]; omega, by rw [cst]; omega, fun v v0 v1 => ?_⟩
          refine ⟨_, rfl, _, rfl, _, rfl, _, rfl, v, i, j, many, way, rfl, v0, ⟨by omega, by omega⟩, fun t t0 t1 => ?_⟩
          refine ⟨W, _, _, rfl, rfl, hW4, fit, row ++ [t], _, rfl, same_upd hs4 hW, by rw [upd_same, List.map_append]; rfl, by simp [hl4], fun y hy => ?_⟩
          rcases ma_.mp hy with q | q
          · exact hv4 y q
          · rw [List.mem_singleton.mp q]; exact ⟨t0, t1⟩
        · rintro σ' H4 ⟨row, v3, rfl, hs4, hW4, hl4, hv4⟩
          rw [Int.toNat_natCast] at hl4
          exact nxt2 _ _ ⟨row, v3, rfl, hs4, hW4, hl4, hv4⟩
      rintro σ' H4 ⟨row, v3, rfl, hs4, hW, hl4, hrow⟩
      have hR4 := hs4 _ _ hR3
      refine ⟨_, rfl, .inl ⟨rfl, _, qL_ hR4⟩, _, rfl, W, _, rfl, .inl ⟨qL_ hW, fun tp htp => ?_⟩⟩
      have nR : R ≠ tp := ne_of_none hR4 htp
      refine ⟨R, _, _, rfl, rfl, by rw [upd_ne nR]; exact hR4, small1000 (by rw [lm_]; omega), ?_⟩
      have sT : ∀ b xs, H3 b = some (.tup xs) -> (upd (upd H4 tp (.tup (row.map V.int))) R (.lst (ras.map V.ref ++ [V.ref tp]))) b = some (.tup xs) := fun b xs e => by
        have e4 := hs4 _ _ e
        rw [upd_ne (ne_of e4 hR4 (by intro z; cases z)), upd_ne (ne_of_none e4 htp)]
        exact e4
      refine ⟨ras ++ [tp], rws ++ [row], _, _, _, rfl, same_upd (same_upd (hs3.trans hs4) ((hs3.trans hs4).free htp)) hR, ?_, RowsAt.snoc (hA3.same sT) ?_, ?_, ?_, by simp [hn3]⟩
      · rw [upd_same, List.map_append]; rfl
      · rw [upd_ne (Ne.symm nR), upd_same]
      · intro r hr'
        rcases ma_.mp hr' with z | z
        · exact hl3 r z
        · rw [List.mem_singleton.mp z]; omega
      · intro r hr'
        rcases ma_.mp hr' with z | z
        · exact hv3 r z
        · rw [List.mem_singleton.mp z]; exact hrow
    · rintro σ' H3 ⟨ras, rws, v1, v2, v3, rfl, hs3, hR3, hA3, hl3, hv3, hn3⟩
      exact nxt _ _ ⟨ras, rws, v1, v2, v3, rfl, hs3, hR3, hA3, ⟨by omega, hl3, hv3⟩⟩
  rintro σ' H3 ⟨ras, rws, v1, v2, v3, rfl, hs3, hR3, hA3, RO⟩
  refine ⟨_, rfl, _, rfl, _, rfl, _, _, rfl, rfl, .inl ⟨by omega, by omega⟩, _, _, rfl, rfl, ?_⟩
  rw [cst]
  refine ⟨_, rfl, (many : Int), rfl, by omega, by omega, ?_⟩
  refine comp_range (fun D j ys H'' => Same H3 H'' /\ ys.length = j /\ ∀ y ∈ ys, ∃ z, y = V.int z /\ In4 z) (fun D hD => ⟨same_new hD _, rfl, (fun y h => by cases h)⟩) ?_ ?_
  · rintro D j ys H4 Q' hD hj hy ⟨hs4, hl4, hall4⟩ k'
    refine ⟨(by show 6 <= sizeLine; decide), fun L6 hL6 => ?_⟩
    have s6 := same_new hL6 (HO.lst [V.int 0, V.int 1, V.int 2, V.int 1, V.int 0, V.int 999999])
    have nD : D ≠ L6 := ne_of_none hy hL6
    refine ⟨_, rfl, _, rfl, _, rfl, _, _, rfl, rfl, l, _, ns, rfl, (hs3.trans (hs4.trans s6)).seq hS, h63, by omega, by omega, fun v v0 v1 => ?_⟩
    have r6 := mod_in (a := v) (b := 6) (by decide)
    have pick : ∃ z, atI [V.int 0, V.int 1, V.int 2, V.int 1, V.int 0, V.int 999999] (v % 6) = some (V.int z) /\ In4 z := by
      have h6 : v % 6 = 0 \/ v % 6 = 1 \/ v % 6 = 2 \/ v % 6 = 3 \/ v % 6 = 4 \/ v % 6 = 5 := by omega
      rcases h6 with e | e | e | e | e | e <;> rw [e]
      · exact ⟨0, rfl, .inl rfl⟩
      · exact ⟨1, rfl, .inr (.inl rfl)⟩
      · exact ⟨2, rfl, .inr (.inr (.inl rfl))⟩
      · exact ⟨1, rfl, .inr (.inl rfl)⟩
      · exact ⟨0, rfl, .inl rfl⟩
      · exact ⟨999999, rfl, .inr (.inr (.inr rfl))⟩
    obtain ⟨z, ez, hz⟩ := pick
    refine ⟨_, _, rfl, rfl, (by show (0 : Int) < 6; decide), L6, _, _, _, rfl, rfl, qL_ upd_same, ez, k' _ _ (by rw [upd_ne nD]; exact hy) (small1000 (by omega)) ⟨same_upd (same_upd hs4 (hs4.free hL6)) hD, by simp [hl4], ?_⟩⟩
    intro y hy'
    rcases ma_.mp hy' with q | q
    · exact hall4 y q
    · rw [List.mem_singleton.mp q]; exact ⟨z, rfl, hz⟩
  rintro D ys H4 fD hD ⟨hs4, hl4, hall4⟩
  have hd := in4_ints hall4
  obtain ⟨drawn, rfl, hdr⟩ := hd
  rw [lm_] at hl4
  try dsimp only [gName]
  refine ⟨_, rfl, _, rfl, R, _, rfl, .inl ⟨qL_ (hs4 _ _ hR3), fun rt hrt => ?_⟩⟩
  have s5 := same_new hrt (HO.tup (ras.map V.ref))
  have s35 := hs4.trans s5
  refine ⟨_, rfl, (many : Int), rfl, by omega, by omega, ?_⟩
  refine comp_range (fun D2 j ys H'' => Same (upd H4 rt (HO.tup (ras.map V.ref))) H'' /\ ys = ((List.range j).map fun q : Nat => drawn.getD (restI rws many q).toNat 0).map V.int) (fun D2 hD2 => ⟨same_new hD2 _, rfl⟩) ?_ ?_
  · rintro D2 j ys H5 Q' hD2 hj hy ⟨hs5, rfl⟩ k'
    have hj' : (j : Int) < many := by omega
    have z0 : (0 : Int) + (j : Int) = (j : Int) := Int.zero_add _
    rw [z0]
    have s3' := s35.trans hs5
    have rr := restI_in RO (by omega) (show (0 : Int) <= (j : Int) by omega) hj'
    refine ⟨_, rfl, _, rfl, _, rfl, R, _, many, wide, ras, rws, rfl, s3' _ _ hR3, hA3.same fun b xs e => s3' _ _ e, RO, by omega, by omega, ⟨by omega, hj'⟩, D, _, _, _, rfl, rfl, qL_ (hs5 _ _ (s5 _ _ hD)), atI_ints rr.1 (by omega), k' _ _ hy (small1000 (by rw [lm_, lm_, List.length_range]; omega)) ⟨same_upd hs5 hD2, ?_⟩⟩
    rw [List.range_succ, List.map_append, List.map_append]
    rfl
  rintro G ys H5 fG hG ⟨hs5, rfl⟩
  rw [Int.toNat_natCast] at hG
  refine ⟨G, _, rfl, .inl ⟨qL_ hG, fun gt hgt => ?_⟩⟩
  have s6 := same_new hgt (HO.tup (((List.range many).map fun q : Nat => drawn.getD (restI rws many q).toNat 0).map V.int))
  refine ⟨(by show 3 <= sizeLine; decide), fun m hm => ?_⟩
  have s7 := same_new hm (HO.tup [V.int wide, V.ref rt, V.ref gt])
  have s57 := hs5.trans (s6.trans s7)
  exact k m rt gt _ rws ((List.range many).map fun q : Nat => drawn.getD (restI rws many q).toNat 0) (hs3.trans (s35.trans s57)) ⟨upd_same, ⟨ras, s57 _ _ upd_same, (hA3.same fun b xs e => s57 _ _ (s35 _ _ e))⟩, s7 _ _ upd_same⟩ RO (by simp)
end
theorem Figs.tail {w x d : Int} {ds : LI} (hw : 2 <= w) (h : Figs w x (d :: ds)) : Figs w (x / w) ds /\ x % w = d := by
  have hd := h.inb d List.mem_cons_self
  have v : d + w * valB w ds = x := h.val
  have e1 : x % w = d := by rw [<- v, Int.add_mul_emod_self_left]; exact Int.emod_eq_of_lt hd.1 hd.2
  refine ⟨⟨h.inb.tail, ?_, fun e he => ?_⟩, e1⟩
  · rw [<- v, Int.add_mul_ediv_left _ _ (by omega), Int.ediv_eq_zero_of_lt hd.1 hd.2, Int.zero_add]
  · cases ds with
    | nil => simp at he
    | cons y ys => exact h.top e (by rw [List.getLast?_cons_cons]; exact he)
theorem figs_ex {w : Nat} (hw : 2 <= w) (n : Nat) : ∃ ds, Figs w n ds := by
  induction n using Nat.strongRecOn with
  | _ n ih =>
    rcases Nat.eq_zero_or_pos n with z | z
    · subst z
      exact ⟨[], InB.nil, rfl, fun d hd => by simp at hd⟩
    · obtain ⟨ds, h⟩ := ih (n / w) (Nat.div_lt_self z (by omega))
      have m := Nat.mod_lt n (show 0 < w by omega)
      refine ⟨((n % w : Nat) : Int) :: ds, InB.cons (by omega) (by omega) h.inb, ?_, fun d hd => ?_⟩
      · show ((n % w : Nat) : Int) + (w : Int) * valB w ds = n
        rw [h.val]
        have := Nat.mod_add_div n w
        have e : ((n % w + w * (n / w) : Nat) : Int) = (n : Int) := by rw [this]
        push_cast at e ⊢
        exact e
      · cases ds with
        | nil =>
          have e : ((n % w : Nat) : Int) = d := by simpa using hd
          have v : valB (w : Int) [] = ((n / w : Nat) : Int) := h.val
          have v0 : valB (w : Int) [] = 0 := rfl
          have : n / w = 0 := by omega
          have := Nat.mod_add_div n w
          have : n % w = n := by
            rw [‹n / w = 0›, Nat.mul_zero, Nat.add_zero] at this
            exact this
          omega
        | cons y ys => rw [List.getLast?_cons_cons] at hd; exact h.top d hd
def spWholeN : Sp := fun vs H Q _ => ∃ z : Int, vs = [.int z] /\ Q (.bl true) H
def spSignW : Sp := fun vs H Q _ => ∃ (m r g : Addr) (many wide : Nat) (rows : LL) (signs : LI) (n : Int) (ds : LI), vs = [.ref m, .int n] /\ MachAt H m r g wide rows signs /\ RowsOk many wide rows /\ signs.length = many /\ (1 <= many /\ many <= 1000) /\ (2 <= wide /\ wide <= 1000) /\ Figs wide n ds /\ Q (.int (signs.getD (walkI rows ds 0).toNat 0)) H
def spIsRowW : Sp := fun vs H Q _ => ∃ (b : Addr) (wd : Int) (xs : LI), vs = [.ref b, .int wd] /\ H b = some (.tup (xs.map V.int)) /\ (∀ f ∈ xs, 0 <= f /\ f < wd) /\ Q (.bl true) H
def spLedW : Sp := fun vs H Q _ => ∃ (m r g b : Addr) (many wide : Nat) (rows : LL) (signs xs : LI) (q : Int), vs = [.ref m, .ref b, .int q] /\ MachAt H m r g wide rows signs /\ RowsOk many wide rows /\ H b = some (.tup (xs.map V.int)) /\ (∀ f ∈ xs, 0 <= f /\ f < (wide : Int)) /\ (0 <= q /\ q < (many : Int)) /\ Q (.int (walkI rows xs q)) H
section
variable {P : Program} {w : World} {K : PySem.W.Frag} {mg : Str -> Option Value} {base : Heap} {f : Addr} {fd : FuncData} {dV : Value}
theorem sc__law_whole : FnScope ["_law_found"] ["_law_found"] (defScope s__law_whole) := ⟨rfl, rfl, rfl, by decide +kernel, rfl, by decide +kernel, by decide +kernel⟩
theorem sc__law_sign_at : FnScope ["_law_machine_here", "_law_number_here", "_law_here"] ["_law_machine_here", "_law_number_here"] (defScope s__law_sign_at) := ⟨rfl, rfl, rfl, by decide +kernel, rfl, by decide +kernel, by decide +kernel⟩
theorem sc__law_is_row : FnScope ["_law_found", "_law_wide", "_law_figure"] ["_law_found", "_law_wide"] (defScope s__law_is_row) := ⟨rfl, rfl, rfl, by decide +kernel, rfl, by decide +kernel, by decide +kernel⟩
theorem sc__law_led : FnScope ["_law_machine_here", "_law_row", "_law_here", "_law_figure"] ["_law_machine_here", "_law_row", "_law_here"] (defScope s__law_led) := ⟨rfl, rfl, rfl, by decide +kernel, rfl, by decide +kernel, by decide +kernel⟩
theorem ok_wholeN (F : FunD K "_law_whole" "_law_whole" s__law_whole dV f fd) (z_isinstance : mg "isinstance" = none) (z_int : mg "int" = none) (z_bool : mg "bool" = none) : FnOk P w K mg base CX0 1 f fd ["_law_found"] spWholeN := by
  refine F.ok sc__law_whole (fun vs H Q E h => ?_) (fun cdv A outer s H vs Q E hr h => ?_)
  · obtain ⟨z, rfl, _⟩ := h
    rfl
  obtain ⟨z, rfl, q⟩ := h
  refine ⟨_, (pss_one (ps_ret (pe_and (pe_callB call_isi (by rfl) z_isinstance bt_isinstance (pa_cons (pv 0) (pa_cons (pe_bltn (v := .ty "int") rfl z_int bt_int rfl) pa_nil))) (pe_one (pe_not (pe_callB call_isi (by rfl) z_isinstance bt_isinstance (pa_cons (pv 0) (pa_cons (pe_bltn (v := .ty "bool") rfl z_bool bt_bool rfl) pa_nil)))))))), ?_⟩
  refine ⟨_, rfl, _, _, _, _, rfl, TyOf.int z, kit_int_int K, _, rfl, iteT ?_⟩
  exact ⟨_, rfl, _, _, _, _, rfl, TyOf.int z, kit_int_bool K, _, rfl, q⟩
theorem ok_signW (F : FunD K "_law_sign_at" "_law_sign_at" s__law_sign_at dV f fd) : FnOk P w K mg base CX0 1 f fd ["_law_machine_here", "_law_number_here"] spSignW := by
  refine F.ok sc__law_sign_at (fun vs H Q E h => ?_) (fun cdv A outer s H vs Q E hr h => ?_)
  · obtain ⟨m, r, g, many, wide, rows, signs, n, ds, rfl, _⟩ := h
    rfl
  obtain ⟨m, r, g, many, wide, rows, signs, n, ds, rfl, M, R, lsg, ⟨n0, n1⟩, ⟨w0, w1⟩, FG, k⟩ := h
  obtain ⟨ras, hr', hA⟩ := M.rows
  refine ⟨_, (pss_cons (ps_set (i := 2) sc__law_sign_at.nd rfl (Or.inl rfl) pe_int)
      (pss_cons (ps_while PassesOwn.never (pt_cmpR op_gt (pv 1) pe_int (nomark _)) (pss_cons (ps_set (i := 2) sc__law_sign_at.nd rfl (Or.inl rfl) (pe_ix ix_tup (pe_ix ix_tup (pe_ix ix_tup (pv 0) pe_int (fun _ _ => rfl)) (pv 2) (fun _ _ => rfl)) (pe_op op_mod (pv 1) (pe_ix ix_tup (pv 0) pe_int (fun _ _ => rfl))) (fun _ _ => rfl)))
      (pss_one (ps_set (i := 1) sc__law_sign_at.nd rfl (Or.inl rfl) (pe_op op_fdivB (pv 1) (pe_ix ix_tup (pv 0) pe_int (fun _ _ => rfl)))))))
      (pss_one (ps_ret (pe_ix ix_tup (pe_ix ix_tup (pv 0) pe_int (fun _ _ => rfl)) (pv 2) (fun _ _ => rfl)))))), ?_⟩
  refine seq_const ?_
  try dsimp only [gName]
  refine cut_G (t := tWhile _ _) (fun σ' H' => ∃ x : Int, σ' = [some (.ref m), some (.int x), some (.int (walkI rows ds 0))] /\ H' = H /\ (0 <= walkI rows ds 0 /\ walkI rows ds 0 < (many : Int))) ?_ (fun D' nxt => ?_)
  rotate_left
  · refine while_W (fun mm σ' H' => ∃ (x q : Int) (es : LI), mm = x.toNat /\ σ' = [some (.ref m), some (.int x), some (.int q)] /\ H' = H /\ (0 <= q /\ q < (many : Int)) /\ Figs wide x es /\ walkI rows es q = walkI rows ds 0)
      ⟨_, n, 0, ds, rfl, rfl, rfl, ⟨by decide, by omega⟩, FG, rfl⟩ ?_
    rintro mm σ' H' ⟨x, q, es, rfl, rfl, rfl, ⟨q0, q1⟩, fg, e⟩
    have x0 : 0 <= x := by rw [<- fg.val]; exact valB_nonneg (by omega) fg.inb
    refine ⟨_, rfl, _, _, rfl, rfl, _, rfl, iteD (fun c => ?_) (fun c => ?_)⟩
    · cases es with
      | nil =>
        have v : valB (wide : Int) [] = x := fg.val
        have v0 : valB (wide : Int) [] = 0 := rfl
        omega
      | cons d es =>
        obtain ⟨ft, ed⟩ := fg.tail (by omega)
        have dd := fg.inb d List.mem_cons_self
        refine ⟨fun σ' H'' => ∃ m', m' < x.toNat /\ ∃ (x q : Int) (es : LI), m' = x.toNat /\ σ' = [some (.ref m), some (.int x), some (.int q)] /\ H'' = H' /\ (0 <= q /\ q < (many : Int)) /\ Figs wide x es /\ walkI rows es q = walkI rows ds 0, fun σ' H'' h => h, ?_⟩
        obtain ⟨ra, rr, e1, e2, e3⟩ := row_step hA R q0 q1 dd.1 dd.2
        have st := stepI_ok R q0 q1 dd.1 dd.2
        refine ⟨_, rfl, m, _, _, _, rfl, rfl, qT_ M.tup, rfl, _, rfl, r, _, _, _, rfl, rfl, qT_ hr', e1, _, rfl, _, rfl, m, _, _, _, rfl, rfl, qT_ M.tup, rfl, _, _, rfl, rfl, (by omega), ra, _, _, _, rfl, rfl, qT_ e2, by rw [ed]; exact e3, ?_⟩
        refine ⟨_, rfl, _, rfl, m, _, _, _, rfl, rfl, qT_ M.tup, rfl, _, _, rfl, rfl, ⟨by omega, Int.lt_of_le_of_lt (show (wide : Int) <= 1000 by omega) (by decide +kernel)⟩, ?_⟩
        have lt : x / (wide : Int) < x := Int.ediv_lt_self_of_pos_of_ne_one (by omega) (by omega)
        have ge : 0 <= x / (wide : Int) := Int.ediv_nonneg x0 (by omega)
        exact ⟨(x / (wide : Int)).toNat, by omega, x / (wide : Int), stepI rows q d, es, rfl, rfl, rfl, st, ft, e⟩
    · have ex : es = [] := by
        have x00 : x = 0 := by omega
        have f0 : Figs (wide : Int) x [] := ⟨InB.nil, x00.symm, fun d hd => by simp at hd⟩
        exact figs_one (by omega) fg f0
      subst ex
      have e' : q = walkI rows ds 0 := e
      subst e'
      exact nxt _ _ ⟨x, rfl, rfl, q0, q1⟩
  rintro σ' H' ⟨x, rfl, rfl, q0, q1⟩
  exact ⟨_, rfl, m, _, _, _, rfl, rfl, qT_ M.tup, rfl, _, rfl, g, _, _, _, rfl, rfl, qT_ M.sgn, atI_ints q0 (by omega), k⟩
theorem ok_isRowW (F : FunD K "_law_is_row" "_law_is_row" s__law_is_row dV f fd) (G__law_whole : DefOk P w K mg base "_law_whole" 1 ["_law_found"] [] spWholeN) (z_isinstance : mg "isinstance" = none) (z_tuple : mg "tuple" = none) : FnOk P w K mg base CX0 2 f fd ["_law_found", "_law_wide"] spIsRowW := by
  refine F.ok sc__law_is_row (fun vs H Q E h => ?_) (fun cdv A outer s H vs Q E hr h => ?_)
  · obtain ⟨b, wd, xs, rfl, _⟩ := h
    rfl
  obtain ⟨b, wd, xs, rfl, hb, hx, q⟩ := h
  refine ⟨_, (pss_cons (ps_if (pt_not (pt_val (pe_callB call_isi (by rfl) z_isinstance bt_isinstance (pa_cons (pv 0) (pa_cons (pe_bltn (v := .ty "tuple") rfl z_tuple bt_tuple rfl) pa_nil))))) (pss_one (ps_ret pe_bl)) pss_nil)
      (pss_cons (ps_for PassesOwn.never rfl (pi_tup (pv 0)) (pg_name (i := 2) sc__law_is_row.nd rfl (Or.inl rfl)) (pss_one (ps_if (PW.pt (pw_or (pt_not (pt_val (pe_cd G__law_whole hr (pa_cons (pv 2) pa_nil)))) (pw_or (pt_cmpR op_lt (pv 2) pe_int (nomark _)) (pw_or1 (pt_cmpR op_ge (pv 2) (pv 1) (nomark _)))))) (pss_one (ps_ret pe_bl)) pss_nil)))
      (pss_one (ps_ret pe_bl)))), ?_⟩
  refine ⟨_, rfl, _, _, _, _, rfl, TyOf.tup hb, kit_tuple_tuple K, _, rfl, iteF ?_⟩
  refine ⟨_, rfl, b, rfl, ⟨_, qT_ hb⟩, for_tup (K := K) (xs := xs.map V.int) (fun i σ' H' => ∃ v, σ' = [some (.ref b), some (.int wd), v] /\ H' = H) ⟨none, rfl, rfl⟩ (fun i σ' H' _ ⟨_, _, e⟩ => by rw [e]; exact qT_ hb) ?_ ?_⟩
  · rintro i y σ' H' hi ⟨v, rfl, rfl⟩
    obtain ⟨z, rfl, hz⟩ := ints_at hi
    have zz := hx z (mq_ hz)
    refine ⟨_, rfl, z, rfl, _, rfl, iteF ⟨_, rfl, _, _, rfl, rfl, _, rfl, iteD (fun c => by omega) (fun _ => ⟨_, rfl, _, rfl, _, _, rfl, rfl, _, rfl, iteD (fun c => by omega) (fun _ => ⟨_, rfl, rfl⟩)⟩)⟩⟩
  · rintro σ' H' ⟨v, rfl, rfl⟩
    exact q
theorem ok_ledW (F : FunD K "_law_led" "_law_led" s__law_led dV f fd) : FnOk P w K mg base CX0 1 f fd ["_law_machine_here", "_law_row", "_law_here"] spLedW := by
  refine F.ok sc__law_led (fun vs H Q E h => ?_) (fun cdv A outer s H vs Q E hr h => ?_)
  · obtain ⟨m, r, g, b, many, wide, rows, signs, xs, q, rfl, _⟩ := h
    rfl
  obtain ⟨m, r, g, b, many, wide, rows, signs, xs, q, rfl, M, R, hb, hx, ⟨q0, q1⟩, k⟩ := h
  obtain ⟨ras, hr', hA⟩ := M.rows
  refine ⟨_, (pss_cons (ps_for PassesOwn.never rfl (pi_tup (pv 1)) (pg_name (i := 3) sc__law_led.nd rfl (Or.inl rfl)) (pss_one (ps_set (i := 2) sc__law_led.nd rfl (Or.inl rfl) (pe_ix ix_tup (pe_ix ix_tup (pe_ix ix_tup (pv 0) pe_int (fun _ _ => rfl)) (pv 2) (fun _ _ => rfl)) (pv 3) (fun _ _ => rfl)))))
      (pss_one (ps_ret (pv 2)))), ?_⟩
  try dsimp only [gName]
  refine cut_G (t := tFor _ _ _) (fun σ' H' => ∃ v, σ' = [some (.ref m), some (.ref b), some (.int (walkI rows xs q)), v] /\ H' = H) ?_ (fun D' nxt => ?_)
  rotate_left
  · refine ⟨_, rfl, b, rfl, ⟨_, qT_ hb⟩, for_tup (K := K) (xs := xs.map V.int) (fun i σ' H' => ∃ v, σ' = [some (.ref m), some (.ref b), some (.int (walkI rows (xs.take i) q)), v] /\ H' = H) ⟨none, rfl, rfl⟩ (fun i σ' H' _ ⟨_, _, e⟩ => by rw [e]; exact qT_ hb) ?_ ?_⟩
    · rintro i y σ' H' hi ⟨v, rfl, rfl⟩
      obtain ⟨z, rfl, hz⟩ := ints_at hi
      have zz := hx z (mq_ hz)
      have pin := walkI_ok R (ns := xs.take i) (fun f hf => hx f (List.mem_of_mem_take hf)) q0 q1
      obtain ⟨ra, rr, e1, e2, e3⟩ := row_step hA R pin.1 pin.2 zz.1 zz.2
      refine ⟨_, rfl, m, _, _, _, rfl, rfl, qT_ M.tup, rfl, _, rfl, r, _, _, _, rfl, rfl, qT_ hr', e1, _, rfl, ra, _, _, _, rfl, rfl, qT_ e2, e3, some (.int z), ?_, rfl⟩
      rw [walkI_take hz]
      rfl
    · rintro σ' H' ⟨v, rfl, rfl⟩
      rw [lm_, List.take_length]
      exact nxt _ _ ⟨_, rfl, rfl⟩
  rintro σ' H' ⟨v, rfl, rfl⟩
  exact ⟨_, rfl, k⟩
end
theorem catT {K : PySem.W.Frag} {H : Hp} {a b : Addr} {xs ys : List V} {Q : VK} (ha : H a = some (.tup xs)) (hb : H b = some (.tup ys)) (hl : xs.length + ys.length <= sizeLine) (hq : ∀ c H', Same H H' -> H' c = some (.tup (xs ++ ys)) -> Q (.ref c) H') : rCatA K (.ref a) (.ref b) H Q :=
  ⟨a, b, xs, ys, rfl, rfl, qT_ ha, qT_ hb, hl, fun e => hq b H (Same.refl _) (by rw [e, List.nil_append]; exact hb), fun _ e => hq a H (Same.refl _) (by rw [e, List.append_nil]; exact ha), fun _ _ p hp => hq p _ (same_new hp _) upd_same⟩
def repI (ys : LI) : Nat -> LI
  | 0 => []
  | i + 1 => repI ys i ++ ys
theorem repI_len (ys : LI) : ∀ i, (repI ys i).length = i * ys.length
  | 0 => by rw [Nat.zero_mul]; rfl
  | i + 1 => by
    show (repI ys i ++ ys).length = _
    rw [List.length_append, repI_len ys i, Nat.succ_mul]
theorem repI_mem {ys : LI} {f : Int} : ∀ {i : Nat}, f ∈ repI ys i -> f ∈ ys
  | 0, h => by cases h
  | i + 1, h => by
    rcases ma_.mp (show f ∈ repI ys i ++ ys from h) with z | z
    · exact repI_mem z
    · exact z
theorem repI_walk {rows : LL} {ys : LI} {q : Int} (h : walkI rows ys q = q) : ∀ i, walkI rows (repI ys i) q = q
  | 0 => rfl
  | i + 1 => by
    show walkI rows (repI ys i ++ ys) q = q
    rw [walkI_append, repI_walk h i, h]
def spGoesW : Sp := fun vs H Q _ => ∃ (m r g u a b c : Addr) (many wide : Nat) (rows : LL) (signs xs ys zs : LI) (sg turns here z : Int), vs = [.ref m, .int sg, .ref u, .int turns] /\ MachAt H m r g wide rows signs /\ RowsOk many wide rows /\ signs.length = many /\ (1 <= many /\ many <= 6) /\ (2 <= wide /\ wide <= 100) /\ (0 <= turns /\ turns < 9) /\
  H u = some (.tup [.ref a, .ref b, .ref c]) /\ H a = some (.tup (xs.map V.int)) /\ H b = some (.tup (ys.map V.int)) /\ H c = some (.tup ((zs ++ [z]).map V.int)) /\ xs.length <= many /\ ys.length <= many /\ zs.length < many /\
  (∀ f ∈ xs, 0 <= f /\ f < (wide : Int)) /\ (∀ f ∈ ys, 0 <= f /\ f < (wide : Int)) /\ (∀ f ∈ zs ++ [z], 0 <= f /\ f < (wide : Int)) /\ (0 <= here /\ here < (many : Int)) /\ walkI rows xs 0 = here /\ walkI rows ys here = here /\ ys ≠ [] /\ 0 < z /\ signs.getD (walkI rows (zs ++ [z]) here).toNat 0 = sg /\ ∀ H', Same H H' -> Q (.bl true) H'
section
variable {P : Program} {w : World} {K : PySem.W.Frag} {mg : Str -> Option Value} {base : Heap} {f : Addr} {fd : FuncData} {dV : Value}
theorem sc__law_goes_on : FnScope ["_law_machine_here", "_law_sign", "_law_found", "_law_turns", "_law_row", "_law_here", "_law_turn", "_law_number_here", "_law_figure"] ["_law_machine_here", "_law_sign", "_law_found", "_law_turns"] (defScope s__law_goes_on) := ⟨rfl, rfl, rfl, by decide +kernel, rfl, by decide +kernel, by decide +kernel⟩
theorem ok_goesW (F : FunD K "_law_goes_on" "_law_goes_on" s__law_goes_on dV f fd) (G__law_is_row : DefOk P w K mg base "_law_is_row" 2 ["_law_found", "_law_wide"] [] spIsRowW) (G__law_led : DefOk P w K mg base "_law_led" 1 ["_law_machine_here", "_law_row", "_law_here"] [] spLedW) (G__law_sign_at : DefOk P w K mg base "_law_sign_at" 1 ["_law_machine_here", "_law_number_here"] [] spSignW)
    (z_isinstance : mg "isinstance" = none) (z_tuple : mg "tuple" = none) (z_len : mg "len" = none) (z_range : mg "range" = none) (z_reversed : mg "reversed" = none) : FnOk P w K mg base CX0 3 f fd ["_law_machine_here", "_law_sign", "_law_found", "_law_turns"] spGoesW := by
  refine F.ok sc__law_goes_on (fun vs H Q E h => ?_) (fun cdv A outer s H vs Q E hr h => ?_)
  · obtain ⟨m, r, g, u, a, b, c, many, wide, rows, signs, xs, ys, zs, sg, turns, here, z, rfl, _⟩ := h
    rfl
  obtain ⟨m, r, g, u, a, b, c, many, wide, rows, signs, xs, ys, zs, sg, turns, here, z, rfl, M, R, lsg, ⟨n0, n1⟩, ⟨w0, w1⟩, ⟨t0, t1⟩, hu, ha, hb, hc, lx, ly, lz, fx, fy, fz, hin, wx, wy, ny, z0, sz, k⟩ := h
  have hMt := M.tup
  refine body_w (ws_cons (PSW.mk (ps_if (PW.pt (pw_or (pt_not (pt_val (pe_callB call_isi (by rfl) z_isinstance bt_isinstance (pa_cons (pv 2) (pa_cons (pe_bltn (v := .ty "tuple") rfl z_tuple bt_tuple rfl) pa_nil))))) (pw_or1 (pt_cmpR op_ne (pe_callB call_len_seq (by rfl) z_len bt_len (pa_cons (pv 2) pa_nil)) pe_int (nomark _))))) (pss_one (ps_ret pe_bl)) pss_nil))
      (ws_cons (PSW.mk (ps_for PassesOwn.never rfl (pi_tup (pv 2)) (pg_name (i := 4) sc__law_goes_on.nd rfl (Or.inl rfl)) (pss_one (ps_if (pt_not (pt_val (pe_cd G__law_is_row hr (pa_cons (pv 4) (pa_cons (pe_ix ix_tup (pv 0) pe_int (fun _ _ => rfl)) pa_nil))))) (pss_one (ps_ret pe_bl)) pss_nil))))
      (ws_cons (PSW.mk (ps_if (PW.pt (pw_or (pt_cmpR op_eq (pe_callB call_len_seq (by rfl) z_len bt_len (pa_cons (pe_ix ix_tup (pv 2) pe_int (fun _ _ => rfl)) pa_nil)) pe_int (nomark _)) (pw_or (pt_cmpR op_eq (pe_callB call_len_seq (by rfl) z_len bt_len (pa_cons (pe_ix ix_tup (pv 2) pe_int (fun _ _ => rfl)) pa_nil)) pe_int (nomark _)) (pw_or1 (pt_cmpR op_eq (pe_ix ix_tup (pe_ix ix_tup (pv 2) pe_int (fun _ _ => rfl)) (pe_un un_neg pe_int) (fun _ _ => rfl)) pe_int (nomark _)))))) (pss_one (ps_ret pe_bl)) pss_nil))
      (ws_cons (PSW.mk (ps_set (i := 5) sc__law_goes_on.nd rfl (Or.inl rfl) (pe_cd G__law_led hr (pa_cons (pv 0) (pa_cons (pe_ix ix_tup (pv 2) pe_int (fun _ _ => rfl)) (pa_cons pe_int pa_nil))))))
      (ws_cons (PSW.mk (ps_if (PW.pt (pw_or (pt_cmpR op_ne (pe_cd G__law_led hr (pa_cons (pv 0) (pa_cons (pe_ix ix_tup (pv 2) pe_int (fun _ _ => rfl)) (pa_cons (pv 5) pa_nil)))) (pv 5) (nomark _)) (pw_or1 (pt_cmpR op_ne (pe_ix ix_tup (pe_ix ix_tup (pv 0) pe_int (fun _ _ => rfl)) (pe_cd G__law_led hr (pa_cons (pv 0) (pa_cons (pe_ix ix_tup (pv 2) pe_int (fun _ _ => rfl)) (pa_cons (pv 5) pa_nil)))) (fun _ _ => rfl)) (pv 1) (nomark _))))) (pss_one (ps_ret pe_bl)) pss_nil))
      (ws_cons (PSW.mk (ps_set (i := 4) sc__law_goes_on.nd rfl (Or.inl rfl) (pe_ix ix_tup (pv 2) pe_int (fun _ _ => rfl))))
      (ws_cons (PSW.mk (ps_for PassesOwn.never rfl (pi_range1 rfl z_range (pa_cons (pv 3) pa_nil)) (pg_name (i := 6) sc__law_goes_on.nd rfl (Or.inl rfl)) (pss_one (ps_set (i := 4) sc__law_goes_on.nd rfl (Or.inl rfl) (pe_op op_catA (pv 4) (pe_ix ix_tup (pv 2) pe_int (fun _ _ => rfl)))))))
      (ws_cons (PSW.mk (ps_set (i := 7) sc__law_goes_on.nd rfl (Or.inl rfl) pe_int))
      (ws_cons (PSW.mk (ps_for PassesOwn.never rfl (pi_revT rfl z_reversed (pa_cons (pe_op op_catA (pv 4) (pe_ix ix_tup (pv 2) pe_int (fun _ _ => rfl))) pa_nil)) (pg_name (i := 8) sc__law_goes_on.nd rfl (Or.inl rfl)) (pss_one (ps_set (i := 7) sc__law_goes_on.nd rfl (Or.inl rfl) (pe_op op_add (pe_op op_mulB (pv 7) (pe_ix ix_tup (pv 0) pe_int (fun _ _ => rfl))) (pv 8))))))
      (ws_one (PSW.mk (ps_ret (pe_cmpR op_eq (pe_cd G__law_sign_at hr (pa_cons (pv 0) (pa_cons (pv 7) pa_nil))) (pv 1) (nomark _)))))))))))))) ?_
  refine ⟨_, rfl, _, _, _, _, rfl, TyOf.tup hu, kit_tuple_tuple K, _, rfl, iteF ?_⟩
  refine ⟨_, rfl, u, _, rfl, .inr (qT_ hu), rfl, _, rfl, iteF ?_⟩
  have all : ∀ y ∈ [V.ref a, V.ref b, V.ref c], ∃ (t : Addr) (ts : LI), y = .ref t /\ H t = some (.tup (ts.map V.int)) /\ ∀ f ∈ ts, 0 <= f /\ f < (wide : Int) := fun y hy => by
    simp only [List.mem_cons, List.not_mem_nil, or_false] at hy
    rcases hy with e | e | e
    · exact ⟨a, xs, e, ha, fx⟩
    · exact ⟨b, ys, e, hb, fy⟩
    · exact ⟨c, zs ++ [z], e, hc, fz⟩
  dsimp only [tNext]
  refine cut_G (t := tFor _ _ _) (fun σ' H' => ∃ v : OV, σ' = [some (.ref m), some (.int sg), some (.ref u), some (.int turns), v, none, none, none, none] /\ H' = H) ?_ (fun D' nxt => ?_)
  rotate_left
  · refine ⟨_, rfl, u, rfl, ⟨_, qT_ hu⟩, for_tup (K := K) (xs := [V.ref a, V.ref b, V.ref c]) (fun i σ' H' => ∃ v : OV, σ' = [some (.ref m), some (.int sg), some (.ref u), some (.int turns), v, none, none, none, none] /\ H' = H) ⟨none, rfl, rfl⟩ (fun i σ' H' _ ⟨_, _, e⟩ => by rw [e]; exact qT_ hu) ?_ ?_⟩
    · rintro i y σ' H' hi ⟨v, rfl, rfl⟩
      obtain ⟨t, ts, rfl, ht, hts⟩ := all y (mq_ hi)
      exact ⟨_, rfl, _, rfl, m, _, _, _, rfl, rfl, qT_ hMt, rfl, t, wide, ts, rfl, ht, hts, _, rfl, iteF ⟨_, rfl, rfl⟩⟩
    · rintro σ' H' ⟨v, rfl, rfl⟩
      exact nxt _ _ ⟨_, rfl, rfl⟩
  rintro σ' H' ⟨v, rfl, rfl⟩
  have lc : ((zs ++ [z]).map V.int).length = zs.length + 1 := by rw [lm_, List.length_append]; rfl
  have lb : 0 < ys.length := List.length_pos_iff.mpr ny
  refine ⟨_, rfl, u, _, _, _, rfl, rfl, qT_ hu, rfl, b, _, rfl, .inr (qT_ hb), rfl, _, rfl, iteI (fun q => ?_) (fun _ => ?_)⟩
  · rw [lm_] at q; omega
  refine ⟨_, rfl, u, _, _, _, rfl, rfl, qT_ hu, rfl, c, _, rfl, .inr (qT_ hc), rfl, _, rfl, iteI (fun q => ?_) (fun _ => ?_)⟩
  · rw [lc] at q; omega
  have last : atI ((zs ++ [z]).map V.int) (-1) = some (.int z) := by rw [List.map_append]; exact atI_last _ _
  refine ⟨_, rfl, u, _, _, _, rfl, rfl, qT_ hu, rfl, _, rfl, c, _, _, _, rfl, rfl, qT_ hc, last, rfl, _, rfl, iteI (fun q => ?_) (fun _ => ?_)⟩
  · omega
  refine ⟨_, rfl, _, rfl, u, _, _, _, rfl, rfl, qT_ hu, rfl, m, r, g, a, many, wide, rows, signs, xs, 0, rfl, M, R, ha, fx, ⟨by omega, by omega⟩, ?_⟩
  rw [wx]
  try dsimp only [gName]
  refine ⟨_, rfl, _, rfl, u, _, _, _, rfl, rfl, qT_ hu, rfl, _, rfl, m, r, g, b, many, wide, rows, signs, ys, here, rfl, M, R, hb, fy, hin, ?_⟩
  rw [wy]
  refine ⟨_, rfl, rfl, _, rfl, iteDn (fun q => absurd rfl q) (fun _ => ?_)⟩
  have zin := walkI_ok R fz hin.1 hin.2
  refine ⟨_, rfl, m, _, _, _, rfl, rfl, qT_ hMt, rfl, _, rfl, _, rfl, u, _, _, _, rfl, rfl, qT_ hu, rfl, _, rfl, m, r, g, c, many, wide, rows, signs, zs ++ [z], here, rfl, M, R, hc, fz, hin, g, _, _, _, rfl, rfl, qT_ M.sgn, atI_ints zin.1 (by omega), ?_⟩
  rw [sz]
  refine ⟨_, rfl, rfl, _, rfl, iteDn (fun q => absurd rfl q) (fun _ => ?_)⟩
  refine ⟨_, rfl, u, _, _, _, rfl, rfl, qT_ hu, rfl, ?_⟩
  try dsimp only [gName]
  obtain ⟨tn, et⟩ := nat_of t0
  have rl : ∀ i, i <= 8 -> (xs ++ repI ys i).length <= 54 := fun i hi => by
    rw [List.length_append, repI_len]
    have := Nat.mul_le_mul hi (show ys.length <= 6 by omega)
    omega
  refine cut_G (t := tFor _ _ _) (fun σ' H'' => ∃ (t : Addr) (v6 : OV), σ' = [some (.ref m), some (.int sg), some (.ref u), some (.int turns), some (.ref t), some (.int here), v6, none, none] /\ Same H' H'' /\ H'' t = some (.tup ((xs ++ repI ys tn).map V.int))) ?_ (fun D' nxt => ?_)
  rotate_left
  · refine ⟨_, rfl, turns, rfl, by omega, by omega, for_range (fun i σ' H'' => ∃ (t : Addr) (v6 : OV), σ' = [some (.ref m), some (.int sg), some (.ref u), some (.int turns), some (.ref t), some (.int here), v6, none, none] /\ Same H' H'' /\ H'' t = some (.tup ((xs ++ repI ys i).map V.int)))
      ⟨a, none, rfl, Same.refl _, by rw [show repI ys 0 = [] from rfl, List.append_nil]; exact ha⟩ ?_ ?_⟩
    · rintro i σ' H1 hi ⟨t, v6, rfl, s1, ht⟩
      have hi' : i < tn := by omega
      have l1 := rl i (by omega)
      refine ⟨_, rfl, _, rfl, u, _, _, _, rfl, rfl, qT_ (s1 _ _ hu), rfl, ?_⟩
      refine catT ht (s1 _ _ hb) (Nat.le_of_lt (small1000 (by rw [lm_, lm_]; omega))) (fun p H2 s2 hp => ?_)
      refine ⟨p, _, rfl, s1.trans s2, ?_⟩
      rw [hp, <- List.map_append, List.append_assoc]
      rfl
    · rintro σ' H1 ⟨t, v6, rfl, s1, ht⟩
      rw [show turns.toNat = tn by omega] at ht
      exact nxt _ _ ⟨t, _, rfl, s1, ht⟩
  rintro σ' H1 ⟨t, v6, rfl, s1, ht⟩
  have l1 := rl tn (by omega)
  obtain ⟨full, ef⟩ : ∃ full, xs ++ repI ys tn ++ (zs ++ [z]) = full := ⟨_, rfl⟩
  have lf : full.length <= 66 := by
    rw [<- ef, List.length_append, List.length_append (as := zs), List.length_singleton]
    omega
  have inb : InB (wide : Int) full := fun f hf => by
    rw [<- ef] at hf
    rcases ma_.mp hf with q | q
    · rcases ma_.mp q with y | y
      · exact fx f y
      · exact fy f (repI_mem y)
    · exact fz f q
  have top : ∀ d, full.getLast? = some d -> d ≠ 0 := fun d hd => by
    rw [<- ef, <- List.append_assoc] at hd
    have : z = d := by simpa using hd
    omega
  have wk : signs.getD (walkI rows full 0).toNat 0 = sg := by
    have e1 : walkI rows (xs ++ repI ys tn) 0 = here := by rw [walkI_append, wx, repI_walk wy]
    rw [<- ef, walkI_append rows (xs ++ repI ys tn), e1]
    exact sz
  have vbig : ∀ ps : LI, InB (wide : Int) ps -> ps.length <= 66 -> 0 <= valB wide ps /\ valB wide ps < BIG := fun ps h l => by
    have h0 := valB_nonneg (b := (wide : Int)) (by omega) h
    have h1 := valB_lt (w := (wide : Int)) (by omega) h
    have h2 := ipow_mono (w := (wide : Int)) (by omega) l
    have h3 := base_mono (a := (wide : Int)) (b := 100) (by omega) (by omega) 66
    have h4 : (100 : Int) ^ 66 < BIG := by decide +kernel
    omega
  refine seq_const ?_
  try dsimp only [gName]
  refine cut_G (t := tFor _ _ _) (fun σ' H'' => ∃ (v6 v8 : OV), σ' = [some (.ref m), some (.int sg), some (.ref u), some (.int turns), some (.ref t), some (.int here), v6, some (.int (valB wide full)), v8] /\ Same H' H'') ?_ (fun D' nxt => ?_)
  rotate_left
  · refine ⟨_, rfl, _, rfl, u, _, _, _, rfl, rfl, qT_ (s1 _ _ hu), rfl, ?_⟩
    refine catT ht (s1 _ _ hc) (Nat.le_of_lt (small1000 (by rw [lm_, lc]; omega))) (fun p H2 s2 hp => ?_)
    rw [<- List.map_append, ef] at hp
    refine ⟨p, _, rfl, qT_ hp, for_revT (K := K) (xs := full.map V.int) (fun i σ' H'' => ∃ (v8 : OV), σ' = [some (.ref m), some (.int sg), some (.ref u), some (.int turns), some (.ref t), some (.int here), v6, some (.int (valB wide (full.drop (full.length - i)))), v8] /\ H'' = H2)
      ⟨none, by rw [Nat.sub_zero, List.drop_length]; rfl, rfl⟩ (fun i σ' H'' _ ⟨_, _, e⟩ => by rw [e]; exact qT_ hp) ?_ ?_⟩
    · rintro i y σ' H'' hil hi ⟨v8, rfl, rfl⟩
      rw [lm_] at hil hi
      obtain ⟨x, rfl, hx⟩ := ints_at hi
      have bb := vbig (full.drop (full.length - i)) (fun f hf => inb f (List.mem_of_mem_drop hf)) (by rw [List.length_drop]; omega)
      refine ⟨_, rfl, _, rfl, m, _, _, _, rfl, rfl, qT_ ((s1.trans s2) _ _ hMt), rfl, _, _, rfl, rfl, ⟨bb, ⟨by omega, Int.lt_of_le_of_lt (show (wide : Int) <= 1000 by omega) (by decide +kernel)⟩⟩, _, rfl, _, _, rfl, rfl, some (.int x), ?_, rfl⟩
      have pl : full.length - 1 - i < full.length := by omega
      have e1 : full.drop (full.length - (i + 1)) = x :: full.drop (full.length - i) := by
        rw [show full.length - (i + 1) = full.length - 1 - i by omega, List.drop_eq_getElem_cons pl, (gi_ hx).2, show full.length - 1 - i + 1 = full.length - i by omega]
      rw [e1]
      show _ = [some (V.ref m), some (V.int sg), some (V.ref u), some (V.int turns), some (V.ref t), some (V.int here), v6, some (V.int (x + (wide : Int) * valB wide (full.drop (full.length - i)))), some (V.int x)]
      rw [Int.add_comm x, Int.mul_comm (wide : Int)]
      rfl
    · rintro σ' H'' ⟨v8, rfl, rfl⟩
      rw [lm_, Nat.sub_self, List.drop_zero]
      exact nxt _ _ ⟨_, _, rfl, s1.trans s2⟩
  rintro σ' H2 ⟨v6, v8, rfl, s2⟩
  refine ⟨_, rfl, _, rfl, m, r, g, many, wide, rows, signs, valB wide full, full, rfl, M.same (fun b xs e => s2 _ _ e), R, lsg, ⟨n0, by omega⟩, ⟨w0, by omega⟩, ⟨inb, rfl, top⟩, ?_⟩
  rw [wk]
  refine ⟨_, rfl, rfl, ?_⟩
  show Q (V.bl (decide _)) _
  rw [decide_eq_true rfl]
  exact k _ s2
end
def spEndsW (K : PySem.W.Frag) : Sp := fun vs H Q _ => ∃ (a m r g : Addr) (many wide : Nat) (rows : LL) (signs ns : LI) (sg n : Int), vs = [.ref a, .ref m, .int sg, .int n] /\ SqL K H a (ns.map V.int) /\ ns.length <= 63 /\ MachAt H m r g wide rows signs /\ RowsOk many wide rows /\ signs.length = many /\ (1 <= many /\ many <= 6) /\ (2 <= wide /\ wide <= 100) /\ LastIs rows signs wide sg n /\ n < (wide : Int) ^ many /\ ∀ H', Same H H' -> Q (.bl true) H'
def spLaw (K : PySem.W.Frag) : Sp := fun vs H Q _ => ∃ (a : Addr) (ns : LI), vs = [.ref a] /\ SqL K H a (ns.map V.int) /\ ns.length <= 63 /\ ∀ H', Q (.bl true) H'
section
variable {P : Program} {w : World} {K : PySem.W.Frag} {mg : Str -> Option Value} {base : Heap} {f : Addr} {fd : FuncData} {dV : Value}
theorem sc__law_ends : FnScope ["_law_script", "_law_machine_here", "_law_sign", "_law_found", "_law_number_here", "_law_few", "_law_row", "_law_k"] ["_law_script", "_law_machine_here", "_law_sign", "_law_found"] (defScope s__law_ends) := ⟨rfl, rfl, rfl, by decide +kernel, rfl, by decide +kernel, by decide +kernel⟩
theorem ok_endsW (F : FunD K "_law_ends" "_law_ends" s__law_ends dV f fd) (G__law_whole : DefOk P w K mg base "_law_whole" 1 ["_law_found"] [] spWholeN) (G__law_sign_at : DefOk P w K mg base "_law_sign_at" 1 ["_law_machine_here", "_law_number_here"] [] spSignW) (z_len : mg "len" = none) (z_range : mg "range" = none) : FnOk P w K mg base CX0 2 f fd ["_law_script", "_law_machine_here", "_law_sign", "_law_found"] (spEndsW K) := by
  refine F.ok sc__law_ends (fun vs H Q E h => ?_) (fun cdv A outer s H vs Q E hr h => ?_)
  · obtain ⟨a, m, r, g, many, wide, rows, signs, ns, sg, n, rfl, _⟩ := h
    rfl
  obtain ⟨a, m, r, g, many, wide, rows, signs, ns, sg, n, rfl, hS, h63, M, R, lsg, ⟨n0, n1⟩, ⟨w0, w1⟩, LI, nb, k⟩ := h
  obtain ⟨ras, hr', hA⟩ := M.rows
  have lr : ras.length = many := by rw [hA.length, R.len]
  have ge := LI.ge
  have above : ∀ x : Int, n < x -> ∃ ds, Figs wide x ds /\ signs.getD (walkI rows ds 0).toNat 0 ≠ sg := fun x hx => by
    obtain ⟨p, rfl⟩ := nat_of (show 0 <= x by omega)
    obtain ⟨ds, h⟩ := figs_ex w0 p
    exact ⟨ds, h, fun e => by have := LI.max _ ds h e; omega⟩
  refine body_w (ws_cons (PSW.mk (ps_if (PW.pt (pw_or (pt_not (pt_val (pe_cd G__law_whole hr (pa_cons (pv 3) pa_nil)))) (pw_or1 (pt_cmpR op_lt (pv 3) (pe_un un_neg pe_int) (nomark _))))) (pss_one (ps_ret pe_bl)) pss_nil))
      (ws_cons (PSW.mk (ps_if (PW.pt (pw_and (pt_cmpR op_ge (pv 3) pe_int (nomark _)) (pw_and1 (pt_cmpR op_ne (pe_cd G__law_sign_at hr (pa_cons (pv 1) (pa_cons (pv 3) pa_nil))) (pv 2) (nomark _))))) (pss_one (ps_ret pe_bl)) pss_nil))
      (ws_cons (PSW.mk (ps_for PassesOwn.never rfl (pi_range1 rfl z_range (pa_cons pe_int pa_nil)) (pg_name (i := 4) sc__law_ends.nd rfl (Or.inl rfl)) (pss_one (ps_if (pt_cmpR op_eq (pe_cd G__law_sign_at hr (pa_cons (pv 1) (pa_cons (pe_op op_add (pe_op op_add (pv 3) pe_int) (pv 4)) pa_nil))) (pv 2) (nomark _)) (pss_one (ps_ret pe_bl)) pss_nil))))
      (ws_cons (PSW.mk (ps_set (i := 5) sc__law_ends.nd rfl (Or.inl rfl) pe_int))
      (ws_cons (PSW.mk (ps_for PassesOwn.never rfl (pi_tup (pe_ix ix_tup (pv 1) pe_int (fun _ _ => rfl))) (pg_name (i := 6) sc__law_ends.nd rfl (Or.inl rfl)) (pss_one (ps_set (i := 5) sc__law_ends.nd rfl (Or.inl rfl) (pe_op op_mulB (pv 5) (pe_ix ix_tup (pv 1) pe_int (fun _ _ => rfl)))))))
      (ws_cons (PSW.mk (ps_for PassesOwn.never rfl (pi_range1 rfl z_range (pa_cons (pe_callB call_len_seq (by rfl) z_len bt_len (pa_cons (pv 0) pa_nil)) pa_nil)) (pg_name (i := 7) sc__law_ends.nd rfl (Or.inl rfl)) (pss_cons (ps_if (pt_cmpR op_eq (pe_cd G__law_sign_at hr (pa_cons (pv 1) (pa_cons (pe_op op_add (pe_op op_add (pv 3) pe_int) (pe_op op_mod (pe_ix ix_list (pv 0) (pv 7) (fun _ _ => rfl)) (pe_ix ix_list (pe_lst (pa_cons pe_int (pa_cons (pe_op op_pow pe_int pe_int) pa_nil))) (pe_op op_mod (pv 7) pe_int) (fun _ _ => rfl)))) pa_nil))) (pv 2) (nomark _)) (pss_one (ps_ret pe_bl)) pss_nil)
      (pss_one (ps_if (PW.pt (pw_and (pt_cmpR op_gt (pe_op op_mod (pe_ix ix_list (pv 0) (pv 7) (fun _ _ => rfl)) (pv 5)) (pv 3) (nomark _)) (pw_and1 (pt_cmpR op_eq (pe_cd G__law_sign_at hr (pa_cons (pv 1) (pa_cons (pe_op op_mod (pe_ix ix_list (pv 0) (pv 7) (fun _ _ => rfl)) (pv 5)) pa_nil))) (pv 2) (nomark _))))) (pss_one (ps_ret pe_bl)) pss_nil)))))
      (ws_one (PSW.mk (ps_ret pe_bl))))))))) ?_
  refine ⟨_, rfl, n, rfl, _, rfl, iteF ⟨_, rfl, _, rfl, _, _, rfl, rfl, _, rfl, iteD (fun c => ?_) (fun _ => ?_)⟩⟩
  · have c' : n < -1 := c
    omega
  dsimp only [tNext]
  refine cut_G (t := tIfS _ _ _) (fun σ' H' => σ' = [some (.ref a), some (.ref m), some (.int sg), some (.int n), none, none, none, none] /\ H' = H) ?_ (fun D' nxt => ?_)
  rotate_left
  · refine ⟨_, rfl, _, _, rfl, rfl, _, rfl, iteD (fun c => ?_) (fun c => ?_)⟩
    · obtain ⟨ds, hds, es⟩ := LI.at_ (by have c' : 0 <= n := c; exact c')
      refine ⟨_, rfl, _, rfl, m, r, g, many, wide, rows, signs, n, ds, rfl, M, R, lsg, ⟨n0, by omega⟩, ⟨w0, by omega⟩, hds, ?_⟩
      rw [es]
      exact ⟨_, rfl, rfl, _, rfl, iteDn (fun q => absurd rfl q) (fun _ => nxt _ _ ⟨rfl, rfl⟩)⟩
    · exact nxt _ _ ⟨rfl, rfl⟩
  rintro σ' H' ⟨rfl, rfl⟩
  refine cut_G (t := tFor _ _ _) (fun σ' H'' => ∃ v4 : OV, σ' = [some (.ref a), some (.ref m), some (.int sg), some (.int n), v4, none, none, none] /\ H'' = H') ?_ (fun D' nxt => ?_)
  rotate_left
  · refine ⟨(40 : Int), rfl, by decide, by decide, for_range (fun i σ' H'' => ∃ v4 : OV, σ' = [some (.ref a), some (.ref m), some (.int sg), some (.int n), v4, none, none, none] /\ H'' = H') ⟨none, rfl, rfl⟩ ?_ ?_⟩
    · rintro i σ' H'' hi ⟨v4, rfl, rfl⟩
      obtain ⟨ds, hds, ne⟩ := above (n + 1 + (0 + (i : Int))) (by omega)
      exact ⟨_, rfl, _, rfl, _, _, rfl, rfl, _, rfl, _, _, rfl, rfl, m, r, g, many, wide, rows, signs, _, ds, rfl, M, R, lsg, ⟨n0, by omega⟩, ⟨w0, by omega⟩, hds, _, rfl, rfl, _, rfl, iteI (fun q => absurd q ne) (fun _ => ⟨_, rfl, rfl⟩)⟩
    · rintro σ' H'' ⟨v4, rfl, rfl⟩
      exact nxt _ _ ⟨_, rfl, rfl⟩
  rintro σ' H'' ⟨v4, rfl, rfl⟩
  refine seq_const ?_
  try dsimp only [gName]
  have wpow : ∀ i : Nat, 0 < (wide : Int) ^ i := fun i => Int.pow_pos (by omega)
  have wbig : ∀ i : Nat, i <= 6 -> (wide : Int) ^ i < BIG := fun i hi => by
    have h1 := ipow_mono (w := (wide : Int)) (by omega) hi
    have h2 := base_mono (a := (wide : Int)) (b := 100) (by omega) (by omega) 6
    have h3 : (100 : Int) ^ 6 < BIG := by decide +kernel
    omega
  refine cut_G (t := tFor _ _ _) (fun σ' H3 => ∃ v4 v6 : OV, σ' = [some (.ref a), some (.ref m), some (.int sg), some (.int n), v4, some (.int ((wide : Int) ^ many)), v6, none] /\ H3 = H'') ?_ (fun D' nxt => ?_)
  rotate_left
  · refine ⟨_, rfl, m, _, _, _, rfl, rfl, qT_ M.tup, rfl, r, rfl, ⟨_, qT_ hr'⟩, for_tup (K := K) (xs := ras.map V.ref) (fun i σ' H3 => ∃ v6 : OV, σ' = [some (.ref a), some (.ref m), some (.int sg), some (.int n), v4, some (.int ((wide : Int) ^ i)), v6, none] /\ H3 = H'') ⟨none, rfl, rfl⟩ (fun i σ' H3 _ ⟨_, _, e⟩ => by rw [e]; exact qT_ hr') ?_ ?_⟩
    · rintro i y σ' H3 hi ⟨v6, rfl, rfl⟩
      have il := (gi_ hi).1
      rw [lm_, lr] at il
      refine ⟨_, rfl, _, rfl, m, _, _, _, rfl, rfl, qT_ M.tup, rfl, _, _, rfl, rfl, ⟨⟨Int.le_of_lt (wpow i), wbig i (by omega)⟩, ⟨by omega, Int.lt_of_le_of_lt (show (wide : Int) <= 1000 by omega) (by decide +kernel)⟩⟩, some y, ?_, rfl⟩
      rw [Int.pow_succ]
      rfl
    · rintro σ' H3 ⟨v6, rfl, rfl⟩
      rw [lm_, lr]
      exact nxt _ _ ⟨_, _, rfl, rfl⟩
  rintro σ' H3 ⟨v4, v6, rfl, rfl⟩
  have lns : (ns.map V.int).length = ns.length := List.length_map _
  refine ⟨_, rfl, a, _, rfl, .inl hS, ?_⟩
  rw [lns]
  refine ⟨(ns.length : Int), rfl, by omega, by omega, for_range (fun i σ' H4 => ∃ v4 v7 : OV, σ' = [some (.ref a), some (.ref m), some (.int sg), some (.int n), v4, some (.int ((wide : Int) ^ many)), v6, v7] /\ Same H3 H4) ⟨_, none, rfl, Same.refl _⟩ ?_ ?_⟩
  · rintro i σ' H4 hi ⟨v4, v7, rfl, s4⟩
    have z0 : (0 : Int) + (i : Int) = (i : Int) := Int.zero_add _
    rw [z0]
    have hS4 := s4.seq hS
    have at1 : atI (ns.map V.int) (i : Int) = some (.int (ns.getD i 0)) := by
      have := atI_ints (ns := ns) (k := (i : Int)) (by omega) (by omega)
      rw [Int.toNat_natCast] at this
      exact this
    have M4 := M.same fun b xs e => s4 _ _ e
    refine ⟨_, rfl, _, rfl, _, _, rfl, rfl, _, rfl, _, rfl, a, _, _, _, rfl, rfl, hS4, at1, ?_⟩
    refine ⟨_, _, rfl, rfl, ⟨by decide, by decide, by decide⟩, (by show 2 <= sizeLine; decide), fun L hL => ?_⟩
    have sL := same_new hL (HO.lst [V.int 64, V.int (10 ^ (18 : Int).toNat)])
    have pick : ∃ c : Int, atI [V.int 64, V.int (10 ^ (18 : Int).toNat)] ((i : Int) % 2) = some (V.int c) /\ 0 < c := by
      have h2 : (i : Int) % 2 = 0 \/ (i : Int) % 2 = 1 := by omega
      rcases h2 with e | e <;> rw [e]
      · exact ⟨64, rfl, by decide⟩
      · exact ⟨_, rfl, by decide⟩
    obtain ⟨c, ec, c0⟩ := pick
    have rc := mod_in (a := ns.getD i 0) (b := c) c0
    obtain ⟨ds, hds, ne⟩ := above (n + 1 + ns.getD i 0 % c) (by omega)
    have M5 := M4.same fun b xs e => sL _ _ e
    refine ⟨_, rfl, _, _, rfl, rfl, (by show (0 : Int) < 2; decide), L, _, _, _, rfl, rfl, qL_ upd_same, ec, _, _, rfl, rfl, c0, _, _, rfl, rfl, m, r, g, many, wide, rows, signs, _, ds, rfl, M5, R, lsg, ⟨n0, by omega⟩, ⟨w0, by omega⟩, hds, _, rfl, rfl, _, rfl, iteI (fun q => absurd q ne) (fun _ => ?_)⟩
    have S5 := s4.trans sL
    have hS5 := S5.seq hS
    dsimp only [tNext]
    refine ⟨_, rfl, _, rfl, a, _, _, _, rfl, rfl, hS5, at1, _, rfl, _, _, rfl, rfl, wpow many, _, rfl, _, _, rfl, rfl, _, rfl, iteD (fun q => ?_) (fun _ => ⟨_, _, rfl, S5⟩)⟩
    obtain ⟨ds2, hds2, ne2⟩ := above (ns.getD i 0 % (wide : Int) ^ many) q
    exact ⟨_, rfl, _, rfl, _, rfl, a, _, _, _, rfl, rfl, hS5, at1, _, rfl, _, _, rfl, rfl, wpow many, m, r, g, many, wide, rows, signs, _, ds2, rfl, M5, R, lsg, ⟨n0, by omega⟩, ⟨w0, by omega⟩, hds2, _, rfl, rfl, _, rfl, iteI (fun q => absurd q ne2) (fun _ => ⟨_, _, rfl, S5⟩)⟩
  · rintro σ' H4 ⟨v4, v7, rfl, s4⟩
    exact k _ s4
end
def numN (ns : LI) (k : Int) : Int := if k < (ns.length : Int) then ns.getD k.toNat 0 % 1000000007 else
  (if (0 : Int) < (ns.length : Int) then (31 * k * k + 17 * k + 3) * (ns.getD (k % (ns.length : Int)).toNat 0 % 65521 + 2) else 31 * k * k + 17 * k + 3) * 40692 % 2147483399
theorem numN_in (ns : LI) (k : Int) : 0 <= numN ns k /\ numN ns k < 2147483399 := by
  unfold numN
  split
  · have r := mod_in (a := ns.getD k.toNat 0) (b := 1000000007) (by decide)
    omega
  · exact mod_in (by decide)
def OnOk (rows : LL) (signs : LI) (many wide : Nat) (sg : Int) (H' : Hp) (u : Addr) : Prop := ∃ (a b c : Addr) (xs ys zs : LI) (here z : Int), H' u = some (.tup [.ref a, .ref b, .ref c]) /\ H' a = some (.tup (xs.map V.int)) /\ H' b = some (.tup (ys.map V.int)) /\ H' c = some (.tup ((zs ++ [z]).map V.int)) /\ xs.length <= many /\ ys.length <= many /\ zs.length < many /\
    (∀ f ∈ xs, 0 <= f /\ f < (wide : Int)) /\ (∀ f ∈ ys, 0 <= f /\ f < (wide : Int)) /\ (∀ f ∈ zs ++ [z], 0 <= f /\ f < (wide : Int)) /\ (0 <= here /\ here < (many : Int)) /\ walkI rows xs 0 = here /\ walkI rows ys here = here /\ ys ≠ [] /\ 0 < z /\ signs.getD (walkI rows (zs ++ [z]) here).toNat 0 = sg
def spNumF (K : PySem.W.Frag) : Sp := fun vs H Q _ => ∃ (a : Addr) (k : Int) (ns : LI), vs = [.ref a, .int k] /\ SqL K H a (ns.map V.int) /\ ns.length <= 63 /\ 0 <= k /\ k < 1000000 /\ Q (.int (numN ns k)) H
section
variable {P : Program} {w : World} {K : PySem.W.Frag} {mg : Str -> Option Value} {base : Heap} {f : Addr} {fd : FuncData} {dV : Value}
theorem ok_numF (F : FunD K "_law_number" "_law_number" s__law_number dV f fd) (z_len : mg "len" = none) : FnOk P w K mg base CX0 1 f fd ["_law_script", "_law_k"] (spNumF K) := by
  refine F.ok sc__law_number (fun vs H Q E h => ?_) (fun cdv A outer s H vs Q E hr h => ?_)
  · obtain ⟨a, k, ns, rfl, _⟩ := h
    rfl
  obtain ⟨a, k, ns, rfl, hS, h63, h0, h1, q⟩ := h
  have hl : (ns.map V.int).length = ns.length := List.length_map _
  unfold numN at q
  refine ⟨_, (pss_cons (ps_if (pt_cmpR op_lt (pv 1) (pe_callB call_len_seq (by rfl) z_len bt_len (pa_cons (pv 0) pa_nil)) (nomark _)) (pss_one (ps_ret (pe_op op_mod (pe_ix ix_list (pv 0) (pv 1) (fun _ _ => rfl)) pe_int))) pss_nil)
      (pss_cons (ps_set (i := 2) sc__law_number.nd rfl (Or.inl rfl) (pe_op op_add (pe_op op_add (pe_op op_mul (pe_op op_mul pe_int (pv 1)) (pv 1)) (pe_op op_mul pe_int (pv 1))) pe_int))
      (pss_cons (ps_if (pt_cmpR op_gt (pe_callB call_len_seq (by rfl) z_len bt_len (pa_cons (pv 0) pa_nil)) pe_int (nomark _)) (pss_one (ps_set (i := 2) sc__law_number.nd rfl (Or.inl rfl) (pe_op op_mul (pv 2) (pe_op op_add (pe_op op_mod (pe_ix ix_list (pv 0) (pe_op op_mod (pv 1) (pe_callB call_len_seq (by rfl) z_len bt_len (pa_cons (pv 0) pa_nil))) (fun _ _ => rfl)) pe_int) pe_int)))) pss_nil)
      (pss_one (ps_ret (pe_op op_mod (pe_op op_mul (pv 2) pe_int) pe_int)))))), ?_⟩
  refine ⟨_, rfl, _, rfl, a, _, rfl, .inl hS, _, _, rfl, rfl, _, rfl, iteD (fun c => ?_) (fun c => ?_)⟩
  · rw [hl] at c
    rw [if_pos c] at q
    exact ⟨_, rfl, _, rfl, a, _, _, _, rfl, rfl, hS, atI_ints h0 c, _, _, rfl, rfl, (by show (0 : Int) < 1000000007; decide), q⟩
  rw [hl] at c
  rw [if_neg c] at q
  refine ⟨_, rfl, _, _, rfl, rfl, .inl ⟨by decide, by decide⟩, _, rfl, _, _, rfl, rfl, .inr ⟨by omega, by omega⟩, _, rfl, _, _, rfl, rfl, .inl ⟨by decide, by decide⟩, _, _, rfl, rfl, _, _, rfl, rfl, ?_⟩
  refine ⟨_, rfl, a, _, rfl, .inl hS, _, _, rfl, rfl, _, rfl, ?_⟩
  refine iteD (fun c => ?_) (fun c => ?_)
  · have c' : (0 : Int) < (((ns.map V.int).length : Nat) : Int) := c
    have c2 : (0 : Int) < (ns.length : Int) := by rw [<- hl]; exact c
    rw [if_pos c2] at q
    have m0 := Int.emod_nonneg k (show (((ns.map V.int).length : Nat) : Int) ≠ 0 by omega)
    have m1 := Int.emod_lt_of_pos k c'
    have m2 := mod_in (a := ns.getD (k % (((ns.map V.int).length : Nat) : Int)).toNat 0) (b := 65521) (by decide)
    refine ⟨_, rfl, _, rfl, _, rfl, _, rfl, a, _, rfl, .inl hS, _, _, rfl, rfl, c', a, _, _, _, rfl, rfl, hS, atI_ints m0 (by rw [<- hl]; exact m1), _, _, rfl, rfl, (by show (0 : Int) < 65521; decide), _, _, rfl, rfl, _, _, rfl, rfl, .inr ⟨by omega, by omega⟩, ?_⟩
    rw [hl]
    exact ⟨_, rfl, _, _, rfl, rfl, .inr ⟨by decide, by decide⟩, _, _, rfl, rfl, (by show (0 : Int) < 2147483399; decide), q⟩
  · have c2 : ¬ (0 : Int) < (ns.length : Int) := by rw [<- hl]; exact c
    rw [if_neg c2] at q
    exact ⟨_, rfl, _, _, rfl, rfl, .inr ⟨by decide, by decide⟩, _, _, rfl, rfl, (by show (0 : Int) < 2147483399; decide), q⟩
theorem sc_law : FnScope ["_law_script", "_law_wide", "_law_many", "_law_machine_here", "_law_signs", "_law_sign", "_law_last", "_law_on"] ["_law_script"] (defScope s_law) := ⟨rfl, rfl, rfl, by decide +kernel, rfl, by decide +kernel, by decide +kernel⟩
theorem ok_law (F : FunD K "law" "law" s_law dV f fd) (G__law_number : DefOk P w K mg base "_law_number" 1 ["_law_script", "_law_k"] [] (spNumF K)) (G__law_machine : DefOk P w K mg base "_law_machine" 2 ["_law_script", "_law_start", "_law_wide", "_law_many", "_law_way"] [] (spMachW K)) (G_last_number : DefOk P w K mg base "last_number" 5 ["machine", "sign"] [] (spLast K)) (G_last_number_d : DefOk P w K mg base "last_number" 5 ["machine", "sign"] [.int 1] (spLast K))
    (G_endless : DefOk P w K mg base "endless" 4 ["machine", "sign"] [] (spEndlessC K)) (G_endless_d : DefOk P w K mg base "endless" 4 ["machine", "sign"] [.int 1] (spEndlessC K)) (G__law_goes_on : DefOk P w K mg base "_law_goes_on" 3 ["_law_machine_here", "_law_sign", "_law_found", "_law_turns"] [] spGoesW) (G__law_ends : DefOk P w K mg base "_law_ends" 2 ["_law_script", "_law_machine_here", "_law_sign", "_law_found"] [] (spEndsW K))
    (z_len : mg "len" = none) (z_int : mg "int" = none) : FnOk P w K mg base CX0 6 f fd ["_law_script"] (spLaw K) := by
  refine F.ok sc_law (fun vs H Q E h => ?_) (fun cdv A outer s H vs Q E hr h => ?_)
  · obtain ⟨a, ns, rfl, _⟩ := h
    rfl
  obtain ⟨a, ns, rfl, hS, h63, q⟩ := h
  refine body_w (ws_cons (w_set (i := 1) sc_law.nd rfl (Or.inl rfl) (w_ix ix_list (w_lst (wa_cons (PEW.mk pe_int) (wa_cons (PEW.mk pe_int) (wa_cons (PEW.mk pe_int) (wa_cons (PEW.mk pe_int) (wa_cons (PEW.mk pe_int) (wa_cons (PEW.mk pe_int) (wa_cons (PEW.mk pe_int) (wa_cons (PEW.mk (pe_op op_add pe_int (pe_op op_mod (pe_op op_fdiv (pe_cd G__law_number hr (pa_cons (pv 0) (pa_cons pe_int pa_nil))) pe_int) pe_int))) wa_nil))))))))) (PEW.mk (pe_op op_mod (pe_cd G__law_number hr (pa_cons (pv 0) (pa_cons pe_int pa_nil))) pe_int)) (fun _ _ => rfl)))
      (ws_cons (PSW.mk (ps_set (i := 2) sc_law.nd rfl (Or.inl rfl) (pe_op op_add pe_int (pe_op op_mod (pe_cd G__law_number hr (pa_cons (pv 0) (pa_cons pe_int pa_nil))) (pe_ix ix_list (pe_lst (pa_cons pe_int (pa_cons pe_int pa_nil))) (pe_callTy call_int1 (by rfl) z_int bt_int (pa_cons (pe_cmpR op_gt (pv 1) pe_int (nomark _)) pa_nil)) (fun _ _ => rfl))))))
      (ws_cons (PSW.mk (ps_set (i := 3) sc_law.nd rfl (Or.inl rfl) (pe_cd G__law_machine hr (pa_cons (pv 0) (pa_cons pe_int (pa_cons (pv 1) (pa_cons (pv 2) (pa_cons (pe_op op_mod (pe_cd G__law_number hr (pa_cons (pv 0) (pa_cons pe_int pa_nil))) pe_int) pa_nil))))))))
      (ws_cons (w_set (i := 4) sc_law.nd rfl (Or.inl rfl) (w_lst (wa_cons (PEW.mk pe_int) (wa_cons (PEW.mk (pe_ix ix_tup (pe_ix ix_tup (pv 3) pe_int (fun _ _ => rfl)) (pe_op op_mod (pe_op op_fdiv (pe_cd G__law_number hr (pa_cons (pv 0) (pa_cons pe_int pa_nil))) pe_int) (pe_callB call_len_seq (by rfl) z_len bt_len (pa_cons (pe_ix ix_tup (pv 3) pe_int (fun _ _ => rfl)) pa_nil))) (fun _ _ => rfl))) (wa_cons (PEW.mk pe_int) (wa_cons (PEW.mk pe_int) wa_nil))))))
      (ws_cons (PSW.mk (ps_set (i := 5) sc_law.nd rfl (Or.inl rfl) (pe_ix ix_list (pv 4) (pe_op op_mod (pe_cd G__law_number hr (pa_cons (pv 0) (pa_cons pe_int pa_nil))) pe_int) (fun _ _ => rfl))))
      (ws_cons (PSW.mk (ps_if (pt_cmpR op_eq (pe_op op_mod (pe_cd G__law_number hr (pa_cons (pv 0) (pa_cons pe_int pa_nil))) pe_int) pe_int (nomark _)) (pss_cons (ps_set (i := 6) sc_law.nd rfl (Or.inl rfl) (pe_cd G_last_number_d hr (pa_cons (pv 3) pa_nil)))
      (pss_one (ps_set (i := 7) sc_law.nd rfl (Or.inl rfl) (pe_cd G_endless_d hr (pa_cons (pv 3) pa_nil))))) (pss_cons (ps_set (i := 7) sc_law.nd rfl (Or.inl rfl) (pe_cd G_endless hr (pa_cons (pv 3) (pa_cons (pv 5) pa_nil))))
      (pss_one (ps_set (i := 6) sc_law.nd rfl (Or.inl rfl) (pe_cd G_last_number hr (pa_cons (pv 3) (pa_cons (pv 5) pa_nil))))))))
      (ws_cons (PSW.mk (ps_if (pt_cmpR op_isN (pv 6) pe_non (nomark _)) (pss_one (ps_ret (pe_cd G__law_goes_on hr (pa_cons (pv 3) (pa_cons (pv 5) (pa_cons (pv 7) (pa_cons (pe_op op_mod (pe_cd G__law_number hr (pa_cons (pv 0) (pa_cons pe_int pa_nil))) pe_int) pa_nil))))))) pss_nil))
      (ws_one (PSW.mk (ps_ret (pe_and (pe_cmpR op_isN (pv 7) pe_non (nomark _)) (pe_one (pe_cd G__law_ends hr (pa_cons (pv 0) (pa_cons (pv 3) (pa_cons (pv 5) (pa_cons (pv 6) pa_nil))))))))))))))))) ?_
  have N := numN_in ns
  have r90 := mod_in (a := numN ns 0 / 8) (b := 90) (by decide)
  refine ⟨_, rfl, a, _, ns, rfl, hS, h63, by decide, by decide, ?_⟩
  refine ⟨_, _, rfl, rfl, ⟨by decide, by decide⟩, _, _, rfl, rfl, (by show (0 : Int) < 90; decide), _, _, rfl, rfl, (by show 8 <= sizeLine; decide), fun L8 hL8 => ?_⟩
  have s2 := same_new hL8 (HO.lst [V.int 2, V.int 3, V.int 2, V.int 4, V.int 10, V.int 5, V.int 7, V.int (11 + numN ns 0 / 8 % 90)])
  refine ⟨_, rfl, a, _, ns, rfl, s2.seq hS, h63, by decide, by decide, ?_⟩
  have pick : ∃ wide : Nat, atI [V.int 2, V.int 3, V.int 2, V.int 4, V.int 10, V.int 5, V.int 7, V.int (11 + numN ns 0 / 8 % 90)] (numN ns 0 % 8) = some (V.int wide) /\ 2 <= wide /\ wide <= 100 := by
    have r8 := mod_in (a := numN ns 0) (b := 8) (by decide)
    obtain ⟨n, en⟩ := nat_of (x := 11 + numN ns 0 / 8 % 90) (by omega)
    have h8 : numN ns 0 % 8 = 0 \/ numN ns 0 % 8 = 1 \/ numN ns 0 % 8 = 2 \/ numN ns 0 % 8 = 3 \/ numN ns 0 % 8 = 4 \/ numN ns 0 % 8 = 5 \/ numN ns 0 % 8 = 6 \/ numN ns 0 % 8 = 7 := by omega
    rcases h8 with e | e | e | e | e | e | e | e <;> rw [e]
    · exact ⟨2, rfl, by decide, by decide⟩
    · exact ⟨3, rfl, by decide, by decide⟩
    · exact ⟨2, rfl, by decide, by decide⟩
    · exact ⟨4, rfl, by decide, by decide⟩
    · exact ⟨10, rfl, by decide, by decide⟩
    · exact ⟨5, rfl, by decide, by decide⟩
    · exact ⟨7, rfl, by decide, by decide⟩
    · exact ⟨n, by rw [<- en]; rfl, by omega, by omega⟩
  obtain ⟨wide, ew, w2, w3⟩ := pick
  refine ⟨_, _, rfl, rfl, (by show (0 : Int) < 8; decide), L8, _, _, _, rfl, rfl, qL_ upd_same, ew, ?_⟩
  refine ⟨_, rfl, a, _, ns, rfl, s2.seq hS, h63, by decide, by decide, ?_⟩
  refine ⟨(by show 2 <= sizeLine; decide), fun L2 hL2 => ?_⟩
  have s3 := same_new hL2 (HO.lst [V.int 6, V.int 3])
  have pick2 : ∃ c : Int, atI [V.int 6, V.int 3] (if decide ((10 : Int) < (wide : Int)) = true then 1 else 0) = some (V.int c) /\ 1 <= c /\ c <= 6 := by
    by_cases z : (10 : Int) < (wide : Int)
    · rw [if_pos (decide_eq_true z)]
      exact ⟨3, rfl, by decide, by decide⟩
    · rw [if_neg (fun q => z (of_decide_eq_true q))]
      exact ⟨6, rfl, by decide, by decide⟩
  obtain ⟨c, ec, c1, c6⟩ := pick2
  have rc := mod_in (a := numN ns 2) (b := c) (by omega)
  obtain ⟨many, em⟩ := nat_of (x := 1 + numN ns 2 % c) (by omega)
  refine ⟨_, rfl, _, _, rfl, rfl, .inr ⟨_, rfl, L2, _, _, _, rfl, rfl, qL_ upd_same, ec, _, _, rfl, rfl, (by omega), _, _, rfl, rfl, ?_⟩⟩
  dsimp only [gName]
  rw [em]
  have S3 := s2.trans s3
  have hS3 := S3.seq hS
  refine ⟨_, rfl, _, rfl, _, rfl, _, rfl, a, _, ns, rfl, hS3, h63, by decide, by decide, ?_⟩
  refine ⟨_, _, rfl, rfl, (by show (0 : Int) < 3; decide), a, 5, _, many, wide, ns, rfl, hS3, h63, ⟨by decide, by decide⟩, ⟨by omega, by omega⟩, ⟨w2, w3⟩, fun m r g H4 rows signs s4 M R lsg => ?_⟩
  have S4 := S3.trans s4
  have hS4 := S4.seq hS
  have lg' : (signs.map V.int).length = many := by rw [lm_, lsg]
  refine ⟨_, rfl, m, _, _, _, rfl, rfl, qT_ M.tup, rfl, _, rfl, a, _, ns, rfl, hS4, h63, by decide, by decide, ?_⟩
  have r5 := mod_in (a := numN ns 3 / 4) (b := (many : Int)) (by omega)
  refine ⟨_, _, rfl, rfl, ⟨by decide, by decide⟩, _, rfl, m, _, _, _, rfl, rfl, qT_ M.tup, rfl, g, _, rfl, .inr (qT_ M.sgn), ?_⟩
  rw [lg']
  refine ⟨_, _, rfl, rfl, (by omega), g, _, _, _, rfl, rfl, qT_ M.sgn, atI_ints r5.1 (by omega), (by show 4 <= sizeLine; decide), fun L4 hL4 => ?_⟩
  have s5 := same_new hL4 (HO.lst [V.int 1, V.int (signs.getD (numN ns 3 / 4 % (many : Int)).toNat 0), V.int 1, V.int 77])
  have M5 := M.same fun b xs e => s5 _ _ e
  have hS5 := (S4.trans s5).seq hS
  refine ⟨_, rfl, _, rfl, a, _, ns, rfl, hS5, h63, by decide, by decide, ?_⟩
  have pick4 : ∃ sg : Int, atI [V.int 1, V.int (signs.getD (numN ns 3 / 4 % (many : Int)).toNat 0), V.int 1, V.int 77] (numN ns 3 % 4) = some (V.int sg) /\ (numN ns 3 % 4 = 2 -> sg = 1) := by
    have r8 := mod_in (a := numN ns 3) (b := 4) (by decide)
    have h8 : numN ns 3 % 4 = 0 \/ numN ns 3 % 4 = 1 \/ numN ns 3 % 4 = 2 \/ numN ns 3 % 4 = 3 := by omega
    rcases h8 with e | e | e | e <;> rw [e]
    · exact ⟨1, rfl, fun _ => rfl⟩
    · exact ⟨_, rfl, fun z => absurd z (by decide)⟩
    · exact ⟨1, rfl, fun _ => rfl⟩
    · exact ⟨77, rfl, fun z => absurd z (by decide)⟩
  obtain ⟨sg, es, sg2⟩ := pick4
  refine ⟨_, _, rfl, rfl, (by show (0 : Int) < 4; decide), L4, _, _, _, rfl, rfl, qL_ upd_same, es, ?_⟩
  obtain ⟨H5, eH5⟩ : ∃ H5, upd H4 L4 (HO.lst [V.int 1, V.int (signs.getD (numN ns 3 / 4 % (many : Int)).toNat 0), V.int 1, V.int 77]) = H5 := ⟨_, rfl⟩
  rw [eH5] at M5 hS5
  dsimp only [gName]
  rw [eH5]
  have b1 : 1 <= many /\ many <= 60 := ⟨by omega, by omega⟩
  have mm : 1 <= many /\ many <= 6 := ⟨by omega, by omega⟩
  refine cut_G (t := tIfS _ _ _) (fun σ' H' => (∃ u, OnOk rows signs many wide sg H' u /\ σ' = [some (.ref a), some (.int wide), some (.int many), some (.ref m), some (.ref L4), some (.int sg), some .non, some (.ref u)] /\ Same H5 H') \/ (∃ n, LastIs rows signs wide sg n /\ n < (wide : Int) ^ many /\ σ' = [some (.ref a), some (.int wide), some (.int many), some (.ref m), some (.ref L4), some (.int sg), some (.int n), some .non] /\ Same H5 H')) ?_ (fun D' nxt => ?_)
  rotate_left
  · refine ⟨_, rfl, a, _, ns, rfl, hS5, h63, by decide, by decide, _, _, rfl, rfl, (by show (0 : Int) < 4; decide), rfl, _, rfl, iteI (fun c => ?_) (fun c => ?_)⟩
    · have e1 := sg2 c
      subst e1
      refine ⟨_, rfl, m, r, g, 1, many, wide, rows, signs, rfl, M5, R, lsg, b1, ⟨w2, by omega⟩, fun en H6 s6 => ?_, fun ne H6 n s6 li nb => ?_⟩
      · refine ⟨_, rfl, m, r, g, 1, many, wide, rows, signs, rfl, M5.same (fun b xs e => s6 _ _ e), R, lsg, b1, ⟨by omega, by omega⟩, fun ne => absurd en ne, fun _ u a' b c' H7 xs ys zs here z s7 h1 h2 h3 h4 h5 h6 h7 h8 h9 h10 h11 h12 h13 h14 h15 h16 => ?_⟩
        exact nxt _ _ (.inl ⟨u, ⟨a', b, c', xs, ys, zs, here, z, h1, h2, h3, h4, h5, h6, h7, h8, h9, h10, h11, h12, h13, h14, h15, h16⟩, rfl, s6.trans s7⟩)
      · refine ⟨_, rfl, m, r, g, 1, many, wide, rows, signs, rfl, M5.same (fun b xs e => s6 _ _ e), R, lsg, b1, ⟨by omega, by omega⟩, fun _ H7 s7 => ?_, fun en => absurd en ne⟩
        exact nxt _ _ (.inr ⟨n, li, nb, rfl, s6.trans s7⟩)
    · refine ⟨_, rfl, _, rfl, m, r, g, sg, many, wide, rows, signs, rfl, M5, R, lsg, b1, ⟨by omega, by omega⟩, fun ne H6 s6 => ?_, fun en u a' b c' H6 xs ys zs here z s6 h1 h2 h3 h4 h5 h6 h7 h8 h9 h10 h11 h12 h13 h14 h15 h16 => ?_⟩
      · refine ⟨_, rfl, _, rfl, m, r, g, sg, many, wide, rows, signs, rfl, M5.same (fun b xs e => s6 _ _ e), R, lsg, b1, ⟨w2, by omega⟩, fun en => absurd en ne, fun _ H7 n s7 li nb => ?_⟩
        exact nxt _ _ (.inr ⟨n, li, nb, rfl, s6.trans s7⟩)
      · refine ⟨_, rfl, _, rfl, m, r, g, sg, many, wide, rows, signs, rfl, M5.same (fun b xs e => s6 _ _ e), R, lsg, b1, ⟨w2, by omega⟩, fun _ H7 s7 => ?_, fun ne => absurd en ne⟩
        exact nxt _ _ (.inl ⟨u, ⟨a', b, c', xs, ys, zs, here, z, s7 _ _ h1, s7 _ _ h2, s7 _ _ h3, s7 _ _ h4, h5, h6, h7, h8, h9, h10, h11, h12, h13, h14, h15, h16⟩, rfl, s6.trans s7⟩)
  rintro σ' H6 (⟨u, on, rfl, s6⟩ | ⟨n, li, nb, rfl, s6⟩)
  · obtain ⟨a', b, c', xs, ys, zs, here, z, h1, h2, h3, h4, h5, h6, h7, h8, h9, h10, h11, h12, h13, h14, h15, h16⟩ := on
    have hS6 := s6.seq hS5
    have r9 := mod_in (a := numN ns 4) (b := 9) (by decide)
    refine ⟨_, rfl, rfl, _, rfl, iteT ?_⟩
    exact ⟨_, rfl, _, rfl, _, rfl, _, rfl, a, _, ns, rfl, hS6, h63, by decide, by decide, _, _, rfl, rfl, (by show (0 : Int) < 9; decide), m, r, g, u, a', b, c', many, wide, rows, signs, xs, ys, zs, sg, _, here, z, rfl, M5.same (fun b xs e => s6 _ _ e), R, lsg, mm, ⟨w2, w3⟩, ⟨r9.1, r9.2⟩, h1, h2, h3, h4, h5, h6, h7, h8, h9, h10, h11, h12, h13, h14, h15, h16, fun H7 _ => q _⟩
  · refine ⟨_, rfl, rfl, _, rfl, iteF ?_⟩
    dsimp only [tNext]
    exact ⟨_, rfl, rfl, _, rfl, iteT ⟨_, rfl, _, rfl, _, rfl, _, rfl, a, m, r, g, many, wide, rows, signs, ns, sg, n, rfl, s6.seq hS5, h63, M5.same (fun b xs e => s6 _ _ e), R, lsg, mm, ⟨w2, w3⟩, li, nb, fun H7 _ => q _⟩⟩
end
@[elab_as_elim] theorem len1 {motive : List Value -> Prop} {us : List Value} (hl : us.length = 1) (h : ∀ a0, motive [a0]) : motive us := match us, hl with | [a0], _ => h _
@[elab_as_elim] theorem len2 {motive : List Value -> Prop} {us : List Value} (hl : us.length = 2) (h : ∀ a0 a1, motive [a0, a1]) : motive us := match us, hl with | [a0, a1], _ => h _ _
@[elab_as_elim] theorem len3 {motive : List Value -> Prop} {us : List Value} (hl : us.length = 3) (h : ∀ a0 a1 a2, motive [a0, a1, a2]) : motive us := match us, hl with | [a0, a1, a2], _ => h _ _ _
@[elab_as_elim] theorem len4 {motive : List Value -> Prop} {us : List Value} (hl : us.length = 4) (h : ∀ a0 a1 a2 a3, motive [a0, a1, a2, a3]) : motive us := match us, hl with | [a0, a1, a2, a3], _ => h _ _ _ _
@[elab_as_elim] theorem len5 {motive : List Value -> Prop} {us : List Value} (hl : us.length = 5) (h : ∀ a0 a1 a2 a3 a4, motive [a0, a1, a2, a3, a4]) : motive us := match us, hl with | [a0, a1, a2, a3, a4], _ => h _ _ _ _ _
@[elab_as_elim] theorem len6 {motive : List Value -> Prop} {us : List Value} (hl : us.length = 6) (h : ∀ a0 a1 a2 a3 a4 a5, motive [a0, a1, a2, a3, a4, a5]) : motive us := match us, hl with | [a0, a1, a2, a3, a4, a5], _ => h _ _ _ _ _ _
@[elab_as_elim] theorem len7 {motive : List Value -> Prop} {us : List Value} (hl : us.length = 7) (h : ∀ a0 a1 a2 a3 a4 a5 a6, motive [a0, a1, a2, a3, a4, a5, a6]) : motive us := match us, hl with | [a0, a1, a2, a3, a4, a5, a6], _ => h _ _ _ _ _ _ _
theorem all_mk {l : PySem.W.OpenLaw} {w : World} {K : PySem.W.Frag} {h : Heap} {mg : Str -> Option Value} {fa : Addr} (X : K.In h) (G : h.Ns mainGlobals mg) (hfa : mg "law" = some (.ref fa))
    {f_is_whole f_is_whole_from f_is_whole_within f_need_whole f_need_row f_merged f_number_of f_reached_rooms f_rooms_leading_to f_next_rooms f_first_leading f_taken_down f_first_rows f_live_rooms f_heights_of f_highest_row f_last_number f_way_round f_way_out f_endless f__law_number f__law_whole f__law_rest f__law_there f__law_machine f__law_sign_at f__law_is_row f__law_led f__law_goes_on f__law_ends f_law : Addr} {od_is_whole an_is_whole od_is_whole_from an_is_whole_from od_is_whole_within an_is_whole_within od_need_whole an_need_whole od_need_row an_need_row od_merged an_merged od_number_of an_number_of od_reached_rooms an_reached_rooms od_rooms_leading_to an_rooms_leading_to od_next_rooms an_next_rooms od_first_leading an_first_leading od_taken_down an_taken_down od_first_rows an_first_rows od_live_rooms an_live_rooms od_heights_of an_heights_of od_highest_row an_highest_row od_last_number an_last_number od_way_round an_way_round od_way_out an_way_out od_endless an_endless od__law_number an__law_number od__law_whole an__law_whole od__law_rest an__law_rest od__law_there an__law_there od__law_machine an__law_machine od__law_sign_at an__law_sign_at od__law_is_row an__law_is_row od__law_led an__law_led od__law_goes_on an__law_goes_on od__law_ends an__law_ends od_law an_law : Option Addr} {sl_is_whole sl_is_whole_from sl_is_whole_within sl_need_whole sl_need_row sl_merged sl_number_of sl_reached_rooms sl_rooms_leading_to sl_next_rooms sl_first_leading sl_taken_down sl_first_rows sl_live_rooms sl_heights_of sl_highest_row sl_last_number sl_way_round sl_way_out sl_endless sl__law_number sl__law_whole sl__law_rest sl__law_there sl__law_machine sl__law_sign_at sl__law_is_row sl__law_led sl__law_goes_on sl__law_ends sl_law : Array (Option Value)} {oc_is_whole kV_is_whole dc_is_whole pm_is_whole cd_is_whole ct_is_whole oc_is_whole_from kV_is_whole_from dc_is_whole_from pm_is_whole_from cd_is_whole_from ct_is_whole_from oc_is_whole_within kV_is_whole_within dc_is_whole_within pm_is_whole_within cd_is_whole_within ct_is_whole_within oc_need_whole kV_need_whole dc_need_whole pm_need_whole cd_need_whole ct_need_whole oc_need_row kV_need_row dc_need_row pm_need_row cd_need_row ct_need_row oc_merged kV_merged dc_merged pm_merged cd_merged ct_merged oc_number_of kV_number_of dc_number_of pm_number_of cd_number_of ct_number_of oc_reached_rooms kV_reached_rooms dc_reached_rooms pm_reached_rooms cd_reached_rooms ct_reached_rooms oc_rooms_leading_to kV_rooms_leading_to dc_rooms_leading_to pm_rooms_leading_to cd_rooms_leading_to ct_rooms_leading_to oc_next_rooms kV_next_rooms dc_next_rooms pm_next_rooms cd_next_rooms ct_next_rooms oc_first_leading kV_first_leading dc_first_leading pm_first_leading cd_first_leading ct_first_leading oc_taken_down kV_taken_down dc_taken_down pm_taken_down cd_taken_down ct_taken_down oc_first_rows kV_first_rows dc_first_rows pm_first_rows cd_first_rows ct_first_rows oc_live_rooms kV_live_rooms dc_live_rooms pm_live_rooms cd_live_rooms ct_live_rooms oc_heights_of kV_heights_of dc_heights_of pm_heights_of cd_heights_of ct_heights_of oc_highest_row kV_highest_row dc_highest_row pm_highest_row cd_highest_row ct_highest_row oc_last_number kV_last_number dc_last_number pm_last_number cd_last_number ct_last_number oc_way_round kV_way_round dc_way_round pm_way_round cd_way_round ct_way_round oc_way_out kV_way_out dc_way_out pm_way_out cd_way_out ct_way_out oc_endless kV_endless dc_endless pm_endless cd_endless ct_endless oc__law_number kV__law_number dc__law_number pm__law_number cd__law_number ct__law_number oc__law_whole kV__law_whole dc__law_whole pm__law_whole cd__law_whole ct__law_whole oc__law_rest kV__law_rest dc__law_rest pm__law_rest cd__law_rest ct__law_rest oc__law_there kV__law_there dc__law_there pm__law_there cd__law_there ct__law_there oc__law_machine kV__law_machine dc__law_machine pm__law_machine cd__law_machine ct__law_machine oc__law_sign_at kV__law_sign_at dc__law_sign_at pm__law_sign_at cd__law_sign_at ct__law_sign_at oc__law_is_row kV__law_is_row dc__law_is_row pm__law_is_row cd__law_is_row ct__law_is_row oc__law_led kV__law_led dc__law_led pm__law_led cd__law_led ct__law_led oc__law_goes_on kV__law_goes_on dc__law_goes_on pm__law_goes_on cd__law_goes_on ct__law_goes_on oc__law_ends kV__law_ends dc__law_ends pm__law_ends cd__law_ends ct__law_ends oc_law kV_law dc_law pm_law cd_law ct_law : Value}
    (a_is_whole : PySem.W.nsIn K mainGlobals "is_whole" = some (some (.ref f_is_whole))) (l_is_whole : K.lookup f_is_whole = some ⟨oc_is_whole, od_is_whole, .func (PySem.W.fnOf "is_whole" "is_whole" (defArgs s_is_whole) (defBody s_is_whole) (defScope s_is_whole) .none kV_is_whole dc_is_whole pm_is_whole an_is_whole cd_is_whole ct_is_whole), sl_is_whole⟩) (c_is_whole : PySem.W.codeIn K cd_is_whole "is_whole" = true) (k_is_whole : PySem.W.keepIn K (.ref f_is_whole) = true)
    (a_is_whole_from : PySem.W.nsIn K mainGlobals "is_whole_from" = some (some (.ref f_is_whole_from))) (l_is_whole_from : K.lookup f_is_whole_from = some ⟨oc_is_whole_from, od_is_whole_from, .func (PySem.W.fnOf "is_whole_from" "is_whole_from" (defArgs s_is_whole_from) (defBody s_is_whole_from) (defScope s_is_whole_from) .none kV_is_whole_from dc_is_whole_from pm_is_whole_from an_is_whole_from cd_is_whole_from ct_is_whole_from), sl_is_whole_from⟩) (c_is_whole_from : PySem.W.codeIn K cd_is_whole_from "is_whole_from" = true) (k_is_whole_from : PySem.W.keepIn K (.ref f_is_whole_from) = true)
    (a_is_whole_within : PySem.W.nsIn K mainGlobals "is_whole_within" = some (some (.ref f_is_whole_within))) (l_is_whole_within : K.lookup f_is_whole_within = some ⟨oc_is_whole_within, od_is_whole_within, .func (PySem.W.fnOf "is_whole_within" "is_whole_within" (defArgs s_is_whole_within) (defBody s_is_whole_within) (defScope s_is_whole_within) .none kV_is_whole_within dc_is_whole_within pm_is_whole_within an_is_whole_within cd_is_whole_within ct_is_whole_within), sl_is_whole_within⟩) (c_is_whole_within : PySem.W.codeIn K cd_is_whole_within "is_whole_within" = true) (k_is_whole_within : PySem.W.keepIn K (.ref f_is_whole_within) = true)
    (a_need_whole : PySem.W.nsIn K mainGlobals "need_whole" = some (some (.ref f_need_whole))) (l_need_whole : K.lookup f_need_whole = some ⟨oc_need_whole, od_need_whole, .func (PySem.W.fnOf "need_whole" "need_whole" (defArgs s_need_whole) (defBody s_need_whole) (defScope s_need_whole) .none kV_need_whole dc_need_whole pm_need_whole an_need_whole cd_need_whole ct_need_whole), sl_need_whole⟩) (c_need_whole : PySem.W.codeIn K cd_need_whole "need_whole" = true) (k_need_whole : PySem.W.keepIn K (.ref f_need_whole) = true)
    (a_need_row : PySem.W.nsIn K mainGlobals "need_row" = some (some (.ref f_need_row))) (l_need_row : K.lookup f_need_row = some ⟨oc_need_row, od_need_row, .func (PySem.W.fnOf "need_row" "need_row" (defArgs s_need_row) (defBody s_need_row) (defScope s_need_row) .none kV_need_row dc_need_row pm_need_row an_need_row cd_need_row ct_need_row), sl_need_row⟩) (c_need_row : PySem.W.codeIn K cd_need_row "need_row" = true) (k_need_row : PySem.W.keepIn K (.ref f_need_row) = true)
    (a_merged : PySem.W.nsIn K mainGlobals "merged" = some (some (.ref f_merged))) (l_merged : K.lookup f_merged = some ⟨oc_merged, od_merged, .func (PySem.W.fnOf "merged" "merged" (defArgs s_merged) (defBody s_merged) (defScope s_merged) .none kV_merged dc_merged pm_merged an_merged cd_merged ct_merged), sl_merged⟩) (c_merged : PySem.W.codeIn K cd_merged "merged" = true) (k_merged : PySem.W.keepIn K (.ref f_merged) = true)
    {T_number_of tn_number_of : Nat} {tc_number_of : Value} {td_number_of : Option Addr} {tsl_number_of : Array (Option Value)} {tk0_number_of : Tok}
    (a_number_of : PySem.W.nsIn K mainGlobals "number_of" = some (some (.ref f_number_of))) (l_number_of : K.lookup f_number_of = some ⟨oc_number_of, od_number_of, .func (PySem.W.fnOf "number_of" "number_of" (defArgs s_number_of) (defBody s_number_of) (defScope s_number_of) (.ref T_number_of) kV_number_of dc_number_of pm_number_of an_number_of cd_number_of ct_number_of), sl_number_of⟩) (c_number_of : PySem.W.codeIn K cd_number_of "number_of" = true) (k_number_of : PySem.W.keepIn K (.ref f_number_of) = true)
    (t_number_of : K.lookup T_number_of = some ⟨tc_number_of, td_number_of, .seq #[Value.int 10 tk0_number_of] tn_number_of, tsl_number_of⟩)
    {T_reached_rooms tn_reached_rooms : Nat} {tc_reached_rooms : Value} {td_reached_rooms : Option Addr} {tsl_reached_rooms : Array (Option Value)} {tk0_reached_rooms : Tok}
    (a_reached_rooms : PySem.W.nsIn K mainGlobals "reached_rooms" = some (some (.ref f_reached_rooms))) (l_reached_rooms : K.lookup f_reached_rooms = some ⟨oc_reached_rooms, od_reached_rooms, .func (PySem.W.fnOf "reached_rooms" "reached_rooms" (defArgs s_reached_rooms) (defBody s_reached_rooms) (defScope s_reached_rooms) (.ref T_reached_rooms) kV_reached_rooms dc_reached_rooms pm_reached_rooms an_reached_rooms cd_reached_rooms ct_reached_rooms), sl_reached_rooms⟩) (c_reached_rooms : PySem.W.codeIn K cd_reached_rooms "reached_rooms" = true) (k_reached_rooms : PySem.W.keepIn K (.ref f_reached_rooms) = true)
    (t_reached_rooms : K.lookup T_reached_rooms = some ⟨tc_reached_rooms, td_reached_rooms, .seq #[Value.int 0 tk0_reached_rooms] tn_reached_rooms, tsl_reached_rooms⟩)
    (a_rooms_leading_to : PySem.W.nsIn K mainGlobals "rooms_leading_to" = some (some (.ref f_rooms_leading_to))) (l_rooms_leading_to : K.lookup f_rooms_leading_to = some ⟨oc_rooms_leading_to, od_rooms_leading_to, .func (PySem.W.fnOf "rooms_leading_to" "rooms_leading_to" (defArgs s_rooms_leading_to) (defBody s_rooms_leading_to) (defScope s_rooms_leading_to) .none kV_rooms_leading_to dc_rooms_leading_to pm_rooms_leading_to an_rooms_leading_to cd_rooms_leading_to ct_rooms_leading_to), sl_rooms_leading_to⟩) (c_rooms_leading_to : PySem.W.codeIn K cd_rooms_leading_to "rooms_leading_to" = true) (k_rooms_leading_to : PySem.W.keepIn K (.ref f_rooms_leading_to) = true)
    (a_next_rooms : PySem.W.nsIn K mainGlobals "next_rooms" = some (some (.ref f_next_rooms))) (l_next_rooms : K.lookup f_next_rooms = some ⟨oc_next_rooms, od_next_rooms, .func (PySem.W.fnOf "next_rooms" "next_rooms" (defArgs s_next_rooms) (defBody s_next_rooms) (defScope s_next_rooms) .none kV_next_rooms dc_next_rooms pm_next_rooms an_next_rooms cd_next_rooms ct_next_rooms), sl_next_rooms⟩) (c_next_rooms : PySem.W.codeIn K cd_next_rooms "next_rooms" = true) (k_next_rooms : PySem.W.keepIn K (.ref f_next_rooms) = true)
    (a_first_leading : PySem.W.nsIn K mainGlobals "first_leading" = some (some (.ref f_first_leading))) (l_first_leading : K.lookup f_first_leading = some ⟨oc_first_leading, od_first_leading, .func (PySem.W.fnOf "first_leading" "first_leading" (defArgs s_first_leading) (defBody s_first_leading) (defScope s_first_leading) .none kV_first_leading dc_first_leading pm_first_leading an_first_leading cd_first_leading ct_first_leading), sl_first_leading⟩) (c_first_leading : PySem.W.codeIn K cd_first_leading "first_leading" = true) (k_first_leading : PySem.W.keepIn K (.ref f_first_leading) = true)
    (a_taken_down : PySem.W.nsIn K mainGlobals "taken_down" = some (some (.ref f_taken_down))) (l_taken_down : K.lookup f_taken_down = some ⟨oc_taken_down, od_taken_down, .func (PySem.W.fnOf "taken_down" "taken_down" (defArgs s_taken_down) (defBody s_taken_down) (defScope s_taken_down) .none kV_taken_down dc_taken_down pm_taken_down an_taken_down cd_taken_down ct_taken_down), sl_taken_down⟩) (c_taken_down : PySem.W.codeIn K cd_taken_down "taken_down" = true) (k_taken_down : PySem.W.keepIn K (.ref f_taken_down) = true)
    (a_first_rows : PySem.W.nsIn K mainGlobals "first_rows" = some (some (.ref f_first_rows))) (l_first_rows : K.lookup f_first_rows = some ⟨oc_first_rows, od_first_rows, .func (PySem.W.fnOf "first_rows" "first_rows" (defArgs s_first_rows) (defBody s_first_rows) (defScope s_first_rows) .none kV_first_rows dc_first_rows pm_first_rows an_first_rows cd_first_rows ct_first_rows), sl_first_rows⟩) (c_first_rows : PySem.W.codeIn K cd_first_rows "first_rows" = true) (k_first_rows : PySem.W.keepIn K (.ref f_first_rows) = true)
    (a_live_rooms : PySem.W.nsIn K mainGlobals "live_rooms" = some (some (.ref f_live_rooms))) (l_live_rooms : K.lookup f_live_rooms = some ⟨oc_live_rooms, od_live_rooms, .func (PySem.W.fnOf "live_rooms" "live_rooms" (defArgs s_live_rooms) (defBody s_live_rooms) (defScope s_live_rooms) .none kV_live_rooms dc_live_rooms pm_live_rooms an_live_rooms cd_live_rooms ct_live_rooms), sl_live_rooms⟩) (c_live_rooms : PySem.W.codeIn K cd_live_rooms "live_rooms" = true) (k_live_rooms : PySem.W.keepIn K (.ref f_live_rooms) = true)
    (a_heights_of : PySem.W.nsIn K mainGlobals "heights_of" = some (some (.ref f_heights_of))) (l_heights_of : K.lookup f_heights_of = some ⟨oc_heights_of, od_heights_of, .func (PySem.W.fnOf "heights_of" "heights_of" (defArgs s_heights_of) (defBody s_heights_of) (defScope s_heights_of) .none kV_heights_of dc_heights_of pm_heights_of an_heights_of cd_heights_of ct_heights_of), sl_heights_of⟩) (c_heights_of : PySem.W.codeIn K cd_heights_of "heights_of" = true) (k_heights_of : PySem.W.keepIn K (.ref f_heights_of) = true)
    (a_highest_row : PySem.W.nsIn K mainGlobals "highest_row" = some (some (.ref f_highest_row))) (l_highest_row : K.lookup f_highest_row = some ⟨oc_highest_row, od_highest_row, .func (PySem.W.fnOf "highest_row" "highest_row" (defArgs s_highest_row) (defBody s_highest_row) (defScope s_highest_row) .none kV_highest_row dc_highest_row pm_highest_row an_highest_row cd_highest_row ct_highest_row), sl_highest_row⟩) (c_highest_row : PySem.W.codeIn K cd_highest_row "highest_row" = true) (k_highest_row : PySem.W.keepIn K (.ref f_highest_row) = true)
    {T_last_number tn_last_number : Nat} {tc_last_number : Value} {td_last_number : Option Addr} {tsl_last_number : Array (Option Value)} {tk0_last_number : Tok}
    (a_last_number : PySem.W.nsIn K mainGlobals "last_number" = some (some (.ref f_last_number))) (l_last_number : K.lookup f_last_number = some ⟨oc_last_number, od_last_number, .func (PySem.W.fnOf "last_number" "last_number" (defArgs s_last_number) (defBody s_last_number) (defScope s_last_number) (.ref T_last_number) kV_last_number dc_last_number pm_last_number an_last_number cd_last_number ct_last_number), sl_last_number⟩) (c_last_number : PySem.W.codeIn K cd_last_number "last_number" = true) (k_last_number : PySem.W.keepIn K (.ref f_last_number) = true)
    (t_last_number : K.lookup T_last_number = some ⟨tc_last_number, td_last_number, .seq #[Value.int 1 tk0_last_number] tn_last_number, tsl_last_number⟩)
    (a_way_round : PySem.W.nsIn K mainGlobals "way_round" = some (some (.ref f_way_round))) (l_way_round : K.lookup f_way_round = some ⟨oc_way_round, od_way_round, .func (PySem.W.fnOf "way_round" "way_round" (defArgs s_way_round) (defBody s_way_round) (defScope s_way_round) .none kV_way_round dc_way_round pm_way_round an_way_round cd_way_round ct_way_round), sl_way_round⟩) (c_way_round : PySem.W.codeIn K cd_way_round "way_round" = true) (k_way_round : PySem.W.keepIn K (.ref f_way_round) = true)
    (a_way_out : PySem.W.nsIn K mainGlobals "way_out" = some (some (.ref f_way_out))) (l_way_out : K.lookup f_way_out = some ⟨oc_way_out, od_way_out, .func (PySem.W.fnOf "way_out" "way_out" (defArgs s_way_out) (defBody s_way_out) (defScope s_way_out) .none kV_way_out dc_way_out pm_way_out an_way_out cd_way_out ct_way_out), sl_way_out⟩) (c_way_out : PySem.W.codeIn K cd_way_out "way_out" = true) (k_way_out : PySem.W.keepIn K (.ref f_way_out) = true)
    {T_endless tn_endless : Nat} {tc_endless : Value} {td_endless : Option Addr} {tsl_endless : Array (Option Value)} {tk0_endless : Tok}
    (a_endless : PySem.W.nsIn K mainGlobals "endless" = some (some (.ref f_endless))) (l_endless : K.lookup f_endless = some ⟨oc_endless, od_endless, .func (PySem.W.fnOf "endless" "endless" (defArgs s_endless) (defBody s_endless) (defScope s_endless) (.ref T_endless) kV_endless dc_endless pm_endless an_endless cd_endless ct_endless), sl_endless⟩) (c_endless : PySem.W.codeIn K cd_endless "endless" = true) (k_endless : PySem.W.keepIn K (.ref f_endless) = true)
    (t_endless : K.lookup T_endless = some ⟨tc_endless, td_endless, .seq #[Value.int 1 tk0_endless] tn_endless, tsl_endless⟩)
    (a__law_number : PySem.W.nsIn K mainGlobals "_law_number" = some (some (.ref f__law_number))) (l__law_number : K.lookup f__law_number = some ⟨oc__law_number, od__law_number, .func (PySem.W.fnOf "_law_number" "_law_number" (defArgs s__law_number) (defBody s__law_number) (defScope s__law_number) .none kV__law_number dc__law_number pm__law_number an__law_number cd__law_number ct__law_number), sl__law_number⟩) (c__law_number : PySem.W.codeIn K cd__law_number "_law_number" = true) (k__law_number : PySem.W.keepIn K (.ref f__law_number) = true)
    (a__law_whole : PySem.W.nsIn K mainGlobals "_law_whole" = some (some (.ref f__law_whole))) (l__law_whole : K.lookup f__law_whole = some ⟨oc__law_whole, od__law_whole, .func (PySem.W.fnOf "_law_whole" "_law_whole" (defArgs s__law_whole) (defBody s__law_whole) (defScope s__law_whole) .none kV__law_whole dc__law_whole pm__law_whole an__law_whole cd__law_whole ct__law_whole), sl__law_whole⟩) (c__law_whole : PySem.W.codeIn K cd__law_whole "_law_whole" = true) (k__law_whole : PySem.W.keepIn K (.ref f__law_whole) = true)
    (a__law_rest : PySem.W.nsIn K mainGlobals "_law_rest" = some (some (.ref f__law_rest))) (l__law_rest : K.lookup f__law_rest = some ⟨oc__law_rest, od__law_rest, .func (PySem.W.fnOf "_law_rest" "_law_rest" (defArgs s__law_rest) (defBody s__law_rest) (defScope s__law_rest) .none kV__law_rest dc__law_rest pm__law_rest an__law_rest cd__law_rest ct__law_rest), sl__law_rest⟩) (c__law_rest : PySem.W.codeIn K cd__law_rest "_law_rest" = true) (k__law_rest : PySem.W.keepIn K (.ref f__law_rest) = true)
    (a__law_there : PySem.W.nsIn K mainGlobals "_law_there" = some (some (.ref f__law_there))) (l__law_there : K.lookup f__law_there = some ⟨oc__law_there, od__law_there, .func (PySem.W.fnOf "_law_there" "_law_there" (defArgs s__law_there) (defBody s__law_there) (defScope s__law_there) .none kV__law_there dc__law_there pm__law_there an__law_there cd__law_there ct__law_there), sl__law_there⟩) (c__law_there : PySem.W.codeIn K cd__law_there "_law_there" = true) (k__law_there : PySem.W.keepIn K (.ref f__law_there) = true)
    (a__law_machine : PySem.W.nsIn K mainGlobals "_law_machine" = some (some (.ref f__law_machine))) (l__law_machine : K.lookup f__law_machine = some ⟨oc__law_machine, od__law_machine, .func (PySem.W.fnOf "_law_machine" "_law_machine" (defArgs s__law_machine) (defBody s__law_machine) (defScope s__law_machine) .none kV__law_machine dc__law_machine pm__law_machine an__law_machine cd__law_machine ct__law_machine), sl__law_machine⟩) (c__law_machine : PySem.W.codeIn K cd__law_machine "_law_machine" = true) (k__law_machine : PySem.W.keepIn K (.ref f__law_machine) = true)
    (a__law_sign_at : PySem.W.nsIn K mainGlobals "_law_sign_at" = some (some (.ref f__law_sign_at))) (l__law_sign_at : K.lookup f__law_sign_at = some ⟨oc__law_sign_at, od__law_sign_at, .func (PySem.W.fnOf "_law_sign_at" "_law_sign_at" (defArgs s__law_sign_at) (defBody s__law_sign_at) (defScope s__law_sign_at) .none kV__law_sign_at dc__law_sign_at pm__law_sign_at an__law_sign_at cd__law_sign_at ct__law_sign_at), sl__law_sign_at⟩) (c__law_sign_at : PySem.W.codeIn K cd__law_sign_at "_law_sign_at" = true) (k__law_sign_at : PySem.W.keepIn K (.ref f__law_sign_at) = true)
    (a__law_is_row : PySem.W.nsIn K mainGlobals "_law_is_row" = some (some (.ref f__law_is_row))) (l__law_is_row : K.lookup f__law_is_row = some ⟨oc__law_is_row, od__law_is_row, .func (PySem.W.fnOf "_law_is_row" "_law_is_row" (defArgs s__law_is_row) (defBody s__law_is_row) (defScope s__law_is_row) .none kV__law_is_row dc__law_is_row pm__law_is_row an__law_is_row cd__law_is_row ct__law_is_row), sl__law_is_row⟩) (c__law_is_row : PySem.W.codeIn K cd__law_is_row "_law_is_row" = true) (k__law_is_row : PySem.W.keepIn K (.ref f__law_is_row) = true)
    (a__law_led : PySem.W.nsIn K mainGlobals "_law_led" = some (some (.ref f__law_led))) (l__law_led : K.lookup f__law_led = some ⟨oc__law_led, od__law_led, .func (PySem.W.fnOf "_law_led" "_law_led" (defArgs s__law_led) (defBody s__law_led) (defScope s__law_led) .none kV__law_led dc__law_led pm__law_led an__law_led cd__law_led ct__law_led), sl__law_led⟩) (c__law_led : PySem.W.codeIn K cd__law_led "_law_led" = true) (k__law_led : PySem.W.keepIn K (.ref f__law_led) = true)
    (a__law_goes_on : PySem.W.nsIn K mainGlobals "_law_goes_on" = some (some (.ref f__law_goes_on))) (l__law_goes_on : K.lookup f__law_goes_on = some ⟨oc__law_goes_on, od__law_goes_on, .func (PySem.W.fnOf "_law_goes_on" "_law_goes_on" (defArgs s__law_goes_on) (defBody s__law_goes_on) (defScope s__law_goes_on) .none kV__law_goes_on dc__law_goes_on pm__law_goes_on an__law_goes_on cd__law_goes_on ct__law_goes_on), sl__law_goes_on⟩) (c__law_goes_on : PySem.W.codeIn K cd__law_goes_on "_law_goes_on" = true) (k__law_goes_on : PySem.W.keepIn K (.ref f__law_goes_on) = true)
    (a__law_ends : PySem.W.nsIn K mainGlobals "_law_ends" = some (some (.ref f__law_ends))) (l__law_ends : K.lookup f__law_ends = some ⟨oc__law_ends, od__law_ends, .func (PySem.W.fnOf "_law_ends" "_law_ends" (defArgs s__law_ends) (defBody s__law_ends) (defScope s__law_ends) .none kV__law_ends dc__law_ends pm__law_ends an__law_ends cd__law_ends ct__law_ends), sl__law_ends⟩) (c__law_ends : PySem.W.codeIn K cd__law_ends "_law_ends" = true) (k__law_ends : PySem.W.keepIn K (.ref f__law_ends) = true)
    (a_law : PySem.W.nsIn K mainGlobals "law" = some (some (.ref f_law))) (l_law : K.lookup f_law = some ⟨oc_law, od_law, .func (PySem.W.fnOf "law" "law" (defArgs s_law) (defBody s_law) (defScope s_law) .none kV_law dc_law pm_law an_law cd_law ct_law), sl_law⟩) (c_law : PySem.W.codeIn K cd_law "law" = true) (k_law : PySem.W.keepIn K (.ref f_law) = true)
    (y_len : PySem.W.nsIn K mainGlobals "len" = some none)
    (y_range : PySem.W.nsIn K mainGlobals "range" = some none)
    (y_tuple : PySem.W.nsIn K mainGlobals "tuple" = some none)
    (y_list : PySem.W.nsIn K mainGlobals "list" = some none)
    (y_isinstance : PySem.W.nsIn K mainGlobals "isinstance" = some none)
    (y_int : PySem.W.nsIn K mainGlobals "int" = some none)
    (y_bool : PySem.W.nsIn K mainGlobals "bool" = some none)
    (y_enumerate : PySem.W.nsIn K mainGlobals "enumerate" = some none)
    (y_dict : PySem.W.nsIn K mainGlobals "dict" = some none)
    (y_any : PySem.W.nsIn K mainGlobals "any" = some none)
    (y_sorted : PySem.W.nsIn K mainGlobals "sorted" = some none)
    (y_set : PySem.W.nsIn K mainGlobals "set" = some none)
    (y_min : PySem.W.nsIn K mainGlobals "min" = some none)
    (y_reversed : PySem.W.nsIn K mainGlobals "reversed" = some none) :
    ∃ fd : FuncData, (∀ (s : Shared) (v : Value), BindsTo s fd ⟨[v], []⟩ [("_law_script", v)]) /\ ∀ base : Heap, K.In base -> base.Ns mainGlobals mg -> FnOk l.prog w K mg base CX0 6 fa fd ["_law_script"] (spLaw K) := by
  have e := hfa.symm.trans (PySem.W.mg_of X G a_law)
  cases e
  have F_is_whole := fund_mk (st := s_is_whole) l_is_whole c_is_whole k_is_whole
  have b_is_whole := F_is_whole.binds (ps := ["thing"]) fun _ _ _ _ _ _ us hl => len1 hl fun _ => rfl
  have m_is_whole := PySem.W.mg_of X G a_is_whole
  have F_is_whole_from := fund_mk (st := s_is_whole_from) l_is_whole_from c_is_whole_from k_is_whole_from
  have b_is_whole_from := F_is_whole_from.binds (ps := ["thing", "least"]) fun _ _ _ _ _ _ us hl => len2 hl fun _ _ => rfl
  have m_is_whole_from := PySem.W.mg_of X G a_is_whole_from
  have F_is_whole_within := fund_mk (st := s_is_whole_within) l_is_whole_within c_is_whole_within k_is_whole_within
  have b_is_whole_within := F_is_whole_within.binds (ps := ["thing", "least", "most"]) fun _ _ _ _ _ _ us hl => len3 hl fun _ _ _ => rfl
  have m_is_whole_within := PySem.W.mg_of X G a_is_whole_within
  have F_need_whole := fund_mk (st := s_need_whole) l_need_whole c_need_whole k_need_whole
  have b_need_whole := F_need_whole.binds (ps := ["thing", "least", "called"]) fun _ _ _ _ _ _ us hl => len3 hl fun _ _ _ => rfl
  have m_need_whole := PySem.W.mg_of X G a_need_whole
  have F_need_row := fund_mk (st := s_need_row) l_need_row c_need_row k_need_row
  have b_need_row := F_need_row.binds (ps := ["thing", "called"]) fun _ _ _ _ _ _ us hl => len2 hl fun _ _ => rfl
  have m_need_row := PySem.W.mg_of X G a_need_row
  have F_merged := fund_mk (st := s_merged) l_merged c_merged k_merged
  have b_merged := F_merged.binds (ps := ["parts", "middle"]) fun _ _ _ _ _ _ us hl => len2 hl fun _ _ => rfl
  have m_merged := PySem.W.mg_of X G a_merged
  have F_number_of := fund_mk (st := s_number_of) l_number_of c_number_of k_number_of
  have b_number_of : Binds K _ ["row", "wide"] [] := F_number_of.bindsD t_number_of rfl 2 rfl fun _ _ _ _ _ _ us hl => len2 hl fun _ _ => ⟨_, rfl, rfl⟩
  have b_number_of_d : Binds K _ ["row", "wide"] [Value.int 10 tk0_number_of] := F_number_of.bindsD t_number_of rfl 1 rfl fun _ _ _ _ _ _ us hl => len1 hl fun _ => ⟨_, rfl, rfl⟩
  have m_number_of := PySem.W.mg_of X G a_number_of
  have F_reached_rooms := fund_mk (st := s_reached_rooms) l_reached_rooms c_reached_rooms k_reached_rooms
  have b_reached_rooms : Binds K _ ["machine", "start"] [] := F_reached_rooms.bindsD t_reached_rooms rfl 2 rfl fun _ _ _ _ _ _ us hl => len2 hl fun _ _ => ⟨_, rfl, rfl⟩
  have b_reached_rooms_d : Binds K _ ["machine", "start"] [Value.int 0 tk0_reached_rooms] := F_reached_rooms.bindsD t_reached_rooms rfl 1 rfl fun _ _ _ _ _ _ us hl => len1 hl fun _ => ⟨_, rfl, rfl⟩
  have m_reached_rooms := PySem.W.mg_of X G a_reached_rooms
  have F_rooms_leading_to := fund_mk (st := s_rooms_leading_to) l_rooms_leading_to c_rooms_leading_to k_rooms_leading_to
  have b_rooms_leading_to := F_rooms_leading_to.binds (ps := ["machine", "goals", "taken"]) fun _ _ _ _ _ _ us hl => len3 hl fun _ _ _ => rfl
  have m_rooms_leading_to := PySem.W.mg_of X G a_rooms_leading_to
  have F_next_rooms := fund_mk (st := s_next_rooms) l_next_rooms c_next_rooms k_next_rooms
  have b_next_rooms := F_next_rooms.binds (ps := ["rows", "level", "taken"]) fun _ _ _ _ _ _ us hl => len3 hl fun _ _ _ => rfl
  have m_next_rooms := PySem.W.mg_of X G a_next_rooms
  have F_first_leading := fund_mk (st := s_first_leading) l_first_leading c_first_leading k_first_leading
  have b_first_leading := F_first_leading.binds (ps := ["rows", "level", "order", "goal"]) fun _ _ _ _ _ _ us hl => len4 hl fun _ _ _ _ => rfl
  have m_first_leading := PySem.W.mg_of X G a_first_leading
  have F_taken_down := fund_mk (st := s_taken_down) l_taken_down c_taken_down k_taken_down
  have b_taken_down := F_taken_down.binds (ps := ["rows", "levels", "orders", "goal"]) fun _ _ _ _ _ _ us hl => len4 hl fun _ _ _ _ => rfl
  have m_taken_down := PySem.W.mg_of X G a_taken_down
  have F_first_rows := fund_mk (st := s_first_rows) l_first_rows c_first_rows k_first_rows
  have b_first_rows := F_first_rows.binds (ps := ["machine", "start"]) fun _ _ _ _ _ _ us hl => len2 hl fun _ _ => rfl
  have m_first_rows := PySem.W.mg_of X G a_first_rows
  have F_live_rooms := fund_mk (st := s_live_rooms) l_live_rooms c_live_rooms k_live_rooms
  have b_live_rooms := F_live_rooms.binds (ps := ["machine", "sign"]) fun _ _ _ _ _ _ us hl => len2 hl fun _ _ => rfl
  have m_live_rooms := PySem.W.mg_of X G a_live_rooms
  have F_heights_of := fund_mk (st := s_heights_of) l_heights_of c_heights_of k_heights_of
  have b_heights_of := F_heights_of.binds (ps := ["rows", "live"]) fun _ _ _ _ _ _ us hl => len2 hl fun _ _ => rfl
  have m_heights_of := PySem.W.mg_of X G a_heights_of
  have F_highest_row := fund_mk (st := s_highest_row) l_highest_row c_highest_row k_highest_row
  have b_highest_row := F_highest_row.binds (ps := ["machine", "sign", "heights"]) fun _ _ _ _ _ _ us hl => len3 hl fun _ _ _ => rfl
  have m_highest_row := PySem.W.mg_of X G a_highest_row
  have F_last_number := fund_mk (st := s_last_number) l_last_number c_last_number k_last_number
  have b_last_number : Binds K _ ["machine", "sign"] [] := F_last_number.bindsD t_last_number rfl 2 rfl fun _ _ _ _ _ _ us hl => len2 hl fun _ _ => ⟨_, rfl, rfl⟩
  have b_last_number_d : Binds K _ ["machine", "sign"] [Value.int 1 tk0_last_number] := F_last_number.bindsD t_last_number rfl 1 rfl fun _ _ _ _ _ _ us hl => len1 hl fun _ => ⟨_, rfl, rfl⟩
  have m_last_number := PySem.W.mg_of X G a_last_number
  have F_way_round := fund_mk (st := s_way_round) l_way_round c_way_round k_way_round
  have b_way_round := F_way_round.binds (ps := ["rows", "going"]) fun _ _ _ _ _ _ us hl => len2 hl fun _ _ => rfl
  have m_way_round := PySem.W.mg_of X G a_way_round
  have F_way_out := fund_mk (st := s_way_out) l_way_out c_way_out k_way_out
  have b_way_out := F_way_out.binds (ps := ["machine", "sign", "start"]) fun _ _ _ _ _ _ us hl => len3 hl fun _ _ _ => rfl
  have m_way_out := PySem.W.mg_of X G a_way_out
  have F_endless := fund_mk (st := s_endless) l_endless c_endless k_endless
  have b_endless : Binds K _ ["machine", "sign"] [] := F_endless.bindsD t_endless rfl 2 rfl fun _ _ _ _ _ _ us hl => len2 hl fun _ _ => ⟨_, rfl, rfl⟩
  have b_endless_d : Binds K _ ["machine", "sign"] [Value.int 1 tk0_endless] := F_endless.bindsD t_endless rfl 1 rfl fun _ _ _ _ _ _ us hl => len1 hl fun _ => ⟨_, rfl, rfl⟩
  have m_endless := PySem.W.mg_of X G a_endless
  have F__law_number := fund_mk (st := s__law_number) l__law_number c__law_number k__law_number
  have b__law_number := F__law_number.binds (ps := ["_law_script", "_law_k"]) fun _ _ _ _ _ _ us hl => len2 hl fun _ _ => rfl
  have m__law_number := PySem.W.mg_of X G a__law_number
  have F__law_whole := fund_mk (st := s__law_whole) l__law_whole c__law_whole k__law_whole
  have b__law_whole := F__law_whole.binds (ps := ["_law_found"]) fun _ _ _ _ _ _ us hl => len1 hl fun _ => rfl
  have m__law_whole := PySem.W.mg_of X G a__law_whole
  have F__law_rest := fund_mk (st := s__law_rest) l__law_rest c__law_rest k__law_rest
  have b__law_rest := F__law_rest.binds (ps := ["_law_rows", "_law_here"]) fun _ _ _ _ _ _ us hl => len2 hl fun _ _ => rfl
  have m__law_rest := PySem.W.mg_of X G a__law_rest
  have F__law_there := fund_mk (st := s__law_there) l__law_there c__law_there k__law_there
  have b__law_there := F__law_there.binds (ps := ["_law_number_here", "_law_q", "_law_f", "_law_many", "_law_way"]) fun _ _ _ _ _ _ us hl => len5 hl fun _ _ _ _ _ => rfl
  have m__law_there := PySem.W.mg_of X G a__law_there
  have F__law_machine := fund_mk (st := s__law_machine) l__law_machine c__law_machine k__law_machine
  have b__law_machine := F__law_machine.binds (ps := ["_law_script", "_law_start", "_law_wide", "_law_many", "_law_way"]) fun _ _ _ _ _ _ us hl => len5 hl fun _ _ _ _ _ => rfl
  have m__law_machine := PySem.W.mg_of X G a__law_machine
  have F__law_sign_at := fund_mk (st := s__law_sign_at) l__law_sign_at c__law_sign_at k__law_sign_at
  have b__law_sign_at := F__law_sign_at.binds (ps := ["_law_machine_here", "_law_number_here"]) fun _ _ _ _ _ _ us hl => len2 hl fun _ _ => rfl
  have m__law_sign_at := PySem.W.mg_of X G a__law_sign_at
  have F__law_is_row := fund_mk (st := s__law_is_row) l__law_is_row c__law_is_row k__law_is_row
  have b__law_is_row := F__law_is_row.binds (ps := ["_law_found", "_law_wide"]) fun _ _ _ _ _ _ us hl => len2 hl fun _ _ => rfl
  have m__law_is_row := PySem.W.mg_of X G a__law_is_row
  have F__law_led := fund_mk (st := s__law_led) l__law_led c__law_led k__law_led
  have b__law_led := F__law_led.binds (ps := ["_law_machine_here", "_law_row", "_law_here"]) fun _ _ _ _ _ _ us hl => len3 hl fun _ _ _ => rfl
  have m__law_led := PySem.W.mg_of X G a__law_led
  have F__law_goes_on := fund_mk (st := s__law_goes_on) l__law_goes_on c__law_goes_on k__law_goes_on
  have b__law_goes_on := F__law_goes_on.binds (ps := ["_law_machine_here", "_law_sign", "_law_found", "_law_turns"]) fun _ _ _ _ _ _ us hl => len4 hl fun _ _ _ _ => rfl
  have m__law_goes_on := PySem.W.mg_of X G a__law_goes_on
  have F__law_ends := fund_mk (st := s__law_ends) l__law_ends c__law_ends k__law_ends
  have b__law_ends := F__law_ends.binds (ps := ["_law_script", "_law_machine_here", "_law_sign", "_law_found"]) fun _ _ _ _ _ _ us hl => len4 hl fun _ _ _ _ => rfl
  have m__law_ends := PySem.W.mg_of X G a__law_ends
  have F_law := fund_mk (st := s_law) l_law c_law k_law
  have b_law := F_law.binds (ps := ["_law_script"]) fun _ _ _ _ _ _ us hl => len1 hl fun _ => rfl
  have m_law := PySem.W.mg_of X G a_law
  have z_len := PySem.W.mg_none_of X G y_len
  have z_range := PySem.W.mg_none_of X G y_range
  have z_tuple := PySem.W.mg_none_of X G y_tuple
  have z_list := PySem.W.mg_none_of X G y_list
  have z_isinstance := PySem.W.mg_none_of X G y_isinstance
  have z_int := PySem.W.mg_none_of X G y_int
  have z_bool := PySem.W.mg_none_of X G y_bool
  have z_enumerate := PySem.W.mg_none_of X G y_enumerate
  have z_dict := PySem.W.mg_none_of X G y_dict
  have z_any := PySem.W.mg_none_of X G y_any
  have z_sorted := PySem.W.mg_none_of X G y_sorted
  have z_set := PySem.W.mg_none_of X G y_set
  have z_min := PySem.W.mg_none_of X G y_min
  have z_reversed := PySem.W.mg_none_of X G y_reversed
  refine ⟨PySem.W.fnOf "law" "law" (defArgs s_law) (defBody s_law) (defScope s_law) .none kV_law dc_law pm_law an_law cd_law ct_law, fun s v => .of_eq rfl, fun base _ _ => ?_⟩
  have G_is_whole : DefOk l.prog w K mg base "is_whole" 1 ["thing"] [] (spWhole) := ⟨_, _, [], m_is_whole, k_is_whole, .nil, b_is_whole, ok_is_whole F_is_whole z_isinstance z_int z_bool⟩
  have G_is_whole_from : DefOk l.prog w K mg base "is_whole_from" 2 ["thing", "least"] [] (spFrom) := ⟨_, _, [], m_is_whole_from, k_is_whole_from, .nil, b_is_whole_from, ok_from F_is_whole_from G_is_whole⟩
  have G_is_whole_within : DefOk l.prog w K mg base "is_whole_within" 2 ["thing", "least", "most"] [] (spWithin) := ⟨_, _, [], m_is_whole_within, k_is_whole_within, .nil, b_is_whole_within, ok_within F_is_whole_within G_is_whole⟩
  have G_need_whole : DefOk l.prog w K mg base "need_whole" 3 ["thing", "least", "called"] [] (spNeed) := ⟨_, _, [], m_need_whole, k_need_whole, .nil, b_need_whole, ok_need F_need_whole G_is_whole_from⟩
  have G_need_row : DefOk l.prog w K mg base "need_row" 1 ["thing", "called"] [] (spNeedRow) := ⟨_, _, [], m_need_row, k_need_row, .nil, b_need_row, ok_need_row F_need_row z_isinstance z_tuple z_list⟩
  have G_merged : DefOk l.prog w K mg base "merged" 1 ["parts", "middle"] [] (spMerged K) := ⟨_, _, [], m_merged, k_merged, .nil, b_merged, ok_merged F_merged z_range z_len⟩
  have G_number_of : DefOk l.prog w K mg base "number_of" 4 ["row", "wide"] [] (spNumOf K) := ⟨_, _, [], m_number_of, k_number_of, .nil, b_number_of, ok_number_of F_number_of G_need_whole G_need_row G_is_whole_within G_merged z_list z_len⟩
  have G_reached_rooms_d : DefOk l.prog w K mg base "reached_rooms" 1 ["machine", "start"] [.int 0] (spReached K) := ⟨_, _, _, m_reached_rooms, k_reached_rooms, .cons ⟨_, rfl⟩ (.nil), b_reached_rooms_d, ok_reached F_reached_rooms z_list⟩
  have G_reached_rooms : DefOk l.prog w K mg base "reached_rooms" 1 ["machine", "start"] [] (spReached K) := ⟨_, _, [], m_reached_rooms, k_reached_rooms, .nil, b_reached_rooms, ok_reached F_reached_rooms z_list⟩
  have G_rooms_leading_to : DefOk l.prog w K mg base "rooms_leading_to" 1 ["machine", "goals", "taken"] [] (spLeadC K) := ⟨_, _, [], m_rooms_leading_to, k_rooms_leading_to, .nil, b_rooms_leading_to, ok_leadC F_rooms_leading_to z_enumerate z_list z_dict⟩
  have G_next_rooms : DefOk l.prog w K mg base "next_rooms" 1 ["rows", "level", "taken"] [] (spNextR K) := ⟨_, _, [], m_next_rooms, k_next_rooms, .nil, b_next_rooms, ok_nextR F_next_rooms z_list⟩
  have G_first_leading : DefOk l.prog w K mg base "first_leading" 1 ["rows", "level", "order", "goal"] [] (spFirstL K) := ⟨_, _, [], m_first_leading, k_first_leading, .nil, b_first_leading, ok_firstL F_first_leading ⟩
  have G_taken_down : DefOk l.prog w K mg base "taken_down" 2 ["rows", "levels", "orders", "goal"] [] (spTaken K) := ⟨_, _, [], m_taken_down, k_taken_down, .nil, b_taken_down, ok_taken F_taken_down G_first_leading z_len z_range z_tuple⟩
  have G_first_rows : DefOk l.prog w K mg base "first_rows" 2 ["machine", "start"] [] (spFirstC K) := ⟨_, _, [], m_first_rows, k_first_rows, .nil, b_first_rows, ok_firstC F_first_rows G_reached_rooms z_enumerate⟩
  have G_live_rooms : DefOk l.prog w K mg base "live_rooms" 2 ["machine", "sign"] [] (spLiveC K) := ⟨_, _, [], m_live_rooms, k_live_rooms, .nil, b_live_rooms, ok_liveC F_live_rooms G_rooms_leading_to G_reached_rooms_d z_enumerate z_any z_dict z_tuple z_range⟩
  have G_heights_of : DefOk l.prog w K mg base "heights_of" 1 ["rows", "live"] [] (spHeightC K) := ⟨_, _, [], m_heights_of, k_heights_of, .nil, b_heights_of, ok_heightC F_heights_of z_sorted z_set z_len⟩
  have G_highest_row : DefOk l.prog w K mg base "highest_row" 3 ["machine", "sign", "heights"] [] (spHigh K) := ⟨_, _, [], m_highest_row, k_highest_row, .nil, b_highest_row, ok_high F_highest_row G_next_rooms G_taken_down z_len z_range z_tuple⟩
  have G_last_number : DefOk l.prog w K mg base "last_number" 5 ["machine", "sign"] [] (spLast K) := ⟨_, _, [], m_last_number, k_last_number, .nil, b_last_number, ok_last F_last_number G_live_rooms G_heights_of G_highest_row G_number_of⟩
  have G_last_number_d : DefOk l.prog w K mg base "last_number" 5 ["machine", "sign"] [.int 1] (spLast K) := ⟨_, _, _, m_last_number, k_last_number, .cons ⟨_, rfl⟩ (.nil), b_last_number_d, ok_last F_last_number G_live_rooms G_heights_of G_highest_row G_number_of⟩
  have G_way_round : DefOk l.prog w K mg base "way_round" 1 ["rows", "going"] [] (spRoundC K) := ⟨_, _, [], m_way_round, k_way_round, .nil, b_way_round, ok_roundC F_way_round z_len z_tuple⟩
  have G_way_out : DefOk l.prog w K mg base "way_out" 3 ["machine", "sign", "start"] [] (spOutC K) := ⟨_, _, [], m_way_out, k_way_out, .nil, b_way_out, ok_outC F_way_out G_first_rows z_enumerate⟩
  have G_endless : DefOk l.prog w K mg base "endless" 4 ["machine", "sign"] [] (spEndlessC K) := ⟨_, _, [], m_endless, k_endless, .nil, b_endless, ok_endlessC F_endless G_live_rooms G_heights_of G_way_round G_way_out z_dict⟩
  have G_endless_d : DefOk l.prog w K mg base "endless" 4 ["machine", "sign"] [.int 1] (spEndlessC K) := ⟨_, _, _, m_endless, k_endless, .cons ⟨_, rfl⟩ (.nil), b_endless_d, ok_endlessC F_endless G_live_rooms G_heights_of G_way_round G_way_out z_dict⟩
  have G__law_number : DefOk l.prog w K mg base "_law_number" 1 ["_law_script", "_law_k"] [] (spNum K) := ⟨_, _, [], m__law_number, k__law_number, .nil, b__law_number, ok_num F__law_number z_len⟩
  have G__law_whole : DefOk l.prog w K mg base "_law_whole" 1 ["_law_found"] [] (spWholeN) := ⟨_, _, [], m__law_whole, k__law_whole, .nil, b__law_whole, ok_wholeN F__law_whole z_isinstance z_int z_bool⟩
  have G__law_rest : DefOk l.prog w K mg base "_law_rest" 1 ["_law_rows", "_law_here"] [] (spRest K) := ⟨_, _, [], m__law_rest, k__law_rest, .nil, b__law_rest, ok_rest F__law_rest z_len z_range z_min⟩
  have G__law_there : DefOk l.prog w K mg base "_law_there" 1 ["_law_number_here", "_law_q", "_law_f", "_law_many", "_law_way"] [] (spThereE) := ⟨_, _, [], m__law_there, k__law_there, .nil, b__law_there, ok_thereE F__law_there ⟩
  have G__law_machine : DefOk l.prog w K mg base "_law_machine" 2 ["_law_script", "_law_start", "_law_wide", "_law_many", "_law_way"] [] (spMachW K) := ⟨_, _, [], m__law_machine, k__law_machine, .nil, b__law_machine, ok_machW F__law_machine G__law_number G__law_there G__law_rest z_range z_tuple⟩
  have G__law_sign_at : DefOk l.prog w K mg base "_law_sign_at" 1 ["_law_machine_here", "_law_number_here"] [] (spSignW) := ⟨_, _, [], m__law_sign_at, k__law_sign_at, .nil, b__law_sign_at, ok_signW F__law_sign_at ⟩
  have G__law_is_row : DefOk l.prog w K mg base "_law_is_row" 2 ["_law_found", "_law_wide"] [] (spIsRowW) := ⟨_, _, [], m__law_is_row, k__law_is_row, .nil, b__law_is_row, ok_isRowW F__law_is_row G__law_whole z_isinstance z_tuple⟩
  have G__law_led : DefOk l.prog w K mg base "_law_led" 1 ["_law_machine_here", "_law_row", "_law_here"] [] (spLedW) := ⟨_, _, [], m__law_led, k__law_led, .nil, b__law_led, ok_ledW F__law_led ⟩
  have G__law_goes_on : DefOk l.prog w K mg base "_law_goes_on" 3 ["_law_machine_here", "_law_sign", "_law_found", "_law_turns"] [] (spGoesW) := ⟨_, _, [], m__law_goes_on, k__law_goes_on, .nil, b__law_goes_on, ok_goesW F__law_goes_on G__law_is_row G__law_led G__law_sign_at z_isinstance z_tuple z_len z_range z_reversed⟩
  have G__law_ends : DefOk l.prog w K mg base "_law_ends" 2 ["_law_script", "_law_machine_here", "_law_sign", "_law_found"] [] (spEndsW K) := ⟨_, _, [], m__law_ends, k__law_ends, .nil, b__law_ends, ok_endsW F__law_ends G__law_whole G__law_sign_at z_len z_range⟩
  have G__law_number : DefOk l.prog w K mg base "_law_number" 1 ["_law_script", "_law_k"] [] (spNumF K) := ⟨_, _, [], m__law_number, k__law_number, .nil, b__law_number, ok_numF F__law_number z_len⟩
  exact ok_law F_law G__law_number G__law_machine G_last_number G_last_number_d G_endless G_endless_d G__law_goes_on G__law_ends z_len z_int
theorem walk {l : PySem.W.OpenLaw} {q : Program} {loose : List Str} {XP : (Str -> Option Value) -> Heap -> Prop} {YP : World -> Heap -> Prop} {d : DefRec} {K : Params -> PySem.W.Frag} (hn : l.most = some 63) (hdf : d.params.defaults = [])
    (hY : ∀ (w : World) (h : Heap), YP w h -> (K w.params).In h)
    (F : ∀ (w : World) (mg : Str -> Option Value) (fa : Addr) (h : Heap), (K w.params).In h -> h.Ns mainGlobals mg -> mg d.name = some (.ref fa) ->
      ∃ fd : FuncData, (∀ (s : Shared) (u : Value), BindsTo s fd ⟨[u], []⟩ [("_law_script", u)]) /\ ∀ base : Heap, (K w.params).In base -> base.Ns mainGlobals mg -> FnOk l.prog w (K w.params) mg base CX0 6 fa fd ["_law_script"] (spLaw (K w.params))) :
    PySem.W.WalkO q loose XP YP l.row.toRowW d [] (fun f vs => PySem.call f vs) :=
  L2.walk_of (n := 63) (k := 6) (x := "_law_script") (CX := fun _ => CX0) (sp := fun w => spLaw (K w.params)) hn (by decide) hdf ⟨rfl, by decide, by decide⟩ hY F (fun _ _ a ns hl _ hS => ⟨a, ns, rfl, hS, hl, fun _ => rfl⟩) fun _ _ _ _ _ z => z
end My
def PySem.W.Fast.tw12926955478470504004 := 0
def PySem.W.Fast.tw3682721949958367795 := 0
def PySem.W.Fast.tw783423075069375394 := 0
def PySem.W.Fast.tw6907617969911682793 := 0
def PySem.W.Fast.tw10753542381726551116 := 0
def PySem.W.Fast.tw6694619753629621113 := 0
def PySem.W.Fast.tw6090730589892727129 := 0
def PySem.W.Fast.tw12864472354341948543 := 0
def PySem.W.Fast.tw8583291712703317576 := 0
def PySem.W.Fast.tw3578009180010896659 := 0
def PySem.W.Fast.tw16892746670200619016 := 0
def PySem.W.Fast.tw6841494807559047514 := 0
def PySem.W.Fast.tw17471694249377028582 := 0
open PySem PySem.W PyProof.Rows
set_option maxRecDepth 100000 in
set_option maxHeartbeats 0 in
theorem PySem.Challenge.cw_figuretell_k45_last_number_and_endless_holds : PySem.Challenge.rw_figuretell_k45_last_number_and_endless.Holds := by
  w_on; o_law; k_head; (case hw => w_witness2)
  k_fill
  refine My.walk (l := PySem.Challenge.rw_figuretell_k45_last_number_and_endless) rfl rfl (fun w h Y => PySem.W.kIn_of Y) ?F
  case F =>
    intro w mg fa h KX G hmg
    refine' My.all_mk KX G hmg ?a_is_whole ?l_is_whole ?c_is_whole ?k_is_whole ?a_is_whole_from ?l_is_whole_from ?c_is_whole_from ?k_is_whole_from ?a_is_whole_within ?l_is_whole_within ?c_is_whole_within ?k_is_whole_within ?a_need_whole ?l_need_whole ?c_need_whole ?k_need_whole ?a_need_row ?l_need_row ?c_need_row ?k_need_row ?a_merged ?l_merged ?c_merged ?k_merged ?a_number_of ?l_number_of ?c_number_of ?k_number_of ?t_number_of ?a_reached_rooms ?l_reached_rooms ?c_reached_rooms ?k_reached_rooms ?t_reached_rooms ?a_rooms_leading_to ?l_rooms_leading_to ?c_rooms_leading_to ?k_rooms_leading_to ?a_next_rooms ?l_next_rooms ?c_next_rooms ?k_next_rooms ?a_first_leading ?l_first_leading ?c_first_leading ?k_first_leading ?a_taken_down ?l_taken_down ?c_taken_down ?k_taken_down ?a_first_rows ?l_first_rows ?c_first_rows ?k_first_rows ?a_live_rooms ?l_live_rooms ?c_live_rooms ?k_live_rooms ?a_heights_of ?l_heights_of ?c_heights_of ?k_heights_of ?a_highest_row ?l_highest_row ?c_highest_row ?k_highest_row ?a_last_number ?l_last_number ?c_last_number ?k_last_number ?t_last_number ?a_way_round ?l_way_round ?c_way_round ?k_way_round ?a_way_out ?l_way_out ?c_way_out ?k_way_out ?a_endless ?l_endless ?c_endless ?k_endless ?t_endless ?a__law_number ?l__law_number ?c__law_number ?k__law_number ?a__law_whole ?l__law_whole ?c__law_whole ?k__law_whole ?a__law_rest ?l__law_rest ?c__law_rest ?k__law_rest ?a__law_there ?l__law_there ?c__law_there ?k__law_there ?a__law_machine ?l__law_machine ?c__law_machine ?k__law_machine ?a__law_sign_at ?l__law_sign_at ?c__law_sign_at ?k__law_sign_at ?a__law_is_row ?l__law_is_row ?c__law_is_row ?k__law_is_row ?a__law_led ?l__law_led ?c__law_led ?k__law_led ?a__law_goes_on ?l__law_goes_on ?c__law_goes_on ?k__law_goes_on ?a__law_ends ?l__law_ends ?c__law_ends ?k__law_ends ?a_law ?l_law ?c_law ?k_law ?y_len ?y_range ?y_tuple ?y_list ?y_isinstance ?y_int ?y_bool ?y_enumerate ?y_dict ?y_any ?y_sorted ?y_set ?y_min ?y_reversed
    (case a_is_whole => k_is); (case l_is_whole => k_is); (case c_is_whole => k_is); (case k_is_whole => k_is)
    (case a_is_whole_from => k_is); (case l_is_whole_from => k_is); (case c_is_whole_from => k_is); (case k_is_whole_from => k_is)
    (case a_is_whole_within => k_is); (case l_is_whole_within => k_is); (case c_is_whole_within => k_is); (case k_is_whole_within => k_is)
    (case a_need_whole => k_is); (case l_need_whole => k_is); (case c_need_whole => k_is); (case k_need_whole => k_is)
    (case a_need_row => k_is); (case l_need_row => k_is); (case c_need_row => k_is); (case k_need_row => k_is)
    (case a_merged => k_is); (case l_merged => k_is); (case c_merged => k_is); (case k_merged => k_is)
    (case a_number_of => k_is); (case l_number_of => k_is); (case c_number_of => k_is); (case k_number_of => k_is); (case t_number_of => k_is)
    (case a_reached_rooms => k_is); (case l_reached_rooms => k_is); (case c_reached_rooms => k_is); (case k_reached_rooms => k_is); (case t_reached_rooms => k_is)
    (case a_rooms_leading_to => k_is); (case l_rooms_leading_to => k_is); (case c_rooms_leading_to => k_is); (case k_rooms_leading_to => k_is)
    (case a_next_rooms => k_is); (case l_next_rooms => k_is); (case c_next_rooms => k_is); (case k_next_rooms => k_is)
    (case a_first_leading => k_is); (case l_first_leading => k_is); (case c_first_leading => k_is); (case k_first_leading => k_is)
    (case a_taken_down => k_is); (case l_taken_down => k_is); (case c_taken_down => k_is); (case k_taken_down => k_is)
    (case a_first_rows => k_is); (case l_first_rows => k_is); (case c_first_rows => k_is); (case k_first_rows => k_is)
    (case a_live_rooms => k_is); (case l_live_rooms => k_is); (case c_live_rooms => k_is); (case k_live_rooms => k_is)
    (case a_heights_of => k_is); (case l_heights_of => k_is); (case c_heights_of => k_is); (case k_heights_of => k_is)
    (case a_highest_row => k_is); (case l_highest_row => k_is); (case c_highest_row => k_is); (case k_highest_row => k_is)
    (case a_last_number => k_is); (case l_last_number => k_is); (case c_last_number => k_is); (case k_last_number => k_is); (case t_last_number => k_is)
    (case a_way_round => k_is); (case l_way_round => k_is); (case c_way_round => k_is); (case k_way_round => k_is)
    (case a_way_out => k_is); (case l_way_out => k_is); (case c_way_out => k_is); (case k_way_out => k_is)
    (case a_endless => k_is); (case l_endless => k_is); (case c_endless => k_is); (case k_endless => k_is); (case t_endless => k_is)
    (case a__law_number => k_is); (case l__law_number => k_is); (case c__law_number => k_is); (case k__law_number => k_is)
    (case a__law_whole => k_is); (case l__law_whole => k_is); (case c__law_whole => k_is); (case k__law_whole => k_is)
    (case a__law_rest => k_is); (case l__law_rest => k_is); (case c__law_rest => k_is); (case k__law_rest => k_is)
    (case a__law_there => k_is); (case l__law_there => k_is); (case c__law_there => k_is); (case k__law_there => k_is)
    (case a__law_machine => k_is); (case l__law_machine => k_is); (case c__law_machine => k_is); (case k__law_machine => k_is)
    (case a__law_sign_at => k_is); (case l__law_sign_at => k_is); (case c__law_sign_at => k_is); (case k__law_sign_at => k_is)
    (case a__law_is_row => k_is); (case l__law_is_row => k_is); (case c__law_is_row => k_is); (case k__law_is_row => k_is)
    (case a__law_led => k_is); (case l__law_led => k_is); (case c__law_led => k_is); (case k__law_led => k_is)
    (case a__law_goes_on => k_is); (case l__law_goes_on => k_is); (case c__law_goes_on => k_is); (case k__law_goes_on => k_is)
    (case a__law_ends => k_is); (case l__law_ends => k_is); (case c__law_ends => k_is); (case k__law_ends => k_is)
    (case a_law => k_is); (case l_law => k_is); (case c_law => k_is); (case k_law => k_is)
    (case y_len => k_is); (case y_range => k_is); (case y_tuple => k_is); (case y_list => k_is); (case y_isinstance => k_is); (case y_int => k_is); (case y_bool => k_is); (case y_enumerate => k_is); (case y_dict => k_is); (case y_any => k_is); (case y_sorted => k_is); (case y_set => k_is); (case y_min => k_is); (case y_reversed => k_is)
