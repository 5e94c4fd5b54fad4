import PyProof.Rows.All
import Wide.All
import OpenK.AllK
import Wide.FinOn
import Lean
import PyProof.EqAt
import PyProof.EqKinds
import PyProof.TupleCall
import PyProof.NeKinds
import PyProof.ExcBaseAll.ValueError
import PyProof.ExcClass3
import OpenK.KOwn
import PyProof.Rows.FStr
import KE.KTryMore
import PyProof.ExcAttrAll.ValueError
import KE.KDictList
import PyProof.CompMap
import PyProof.Draws
import PyProof.ListRange
import PyProof.ZipIter
import PyProof.EnumMake
import PyProof.CollectIter
import PyProof.SetRoads
import PyProof.Rows.SortShell
import PyProof.Rows.SortWalk
import PySem.Challenge.RW_figuretell_k32_whole_turned_twice
set_option Elab.async false
set_option linter.all false
set_option maxRecDepth 100000
namespace L2
open PySem PySem.Spec PyProof.Rows
abbrev Key:=Sum Int Str
def qc : Key -> Value -> Bool
 | .inl k,v => Value.isInt k v
 | .inr x,v => Value.isStrOf x v
def HR (w : World) : Key -> Int
 | .inl k => hashInt k
 | .inr x => hashStr w x
theorem bH : ∀ {k : Key} {v : Value},qc k v = true -> (∃ i t,k = Sum.inl i /\ v = Value.int i t) \/ (∃ x t,k = Sum.inr x /\ v = Value.str x t)
 | .inl i,v,h => by
  obtain ⟨t,e⟩:=Value.isInt_shape (k:=i) (v:=v) h
  exact .inl ⟨i,t,rfl,e⟩
 | .inr x,v,h => by
  obtain ⟨t,e⟩:=Value.isStrOf_shape (x:=x) (v:=v) h
  exact .inr ⟨x,t,rfl,e⟩
theorem BE (i : Int) (t : Tok) : qc (.inl i) (.int i t) = true:=by simp [qc,Value.isInt]
theorem BF (x : Str) (t : Tok) : qc (.inr x) (.str x t) = true:=by simp [qc,Value.isStrOf]
theorem Gh (a b : Int) : decide ((Sum.inl a : Key) = Sum.inl b) = (a == b):=by
 by_cases e : a = b
 ·subst e; simp
 ·have h : ¬ (Sum.inl a : Key) = Sum.inl b:=fun q => e (Sum.inl.inj q)
  rw [decide_eq_false h]
  exact (beq_eq_false_iff_ne.mpr e).symm
theorem Gk (a b : Str) : decide ((Sum.inr a : Key) = Sum.inr b) = decide (a = b):=by
 by_cases e : a = b
 ·subst e; simp
 ·have h : ¬ (Sum.inr a : Key) = Sum.inr b:=fun q => e (Sum.inr.inj q)
  rw [decide_eq_false h,decide_eq_false e]
theorem Gi (a : Int) (b : Str) : decide ((Sum.inl a : Key) = Sum.inr b) = false:=decide_eq_false (fun q => nomatch q)
theorem Gj (a : Str) (b : Int) : decide ((Sum.inr a : Key) = Sum.inl b) = false:=decide_eq_false (fun q => nomatch q)
def aP (prog : Program) (w : World) : PySem.KeyKind prog w Key where
 is:=qc
 hash:=HR w
 inj:=fun v a b ha hb => by
  rcases bH ha with ⟨i,t,rfl,rfl⟩ | ⟨x,t,rfl,rfl⟩
  ·rcases bH hb with ⟨j,u,rfl,e⟩ | ⟨y,u,rfl,e⟩
   ·injection e with e1 _; rw [e1]
   ·exact nomatch e
  ·rcases bH hb with ⟨j,u,rfl,e⟩ | ⟨y,u,rfl,e⟩
   ·exact nomatch e
   ·injection e with e1 _; rw [e1]
 byValue:=fun k v h => by
  rcases bH h with ⟨i,t,rfl,rfl⟩ | ⟨x,t,rfl,rfl⟩ <;> rfl
 pyHash:=fun hv h => by
  rcases bH hv with ⟨i,t,rfl,rfl⟩ | ⟨x,t,rfl,rfl⟩
  ·exact wpAny_pyHash_int h
  ·exact wpAny_pyHash_str h
 eqBool:=fun hu hv h => by
  rcases bH hu with ⟨i,t,rfl,rfl⟩ | ⟨x,t,rfl,rfl⟩
  ·rcases bH hv with ⟨j,u,rfl,rfl⟩ | ⟨y,u,rfl,rfl⟩
   ·rw [Gh] at h; exact wpAny_eqBool_int h
   ·rw [Gi] at h; exact SeqAt.EqAt.int_str i t y u _ _ _ _ h
  ·rcases bH hv with ⟨j,u,rfl,rfl⟩ | ⟨y,u,rfl,rfl⟩
   ·rw [Gj] at h; exact SeqAt.EqAt.str_int x t j u _ _ _ _ h
   ·rw [Gk] at h; exact wpAny_eqBool_str h
 «strs» := fun k x t v h => by
  rcases bH h with ⟨i,u,rfl,e⟩ | ⟨y,u,rfl,e⟩
  ·exact nomatch e
  ·injection e with e1 _
   subst e1
   cases v <;> rfl
theorem yg (prog : Program) (w : World) (i : Int) (t : Tok) : (aP prog w).is (.inl i) (.int i t) = true:=BE i t
theorem yh (prog : Program) (w : World) (x : Str) (t : Tok) : (aP prog w).is (.inr x) (.str x t) = true:=BF x t
end L2
namespace L2
open PySem PySem.Spec PyProof.Rows
inductive V where
 | non | bl (b : Bool) | int (i : Int) | str (x : Str) | byt (b : Array UInt8) | flt (b : UInt64) | ref (a : Addr) | ty (n : String)
 deriving DecidableEq
def RelV : V -> Value -> Prop
 | .non,u => u = Value.none
 | .bl b,u => u = Value.bool b
 | .int i,u => ∃ t,u = Value.int i t
 | .str x,u => ∃ t,u = Value.str x t
 | .byt b,u => ∃ t,u = Value.bytes b t
 | .flt b,u => ∃ t,u = Value.float b t
 | .ref a,u => u = Value.ref a
 | .ty n,u => u = Value.type n
abbrev Vals : List V -> List Value -> Prop:=Paired RelV
theorem Vals.length {xs : List V} {us : List Value} (r : Vals xs us) : xs.length = us.length:=Paired.length r
theorem Vals.get : ∀ {xs : List V} {us : List Value} {i : Nat} {x : V},Vals xs us -> xs[i]? = some x -> ∃ u,us[i]? = some u /\ RelV x u
 | _,_,_,_,.nil,e => by simp at e
 | _,_,0,_,.cons r _,e => by simp at e; subst e; exact ⟨_,rfl,r⟩
 | _,_,i + 1,x,.cons _ t,e => by
  obtain ⟨u,h1,h2⟩:=Vals.get (i:=i) (x:=x) t (by simpa using e)
  exact ⟨u,by simpa using h1,h2⟩
theorem Vals.set {x : V} {u : Value} (r : RelV x u) : ∀ {xs : List V} {us : List Value} (i : Nat),Vals xs us -> Vals (xs.set i x) (us.set i u)
 | _,_,_,.nil => .nil
 | _,_,0,.cons _ t => .cons r t
 | _,_,i + 1,.cons q t => .cons q (Vals.set r i t)
theorem Vals.append : ∀ {xs ys : List V} {us ws : List Value},Vals xs us -> Vals ys ws -> Vals (xs ++ ys) (us ++ ws)
 | _,_,_,_,.nil,s => s
 | _,_,_,_,.cons r t,s => .cons r (Vals.append t s)
theorem Vals.take : ∀ {xs : List V} {us : List Value} (n : Nat),Vals xs us -> Vals (xs.take n) (us.take n)
 | _,_,0,_ => .nil
 | _,_,_ + 1,.nil => .nil
 | _,_,n + 1,.cons r t => .cons r (Vals.take n t)
theorem Vals.drop : ∀ {xs : List V} {us : List Value} (n : Nat),Vals xs us -> Vals (xs.drop n) (us.drop n)
 | _,_,0,r => r
 | _,_,_ + 1,.nil => .nil
 | _,_,n + 1,.cons _ t => Vals.drop n t
theorem Vals.none_of : ∀ {xs : List V} {us : List Value} {i : Nat},Vals xs us -> xs[i]? = none -> us[i]? = none:=fun {xs us i} r e => by
 have h1:=r.length
 have h2 : xs.length <= i:=List.getElem?_eq_none_iff.mp e
 exact List.getElem?_eq_none_iff.mpr (by omega)
def RelO : Option V -> Option Value -> Prop
 | some v,some u => RelV v u
 | none,none => True
 | _,_ => False
def KV {κ : Type} : List (κ × V) -> List (κ × Value) -> Prop:=Paired fun (p : κ × V) (q : κ × Value) => p.1 = q.1 /\ RelV p.2 q.2
def kV : Key -> V
 | .inl i => .int i
 | .inr x => .str x
inductive HO where
  | lst (xs : List V)
  | tup (xs : List V)
  | dK (kvs : List (Key × V)) | dT (kvs : List (List Key × V))
  | set (S : Int -> Bool) (n : Nat)
  | ins (C dx : Addr) (fs : List (Str × V))
  | own (x : Addr)
  | xd (fs : List (Str × V))
  | met (f x : Addr)
  | rng (lo hi : Int)
  | frz (o : Obj) (u : HO)
  | tbl (ps : Array Value)
  | ext (φ : Heap -> Prop)
abbrev Hp:=Addr -> Option HO
def upd (H : Hp) (a : Addr) (o : HO) : Hp:=fun b => if b = a then some o else H b
theorem ab {H : Hp} {a : Addr} {o : HO} : upd H a o a = some o:=by unfold upd; rw [if_pos rfl]
theorem ae {H : Hp} {a b : Addr} {o : HO} (h : b ≠ a) : upd H a o b = H b:=by unfold upd; rw [if_neg h]
theorem A4 {H : Hp} {a : Addr} {o u : HO} : upd (upd H a o) a u = upd H a u:=by
 funext b; unfold upd; split <;> rfl
theorem aA {H : Hp} {a b : Addr} {o u : HO} (h : H a = some o) (h' : H b = some u) (d : o ≠ u) : a ≠ b:=by
 intro e; subst e; rw [h] at h'; exact d (Option.some.inj h')
theorem ao {H : Hp} {a b : Addr} {o : HO} (h : H a = some o) (h' : H b = none) : a ≠ b:=by
 intro e; subst e; rw [h] at h'; cases h'
section
variable (P : Program) (w : World)
def ObjOk (H : Hp) (h : Heap) (a : Addr) : HO -> Prop
 | .lst xs => xs.length <= sizeLine /\ ∃ (its : List Value) (n : Nat),Vals xs its /\ h.get? a = some { cls:=.type "list",data:=.seq its.toArray n }
 | .tup xs => xs.length <= sizeLine /\ ∃ its : List Value,Vals xs its /\ IsTup h a its.toArray
 | .dK kvs => kvs.length <= sizeLine /\ (a == sysModules) = false /\ ∃ vs,KV kvs vs /\ h.DictOf (aP P w) a vs
 | .dT kvs => kvs.length <= sizeLine /\ (a == sysModules) = false /\ ∃ xs : List (List Key × Addr × Value),
   Paired (fun (p : List Key × V) (q : List Key × Addr × Value) => p.1 = q.1 /\ H q.2.1 = some (.tup (p.1.map kV)) /\ RelV p.2 q.2.2) kvs xs /\
   ∃ o es ep,h.get? a = some o /\ o.ExactDict /\ o.data = .dict es ep /\ es.toList = xs.map (entryOfKey (tupleKind (aP P w))) /\ (xs.map (·.1)).Nodup
 | .set S n => h.SetOf (intKind P w) a S n
 | .ins C dx fs => H dx = some (.own a) /\ fs.length <= 1000 /\ dx ≠ a /\ h.get? a = some (PySem.W.instObj C dx) /\
   ∃ mA,h.Ns1 dx mA /\ (∀ f,RelO (fs.lookup f) (mA f)) /\ PySem.Within mA (fs.map (·.1))
 | .own _ => ∃ o,h.get? a = some o
 | .xd fs => ∃ mA,h.Ns1 a mA /\ ∀ f,RelO (fs.lookup f) (mA f)
 | .rng lo hi => ∃ t u v,h.get? a = some { cls:=.type "range",data:=.fields #[.int lo t,.int hi u,.int 1 v] }
 | .frz o u => h.get? a = some o /\ ObjOk H h a u
 | .tbl ps => h.get? a = some { cls:=.none,data:=.fields ps }
 | .met f x => h.get? a = some (PySem.W.methodObj (.ref f) (.ref x))
 | .ext φ => φ h /\ (∃ o,h.get? a = some o) /\ ∀ h1 h2 : Heap,φ h1 -> (∀ o,h1.get? a = some o -> h2.get? a = some o) -> φ h2
def HOk (H : Hp) (h : Heap) : Prop := ∀ a o,H a = some o -> ObjOk P w H h a o
end
section
variable {P : Program} {w : World} {H H' : Hp} {h h' : Heap} {a : Addr} {o : HO}
theorem ObjOk.lt (x : ObjOk P w H h a o) : a < h.objs.size:=by
 cases o with
 | lst xs => obtain ⟨_,_,_,_,e⟩:=x; exact Heap.lt_size e
 | tup xs => obtain ⟨_,_,_,p⟩:=x; exact p.lt
 | dK kvs => obtain ⟨_,_,_,_,o,_,_,e,_⟩:=x; exact Heap.lt_size e
 | dT kvs => obtain ⟨_,_,_,_,o,_,_,e,_⟩:=x; exact Heap.lt_size e
 | set S n => obtain ⟨o,_,_,_,e,_⟩:=x; exact Heap.lt_size e
 | ins C dx fs => obtain ⟨_,_,_,e,_⟩:=x; exact Heap.lt_size e
 | own y => obtain ⟨_,e⟩:=x; exact Heap.lt_size e
 | xd fs => obtain ⟨_,⟨_,_,_,e,_⟩,_⟩:=x; exact Heap.lt_size e
 | rng lo hi => obtain ⟨_,_,_,e⟩:=x; exact Heap.lt_size e
 | frz ob u => obtain ⟨e,_⟩:=x; exact Heap.lt_size e
 | tbl ps => exact Heap.lt_size (show h.get? a = some _ from x)
 | met f y => exact Heap.lt_size (show h.get? a = some _ from x)
 | ext φ => obtain ⟨_,⟨_,e⟩,_⟩:=x; exact Heap.lt_size e
theorem Paired.mapP {α β : Type} {F G : α -> β -> Prop} : ∀ {l₁ : List α} {l₂ : List β},Paired F l₁ l₂ -> (∀ a b,F a b -> G a b) -> Paired G l₁ l₂
 | _,_,.nil,_ => .nil
 | _,_,.cons r t,f => .cons (f _ _ r) (Paired.mapP t f)
theorem ObjOk.stay (x : ObjOk P w H h a o) (k : ∀ b u,(b = a \/ H b = some (.own a)) -> h.get? b = some u -> h'.get? b = some u)
  (ho : ∀ b,H b = some (.own a) -> H' b = some (.own a)) (ht : ∀ b xs,H b = some (.tup xs) -> H' b = some (.tup xs)) : ObjOk P w H' h' a o:=by
 induction o with
 | lst xs => obtain ⟨z,its,n,r,e⟩:=x; exact ⟨z,its,n,r,k _ _ (.inl rfl) e⟩
 | tup xs => obtain ⟨z,its,r,ob,e,c⟩:=x; exact ⟨z,its,r,ob,k _ _ (.inl rfl) e,c⟩
 | dK kvs => obtain ⟨z,y,vs,r,ob,es,ep,e,c⟩:=x; exact ⟨z,y,vs,r,ob,es,ep,k _ _ (.inl rfl) e,c⟩
 | dT kvs =>
  obtain ⟨z,y,xs,r,ob,es,ep,e,c⟩:=x
  exact ⟨z,y,xs,Paired.mapP r fun p q z => ⟨z.1,ht _ _ z.2.1,z.2.2⟩,ob,es,ep,k _ _ (.inl rfl) e,c⟩
 | set S n => obtain ⟨ob,es,ep,t,e,c⟩:=x; exact ⟨ob,es,ep,t,k _ _ (.inl rfl) e,c⟩
 | ins C dx fs =>
  obtain ⟨d,z,ne,e,mA,⟨od,es,ep,e2,c⟩,r⟩:=x
  exact ⟨ho _ d,z,ne,k _ _ (.inl rfl) e,mA,⟨od,es,ep,k _ _ (.inr d) e2,c⟩,r⟩
 | own y => obtain ⟨ob,e⟩:=x; exact ⟨ob,k _ _ (.inl rfl) e⟩
 | xd fs => obtain ⟨mA,⟨od,es,ep,e,c⟩,r⟩:=x; exact ⟨mA,⟨od,es,ep,k _ _ (.inl rfl) e,c⟩,r⟩
 | rng lo hi => obtain ⟨t,u,v,e⟩:=x; exact ⟨t,u,v,k _ _ (.inl rfl) e⟩
 | frz ob u ih => obtain ⟨e,q⟩:=x; exact ⟨k _ _ (.inl rfl) e,ih q⟩
 | tbl ps =>
  have e : h.get? a = some { cls:=.none,data:=.fields ps }:=x
  show h'.get? a = some { cls:=.none,data:=.fields ps }
  exact k a _ (.inl rfl) e
 | met f y =>
  have e : h.get? a = some (PySem.W.methodObj (.ref f) (.ref y)):=x
  show h'.get? a = some (PySem.W.methodObj (.ref f) (.ref y))
  exact k a _ (.inl rfl) e
 | ext φ => obtain ⟨p,⟨o,e⟩,st⟩:=x; exact ⟨st _ _ p fun o q => k _ _ (.inl rfl) q,⟨o,k _ _ (.inl rfl) e⟩,st⟩
theorem HOk.lt (x : HOk P w H h) (e : H a = some o) : a < h.objs.size:=(x a o e).lt
theorem HOk.fresh (x : HOk P w H h) (e : h.objs.size <= a) : H a = none:=by
 cases q : H a with
 | none => rfl
 | some u => exact absurd (Nat.lt_of_lt_of_le (x.lt q) e) (Nat.lt_irrefl _)
theorem HOk.kept (x : HOk P w H h) (k : ∀ b u,h.get? b = some u -> h'.get? b = some u) : HOk P w H h' := fun a o e =>
 (x a o e).stay (fun b u _ q => k b u q) (fun _ q => q) fun _ _ q => q
theorem HOk.laid (x : HOk P w H h) (k : ∀ b u,h.get? b = some u -> h'.get? b = some u) (hp : h.objs.size <= a) (new : ObjOk P w (upd H a o) h' a o) : HOk P w (upd H a o) h' := fun b u e => by
 have hn:=x.fresh hp
 by_cases hb : b = a
 ·subst hb; rw [ab] at e; cases e; exact new
 ·rw [ae hb] at e
  exact (x b u e).stay (fun c v _ q => k c v q) (fun c q => by rw [ae (ao q hn)]; exact q) fun c xs q => by rw [ae (ao q hn)]; exact q
end
def Rd (H : Hp) (a : Addr) (u : HO) : Prop:=H a = some u \/ ∃ o,H a = some (.frz o u)
theorem Rd.ok {P : Program} {w : World} {H : Hp} {h : Heap} {a : Addr} {u : HO} (r : Rd H a u) (x : HOk P w H h) : ObjOk P w H h a u:=by
 rcases r with r | ⟨o,r⟩
 ·exact x a u r
 ·obtain ⟨_,q⟩:=x a _ r
  exact q
def Mut : Option HO -> Prop
 | some (.lst _) => True
 | some (.dK _) => True
 | some (.dT _) => True
 | some (.set _ _) => True
 | some (.ins _ _ _) => True
 | some (.ext _) => True
 | _ => False
section
variable {P : Program} {w : World} {H : Hp} {h h' : Heap} {x e : Addr} {o' : HO}
theorem HOk.write (ok : HOk P w H h) (mu : Mut (H x)) (he : e = x \/ H e = some (.own x)) (k : ∀ b u,b ≠ e -> h.get? b = some u -> h'.get? b = some u) (heo : ∃ u,h'.get? e = some u)
  (new : ObjOk P w (upd H x o') h' x o') : HOk P w (upd H x o') h' := fun b u q => by
 have nown : ∀ c y,H c = some (.own y) -> c ≠ x:=fun c y r z => by subst z; rw [r] at mu; exact mu
 have ntup : ∀ c xs,H c = some (.tup xs) -> c ≠ x:=fun c xs r z => by subst z; rw [r] at mu; exact mu
 by_cases hb : b = x
 ·subst hb; rw [ab] at q; cases q; exact new
 ·rw [ae hb] at q
  by_cases hbe : b = e
  ·have q' : H b = some (.own x):=by
    rcases he with z | z
    ·exact absurd (hbe.trans z) hb
    ·rw [hbe]; exact z
   rw [q] at q'; cases q'
   obtain ⟨v,hv⟩:=heo
   exact ⟨v,by rw [hbe]; exact hv⟩
  ·refine (ok b u q).stay (fun c v hc r => k c v ?_ r) (fun c r => by rw [ae (nown c b r)]; exact r) fun c xs r => by rw [ae (ntup c xs r)]; exact r
   rcases hc with rfl | hc
   ·exact hbe
   ·rintro rfl
    rcases he with z | z
    ·exact nown c b hc z
    ·rw [hc] at z; cases z; exact hb rfl
end
structure Un (fs ex : List Addr) (H H' : Hp) (h h' : Heap) : Prop where
 keep : ∀ b o,h.get? b = some o -> H b = none -> b ∉ fs -> b ∉ ex -> h'.get? b = some o
 slot : ∀ b o,h.get? b = some o -> H b = none -> b ∈ fs -> b ∉ ex -> ∃ sl,h'.get? b = some { o with slots:=sl }
 free : ∀ b o,h.get? b = some o -> H b = none -> b ∉ ex -> H' b = none
 there : ∀ b o,h.get? b = some o -> b ∉ ex -> ∃ o',h'.get? b = some o'
 tups : ∀ b xs,H b = some (.tup xs) -> H' b = some (.tup xs)
 frzs : ∀ b o u,H b = some (.frz o u) -> H' b = some (.frz o u)
 tbls : ∀ b ps,H b = some (.tbl ps) -> ∃ more,H' b = some (.tbl (ps ++ more))
section
variable {fs fs' ex ex' : List Addr} {H H1 H2 : Hp} {h h1 h2 h' : Heap} {a x e : Addr} {o : HO}
theorem Un.any (u : Un fs ex H H1 h h1) {b : Addr} {ob : Obj} (q : h.get? b = some ob) (n : H b = none) (hx : b ∉ ex) : ∃ sl,h1.get? b = some { ob with slots:=sl }:=by
 by_cases hb : b ∈ fs
 ·exact u.slot b ob q n hb hx
 ·exact ⟨ob.slots,u.keep b ob q n hb hx⟩
theorem Un.kept (k : ∀ b u,h.get? b = some u -> h'.get? b = some u) : Un fs ex H H h h' :=
 ⟨fun b ob q _ _ _ => k b ob q,fun b ob q _ _ _ => ⟨ob.slots,k b ob q⟩,fun _ _ _ n _ => n,fun b ob q _ => ⟨ob,k b ob q⟩,fun _ _ q => q,fun _ _ _ q => q,fun _ ps q => ⟨#[],by rw [q]; simp⟩⟩
theorem Un.refl : Un fs ex H H h h:=Un.kept fun _ _ q => q
theorem Un.laid (k : ∀ b u,h.get? b = some u -> h'.get? b = some u) (hp : h.objs.size <= a) (hn : H a = none) : Un fs ex H (upd H a o) h h' where
 keep:=fun b u q _ _ _ => k b u q
 slot:=fun b u q _ _ _ => ⟨u.slots,k b u q⟩
 free:=fun b u q n _ => by rw [ae (Nat.ne_of_lt (Nat.lt_of_lt_of_le (Heap.lt_size q) hp))]; exact n
 there:=fun b u q _ => ⟨u,k b u q⟩
 tups:=fun b xs q => by rw [ae (ao q hn)]; exact q
 frzs:=fun b u xs q => by rw [ae (ao q hn)]; exact q
 tbls:=fun b ps q => ⟨#[],by rw [ae (ao q hn),q]; simp⟩
theorem Un.write (mu : Mut (H x)) (he : e = x \/ H e = some (.own x)) (k : ∀ b u,b ≠ e -> h.get? b = some u -> h'.get? b = some u) (heo : ∃ u,h'.get? e = some u) : Un fs ex H (upd H x o) h h' := by
 have hx : ∀ b,H b = none -> b ≠ x:=fun b n z => by subst z; rw [n] at mu; exact mu
 have hb : ∀ b,H b = none -> b ≠ e:=fun b n z => by
  subst z
  rcases he with r | r
  ·exact hx b n r
  ·rw [n] at r; cases r
 have hm : ∀ b u,H b = some u -> ¬ Mut (some u) -> b ≠ x:=fun b u q nm z => by subst z; rw [q] at mu; exact nm mu
 refine ⟨fun b u q n _ _ => k b u (hb b n) q,fun b u q n _ _ => ⟨u.slots,k b u (hb b n) q⟩,fun b u q n _ => by rw [ae (hx b n)]; exact n,fun b u q _ => ?_,
  fun b xs q => by rw [ae (hm b _ q fun z => z)]; exact q,fun b u xs q => by rw [ae (hm b _ q fun z => z)]; exact q,fun b ps q => ⟨#[],by rw [ae (hm b _ q fun z => z),q]; simp⟩⟩
 by_cases hbe : b = e
 ·subst hbe; exact heo
 ·exact ⟨u,k b u hbe q⟩
end
def trk (h : Heap) (H : Hp) : List Addr:=(List.range h.objs.size).filter fun a => (H a).isSome
def we (h : Heap) (H : Hp) : Heap:=PySem.W.hideAll h (trk h H)
theorem Bv (h : Heap) (H : Hp) : (we h H).objs.size = h.objs.size:=PySem.W.hideAll_size _ _
theorem CP {h : Heap} {H : Hp} {b : Addr} {o : Obj} (e : h.get? b = some o) (n : H b = none) : (we h H).get? b = some o:=
 PySem.W.hideAll_get _ e fun hm => by
  have q : (H b).isSome = true:=(List.mem_filter.mp hm).2
  rw [n] at q; simp at q
theorem EY {h : Heap} {H : Hp} {b : Addr} {o : Obj} (e : (we h H).get? b = some o) : h.get? b = some o /\ H b = none:=by
 have e' : h.get? b = some o:=PySem.W.of_hideAll (trk h H) e
 refine ⟨e',?_⟩
 cases q : H b with
 | none => rfl
 | some x =>
  have hm : b ∈ trk h H:=List.mem_filter.mpr ⟨List.mem_range.mpr (Heap.lt_size e'),by simp [q]⟩
  have z : (we h H).get? b = none:=PySem.W.hideAll_none (trk h H) hm
  rw [z] at e; cases e
def Et (g h : Heap) (L : Addr) : List (Addr × Obj):=(List.range h.objs.size).filterMap fun a => if a = L \/ (g.get? a).isSome = true then none else (h.get? a).map fun o => (a,o)
def rest (g h : Heap) (L d : Addr) : List (Addr × Obj):=(Et g h L).filter fun p => decide (p.1 ≠ d)
end L2
namespace L2
open PySem PySem.Spec PyProof.Rows
structure Mod (K : PySem.W.Frag) (mg : Str -> Option Value) (base : Heap) : Prop where
 kin : K.In base
 glob : base.Ns mainGlobals mg
 blt : ∃ mb,base.Ns builtinsNs mb /\ ∀ x : Str,x ≠ "__name__" -> mb x = bootBuiltins x
 nolimit : base.NoLimit
structure Cx where
 prog : Program
 w : World
 K : PySem.W.Frag
 mg : Str -> Option Value
 base : Heap
 A : Around
 N : List Str
 s₀ : Shared
 H₀ : Hp
 env : Env
 outer : List Env
 stack : List Env
 ex : List Addr
 fn : Str -> Bool
 calm : Bool
 pn : List (Addr × Obj)
 xe : Value -> Shared -> Prop
def frs (l : List Env) : List Addr:=l.filterMap (·.frame)
abbrev Cx.fs (X : Cx) : List Addr:=frs X.outer
def Vis (sc : Scope) (x : Str) : Prop:=sc.names.lookup x = some .local \/ sc.names.lookup x = some .cell \/ sc.names.lookup x = some .free
def Loc (sc : Scope) (x : Str) : Prop:=sc.names.lookup x = some .local \/ sc.names.lookup x = some .cell
def Look (env : Env) (h : Heap) (m : Str -> Option Value) (x : Str) (u : Value) : Prop:=
 (env.kindOf x = some .local /\ m x = some u) \/ ((env.kindOf x = some .cell \/ env.kindOf x = some .free) /\ ∃ c,env.cells.lookup x = some c /\ h.IsCell c (some u))
structure Cx.Ok (X : Cx) : Prop where
 mod : Mod X.K X.mg X.base
 kind : X.env.scope.kind = .function
 glob : X.env.globals = mainGlobals
 blt : X.env.builtins = builtinsNs
 above : X.s₀.heap.objs.size <= X.env.locals
 inj : ∀ x y c,X.env.cells.lookup x = some c -> X.env.cells.lookup y = some c -> x = y
 has : ∀ x,(X.env.kindOf x = some .cell \/ X.env.kindOf x = some .free) -> ∃ c,X.env.cells.lookup x = some c
 cab : ∀ x c,X.fn x = true -> X.env.cells.lookup x = some c -> X.s₀.heap.objs.size <= c
 hd : X.calm = true -> X.A.handled = none
 frames : X.A.frames = some X.stack
 stk : X.stack = X.outer \/ (X.stack = X.env :: X.outer /\ X.env.frame = some X.env.locals)
 exf : ∀ b ∈ X.ex,b ≠ X.env.locals /\ ∀ x c,X.env.cells.lookup x = some c -> c ≠ b
 bs : ∀ b o,X.base.get? b = some o -> X.s₀.heap.get? b = some o /\ X.H₀ b = none
 bsz : X.base.objs.size <= X.s₀.heap.objs.size
 noex : ∀ b o,X.base.get? b = some o -> b ∉ X.ex
 exfs : ∀ b ∈ X.ex,b ∉ X.fs
 funs : X.s₀.heap.FunFrames X.base X.outer
 frf : ∀ b ∈ X.fs,X.H₀ b = none
structure Inv (X : Cx) (pins : List (Addr × Obj)) (σ : List (Option V)) (H : Hp) (s : Shared) : Prop where
 ok : X.Ok
 os : s.os = X.s₀.os
 bare : AllBare s.gens
 base : Un X.fs X.ex X.H₀ H X.s₀.heap s.heap
 loc : ∃ m,s.heap.Ns X.env.locals m /\ ∀ (i : Nat) (x : Str) (v : V),X.N[i]? = some x -> σ[i]? = some (some v) -> Vis X.env.scope x -> ∃ u,RelV v u /\ Look X.env s.heap m x u
 cell : ∀ x c,X.env.cells.lookup x = some c -> ∃ v,s.heap.IsCell c v
 free : H X.env.locals = none
 freeC : ∀ x c,X.env.cells.lookup x = some c -> H c = none
 pin : ∀ p ∈ X.pn ++ pins,s.heap.get? p.1 = some p.2 /\ H p.1 = none /\ p.1 ≠ X.env.locals /\ p.1 ∉ X.fs /\ ∀ v,p.2.data ≠ .cell v
 hok : HOk X.prog X.w H s.heap
 len : σ.length = X.N.length
section
variable {X : Cx} {pins : List (Addr × Obj)} {σ : List (Option V)} {H H' : Hp} {s : Shared} {h' : Heap}
theorem Cx.Ok.nofr (ok : X.Ok) {b : Addr} {o : Obj} (e : X.base.get? b = some o) : b ∉ X.fs:=fun hb => by
 have:=(ok.funs.mem hb).1
 rw [e] at this; cases this
theorem Inv.bs (I : Inv X pins σ H s) : ∀ b o,X.base.get? b = some o -> s.heap.get? b = some o /\ H b = none:=fun b o e =>
 ⟨I.base.keep b o (I.ok.bs b o e).1 (I.ok.bs b o e).2 (I.ok.nofr e) (I.ok.noex b o e),I.base.free b o (I.ok.bs b o e).1 (I.ok.bs b o e).2 (I.ok.noex b o e)⟩
theorem Inv.bk (I : Inv X pins σ H s) : ∀ b o,X.base.get? b = some o -> s.heap.get? b = some o:=fun b o e => (I.bs b o e).1
theorem Inv.mod (I : Inv X pins σ H s) : Mod X.K X.mg X.base:=I.ok.mod
theorem Inv.kIn (I : Inv X pins σ H s) : X.K.In s.heap:=I.ok.mod.kin.keeps I.bk
theorem Inv.lt (I : Inv X pins σ H s) : X.env.locals < s.heap.objs.size:=let ⟨_,hn,_⟩:=I.loc; hn.lt
theorem Inv.sz (I : Inv X pins σ H s) : X.s₀.heap.objs.size <= s.heap.objs.size:=Nat.le_trans I.ok.above (Nat.le_of_lt I.lt)
theorem Inv.nofs (I : Inv X pins σ H s) {a : Addr} (h : s.heap.objs.size <= a) : a ∉ X.fs:=fun hb => by
 obtain ⟨_,o,ho,_⟩:=I.ok.funs.mem hb
 exact absurd (Nat.lt_of_lt_of_le (Heap.lt_size ho) (Nat.le_trans I.sz h)) (Nat.lt_irrefl _)
theorem Inv.cne (I : Inv X pins σ H s) : ∀ x c,X.env.cells.lookup x = some c -> c ≠ X.env.locals:=fun x c e z => by
 obtain ⟨v,o,ho,hd⟩:=I.cell x c e
 obtain ⟨m,⟨o',es,ep,ho',hd',_⟩,_⟩:=I.loc
 rw [z,ho'] at ho; cases ho; rw [hd'] at hd; cases hd
theorem Inv.funs (I : Inv X pins σ H s) : s.heap.FunFrames X.base X.outer:=by
 have all : ∀ (l : List Env),(∀ b ∈ frs l,b ∈ X.fs) -> X.s₀.heap.FunFrames X.base l -> s.heap.FunFrames X.base l:=by
  intro l
  induction l with
  | nil => intro _ _; trivial
  | cons env r ih =>
   intro hs hl
   obtain ⟨hk,⟨L,o,hf,hn,ho,hd⟩,hr⟩:=hl
   have hL : L ∈ X.fs:=hs L (by unfold frs; rw [List.filterMap_cons,hf]; exact List.mem_cons_self)
   obtain ⟨sl,e⟩:=I.base.slot L o ho (I.ok.frf L hL) hL fun z => I.ok.exfs L z hL
   exact ⟨hk,⟨L,_,hf,hn,e,hd⟩,ih (fun b hb => hs b (by unfold frs; rw [List.filterMap_cons,hf]; exact List.mem_cons_of_mem _ hb)) hr⟩
 exact all X.outer (fun _ hb => hb) I.ok.funs
theorem Inv.stack (I : Inv X pins σ H s) : s.heap.FunFrames X.base X.stack:=by
 rcases I.ok.stk with e | ⟨e,hf⟩
 ·rw [e]; exact I.funs
 ·rw [e]
  obtain ⟨m,hn,_⟩:=I.loc
  refine .cons (by rw [I.ok.kind]; decide) hf hn ?_ I.funs
  exact Heap.get?_none_of_le (Nat.le_trans I.ok.bsz I.ok.above)
theorem Inv.stkSub (I : Inv X pins σ H s) : ∀ b ∈ frs X.stack,b ∈ X.env.locals :: X.fs:=fun b hb => by
 rcases I.ok.stk with e | ⟨e,hf⟩
 ·rw [e] at hb; exact List.mem_cons_of_mem _ hb
 ·rw [e] at hb
  unfold frs at hb
  rw [List.filterMap_cons,hf] at hb
  exact hb
theorem Inv.stkFree (I : Inv X pins σ H s) : ∀ b ∈ frs X.stack,H b = none:=fun b hb => by
 rcases List.mem_cons.mp (I.stkSub b hb) with e | hb
 ·rw [e]; exact I.free
 ·obtain ⟨_,o,ho,_⟩:=I.ok.funs.mem hb
  exact I.base.free b o ho (I.ok.frf b hb) fun z => I.ok.exfs b z hb
theorem Inv.step {g' : Array GenState} {t' : Nat} {d' : Drawn} {ch : List Addr} (I : Inv X pins σ H s)
  (hch : ∀ b ∈ ch,(b ∈ X.ex \/ X.s₀.heap.objs.size <= b) /\ b ≠ X.env.locals /\ (∀ x c,X.env.cells.lookup x = some c -> c ≠ b) /\ ∀ p ∈ X.pn ++ pins,p.1 ≠ b)
  (keep : ∀ b o,b ≠ X.env.locals -> b ∉ X.fs -> b ∉ ch -> s.heap.get? b = some o -> H b = none -> h'.get? b = some o)
  (slot : ∀ b o,b ≠ X.env.locals -> b ∈ X.fs -> b ∉ ch -> s.heap.get? b = some o -> H b = none -> ∃ sl,h'.get? b = some { o with slots:=sl }) (free : ∀ b o,b ∉ ch -> s.heap.get? b = some o -> H b = none -> H' b = none)
  (there : ∀ b o,b ∉ ch -> s.heap.get? b = some o -> ∃ o',h'.get? b = some o')
  (tups : ∀ b xs,H b = some (.tup xs) -> H' b = some (.tup xs)) (frzs : ∀ b o u,H b = some (.frz o u) -> H' b = some (.frz o u)) (tbls : ∀ b ps,H b = some (.tbl ps) -> ∃ more,H' b = some (.tbl (ps ++ more)))
  (ns : ∀ m,s.heap.Ns X.env.locals m -> h'.Ns X.env.locals m) (hok : HOk X.prog X.w H' h') (hg : AllBare g') :
  Inv X pins σ H' { s with heap:=h',gens:=g',drawn:=d',toks:=t' }:=by
 have neL : ∀ b o,X.s₀.heap.get? b = some o -> b ≠ X.env.locals:=fun b o e => Nat.ne_of_lt (Nat.lt_of_lt_of_le (Heap.lt_size e) I.ok.above)
 have neC : ∀ b o,X.s₀.heap.get? b = some o -> b ∉ X.ex -> b ∉ ch:=fun b o e hx hb => by
  rcases (hch b hb).1 with z | z
  ·exact hx z
  ·exact absurd (Nat.lt_of_lt_of_le (Heap.lt_size e) z) (Nat.lt_irrefl _)
 have cellK : ∀ x c,X.env.cells.lookup x = some c -> ∀ v,s.heap.IsCell c v -> h'.IsCell c v:=fun x c e v ⟨o,ho,hd⟩ => by
  have nch : c ∉ ch:=fun z => (hch c z).2.2.1 x c e rfl
  by_cases hc : c ∈ X.fs
  ·obtain ⟨sl,q⟩:=slot c o (I.cne x c e) hc nch ho (I.freeC x c e)
   exact ⟨_,q,hd⟩
  ·exact ⟨o,keep c o (I.cne x c e) hc nch ho (I.freeC x c e),hd⟩
 refine ⟨I.ok,I.os,hg,⟨fun b o e n hb hx => ?_,fun b o e n hb hx => ?_,fun b o e n hx => ?_,fun b o e hx => ?_,fun b xs e => tups b xs (I.base.tups b xs e),fun b o xs e => frzs b o xs (I.base.frzs b o xs e),fun b ps e => ?_⟩,?_,fun x c e => ?_,?_,fun x c e => ?_,fun p hp => ?_,hok,I.len⟩
 ·exact keep b o (neL b o e) hb (neC b o e hx) (I.base.keep b o e n hb hx) (I.base.free b o e n hx)
 ·obtain ⟨sl,e1⟩:=I.base.slot b o e n hb hx
  obtain ⟨sl',e2⟩:=slot b _ (neL b o e) hb (neC b o e hx) e1 (I.base.free b o e n hx)
  exact ⟨sl',e2⟩
 ·obtain ⟨o',e1⟩:=I.base.there b o e hx
  exact free b o' (neC b o e hx) e1 (I.base.free b o e n hx)
 ·obtain ⟨o',e1⟩:=I.base.there b o e hx
  exact there b o' (neC b o e hx) e1
 ·obtain ⟨m1,e1⟩:=I.base.tbls b ps e
  obtain ⟨m2,e2⟩:=tbls b _ e1
  exact ⟨m1 ++ m2,by rw [e2,Array.append_assoc]⟩
 ·obtain ⟨m,hn,hl⟩:=I.loc
  refine ⟨m,ns m hn,fun i x v e1 e2 e3 => ?_⟩
  obtain ⟨u,r,l⟩:=hl i x v e1 e2 e3
  refine ⟨u,r,?_⟩
  rcases l with l | ⟨k,c,e,z⟩
  ·exact .inl l
  ·exact .inr ⟨k,c,e,cellK x c e _ z⟩
 ·obtain ⟨v,z⟩:=I.cell x c e
  exact ⟨v,cellK x c e v z⟩
 ·obtain ⟨m,⟨o,_,_,ho,_⟩,_⟩:=I.loc
  exact free _ o (fun z => (hch _ z).2.1 rfl) ho I.free
 ·obtain ⟨v,o,ho,hd⟩:=I.cell x c e
  exact free c o (fun z => (hch c z).2.2.1 x c e rfl) ho (I.freeC x c e)
 ·obtain ⟨e,n,ne,nf,d⟩:=I.pin p hp
  have nch : p.1 ∉ ch:=fun z => (hch p.1 z).2.2.2 p hp rfl
  exact ⟨keep p.1 p.2 ne nf nch e n,free p.1 p.2 nch e n,ne,nf,d⟩
theorem Inv.un {t' : Nat} (I : Inv X pins σ H s) (u : Un X.fs [] H H' s.heap h') (hok : HOk X.prog X.w H' h') : Inv X pins σ H' { s with heap:=h',toks:=t' }:=by
 obtain ⟨m,⟨o,es,ep,ho,r⟩,_⟩:=id I.loc
 obtain ⟨sl,hL⟩:=u.any ho I.free (by simp)
 exact I.step (g' := s.gens) (d' := s.drawn) (ch:=[]) (fun _ z => nomatch z) (fun b o _ hb _ e n => u.keep b o e n hb (by simp)) (fun b o _ hb _ e n => u.slot b o e n hb (by simp)) (fun b o _ e n => u.free b o e n (by simp)) (fun b o _ e => u.there b o e (by simp)) u.tups u.frzs u.tbls (fun m' hm => by
  obtain ⟨o',es',ep',ho',r'⟩:=hm
  rw [ho] at ho'; cases ho'
  exact ⟨_,es',ep',hL,r'⟩) hok I.bare
theorem Inv.call {g' : Array GenState} {t' : Nat} {d' : Drawn} {ch : List Addr} (I : Inv X pins σ H s) (u : Un (frs X.stack) ch H H' s.heap h') (hok : HOk X.prog X.w H' h') (hg : AllBare g')
  (hch : ∀ b ∈ ch,(b ∈ X.ex \/ X.s₀.heap.objs.size <= b) /\ b ≠ X.env.locals /\ (∀ x c,X.env.cells.lookup x = some c -> c ≠ b) /\ ∀ p ∈ X.pn ++ pins,p.1 ≠ b) :
  Inv X pins σ H' { s with heap:=h',gens:=g',drawn:=d',toks:=t' }:=by
 obtain ⟨m,⟨o,es,ep,ho,r⟩,_⟩:=id I.loc
 obtain ⟨sl,hL⟩:=u.any ho I.free fun z => (hch _ z).2.1 rfl
 exact I.step (ch:=ch) hch (fun b o hL hb hc e n => u.keep b o e n (fun z => (List.mem_cons.mp (I.stkSub b z)).elim hL hb) hc) (fun b o _ _ hc e n => u.any e n hc) (fun b o hc e n => u.free b o e n hc) (fun b o hc e => u.there b o e hc) u.tups u.frzs u.tbls (fun m' hm => by
  obtain ⟨o',es',ep',ho',r'⟩:=hm
  rw [ho] at ho'; cases ho'
  exact ⟨_,es',ep',hL,r'⟩) hok hg
theorem Inv.turned {t' : Nat} {it : Addr} (I : Inv X pins σ H s) (k : ∀ b o,b ≠ it -> s.heap.get? b = some o -> h'.get? b = some o) (hn : H it = none) (hL : it ≠ X.env.locals)
  (h1 : it ∈ X.ex \/ X.s₀.heap.objs.size <= it) (h2 : ∀ x c,X.env.cells.lookup x = some c -> c ≠ it) (h3 : ∀ p ∈ X.pn ++ pins,p.1 ≠ it) : Inv X pins σ H { s with heap:=h',toks:=t' }:=by
 have nit : ∀ b u,H b = some u -> b ≠ it:=fun b u e z => by rw [z,hn] at e; cases e
 refine I.step (g' := s.gens) (d' := s.drawn) (ch:=[it]) (fun b hb => ?_) (fun b o _ _ hc e _ => k b o (fun z => hc (by simp [z])) e) (fun b o _ _ hc e _ => ⟨o.slots,k b o (fun z => hc (by simp [z])) e⟩) (fun _ _ _ _ n => n)
  (fun b o hc e => ⟨o,k b o (fun z => hc (by simp [z])) e⟩) (fun _ _ e => e) (fun _ _ _ e => e) (fun b ps e => ⟨#[],by rw [e]; simp⟩) (fun m hm => ?_) (fun b u e => ?_) I.bare
 ·have e : b = it:=by simpa using hb
  subst e
  exact ⟨h1,hL,h2,h3⟩
 ·obtain ⟨o,es,ep,ho,r⟩:=hm
  exact ⟨o,es,ep,k _ o (Ne.symm hL) ho,r⟩
 ·refine (I.hok b u e).stay (fun c v hc q => k c v ?_ q) (fun _ q => q) fun _ _ q => q
  rcases hc with z | z
  ·rw [z]; exact nit b u e
  ·exact nit c _ z
theorem Inv.tok (I : Inv X pins σ H s) (t : Nat) : Inv X pins σ H { s with toks:=t }:=I.un (h' := s.heap) (t' := t) Un.refl I.hok
theorem Inv.kept {t' : Nat} (I : Inv X pins σ H s) (k : ∀ b u,s.heap.get? b = some u -> h'.get? b = some u) : Inv X pins σ H { s with heap:=h',toks:=t' }:=I.un (Un.kept k) (I.hok.kept k)
theorem Inv.laid {a : Addr} {o : HO} {t' : Nat} (I : Inv X pins σ H s) (k : ∀ b u,s.heap.get? b = some u -> h'.get? b = some u) (hp : s.heap.objs.size <= a) (new : ObjOk X.prog X.w (upd H a o) h' a o) :
  Inv X pins σ (upd H a o) { s with heap:=h',toks:=t' }:=I.un (Un.laid k hp (I.hok.fresh hp)) (I.hok.laid k hp new)
theorem Inv.write {x e : Addr} {o : HO} {t' : Nat} (I : Inv X pins σ H s) (mu : Mut (H x)) (he : e = x \/ H e = some (.own x)) (k : ∀ b u,b ≠ e -> s.heap.get? b = some u -> h'.get? b = some u) (heo : ∃ u,h'.get? e = some u)
  (new : ObjOk X.prog X.w (upd H x o) h' x o) : Inv X pins σ (upd H x o) { s with heap:=h',toks:=t' }:=I.un (Un.write mu he k heo) (I.hok.write mu he k heo new)
theorem Inv.pins_of {pins' : List (Addr × Obj)} (I : Inv X pins σ H s) (h : ∀ p ∈ pins',s.heap.get? p.1 = some p.2 /\ H p.1 = none /\ p.1 ≠ X.env.locals /\ p.1 ∉ X.fs /\ ∀ v,p.2.data ≠ .cell v) : Inv X pins' σ H s:=
 ⟨I.ok,I.os,I.bare,I.base,I.loc,I.cell,I.free,I.freeC,fun p hp => (List.mem_append.mp hp).elim (fun z => I.pin p (List.mem_append_left _ z)) (h p),I.hok,I.len⟩
theorem yj {N : List Str} (hN : N.Nodup) {i j : Nat} {x : Str} (a : N[i]? = some x) (b : N[j]? = some x) : i = j:=by
 obtain ⟨h1,e1⟩:=List.getElem?_eq_some_iff.mp a
 obtain ⟨h2,e2⟩:=List.getElem?_eq_some_iff.mp b
 exact (List.getElem_inj hN).mp (e1.trans e2.symm)
theorem vD {M : Model} {A : Around} {E : Value -> Shared -> Prop} {i : Nat} {x : Str} {v : V} {u : Value} {Q : Unit -> Shared -> Prop} (I : Inv X pins σ H s) (hN : X.N.Nodup) (hi : X.N[i]? = some x) (hx : Loc X.env.scope x) (r : RelV v u)
  (h : ∀ s',Inv X pins (σ.set i (some v)) H s' -> (∃ a,Heap.SameBut a s.heap s'.heap /\ (a = X.env.locals \/ X.env.cells.lookup x = some a)) -> Q () s') (hf : X.fn x = true \/ X.env.scope.names.lookup x = some .local:=by first | exact .inl rfl | exact .inr rfl | assumption) : wpAny M A (storeName X.env x u) Q E s:=by
 obtain ⟨m,hn,hl⟩:=id I.loc
 have hcls : (X.env.scope.kind == .class || (X.env.scope.kind == .module && X.env.locals != X.env.globals)) = false:=by rw [I.ok.kind]; rfl
 have hiσ : i < σ.length:=by rw [I.len]; exact (List.getElem?_eq_some_iff.mp hi).1
 have cne:=I.cne
 have tracked : ∀ {a : Addr} {h' : Heap},(∃ o,s.heap.get? a = some o /\ H a = none) -> Heap.SameBut a s.heap h' -> HOk X.prog X.w H h' := fun {a h'} ha hs b ob e => by
  obtain ⟨_,_,hfree⟩:=ha
  refine (I.hok b ob e).stay (fun c w' hc q => (hs.2 c ?_).trans q) (fun _ q => q) fun _ _ q => q
  rintro rfl
  rcases hc with rfl | hc
  ·rw [hfree] at e; cases e
  ·rw [hfree] at hc; cases hc
 rcases hx with hk | hk
 ·refine wpAny_storeName_local hk hn (fun h' hn' hs => ?_) hcls
  obtain ⟨oL,_,_,hoL,_⟩:=id hn
  refine h _ ⟨I.ok,I.os,I.bare,⟨fun b o e n hb hx => ?_,fun b o e n hb hx => ?_,I.base.free,fun b o e hx => ?_,I.base.tups,I.base.frzs,I.base.tbls⟩,⟨_,hn',fun j y v' e1 e2 e3 => ?_⟩,fun y c e => ?_,I.free,I.freeC,fun p hp => ?_,tracked ⟨oL,hoL,I.free⟩ hs,by simpa using I.len⟩ ⟨_,hs,.inl rfl⟩
  ·exact (hs.2 b (Nat.ne_of_lt (Nat.lt_of_lt_of_le (Heap.lt_size e) I.ok.above))).trans (I.base.keep b o e n hb hx)
  ·obtain ⟨sl,e1⟩:=I.base.slot b o e n hb hx
   exact ⟨sl,(hs.2 b (Nat.ne_of_lt (Nat.lt_of_lt_of_le (Heap.lt_size e) I.ok.above))).trans e1⟩
  ·obtain ⟨o',e1⟩:=I.base.there b o e hx
   exact ⟨o',(hs.2 b (Nat.ne_of_lt (Nat.lt_of_lt_of_le (Heap.lt_size e) I.ok.above))).trans e1⟩
  ·by_cases hj : j = i
   ·subst hj
    rw [hi] at e1; cases e1
    rw [List.getElem?_set_self hiσ] at e2
    cases e2
    exact ⟨u,r,.inl ⟨hk,by simp⟩⟩
   ·rw [List.getElem?_set_ne (Ne.symm hj)] at e2
    obtain ⟨u',r',q⟩:=hl j y v' e1 e2 e3
    refine ⟨u',r',?_⟩
    rcases q with ⟨k,e⟩ | ⟨k,c,e,z⟩
    ·refine .inl ⟨k,?_⟩
     have : y ≠ x:=fun e => hj (yj hN e1 (e ▸ hi))
     simp [this,e]
    ·exact .inr ⟨k,c,e,z.sameBut hs (cne y c e)⟩
  ·obtain ⟨w',z⟩:=I.cell y c e
   exact ⟨w',z.sameBut hs (cne y c e)⟩
  ·obtain ⟨e,n,ne,nf,d⟩:=I.pin p hp
   exact ⟨(hs.2 p.1 ne).trans e,n,ne,nf,d⟩
 ·have hfn : X.fn x = true:=by
   rcases hf with z | z
   ·exact z
   ·rw [z] at hk; cases hk
  obtain ⟨c,hc⟩:=I.ok.has x (.inl hk)
  obtain ⟨w',z⟩:=I.cell x c hc
  refine wpAny_storeName_cell I.ok.kind hk hc z (fun h' hc' hs => ?_)
  obtain ⟨oc,hoc,hocd⟩:=id z
  refine h { s with heap:=h' } ⟨I.ok,I.os,I.bare,⟨fun b o e n hb hx => ?_,fun b o e n hb hx => ?_,I.base.free,fun b o e hx => ?_,I.base.tups,I.base.frzs,I.base.tbls⟩,⟨m,hn.sameBut hs (Ne.symm (cne x c hc)),fun j y v' e1 e2 e3 => ?_⟩,fun y c' e => ?_,I.free,I.freeC,fun p hp => ?_,tracked ⟨oc,hoc,I.freeC x c hc⟩ hs,by simpa using I.len⟩ ⟨c,hs,.inr hc⟩
  ·exact (hs.2 b (Nat.ne_of_lt (Nat.lt_of_lt_of_le (Heap.lt_size e) (I.ok.cab x c hfn hc)))).trans (I.base.keep b o e n hb hx)
  ·obtain ⟨sl,e1⟩:=I.base.slot b o e n hb hx
   exact ⟨sl,(hs.2 b (Nat.ne_of_lt (Nat.lt_of_lt_of_le (Heap.lt_size e) (I.ok.cab x c hfn hc)))).trans e1⟩
  ·obtain ⟨o',e1⟩:=I.base.there b o e hx
   exact ⟨o',(hs.2 b (Nat.ne_of_lt (Nat.lt_of_lt_of_le (Heap.lt_size e) (I.ok.cab x c hfn hc)))).trans e1⟩
  ·by_cases hj : j = i
   ·subst hj
    rw [hi] at e1; cases e1
    rw [List.getElem?_set_self hiσ] at e2
    cases e2
    exact ⟨u,r,.inr ⟨.inl hk,c,hc,hc'⟩⟩
   ·rw [List.getElem?_set_ne (Ne.symm hj)] at e2
    obtain ⟨u',r',q⟩:=hl j y v' e1 e2 e3
    refine ⟨u',r',?_⟩
    rcases q with q | ⟨k,c',e,z'⟩
    ·exact .inl q
    ·refine .inr ⟨k,c',e,z'.sameBut hs ?_⟩
     rintro rfl
     exact hj (yj hN e1 (I.ok.inj _ _ _ e hc ▸ hi))
  ·by_cases hcc : c' = c
   ·subst hcc; exact ⟨_,hc'⟩
   ·obtain ⟨w2,z2⟩:=I.cell y c' e
    exact ⟨w2,z2.sameBut hs hcc⟩
  ·obtain ⟨e,n,ne,nf,d⟩:=I.pin p hp
   refine ⟨(hs.2 p.1 ?_).trans e,n,ne,nf,d⟩
   intro q
   rw [q,hoc] at e
   have q' : oc = p.2:=Option.some.inj e
   exact d w' (by rw [<- q']; exact hocd)
theorem yH {M : Model} {A : Around} {E : Value -> Shared -> Prop} {i : Nat} {x : Str} {v : V} {u : Value} {Q : Unit -> Shared -> Prop} (I : Inv X pins σ H s) (hN : X.N.Nodup) (hi : X.N[i]? = some x) (hx : Loc X.env.scope x) (r : RelV v u)
  (h : ∀ s',Inv X pins (σ.set i (some v)) H s' -> Q () s') (hf : X.fn x = true \/ X.env.scope.names.lookup x = some .local:=by first | exact .inl rfl | exact .inr rfl | assumption) : wpAny M A (storeName X.env x u) Q E s:=
 vD I hN hi hx r (fun s' I' _ => h s' I') hf
theorem Inv.call' {s' : Shared} {ch : List Addr} (I : Inv X pins σ H s) (ho : s'.os = s.os) (u : Un (frs X.stack) ch H H' s.heap s'.heap) (hok : HOk X.prog X.w H' s'.heap) (hg : AllBare s'.gens)
  (hch : ∀ b ∈ ch,(b ∈ X.ex \/ X.s₀.heap.objs.size <= b) /\ b ≠ X.env.locals /\ (∀ x c,X.env.cells.lookup x = some c -> c ≠ b) /\ ∀ p ∈ X.pn ++ pins,p.1 ≠ b) : Inv X pins σ H' s' := by
 obtain ⟨h',g',d',t',o'⟩:=s'
 have e : o' = s.os:=ho
 subst e
 exact I.call (g' := g') (t' := t') (d' := d') u hok hg hch
end
abbrev XK:=Value -> Option Addr -> Hp -> Prop
abbrev St:=List (Option V)
abbrev VK:=V -> Hp -> Prop
abbrev TE:=St -> Hp -> VK -> Prop
abbrev TT:=St -> Hp -> (Bool -> Hp -> Prop) -> Prop
abbrev TA:=St -> Hp -> (List V -> Hp -> Prop) -> Prop
structure Ends where
 nx : St -> Hp -> Prop
 rt : VK
 bk : St -> Hp -> Prop:=fun _ _ => False
 ct : St -> Hp -> Prop:=fun _ _ => False
abbrev TS:=Ends -> St -> Hp -> Prop
def EP (X : Cx) (pins : List (Addr × Obj)) (σ : St) (Q : VK) (u : Value) (s' : Shared) : Prop := ∃ v H',Inv X pins σ H' s' /\ RelV v u /\ Q v H'
def TP (X : Cx) (pins : List (Addr × Obj)) (σ : St) (Q : Bool -> Hp -> Prop) (b : Bool) (s' : Shared) : Prop := ∃ H',Inv X pins σ H' s' /\ Q b H'
def AP (X : Cx) (pins : List (Addr × Obj)) (σ : St) (Q : List V -> Hp -> Prop) (us : List Value) (s' : Shared) : Prop := ∃ vs H',Inv X pins σ H' s' /\ Vals vs us /\ Q vs H'
def SP (X : Cx) (pins : List (Addr × Obj)) (D : Ends) (f : Flow) (s' : Shared) : Prop:=
 match f with
 | .next => ∃ σ' H',Inv X pins σ' H' s' /\ D.nx σ' H'
 | .brk => ∃ σ' H',Inv X pins σ' H' s' /\ D.bk σ' H'
 | .cont => ∃ σ' H',Inv X pins σ' H' s' /\ D.ct σ' H'
 | .ret u => ∃ v σ' H',Inv X pins σ' H' s' /\ RelV v u /\ D.rt v H'
def PE (X : Cx) (e : Expr) (t : TE) : Prop:=
 ∀ (pins : List (Addr × Obj)) (s : Shared) (σ : St) (H : Hp) (Q : VK),Inv X pins σ H s -> t σ H Q -> wpAny (model X.prog X.w) X.A (eval e X.env) (EP X pins σ Q) X.xe s
def PT (X : Cx) (e : Expr) (t : TT) : Prop:=
 ∀ (pins : List (Addr × Obj)) (s : Shared) (σ : St) (H : Hp) (Q : Bool -> Hp -> Prop),Inv X pins σ H s -> t σ H Q -> wpAny (model X.prog X.w) X.A (isTrue e X.env (eval e X.env)) (TP X pins σ Q) X.xe s
def PW (X : Cx) (e : Expr) (t : TT) : Prop:=
 ∀ (whole : Sem Value) (pins : List (Addr × Obj)) (s : Shared) (σ : St) (H : Hp) (Q : Bool -> Hp -> Prop),Inv X pins σ H s -> t σ H Q -> wpAny (model X.prog X.w) X.A (isTrue e X.env whole) (TP X pins σ Q) X.xe s
theorem PW.pt {X : Cx} {e : Expr} {t : TT} (h : PW X e t) : PT X e t:=h _
def PA (X : Cx) (es : List Expr) (t : TA) : Prop:=
 ∀ (pos : Pos) (pins : List (Addr × Obj)) (s : Shared) (σ : St) (H : Hp) (Q : List V -> Hp -> Prop),Inv X pins σ H s -> t σ H Q -> wpAny (model X.prog X.w) X.A (spliced (backTo pos (starEach es X.env))) (AP X pins σ Q) X.xe s
def PS (X : Cx) (st : Stmt) (t : TS) : Prop:=
 ∀ (pins : List (Addr × Obj)) (s : Shared) (σ : St) (H : Hp) (D : Ends),Inv X pins σ H s -> t D σ H -> wpAny (model X.prog X.w) X.A (exec st X.env) (SP X pins D) X.xe s
def PSs (X : Cx) (st : List Stmt) (t : TS) : Prop:=
 ∀ (pins : List (Addr × Obj)) (s : Shared) (σ : St) (H : Hp) (D : Ends),Inv X pins σ H s -> t D σ H -> wpAny (model X.prog X.w) X.A (execs st X.env) (SP X pins D) X.xe s
theorem thn {α : Type} {t : Sem α} {Q Q' : α -> Shared -> Prop} {M : Model} {A : Around} {E : Value -> Shared -> Prop} {s : Shared} (h : wpAny M A t Q E s) (hQ : ∀ a s,Q a s -> Q' a s) : wpAny M A t Q' E s:=wpAny_mono h hQ fun _ _ x => x
end L2
namespace L2
open PySem PySem.Spec PyProof.Rows
section
variable {X : Cx}
def HC (i : Nat) : TE:=fun σ H Q => ∃ v,σ[i]? = some (some v) /\ Q v H
def tC (v : V) : TE:=fun _ H Q => Q v H
theorem Gy {i : Nat} {x : Str} {pos : Pos} (hN : X.N[i]? = some x) (hv : Vis X.env.scope x) (hd : (x == ("__debug__" : Str)) = false:=by decide) (hcd : (x == ("__classdict__" : Str)) = false:=by decide) : PE X (.Name x pos) (HC i):=by
 intro pins s σ H Q I h
 obtain ⟨v,e,h⟩:=h
 obtain ⟨m,hn,hl⟩:=I.loc
 obtain ⟨u,r,l⟩:=hl i x v hN e hv
 have fin : EP X pins σ Q u s:=⟨v,H,I,r,h⟩
 rcases l with ⟨hk,hm⟩ | ⟨hk,c,hc,hcell⟩
 ·exact wpAny_Name (wpAny_loadName_local I.ok.kind hk hn hm fin) hd
 ·rcases hk with hk | hk
  ·exact wpAny_Name (wpAny_loadName_cell I.ok.kind hk hc hcell fin) hd
  ·exact wpAny_Name (wpAny_loadName_free I.ok.kind hk hc hcell fin hcd) hd
theorem aq {i j pos} : PE X (.Constant (.int i) j pos) (tC (.int i)):=fun _ _ _ H _ I h => wpAny_Constant_int ⟨.int i,H,I.tok _,⟨_,rfl⟩,h⟩
theorem jJ {b j pos} : PE X (.Constant (.bool b) j pos) (tC (.bl b)):=fun _ _ _ H _ I h => Constant_bool ⟨.bl b,H,I,rfl,h⟩
theorem Gw {j pos} : PE X (.Constant .none j pos) (tC .non):=fun _ _ _ H _ I h => Constant_none ⟨.non,H,I,rfl,h⟩
theorem DH {x j pos} : PE X (.Constant (.str x) j pos) (tC (.str x)):=fun _ _ _ H _ I h => Calls.Constant_str ⟨.str x,H,I.tok _,⟨_,rfl⟩,h⟩
def Gl (X : Cx) (x : Str) : Prop:=X.env.kindOf x = some .globalImplicit
theorem AQ {E : Value -> Shared -> Prop} {pins : List (Addr × Obj)} {s : Shared} {σ : St} {H : Hp} {x : Str} {u : Value} {pos : Pos} {Q : Value -> Shared -> Prop} (I : Inv X pins σ H s) (hg : Gl X x) (hm : X.mg x = some u) (h : Q u s)
  (hd : (x == ("__debug__" : Str)) = false:=by decide) : wpAny (model X.prog X.w) X.A (eval (.Name x pos) X.env) Q E s:=
 Calls.Name_function_global I.ok.kind hg (Calls.loadGlobal_global (by rw [I.ok.glob]; exact I.mod.glob.keeps I.bk) hm h) hd
theorem gT {E : Value -> Shared -> Prop} {pins : List (Addr × Obj)} {s : Shared} {σ : St} {H : Hp} {x : Str} {u : Value} {pos : Pos} {Q : Value -> Shared -> Prop} (I : Inv X pins σ H s) (hg : Gl X x) (hm : X.mg x = none) (hv : bootBuiltins x = some u) (h : Q u s)
  (hn : x ≠ "__name__" := by decide) (hd : (x == ("__debug__" : Str)) = false:=by decide) : wpAny (model X.prog X.w) X.A (eval (.Name x pos) X.env) Q E s:=by
 obtain ⟨mb,h1,h2⟩:=I.mod.blt
 exact Calls.Name_function_global I.ok.kind hg (Calls.loadGlobal_builtin (by rw [I.ok.glob]; exact I.mod.glob.keeps I.bk) hm (by rw [I.ok.blt]; exact h1.keeps I.bk) ((h2 x hn).trans hv) h) hd
theorem AS {x : Str} {v : V} {u : Value} {pos : Pos} (hg : Gl X x) (hm : X.mg x = none) (hv : bootBuiltins x = some u) (r : RelV v u) (hn : x ≠ "__name__" := by decide) (hd : (x == ("__debug__" : Str)) = false:=by decide) : PE X (.Name x pos) (tC v):=
 fun _ _ _ H _ I h => gT I hg hm hv ⟨v,H,I,r,h⟩ hn hd
variable {a b : Expr} {ta tb : TE} {pos : Pos}
def PC (X : Cx) (op : CmpOp) (a b : Expr) (t : TE) : Prop:=
 ∀ (pins : List (Addr × Obj)) (s : Shared) (σ : St) (H : Hp) (Q : VK),Inv X pins σ H s -> t σ H Q ->
  wpAny (model X.prog X.w) X.A (eval a X.env) (fun v s₁ => wpAny (model X.prog X.w) X.A (eval b X.env) (fun u s₂ => wpAny (model X.prog X.w) X.A (compareOp op v u) (EP X pins σ Q) X.xe s₂) X.xe s₁) X.xe s
theorem De (b : Expr) {op : CmpOp} (h : op ≠ .In) (h2 : op ≠ .NotIn) : behindInMarks op b = false:=by
 have e1 : (op == CmpOp.In) = false:=by cases op <;> first | rfl | exact absurd rfl h
 have e2 : (op == CmpOp.NotIn) = false:=by cases op <;> first | rfl | exact absurd rfl h2
 cases b <;> simp [behindInMarks,e1,e2]
def tB (t : TE) : TT:=fun σ H Q => t σ H fun x H1 => ∃ c,x = .bl c /\ Q c H1
theorem z4 {op : CmpOp} {t : TE} (h : PC X op a b t) (h1 : behindInMarks op b = false:=by first | exact De _ (by decide) (by decide) | rfl) : PT X (.Compare a [op] [b] pos) (tB t):=by
 intro pins s σ H Q I hw
 refine wpAny_isTrue_Compare1 (thn (h pins s σ H _ I hw) fun v s1 h1 => thn h1 fun u s2 h2 => thn h2 fun c s3 ⟨x,H1,I1,r1,q1⟩ => ?_) h1
 obtain ⟨d,rfl,q⟩:=q1
 cases r1
 exact wpAny_truthy_bool ⟨H1,I1,q⟩
theorem w4 {e : Expr} {t : TE} (h : PE X e t) (he : ∀ whole,isTrue e X.env whole = (do let v <- whole; standAt e.pos; holding [v] (truthy v)):=by intro _; rfl) : PT X e (tB t):=by
 intro pins s σ H Q I hw
 refine isTrue_plain (thn (h pins s σ H _ I hw) fun v s1 ⟨x,H1,I1,r1,q1⟩ => ?_) (he _)
 obtain ⟨d,rfl,q⟩:=q1
 cases r1
 exact wpAny_truthy_bool ⟨H1,I1,q⟩
variable {tA tB' : TT} {rest : List Expr}
def Ia (t u : TT) : TT:=fun σ H Q => t σ H fun c H1 => if c = true then u σ H1 Q else Q false H1
def tOr (t u : TT) : TT:=fun σ H Q => t σ H fun c H1 => if c = true then Q true H1 else u σ H1 Q
def Ih (t : TT) : TT:=fun σ H Q => t σ H fun c H1 => Q (!c) H1
theorem nZ (ha : PT X a tA) : PW X (.BoolOp .And [a] pos) tA:=by
 intro wh pins s σ H Q I h
 refine isTrue_and (thn (ha pins s σ H Q I h) fun c s1 e => ?_)
 cases c with
 | true => exact isTrue_and_nil e
 | false => exact e
theorem z5 (ha : PT X a tA) : PW X (.BoolOp .Or [a] pos) tA:=by
 intro wh pins s σ H Q I h
 refine isTrue_or (thn (ha pins s σ H Q I h) fun c s1 e => ?_)
 cases c with
 | false => exact isTrue_or_nil e
 | true => exact e
theorem sY (ha : PT X a tA) (hb : PW X (.BoolOp .And (b :: rest) pos) tB') : PW X (.BoolOp .And (a :: b :: rest) pos) (Ia tA tB'):=by
 intro wh pins s σ H Q I h
 refine isTrue_and (thn (ha pins s σ H _ I h) fun c s1 ⟨H1,I1,q1⟩ => ?_)
 cases c with
 | true => exact hb wh pins s1 σ H1 Q I1 q1
 | false => exact ⟨H1,I1,q1⟩
theorem AX (ha : PT X a tA) (hb : PW X (.BoolOp .Or (b :: rest) pos) tB') : PW X (.BoolOp .Or (a :: b :: rest) pos) (tOr tA tB'):=by
 intro wh pins s σ H Q I h
 refine isTrue_or (thn (ha pins s σ H _ I h) fun c s1 ⟨H1,I1,q1⟩ => ?_)
 cases c with
 | true => exact ⟨H1,I1,q1⟩
 | false => exact hb wh pins s1 σ H1 Q I1 q1
theorem wZ (ha : PT X a tA) : PT X (.UnaryOp .Not a pos) (Ih tA):=by
 intro pins s σ H Q I h
 exact isTrue_not (ha pins s σ H (fun c H1 => Q (!c) H1) I h)
def Hs (ta tb : TE) : TE:=fun σ H Q => ta σ H fun x H1 => ∃ c,x = .bl c /\ if c = true then tb σ H1 Q else Q (.bl false) H1
def Hx (ta : TE) : TE:=fun σ H Q => ta σ H fun x H1 => ∃ c,x = .bl c /\ Q (.bl (!c)) H1
theorem DG {op} {t : TE} (h : PE X a t) : PE X (.BoolOp op [a] pos) t:=fun pins s σ H Q I hw => BoolOp_one (h pins s σ H Q I hw)
theorem DA (ha : PE X a ta) (hb : PE X (.BoolOp .And (b :: rest) pos) tb) : PE X (.BoolOp .And (a :: b :: rest) pos) (Hs ta tb):=by
 intro pins s σ H Q I h
 refine BoolOp_and (thn (ha pins s σ H _ I h) fun v s1 ⟨x,H1,I1,r1,q1⟩ => ?_)
 obtain ⟨c,rfl,q1⟩:=q1
 cases r1
 refine wpAny_truthy_bool ?_
 cases c with
 | true => exact hb pins s1 σ H1 Q I1 q1
 | false => exact ⟨.bl false,H1,I1,rfl,q1⟩
theorem Gx (ha : PE X a ta) : PE X (.UnaryOp .Not a pos) (Hx ta):=by
 intro pins s σ H Q I h
 refine UnaryOp_ (thn (ha pins s σ H _ I h) fun v s1 ⟨x,H1,I1,r1,q1⟩ => ?_)
 obtain ⟨c,rfl,q1⟩:=q1
 cases r1
 exact not_of (wpAny_truthy_bool ⟨.bl (!c),H1,I1,rfl,q1⟩)
end
end L2
namespace L2
open PySem PySem.Spec PyProof.Rows
def SqL (K : PySem.W.Frag) (H : Hp) (a : Addr) (xs : List V) : Prop:=
 Rd H a (.lst xs) \/
  ∃ (o : Obj) (its : Array Value) (n : Nat),K.lookup a = some o /\ o.cls = .type "list" /\ o.dict = none /\ o.data = .seq its n /\ its.size <= sizeLine /\ Vals xs its.toList
def SqT (K : PySem.W.Frag) (H : Hp) (a : Addr) (xs : List V) : Prop:=
 Rd H a (.tup xs) \/
  ∃ (o : Obj) (its : Array Value) (n : Nat),K.lookup a = some o /\ o.cls = .type "tuple" /\ o.data = .seq its n /\ its.size <= sizeLine /\ Vals xs its.toList
def HJ : Value -> Option V
 | .none => some .non
 | .bool b => some (.bl b)
 | .int i _ => some (.int i)
 | .str x _ => some (.str x)
 | .bytes b _ => some (.byt b)
 | .float b _ => some (.flt b)
 | .ref a => some (.ref a)
 | .type n => some (.ty n)
 | _ => none
theorem RelV.abs {x : V} {u : Value} (r : RelV x u) : HJ u = some x:=by
 cases x with
 | non => cases r; rfl
 | bl _ => cases r; rfl
 | int _ => obtain ⟨t,rfl⟩:=r; rfl
 | str _ => obtain ⟨t,rfl⟩:=r; rfl
 | byt _ => obtain ⟨t,rfl⟩:=r; rfl
 | flt _ => obtain ⟨t,rfl⟩:=r; rfl
 | ref _ => cases r; rfl
 | ty _ => cases r; rfl
theorem RelV.inj {x y : V} {u : Value} (r : RelV x u) (q : RelV y u) : x = y:=Option.some.inj (r.abs.symm.trans q.abs)
theorem Vals.inj : ∀ {xs ys : List V} {us : List Value},Vals xs us -> Vals ys us -> xs = ys
 | _,_,_,.nil,.nil => rfl
 | _,_,_,.cons r t,.cons r' t' => by rw [r.inj r',Vals.inj t t']
section
variable {X : Cx} {pins : List (Addr × Obj)} {σ : St} {H : Hp} {s : Shared} {a : Addr} {xs ys : List V}
theorem SqL.of {K : PySem.W.Frag} (h : H a = some (.lst xs)) : SqL K H a xs:=.inl (.inl h)
theorem SqT.of {K : PySem.W.Frag} (h : H a = some (.tup xs)) : SqT K H a xs:=.inl (.inl h)
theorem Inv.list (I : Inv X pins σ H s) (h : SqL X.K H a xs) : ∃ its : List Value,Vals xs its /\ PlainL s.heap a its.toArray /\ xs.length <= sizeLine:=by
 rcases h with h | ⟨o,its,n,hk,hc,hd,hs,hz,r⟩
 ·obtain ⟨z,its,n,r,e⟩:=h.ok I.hok
  exact ⟨its,r,⟨_,n,e,rfl,rfl,rfl⟩,z⟩
 ·refine ⟨its.toList,r,⟨o,n,I.kIn a o hk,hc,hd,by simpa using hs⟩,?_⟩
  have e:=r.length
  simp only [Array.length_toList] at e
  omega
theorem Inv.tuple (I : Inv X pins σ H s) (h : SqT X.K H a xs) : ∃ its : List Value,Vals xs its /\ IsTup s.heap a its.toArray /\ xs.length <= sizeLine:=by
 rcases h with h | ⟨o,its,n,hk,hc,hs,hz,r⟩
 ·obtain ⟨z,its,r,p⟩:=h.ok I.hok
  exact ⟨its,r,p,z⟩
 ·refine ⟨its.toList,r,⟨o,I.kIn a o hk,hc,n,by simpa using hs⟩,?_⟩
  have e:=r.length
  simp only [Array.length_toList] at e
  omega
theorem Inv.list_inj (I : Inv X pins σ H s) (h : SqL X.K H a xs) (h' : SqL X.K H a ys) : xs = ys:=by
 obtain ⟨its,r,⟨o,n,e,_,_,d⟩,_⟩:=I.list h
 obtain ⟨its',r',⟨o',n',e',_,_,d'⟩,_⟩:=I.list h'
 rw [e] at e'; cases e'
 rw [d] at d'
 injection d' with d1 _
 have : its = its' := by simpa using congrArg Array.toList d1
 subst this
 exact r.inj r'
theorem Inv.tuple_inj (I : Inv X pins σ H s) (h : SqT X.K H a xs) (h' : SqT X.K H a ys) : xs = ys:=by
 obtain ⟨its,r,⟨o,e,_,n,d⟩,_⟩:=I.tuple h
 obtain ⟨its',r',⟨o',e',_,n',d'⟩,_⟩:=I.tuple h'
 rw [e] at e'; cases e'
 rw [d] at d'
 injection d' with d1 _
 have : its = its' := by simpa using congrArg Array.toList d1
 subst this
 exact r.inj r'
end
abbrev Cx.wish (X : Cx) (E : Value -> Shared -> Prop) : Cx:={ X with xe:=E }
abbrev Cx.nox (X : Cx) : Cx:=X.wish fun _ _ => False
theorem Cx.Ok.wish {X : Cx} (ok : X.Ok) (E : Value -> Shared -> Prop) : (X.wish E).Ok:=
 ⟨ok.mod,ok.kind,ok.glob,ok.blt,ok.above,ok.inj,ok.has,ok.cab,ok.hd,ok.frames,ok.stk,ok.exf,ok.bs,ok.bsz,ok.noex,ok.exfs,ok.funs,ok.frf⟩
theorem Cx.Ok.unwish {X : Cx} {E : Value -> Shared -> Prop} (ok : (X.wish E).Ok) : X.Ok:=
 ⟨ok.mod,ok.kind,ok.glob,ok.blt,ok.above,ok.inj,ok.has,ok.cab,ok.hd,ok.frames,ok.stk,ok.exf,ok.bs,ok.bsz,ok.noex,ok.exfs,ok.funs,ok.frf⟩
section
variable {X : Cx} {pins : List (Addr × Obj)} {σ : St} {H : Hp} {s : Shared} {E : Value -> Shared -> Prop}
theorem Inv.wish (I : Inv X pins σ H s) (E : Value -> Shared -> Prop) : Inv (X.wish E) pins σ H s:=⟨I.ok.wish E,I.os,I.bare,I.base,I.loc,I.cell,I.free,I.freeC,I.pin,I.hok,I.len⟩
theorem Inv.unwish (I : Inv (X.wish E) pins σ H s) : Inv X pins σ H s:=⟨I.ok.unwish,I.os,I.bare,I.base,I.loc,I.cell,I.free,I.freeC,I.pin,I.hok,I.len⟩
theorem SP.unwish {D : Ends} {f : Flow} {s' : Shared} (h : SP (X.wish E) pins D f s') : SP X pins D f s' := by
 cases f with
 | next => obtain ⟨σ',H',I,q⟩:=h; exact ⟨σ',H',I.unwish,q⟩
 | brk => obtain ⟨σ',H',I,q⟩:=h; exact ⟨σ',H',I.unwish,q⟩
 | cont => obtain ⟨σ',H',I,q⟩:=h; exact ⟨σ',H',I.unwish,q⟩
 | ret u => obtain ⟨v,σ',H',I,r,q⟩:=h; exact ⟨v,σ',H',I.unwish,r,q⟩
theorem PSs.nox {st : List Stmt} {t : TS} (h : PSs X.nox st t) : PSs X st t:=fun pins s σ H D I hw =>
 wpAny_mono (h pins s σ H D (I.wish _) hw) (fun _ _ q => q.unwish) fun _ _ z => False.elim z
end
section
variable {X : Cx} {st : Stmt} {rest : List Stmt} {t u : TS} {e : Expr} {te : TE} {pos : Pos}
def eG : TS:=fun D σ H => D.nx σ H
def Cf (t u : TS) : TS:=fun D σ H => t { D with nx:=u D } σ H
theorem bx : PSs X [] eG:=fun _ _ σ H _ I h => wpAny_execs_nil ⟨σ,H,I,h⟩
theorem ah (h1 : PS X st t) (h2 : PSs X rest u) : PSs X (st :: rest) (Cf t u):=by
 intro pins s σ H D I h
 refine wpAny_execs_cons (thn (h1 pins s σ H { D with nx:=u D } I h) fun f s1 q => ?_)
 cases f with
 | next =>
  obtain ⟨σ',H',I',q⟩:=q
  exact h2 pins s1 σ' H' D I' q
 | ret v => exact q
 | brk => exact q
 | cont => exact q
theorem au (h1 : PS X st t) : PSs X [st] t:=by
 intro pins s σ H D I h
 refine wpAny_execs_cons (thn (h1 pins s σ H D I h) fun f s1 q => ?_)
 cases f with
 | next => exact wpAny_execs_nil q
 | ret v => exact q
 | brk => exact q
 | cont => exact q
theorem Inv.quiet {pins : List (Addr × Obj)} {σ : St} {H : Hp} {s : Shared} (I : Inv X pins σ H s) : interactive X.env = false:=by simp [interactive,I.ok.kind]
def Hw (te : TE) : TS:=fun D σ H => te σ H fun _ H1 => D.nx σ H1
theorem a7 (he : PE X e te) (hs : swapsWith e none pos.line X.env = pure false:=by rfl) : PS X (.Expr e pos) (Hw te):=by
 intro pins s σ H D I h
 exact wpAny_Expr_any (thn (he pins s σ H _ I h) fun v s1 ⟨x,H1,I1,r1,q1⟩ => ⟨σ,H1,I1,q1⟩) I.quiet hs
def Hz (te : TE) : TS:=fun D σ H => te σ H D.rt
theorem aM (he : PE X e te) : PS X (.Return (some e) pos) (Hz te):=by
 intro pins s σ H D I h
 exact wpAny_Return_some (thn (he pins s σ H _ I h) fun v s1 ⟨x,H1,I1,r1,q1⟩ => ⟨x,σ,H1,I1,r1,q1⟩)
def Aj (c : TT) (t u : TS) : TS:=fun D σ H => c σ H fun b H1 => if b = true then t D σ H1 else u D σ H1
theorem cL {c : Expr} {a b : List Stmt} {tc : TT} (hc : PT X c tc) (ha : PSs X a t) (hb : PSs X b u) : PS X (.If c a b pos) (Aj tc t u):=by
 intro pins s σ H D I h
 refine wpAny_If (thn (hc pins s σ H _ I h) fun d s1 ⟨H1,I1,q1⟩ => ?_)
 cases d with
 | true => exact ha pins s1 σ H1 D I1 q1
 | false => exact hb pins s1 σ H1 D I1 q1
def GO : TS:=fun _ _ _ => False
theorem yx : PS X st GO:=fun _ _ _ _ _ _ h => h.elim
end
abbrev TG:=V -> St -> Hp -> (St -> Hp -> Prop) -> Prop
abbrev TGs:=List V -> St -> Hp -> (St -> Hp -> Prop) -> Prop
def PG (X : Cx) (target : Expr) (t : TG) : Prop:=
 ∀ (pins : List (Addr × Obj)) (s : Shared) (σ : St) (H : Hp) (v : V) (u : Value) (Q : St -> Hp -> Prop),Inv X pins σ H s -> RelV v u -> t v σ H Q ->
  wpAny (model X.prog X.w) X.A (assign target X.env u) (fun _ s' => ∃ σ' H',Inv X pins σ' H' s' /\ Q σ' H') X.xe s
def PGs (X : Cx) (ts : List Expr) (t : TGs) : Prop:=
 ∀ (pins : List (Addr × Obj)) (s : Shared) (σ : St) (H : Hp) (vs : List V) (us : List Value) (Q : St -> Hp -> Prop),Inv X pins σ H s -> Vals vs us -> t vs σ H Q ->
  wpAny (model X.prog X.w) X.A (assignInOrder ((assignEach ts X.env).map (·.2)) us) (fun _ s' => ∃ σ' H',Inv X pins σ' H' s' /\ Q σ' H') X.xe s
abbrev F1:=V -> V -> V -> Hp -> (Hp -> Prop) -> Prop
def GW (X : Cx) (t : F1) : Prop:=
 ∀ (pins : List (Addr × Obj)) (s : Shared) (σ : St) (H : Hp) (o i v : V) (ov iv u : Value) (Q : Hp -> Prop),Inv X pins σ H s -> RelV o ov -> RelV i iv -> RelV v u -> t o i v H Q ->
  wpAny (model X.prog X.w) X.A (setItem ov iv u) (fun _ s' => ∃ H',Inv X pins σ H' s' /\ Q H') X.xe s
section
variable {X : Cx} {pos : Pos}
def bt (i : Nat) : TG:=fun v σ H Q => Q (σ.set i (some v)) H
theorem ay {i : Nat} {x : Str} (hN : X.N.Nodup) (hi : X.N[i]? = some x) (hx : Loc X.env.scope x) (hf : X.fn x = true \/ X.env.scope.names.lookup x = some .local:=by first | exact .inl rfl | exact .inr rfl | assumption) : PG X (.Name x pos) (bt i):=by
 intro pins s σ H v u Q I r h
 exact wpAny_assign_Name (yH I hN hi hx r (fun s' I' => ⟨_,H,I',h⟩) hf)
def HM : TGs:=fun vs σ H Q => vs = [] /\ Q σ H
def G2 (t : TG) (u : TGs) : TGs:=fun vs σ H Q => ∃ v r,vs = v :: r /\ t v σ H fun σ' H' => u r σ' H' Q
theorem jB : PGs X [] HM:=by
 intro pins s σ H vs us Q I r h
 obtain ⟨e,h⟩:=h
 subst e
 cases r
 exact assignInOrder_nil ⟨σ,H,I,h⟩
theorem bJ {e : Expr} {es : List Expr} {t : TG} {u : TGs} (h1 : PG X e t) (h2 : PGs X es u)
  (hs : (assignEach (e :: es) X.env).map (·.2) = assign e X.env :: (assignEach es X.env).map (·.2):=by rfl) : PGs X (e :: es) (G2 t u):=by
 intro pins s σ H vs us Q I r h
 obtain ⟨v,vr,e1,h⟩:=h
 subst e1
 cases r with
 | cons r rr =>
  rw [hs]
  refine assignInOrder_cons (thn (h1 pins s σ H _ _ _ I r h) fun _ s1 ⟨σ1,H1,I1,q1⟩ => ?_)
  exact h2 pins s1 σ1 H1 _ _ Q I1 rr q1
def G3 (K : PySem.W.Frag) (n : Nat) (t : TGs) : TG:=fun v σ H Q => ∃ a xs,v = .ref a /\ SqT K H a xs /\ xs.length = n /\ t xs σ H Q
theorem pG {es : List Expr} {k : Nat} {t : TGs} {n : Nat} (hc : X.calm = true) (h : PGs X es t)
  (hn : (assignEach es X.env).length = n:=by rfl) (hst : (assignEach es X.env).findIdx? (·.1) = none:=by rfl) : PG X (.Tuple es k pos) (G3 X.K n t):=by
 intro pins s σ H v u Q I r hw
 obtain ⟨a,xs,e1,hq,hl,hw⟩:=hw
 subst e1
 cases r
 obtain ⟨its,rv,ht,hz⟩:=I.tuple hq
 refine assign_Tuple_tuple (I.ok.hd hc) ht (by simp [hn,<- hl,rv.length]) hst fun h' hx => ?_
 have I1 : Inv X pins σ H { s with heap:=h' }:=I.kept (t' := s.toks) fun b o e => hx b o (Nat.ne_of_lt (Heap.lt_size e)) e
 exact h pins _ σ H xs _ Q I1 (by simpa using rv) hw
def HN (to ti : TE) (t : F1) : TG:=fun v σ H Q => to σ H fun o H1 => ti σ H1 fun i H2 => t o i v H2 fun H3 => Q σ H3
theorem DI {o i : Expr} {to ti : TE} {t : F1} (ho : PE X o to) (hi : PE X i ti) (hs : GW X t)
  (ha : ∀ v,assign (.Subscript o i pos) X.env v = (do
   let ov <- holding [v] (eval o X.env)
   let iv <- holding [v,ov] (eval i X.env)
   standAt pos
   holding [v,ov,iv] (setItem ov iv v)
   release [v,ov,iv] []):=by intro _; rfl) : PG X (.Subscript o i pos) (HN to ti t):=by
 intro pins s σ H v u Q I r h
 rw [ha]
 refine wpAny_bind (wpAny_holding (thn (ho pins s σ H _ I h) fun ov s1 ⟨x,H1,I1,r1,q1⟩ => ?_))
 refine wpAny_bind (wpAny_holding (thn (hi pins s1 σ H1 _ I1 q1) fun iv s2 ⟨y,H2,I2,r2,q2⟩ => ?_))
 refine wpAny_bind (wpAny_standAt (wpAny_bind (wpAny_holding (thn (hs pins s2 σ H2 x y v ov iv u _ I2 r1 r2 r q2) fun _ s3 ⟨H3,I3,q3⟩ => ?_))))
 exact wpAny_release ⟨σ,H3,I3,q3⟩
def pY (te : TE) (g : TG) : TS:=fun D σ H => te σ H fun x H1 => g x σ H1 D.nx
theorem zZ {tg e : Expr} {te : TE} {g : TG} (he : PE X e te) (hg : PG X tg g) (hs : swapsWithSole [tg] e pos.line X.env = pure false:=by rfl) (hw : swappedStores [tg] e X.env = pure none:=by rfl)
  (h1 : (assignEach [tg] X.env).map (·.2) = [assign tg X.env]:=by rfl) : PS X (.Assign [tg] e pos) (pY te g):=by
 intro pins s σ H D I h
 refine wpAny_Assign_stores (thn (he pins s σ H _ I h) fun v s1 ⟨x,H1,I1,r1,q1⟩ => ?_) hs hw
 rw [h1]
 exact thn (hg pins s1 σ H1 x v _ I1 r1 q1) fun _ s2 q => q
theorem ax {i : Nat} {x : Str} {e : Expr} {te : TE} {pos' : Pos} (hN : X.N.Nodup) (hi : X.N[i]? = some x) (hx : Loc X.env.scope x) (he : PE X e te) (hs : swapsWith e (some (.Name x pos')) pos.line X.env = pure false:=by rfl) (hf : X.fn x = true \/ X.env.scope.names.lookup x = some .local:=by first | exact .inl rfl | exact .inr rfl | assumption) :
  PS X (.Assign [.Name x pos'] e pos) (pY te (bt i)):=by
 intro pins s σ H D I h
 refine wpAny_Assign_Name (thn (he pins s σ H _ I h) fun v s1 ⟨y,H1,I1,r1,q1⟩ => ?_) hs
 exact yH I1 hN hi hx r1 (fun s2 I2 => ⟨_,H1,I2,q1⟩) hf
end
section
variable {X : Cx} {pos : Pos}
def km (c : TT) (tb : TS) : TS:=fun D σ H => ∃ W : Nat -> St -> Hp -> Prop,(∃ m,W m σ H) /\ ∀ m σ H,W m σ H ->
 c σ H fun b H1 => if b = true then ∃ N : St -> Hp -> Prop,(∀ σ' H',N σ' H' -> ∃ m',m' < m /\ W m' σ' H') /\ tb { D with nx:=N,ct:=N,bk:=D.nx } σ H1 else D.nx σ H1
theorem iL {c : Expr} {body : List Stmt} {tc : TT} {tb : TS} (hp : PassesOwn (model X.prog X.w) X.A X.env X.xe) (hc : PT X c tc) (hb : PSs X body tb) : PS X (.While c body [] pos) (km tc tb):=by
 intro pins s σ H D I h
 obtain ⟨W,⟨m0,w0⟩,turn⟩:=h
 refine wpAny_While (codeAny_whileLoop (fun n s' => ∃ σ' H',Inv X pins σ' H' s' /\ W n σ' H') ?_ m0 ⟨σ,H,I,w0⟩)
 rintro n s1 ⟨σ1,H1,I1,w1⟩
 refine wpAny_passesOwn hp (thn (hc pins s1 σ1 H1 _ I1 (turn n σ1 H1 w1)) fun b s2 ⟨H2,I2,q2⟩ => ?_)
 cases b with
 | true =>
  obtain ⟨N,hN,q2⟩:=q2
  rw [if_pos rfl]
  refine wpAny_passesOwn hp (thn (hb pins s2 σ1 H2 _ I2 q2) fun f s3 q3 => ?_)
  cases f with
  | next =>
   obtain ⟨σ3,H3,I3,n3⟩:=q3
   obtain ⟨m',hm,w3⟩:=hN σ3 H3 n3
   exact ⟨m',hm,σ3,H3,I3,w3⟩
  | cont =>
   obtain ⟨σ3,H3,I3,n3⟩:=q3
   obtain ⟨m',hm,w3⟩:=hN σ3 H3 n3
   exact ⟨m',hm,σ3,H3,I3,w3⟩
  | brk => exact q3
  | ret v => exact q3
 | false =>
  rw [if_neg Bool.false_ne_true]
  exact wpAny_execs_nil ⟨σ1,H2,I2,q2⟩
end
structure It where
 go : Nat -> Hp -> Prop
 yld : Nat -> Hp -> V -> Hp -> Prop
 stop : Nat -> Hp -> Prop
def lH (X : Cx) (pins : List (Addr × Obj)) (H : Hp) (b : Addr) : Prop:=
 H b = none /\ b ≠ X.env.locals /\ b ∉ X.fs /\ (b ∈ X.ex \/ X.s₀.heap.objs.size <= b) /\ (∀ x c,X.env.cells.lookup x = some c -> c ≠ b) /\ ∀ p ∈ X.pn ++ pins,p.1 ≠ b
theorem Inv.fpOk {X : Cx} {pins : List (Addr × Obj)} {σ : St} {H H' : Hp} {s : Shared} {b : Addr} (I : Inv X pins σ H s) (hb : s.heap.objs.size <= b) (hn : H' b = none) : lH X pins H' b:=by
 refine ⟨hn,Nat.ne_of_gt (Nat.lt_of_lt_of_le I.lt hb),I.nofs hb,.inr (Nat.le_trans I.sz hb),fun x c e z => ?_,fun p hp z => ?_⟩
 ·obtain ⟨v,q⟩:=I.cell x c e
  exact absurd (Nat.lt_of_lt_of_le q.lt (by rw [z]; exact hb)) (Nat.lt_irrefl _)
 ·exact absurd (Nat.lt_of_lt_of_le (Heap.lt_size (I.pin p hp).1) (by rw [z]; exact hb)) (Nat.lt_irrefl _)
structure Turn (P : Program) (w : World) (K : PySem.W.Frag) (tg : Expr) (J : It) (fp : List Addr) (it : Addr) (tn : Nat -> Heap -> Prop) : Prop where
 mem : it ∈ fp
 obj : ∀ i h,tn i h -> ∀ b ∈ fp,∃ o,h.get? b = some o /\ ∀ v,o.data ≠ .cell v
 keep : ∀ i h h',tn i h -> (∀ b ∈ fp,∀ o,h.get? b = some o -> h'.get? b = some o) -> tn i h'
 item : ∀ (X : Cx),X.prog = P -> X.w = w -> X.K = K -> X.calm = true -> ∀ (i : Nat) (pins : List (Addr × Obj)) (s : Shared) (σ : St) (H : Hp) (E : Value -> Shared -> Prop),Inv X pins σ H s -> (∀ b ∈ fp,lH X pins H b) -> tn i s.heap -> J.go i H ->
  wpAny (model P w) X.A (pyNext (.ref it)) (fun r s1 => ∃ u,r = some u /\
   wpAny (model P w) X.A (letOwnedTupleGo tg (.ref it) u) (fun _ s2 => ∃ x H',Inv X pins σ H' s2 /\ RelV x u /\ J.yld i H x H' /\ tn (i + 1) s2.heap /\ ∀ b ∈ fp,H' b = none) E s1) E s
 done : ∀ (X : Cx),X.prog = P -> X.w = w -> X.K = K -> X.calm = true -> ∀ (i : Nat) (pins : List (Addr × Obj)) (s : Shared) (σ : St) (H : Hp) (E : Value -> Shared -> Prop),Inv X pins σ H s -> (∀ b ∈ fp,lH X pins H b) -> tn i s.heap -> J.stop i H ->
  wpAny (model P w) X.A (pyNext (.ref it)) (fun r s1 => r = none /\ Inv X pins σ H s1) E s
 self : ∀ (A : Around) (i : Nat) (s : Shared) (Q : Value -> Shared -> Prop) (E : Value -> Shared -> Prop),tn i s.heap -> Q (.ref it) s -> wpAny (model P w) A (pyIter (.ref it)) Q E s
abbrev TI:=St -> Hp -> (It -> Hp -> Prop) -> Prop
def PIE (X : Cx) (pins : List (Addr × Obj)) (σ : St) (tg : Expr) (R : It -> Hp -> Prop) (itv : Value) (s2 : Shared) : Prop:=
 ∃ (it : Addr) (fp : List Addr) (tn : Nat -> Heap -> Prop) (J : It) (H' : Hp),itv = .ref it /\ Inv X pins σ H' s2 /\ Turn X.prog X.w X.K tg J fp it tn /\ tn 0 s2.heap /\ (∀ b ∈ fp,lH X pins H' b) /\ R J H'
def PI (X : Cx) (tg iter : Expr) (wi : TI) : Prop:=
 ∀ (pins : List (Addr × Obj)) (s : Shared) (σ : St) (H : Hp) (R : It -> Hp -> Prop),Inv X pins σ H s -> wi σ H R ->
  wpAny (model X.prog X.w) X.A (eval iter X.env) (fun v s1 => wpAny (model X.prog X.w) X.A (pyIter v) (PIE X pins σ tg R) X.xe s1) X.xe s
theorem vg {M : Model} {A : Around} {E : Value -> Shared -> Prop} {s : Shared} {tg : Expr} {it : Addr} {u : Value} {o : Obj} {n : String} {vs : Array Value} {Q : Unit -> Shared -> Prop} (ho : s.heap.get? it = some o) (hc : o.cls = .type n) (hd : o.data = .fields vs)
  (hn : ["enumerate","zip","dict_itemiterator","dict_reverseitemiterator","odict_iterator","itertools.zip_longest","itertools.pairwise"].contains n = false) (hQ : Q () s) : wpAny M A (letOwnedTupleGo tg (.ref it) u) Q E s:=by
 unfold letOwnedTupleGo
 cases tg <;> first
  | exact wpAny_pure hQ
  | (cases u <;> first
    | exact wpAny_pure hQ
    | (refine wpAny_bind (wpAny_load ho ?_)
       rw [hc,hd]
       show wpAny M A (if (["enumerate","zip","dict_itemiterator","dict_reverseitemiterator","odict_iterator","itertools.zip_longest","itertools.pairwise"].contains n && vs[0]? == some (rawInt _)) = true then _ else _) Q E s
       rw [if_neg (by intro h; rw [hn,Bool.false_and] at h; cases h)]
       exact wpAny_pure hQ))
def Itl (K : PySem.W.Frag) (a : Addr) : It:=
 ⟨fun i H => ∃ xs x,SqL K H a xs /\ xs[i]? = some x,fun i H x H' => H' = H /\ ∀ xs,SqL K H a xs -> xs[i]? = some x,fun i H => ∃ xs,SqL K H a xs /\ xs.length <= i⟩
def Itt (K : PySem.W.Frag) (a : Addr) : It:=
 ⟨fun i H => ∃ xs x,SqT K H a xs /\ xs[i]? = some x,fun i H x H' => H' = H /\ ∀ xs,SqT K H a xs -> xs[i]? = some x,fun i H => ∃ xs,SqT K H a xs /\ xs.length <= i⟩
def Itr (lo : Int) (n : Nat) : It:=⟨fun i _ => i < n,fun i H x H' => H' = H /\ x = .int (lo + i),fun i _ => n <= i⟩
theorem Ci {P : Program} {w : World} {K : PySem.W.Frag} {tg : Expr} (a it : Addr) : Turn P w K tg (Itl K a) [it] it (fun i h => h.IsListIter it a i) where
 mem:=by simp
 obj:=fun i h st b hb => by
  have e : b = it:=by simpa using hb
  subst e
  obtain ⟨o,e,c,d⟩:=st
  exact ⟨o,e,fun v z => by rw [d] at z; cases z⟩
 keep:=fun i h h' st k => st.at fun o e => k it (by simp) o e
 item:=by
  intro X hP hw hK hc i pins s σ H E I hf st hg
  subst hP hw hK
  obtain ⟨xs,x,hq,hx⟩:=hg
  obtain ⟨its,rv,p,hz⟩:=I.list hq
  obtain ⟨u,hu,ru⟩:=rv.get hx
  obtain ⟨f0,f1,f2,f3,f4,f5⟩:=hf it (by simp)
  refine wpAny_pyNext_list_item st p.isList (x:=u) (by simpa using hu) fun h' st' sb => ?_
  have I1 : Inv X pins σ H { s with heap:=h' }:=I.turned (t' := s.toks) (fun b o hb e => (sb.2 b hb).trans e) f0 f1 f3 f4 f5
  obtain ⟨o,e,c,d⟩:=id st'
  exact ⟨u,rfl,vg (s:={ s with heap:=h' }) e c d (by decide) ⟨x,H,I1,ru,⟨rfl,fun ys hy => by rw [I.list_inj hy hq]; exact hx⟩,st',fun b hb => (hf b hb).1⟩⟩
 done:=by
  intro X hP hw hK hc i pins s σ H E I hf st hg
  subst hP hw hK
  obtain ⟨xs,hq,hx⟩:=hg
  obtain ⟨its,rv,p,hz⟩:=I.list hq
  obtain ⟨f0,f1,f2,f3,f4,f5⟩:=hf it (by simp)
  have hl:=rv.length
  exact wpAny_pyNext_list_end (I.ok.hd hc) st p.isList (by simp; omega) fun h' eb => ⟨rfl,I.turned (t' := s.toks) (fun b o hb e => eb b o hb e) f0 f1 f3 f4 f5⟩
 self:=fun _ _ _ _ _ st h => wpAny_pyIter_listiter st h
theorem Ap {P : Program} {w : World} {K : PySem.W.Frag} {tg : Expr} (a it : Addr) : Turn P w K tg (Itt K a) [it] it (fun i h => h.IsTupleIter it a i) where
 mem:=by simp
 obj:=fun i h st b hb => by
  have e : b = it:=by simpa using hb
  subst e
  obtain ⟨o,e,c,d⟩:=st
  exact ⟨o,e,fun v z => by rw [d] at z; cases z⟩
 keep:=fun i h h' st k => st.at fun o e => k it (by simp) o e
 item:=by
  intro X hP hw hK hc i pins s σ H E I hf st hg
  subst hP hw hK
  obtain ⟨xs,x,hq,hx⟩:=hg
  obtain ⟨its,rv,p,hz⟩:=I.tuple hq
  obtain ⟨u,hu,ru⟩:=rv.get hx
  obtain ⟨f0,f1,f2,f3,f4,f5⟩:=hf it (by simp)
  refine wpAny_pyNext_tuple_item st (show s.heap.IsTuple a its.toArray from p) (x:=u) (by simpa using hu) fun h' st' sb => ?_
  have I1 : Inv X pins σ H { s with heap:=h' }:=I.turned (t' := s.toks) (fun b o hb e => (sb.2 b hb).trans e) f0 f1 f3 f4 f5
  obtain ⟨o,e,c,d⟩:=id st'
  exact ⟨u,rfl,vg (s:={ s with heap:=h' }) e c d (by decide) ⟨x,H,I1,ru,⟨rfl,fun ys hy => by rw [I.tuple_inj hy hq]; exact hx⟩,st',fun b hb => (hf b hb).1⟩⟩
 done:=by
  intro X hP hw hK hc i pins s σ H E I hf st hg
  subst hP hw hK
  obtain ⟨xs,hq,hx⟩:=hg
  obtain ⟨its,rv,p,hz⟩:=I.tuple hq
  obtain ⟨f0,f1,f2,f3,f4,f5⟩:=hf it (by simp)
  have hl:=rv.length
  exact wpAny_pyNext_tuple_end (I.ok.hd hc) st (show s.heap.IsTuple a its.toArray from p) (by simp; omega) fun h' eb => ⟨rfl,I.turned (t' := s.toks) (fun b o hb e => eb b o hb e) f0 f1 f3 f4 f5⟩
 self:=fun _ _ _ _ _ st h => wpAny_pyIter_tupleiter st h
theorem Ao {P : Program} {w : World} {K : PySem.W.Frag} {tg : Expr} (it : Addr) (lo : Int) (n : Nat) : Turn P w K tg (Itr lo n) [it] it (fun i h => IsRangeIter h it (lo + (i : Nat) * 1) ((n : Int) - (i : Nat)) 1) where
 mem:=by simp
 obj:=fun i h st b hb => by
  have e : b = it:=by simpa using hb
  subst e
  exact ⟨_,st,fun v z => by
   have z' : Data.fields _ = Data.cell v:=z
   cases z'⟩
 keep:=fun i h h' st k => k it (by simp) _ st
 item:=by
  intro X hP hw hK hc i pins s σ H E I hf st hg
  subst hP hw hK
  obtain ⟨f0,f1,f2,f3,f4,f5⟩:=hf it (by simp)
  have W:=Walks.range (prog:=X.prog) (w:=X.w) (I.ok.hd hc) it lo 1 n
  refine W.item i s _ _ hg st fun v h' tk hv st' kk => ?_
  obtain ⟨t,rfl⟩:=hv
  have I1 : Inv X pins σ H { s with heap:=h',toks:=tk }:=I.turned (fun b o hb e => kk b o (by simpa using hb) e) f0 f1 f3 f4 f5
  refine ⟨_,rfl,vg (s:={ s with heap:=h',toks:=tk }) (n := "range_iterator") st' rfl rfl (by decide) ⟨.int (lo + i),H,I1,⟨t,?_⟩,⟨rfl,rfl⟩,st',fun b hb => (hf b hb).1⟩⟩
  rw [Int.mul_one]
 done:=by
  intro X hP hw hK hc i pins s σ H E I hf st hg
  subst hP hw hK
  obtain ⟨f0,f1,f2,f3,f4,f5⟩:=hf it (by simp)
  exact wpAny_pyNext_range_end (I.ok.hd hc) st (by have : n <= i:=hg; omega) fun h' eb => ⟨rfl,I.turned (t' := s.toks) (fun b o hb e => eb b o hb e) f0 f1 f3 f4 f5⟩
 self:=fun _ _ _ _ _ st h => wpAny_pyIter_rangeiter st h
end L2
namespace L2
open PySem PySem.Spec PyProof.Rows
section
variable {X : Cx} {tg : Expr}
def G6 (K : PySem.W.Frag) (tl : TE) : TI:=fun σ H R => tl σ H fun x H1 => ∃ a,x = .ref a /\ (∃ xs,SqL K H1 a xs) /\ R (Itl K a) H1
def HQ (K : PySem.W.Frag) (tl : TE) : TI:=fun σ H R => tl σ H fun x H1 => ∃ a,x = .ref a /\ (∃ xs,SqT K H1 a xs) /\ R (Itt K a) H1
theorem cb {l : Expr} {tl : TE} (hl : PE X l tl) : PI X tg l (G6 X.K tl):=by
 intro pins s σ H R I h
 refine thn (hl pins s σ H _ I h) fun v s1 ⟨x,H1,I1,r1,q1⟩ => ?_
 obtain ⟨a,e,⟨xs,hq⟩,q⟩:=q1
 subst e
 cases r1
 obtain ⟨its,rv,p,hz⟩:=I1.list hq
 refine wpAny_pyIter_list p.isList ?_
 refine ⟨s1.heap.objs.size,[s1.heap.objs.size],_,_,H1,rfl,I1.kept (t' := s1.toks) fun b o e => Heap.get?_push_of_some _ e,Ci a _,⟨_,Heap.get?_push_size _ rfl,rfl,rfl⟩,fun b hb => ?_,q⟩
 have e : b = s1.heap.objs.size:=by simpa using hb
 subst e
 exact I1.fpOk (Nat.le_refl _) (I1.hok.fresh (Nat.le_refl _))
theorem mr {l : Expr} {tl : TE} (hl : PE X l tl) : PI X tg l (HQ X.K tl):=by
 intro pins s σ H R I h
 refine thn (hl pins s σ H _ I h) fun v s1 ⟨x,H1,I1,r1,q1⟩ => ?_
 obtain ⟨a,e,⟨xs,hq⟩,q⟩:=q1
 subst e
 cases r1
 obtain ⟨its,rv,p,hz⟩:=I1.tuple hq
 refine wpAny_pyIter_tuple (show s1.heap.IsTuple a its.toArray from p) ?_
 refine ⟨s1.heap.objs.size,[s1.heap.objs.size],_,_,H1,rfl,I1.kept (t' := s1.toks) fun b o e => Heap.get?_push_of_some _ e,Ap a _,⟨_,Heap.get?_push_size _ rfl,rfl,rfl⟩,fun b hb => ?_,q⟩
 have e : b = s1.heap.objs.size:=by simpa using hb
 subst e
 exact I1.fpOk (Nat.le_refl _) (I1.hok.fresh (Nat.le_refl _))
theorem D7 {pins : List (Addr × Obj)} {σ : St} {H : Hp} {s : Shared} {R : It -> Hp -> Prop} {E : Value -> Shared -> Prop} {lo hi : Int} {t u v : Tok} {tk : Nat} (I : Inv X pins σ H s) (h1 : -(2 ^ 62) <= lo) (h2 : lo < 2 ^ 62) (h3 : -(2 ^ 62) <= hi) (h4 : hi < 2 ^ 62)
  (q : R (Itr lo (hi - lo).toNat) H) : wpAny (model X.prog X.w) X.A (pyIter (.ref s.heap.objs.size)) (PIE X pins σ tg R) E { s with heap:=s.heap.push { cls:=.type "range",data:=.fields #[.int lo t,.int hi u,.int 1 v] },toks:=tk }:=by
 refine wpAny_pyIter_range (IsRange.new ..) (small_one h1 h2 h3 h4) ?_
 have I1 : Inv X pins σ H { s with heap:=s.heap.push { cls:=.type "range",data:=.fields #[.int lo t,.int hi u,.int 1 v] },toks:=tk }:=I.kept fun b o e => Heap.get?_push_of_some _ e
 refine ⟨(s.heap.push { cls:=.type "range",data:=.fields #[.int lo t,.int hi u,.int 1 v] }).objs.size,[(s.heap.push { cls:=.type "range",data:=.fields #[.int lo t,.int hi u,.int 1 v] }).objs.size],_,_,H,rfl,
  I1.kept (t' := tk) fun b o e => Heap.get?_push_of_some _ e,Ao _ lo (hi - lo).toNat,?_,fun b hb => ?_,q⟩
 ·have e1 : lo + ((0 : Nat) : Int) * 1 = lo:=by simp
  have e2 : (((hi - lo).toNat : Nat) : Int) - ((0 : Nat) : Int) = Builtin.Range.rangeSize lo hi 1:=by rw [rangeSize_one]; split <;> omega
  show IsRangeIter _ _ (lo + ((0 : Nat) : Int) * 1) ((((hi - lo).toNat : Nat) : Int) - ((0 : Nat) : Int)) 1
  rw [e1,e2]
  exact Heap.get?_push_size _ rfl
 ·have e : b = (s.heap.push { cls:=.type "range",data:=.fields #[.int lo t,.int hi u,.int 1 v] }).objs.size:=by simpa using hb
  subst e
  exact I1.fpOk (Nat.le_refl _) (I1.hok.fresh (Nat.le_refl _))
def G9 (ta : TA) : TI:=fun σ H R => ta σ H fun vs H1 => ∃ j : Int,vs = [.int j] /\ -(2 ^ 62) <= j /\ j < 2 ^ 62 /\ R (Itr 0 j.toNat) H1
theorem bQ {a : Expr} {ta : TA} {p pos : Pos} (hg : Gl X "range") (hm : X.mg "range" = none) (ha : PA X [a] ta) (hs : starEach [a] X.env = [(false,eval a X.env)]:=by rfl) : PI X tg (.Call (.Name "range" p) [a] [] pos) (G9 ta):=by
 intro pins s σ H R I h
 refine Call_ (gT I hg hm boot_range (PyProof.Rows.callWith_type1 (thn (ha pos pins s σ H _ I h) fun us s1 ⟨vs,H1,I1,r1,q1⟩ => ?_) hs rfl))
 obtain ⟨j,e,q1,q2,q⟩:=q1
 subst e
 cases r1 with
 | cons r rr =>
  cases rr
  obtain ⟨t,rfl⟩:=r
  exact call_range_1 (D7 I1 (by omega) (by omega) q1 q2 (by simpa using q))
def tN (wi : TI) (g : TG) (tb : TS) : TS:=fun D σ H => wi σ H fun J H1 => ∃ W : Nat -> Nat -> St -> Hp -> Prop,(∃ m,W 0 m σ H1) /\ ∀ i m σ H,W i m σ H ->
 (J.stop i H /\ D.nx σ H) \/ (J.go i H /\ ∃ N : St -> Hp -> Prop,(∀ σ' H',N σ' H' -> ∃ m',m' < m /\ W (i + 1) m' σ' H') /\ ∀ x H',J.yld i H x H' -> g x σ H' fun σ2 H2 => tb { D with nx:=N,ct:=N,bk:=D.nx } σ2 H2)
def wV (fp : List Addr) (h : Heap) : List (Addr × Obj):=fp.filterMap fun b => (h.get? b).map fun o => (b,o)
theorem jA {fp : List Addr} {h : Heap} {b : Addr} {o : Obj} (hb : b ∈ fp) (e : h.get? b = some o) : (b,o) ∈ wV fp h:=List.mem_filterMap.mpr ⟨b,hb,by rw [e]; rfl⟩
theorem BR {fp : List Addr} {h : Heap} {p : Addr × Obj} (hp : p ∈ wV fp h) : p.1 ∈ fp /\ h.get? p.1 = some p.2:=by
 obtain ⟨b,hb,e⟩:=List.mem_filterMap.mp hp
 cases q : h.get? b with
 | none => rw [q] at e; cases e
 | some o =>
  rw [q] at e
  have e' : (b,o) = p:=Option.some.inj e
  subst e'
  exact ⟨hb,q⟩
theorem Inv.pinned {pins : List (Addr × Obj)} {σ : St} {H : Hp} {s : Shared} {fp : List Addr} (I : Inv X pins σ H s) (hf : ∀ b ∈ fp,lH X pins H b) (ho : ∀ b ∈ fp,∃ o,s.heap.get? b = some o /\ ∀ v,o.data ≠ .cell v) : Inv X (pins ++ wV fp s.heap) σ H s:=
 I.pins_of fun p hp => (List.mem_append.mp hp).elim (fun z => I.pin p (List.mem_append_right _ z)) fun z => by
  obtain ⟨hb,e⟩:=BR z
  obtain ⟨f0,f1,f2,_⟩:=hf p.1 hb
  obtain ⟨o,e',d⟩:=ho p.1 hb
  rw [e] at e'; cases e'
  exact ⟨e,f0,f1,f2,d⟩
theorem Inv.unpinned {pins pl : List (Addr × Obj)} {σ : St} {H : Hp} {s : Shared} (I : Inv X (pins ++ pl) σ H s) : Inv X pins σ H s:=I.pins_of fun p hp => I.pin p (List.mem_append_right _ (List.mem_append_left _ hp))
theorem bN {iter : Expr} {body : List Stmt} {wi : TI} {g : TG} {tb : TS} {pos : Pos} (hp : PassesOwn (model X.prog X.w) X.A X.env X.xe) (hc : X.calm = true) (hi : PI X tg iter wi) (hg : PG X tg g) (hb : PSs X body tb)
  (hs : ∀ x,foldedSetIterable iter X.env x = pure x:=by intro _; rfl) : PS X (.For tg iter body [] pos) (tN wi g tb):=by
 intro pins s σ H D I h
 refine wpAny_For (thn (hi pins s σ H _ I h) fun v s1 h1 => thn h1 fun itv s2 h2 => ?_) hs
 obtain ⟨it,fp,tn,J,H2,e,I2,T,st2,f2,W,⟨m0,w0⟩,turn⟩:=h2
 subst e
 have stat : ∀ {H' : Hp},(∀ b ∈ fp,H' b = none) -> ∀ b ∈ fp,lH X pins H' b:=fun hn b hb => ⟨hn b hb,(f2 b hb).2⟩
 refine codeAny_forLoop_any (fun n s' => ∃ i σ' H',Inv X pins σ' H' s' /\ tn i s'.heap /\ (∀ b ∈ fp,H' b = none) /\ W i n σ' H') ?_ m0 ⟨0,σ,H2,I2,st2,fun b hb => (f2 b hb).1,w0⟩
 rintro n s3 ⟨i,σ3,H3,I3,st3,fr3,w3⟩
 rcases turn i n σ3 H3 w3 with ⟨stop,qn⟩ | ⟨go,N,hN,step⟩
 ·refine wpAny_passesOwn hp (thn (T.done X rfl rfl rfl hc i pins s3 σ3 H3 X.xe I3 (stat fr3) st3 stop) fun r s4 ⟨hr,I4⟩ => ?_)
  subst hr
  exact wpAny_execs_nil ⟨σ3,H3,I4,qn⟩
 ·refine wpAny_passesOwn hp (thn (T.item X rfl rfl rfl hc i pins s3 σ3 H3 X.xe I3 (stat fr3) st3 go) fun r s4 ⟨u,hr,h4⟩ => ?_)
  subst hr
  refine wpAny_passesOwn hp (thn h4 fun _ s5 ⟨x,H5,I5,r5,y5,st5,fr5⟩ => ?_)
  have I5' := I5.pinned (stat fr5) (T.obj _ _ st5)
  refine wpAny_passesOwn hp (thn (hg _ s5 σ3 H5 x u _ I5' r5 (step x H5 y5)) fun _ s6 ⟨σ6,H6,I6,q6⟩ => ?_)
  refine wpAny_passesOwn hp (thn (hb _ s6 σ6 H6 _ I6 q6) fun f s7 q7 => ?_)
  have again : ∀ {σ7 : St} {H7 : Hp},Inv X (pins ++ wV fp s5.heap) σ7 H7 s7 -> N σ7 H7 -> ∃ m,m < n /\ ∃ i σ' H',Inv X pins σ' H' s7 /\ tn i s7.heap /\ (∀ b ∈ fp,H' b = none) /\ W i m σ' H' := fun {σ7 H7} I7 n7 => by
   obtain ⟨m',hm,w7⟩:=hN σ7 H7 n7
   refine ⟨m',hm,i + 1,σ7,H7,I7.unpinned,T.keep _ _ _ st5 fun b hb o e => (I7.pin (b,o) (List.mem_append_right _ (List.mem_append_right _ (jA hb e)))).1,fun b hb => ?_,w7⟩
   obtain ⟨o,e,d⟩:=T.obj _ _ st5 b hb
   exact (I7.pin (b,o) (List.mem_append_right _ (List.mem_append_right _ (jA hb e)))).2.1
  cases f with
  | next => obtain ⟨σ7,H7,I7,n7⟩:=q7; exact again I7 n7
  | cont => obtain ⟨σ7,H7,I7,n7⟩:=q7; exact again I7 n7
  | brk => obtain ⟨σ7,H7,I7,q7⟩:=q7; exact ⟨σ7,H7,I7.unpinned,q7⟩
  | ret v => obtain ⟨x7,σ7,H7,I7,r7,q7⟩:=q7; exact ⟨x7,σ7,H7,I7.unpinned,r7,q7⟩
end
theorem cP {K : PySem.W.Frag} {a : Addr} {xs : List V} {g : TG} {tb : TS} {D : Ends} {σ : St} {H : Hp} (Pv : Nat -> St -> Hp -> Prop) (h0 : Pv 0 σ H) (hl : ∀ i σ H,i <= xs.length -> Pv i σ H -> SqL K H a xs)
  (hs : ∀ i x σ H,xs[i]? = some x -> Pv i σ H -> g x σ H fun σ2 H2 => tb { D with nx:=Pv (i + 1),ct:=Pv (i + 1),bk:=D.nx } σ2 H2) (hd : ∀ σ H,Pv xs.length σ H -> D.nx σ H) :
  ∃ W : Nat -> Nat -> St -> Hp -> Prop,(∃ m,W 0 m σ H) /\ ∀ i m σ H,W i m σ H ->
   ((Itl K a).stop i H /\ D.nx σ H) \/ ((Itl K a).go i H /\ ∃ N : St -> Hp -> Prop,(∀ σ' H',N σ' H' -> ∃ m',m' < m /\ W (i + 1) m' σ' H') /\ ∀ x H',(Itl K a).yld i H x H' -> g x σ H' fun σ2 H2 => tb { D with nx:=N,ct:=N,bk:=D.nx } σ2 H2):=by
 refine ⟨fun i m σ H => m = xs.length - i /\ i <= xs.length /\ Pv i σ H,⟨xs.length,by simp,Nat.zero_le _,h0⟩,?_⟩
 rintro i m σ H ⟨rfl,hi,p⟩
 have q:=hl i σ H hi p
 by_cases hlt : i < xs.length
 ·refine .inr ⟨⟨xs,xs[i],q,by simp [hlt]⟩,Pv (i + 1),fun σ' H' p' => ⟨xs.length - (i + 1),by omega,rfl,hlt,p'⟩,fun x H' y => ?_⟩
  obtain ⟨e,y⟩:=y
  subst e
  exact hs i x σ _ (y xs q) p
 ·have e : i = xs.length:=by omega
  subst e
  exact .inl ⟨⟨xs,q,Nat.le_refl _⟩,hd σ H p⟩
theorem AJ {K : PySem.W.Frag} {a : Addr} {xs : List V} {g : TG} {tb : TS} {D : Ends} {σ : St} {H : Hp} (Pv : Nat -> St -> Hp -> Prop) (h0 : Pv 0 σ H) (hl : ∀ i σ H,i <= xs.length -> Pv i σ H -> SqT K H a xs)
  (hs : ∀ i x σ H,xs[i]? = some x -> Pv i σ H -> g x σ H fun σ2 H2 => tb { D with nx:=Pv (i + 1),ct:=Pv (i + 1),bk:=D.nx } σ2 H2) (hd : ∀ σ H,Pv xs.length σ H -> D.nx σ H) :
  ∃ W : Nat -> Nat -> St -> Hp -> Prop,(∃ m,W 0 m σ H) /\ ∀ i m σ H,W i m σ H ->
   ((Itt K a).stop i H /\ D.nx σ H) \/ ((Itt K a).go i H /\ ∃ N : St -> Hp -> Prop,(∀ σ' H',N σ' H' -> ∃ m',m' < m /\ W (i + 1) m' σ' H') /\ ∀ x H',(Itt K a).yld i H x H' -> g x σ H' fun σ2 H2 => tb { D with nx:=N,ct:=N,bk:=D.nx } σ2 H2):=by
 refine ⟨fun i m σ H => m = xs.length - i /\ i <= xs.length /\ Pv i σ H,⟨xs.length,by simp,Nat.zero_le _,h0⟩,?_⟩
 rintro i m σ H ⟨rfl,hi,p⟩
 have q:=hl i σ H hi p
 by_cases hlt : i < xs.length
 ·refine .inr ⟨⟨xs,xs[i],q,by simp [hlt]⟩,Pv (i + 1),fun σ' H' p' => ⟨xs.length - (i + 1),by omega,rfl,hlt,p'⟩,fun x H' y => ?_⟩
  obtain ⟨e,y⟩:=y
  subst e
  exact hs i x σ _ (y xs q) p
 ·have e : i = xs.length:=by omega
  subst e
  exact .inl ⟨⟨xs,q,Nat.le_refl _⟩,hd σ H p⟩
theorem gn {lo : Int} {n : Nat} {g : TG} {tb : TS} {D : Ends} {σ : St} {H : Hp} (Pv : Nat -> St -> Hp -> Prop) (h0 : Pv 0 σ H)
  (hs : ∀ i σ H,i < n -> Pv i σ H -> g (.int (lo + i)) σ H fun σ2 H2 => tb { D with nx:=Pv (i + 1),ct:=Pv (i + 1),bk:=D.nx } σ2 H2) (hd : ∀ σ H,Pv n σ H -> D.nx σ H) :
  ∃ W : Nat -> Nat -> St -> Hp -> Prop,(∃ m,W 0 m σ H) /\ ∀ i m σ H,W i m σ H ->
   ((Itr lo n).stop i H /\ D.nx σ H) \/ ((Itr lo n).go i H /\ ∃ N : St -> Hp -> Prop,(∀ σ' H',N σ' H' -> ∃ m',m' < m /\ W (i + 1) m' σ' H') /\ ∀ x H',(Itr lo n).yld i H x H' -> g x σ H' fun σ2 H2 => tb { D with nx:=N,ct:=N,bk:=D.nx } σ2 H2):=by
 refine ⟨fun i m σ H => m = n - i /\ i <= n /\ Pv i σ H,⟨n,by simp,Nat.zero_le _,h0⟩,?_⟩
 rintro i m σ H ⟨rfl,hi,p⟩
 by_cases hlt : i < n
 ·refine .inr ⟨hlt,Pv (i + 1),fun σ' H' p' => ⟨n - (i + 1),by omega,rfl,hlt,p'⟩,fun x H' y => ?_⟩
  obtain ⟨e,y⟩:=y
  subst e y
  exact hs i σ _ hlt p
 ·have e : i = n:=by omega
  subst e
  exact .inl ⟨Nat.le_refl _,hd σ H p⟩
end L2
namespace L2
open PySem PySem.Spec PyProof.Rows
abbrev R2:=V -> V -> Hp -> VK -> Prop
def OpR (X : Cx) (f : Value -> Value -> Sem Value) (r : R2) : Prop:=
 ∀ (pins : List (Addr × Obj)) (s : Shared) (σ : St) (H : Hp) (x y : V) (v u : Value) (Q : VK),Inv X pins σ H s -> RelV x v -> RelV y u -> r x y H Q ->
  wpAny (model X.prog X.w) X.A (f v u) (EP X pins σ Q) X.xe s
def UnR (X : Cx) (f : Value -> Sem Value) (r : V -> Hp -> VK -> Prop) : Prop:=
 ∀ (pins : List (Addr × Obj)) (s : Shared) (σ : St) (H : Hp) (x : V) (v : Value) (Q : VK),Inv X pins σ H s -> RelV x v -> r x H Q ->
  wpAny (model X.prog X.w) X.A (f v) (EP X pins σ Q) X.xe s
def gX (X : Cx) (f : Value) (r : List V -> Hp -> VK -> Prop) : Prop:=
 ∀ (pins : List (Addr × Obj)) (s : Shared) (σ : St) (H : Hp) (xs : List V) (us : List Value) (Q : VK),Inv X pins σ H s -> Vals xs us -> r xs H Q ->
  wpAny (model X.prog X.w) X.A (call f us) (EP X pins σ Q) X.xe s
def HI (X : Cx) (r : V -> Hp -> (Bool -> Hp -> Prop) -> Prop) : Prop:=
 ∀ (pins : List (Addr × Obj)) (s : Shared) (σ : St) (H : Hp) (x : V) (v : Value) (Q : Bool -> Hp -> Prop),Inv X pins σ H s -> RelV x v -> r x H Q ->
  wpAny (model X.prog X.w) X.A (truthy v) (TP X pins σ Q) X.xe s
def tOp (r : R2) (ta tb : TE) : TE:=fun σ H Q => ta σ H fun x H1 => tb σ H1 fun y H2 => r x y H2 Q
def tUn (r : V -> Hp -> VK -> Prop) (ta : TE) : TE:=fun σ H Q => ta σ H fun x H1 => r x H1 Q
def rI (C : Int -> Int -> Prop) (g : Int -> Int -> V) : R2:=fun x y H Q => ∃ i j,x = .int i /\ y = .int j /\ C i j /\ Q (g i j) H
def rI0 (g : Int -> Int -> V) : R2:=fun x y H Q => ∃ i j,x = .int i /\ y = .int j /\ Q (g i j) H
def rU (g : Int -> V) : V -> Hp -> VK -> Prop:=fun x H Q => ∃ i,x = .int i /\ Q (g i) H
section
variable {X : Cx} {a b c : Expr} {ta tb tc : TE} {pos : Pos}
theorem F6 (ha : PE X a ta) (hb : PE X b tb) {pins : List (Addr × Obj)} {s : Shared} {σ : St} {H : Hp} {R : V -> V -> Hp -> Prop} (I : Inv X pins σ H s)
  (h : ta σ H fun x H1 => tb σ H1 fun y H2 => R x y H2) {Q : Value -> Shared -> Prop} {f : Value -> Value -> Sem Value}
  (hf : ∀ v u s2 x y H2,Inv X pins σ H2 s2 -> RelV x v -> RelV y u -> R x y H2 -> wpAny (model X.prog X.w) X.A (f v u) Q X.xe s2) :
  wpAny (model X.prog X.w) X.A (eval a X.env) (fun v s₁ => wpAny (model X.prog X.w) X.A (eval b X.env) (fun u s₂ => wpAny (model X.prog X.w) X.A (f v u) Q X.xe s₂) X.xe s₁) X.xe s:=by
 refine thn (ha pins s σ H _ I h) fun v s1 ⟨x,H1,I1,r1,q1⟩ => ?_
 refine thn (hb pins s1 σ H1 _ I1 q1) fun u s2 ⟨y,H2,I2,r2,q2⟩ => ?_
 exact hf v u s2 x y H2 I2 r1 r2 q2
theorem az {op : Operator} {r : R2} (ho : OpR X (binaryOp op) r) (ha : PE X a ta) (hb : PE X b tb) : PE X (.BinOp a op b pos) (tOp r ta tb):=by
 intro pins s σ H Q I h
 exact wpAny_BinOp (F6 ha hb I h fun v u s2 x y H2 I2 rx ry q => ho pins s2 σ H2 x y v u Q I2 rx ry q)
theorem FN {op : UnaryOp} {r : V -> Hp -> VK -> Prop} (ho : UnR X (unaryOp op) r) (ha : PE X a ta) : PE X (.UnaryOp op a pos) (tUn r ta):=by
 intro pins s σ H Q I h
 exact UnaryOp_ (thn (ha pins s σ H _ I h) fun v s1 ⟨x,H1,I1,r1,q1⟩ => ho pins s1 σ H1 x v Q I1 r1 q1)
theorem opI {f : Value -> Value -> Sem Value} {C : Int -> Int -> Prop} {g : Int -> Int -> Int}
  (rule : ∀ (i j : Int) (t u : Tok) (s : Shared) (Q : Value -> Shared -> Prop) (E : Value -> Shared -> Prop),C i j -> Q (.int (g i j) s.toks) { s with toks:=s.toks + 1 } -> wpAny (model X.prog X.w) X.A (f (.int i t) (.int j u)) Q E s) :
  OpR X f (rI C fun i j => .int (g i j)):=by
 intro pins s σ H x y v u Q I rx ry h
 obtain ⟨i,j,rfl,rfl,hc,q⟩:=h
 obtain ⟨t,rfl⟩:=rx
 obtain ⟨t',rfl⟩:=ry
 exact rule i j t t' s _ _ hc ⟨.int (g i j),H,I.tok _,⟨_,rfl⟩,q⟩
theorem Hi {f : Value -> Value -> Sem Value} {g : Int -> Int -> Int}
  (rule : ∀ (i j : Int) (t u : Tok) (s : Shared) (Q : Value -> Shared -> Prop) (E : Value -> Shared -> Prop),Q (.int (g i j) s.toks) { s with toks:=s.toks + 1 } -> wpAny (model X.prog X.w) X.A (f (.int i t) (.int j u)) Q E s) :
  OpR X f (rI0 fun i j => .int (g i j)):=by
 intro pins s σ H x y v u Q I rx ry h
 obtain ⟨i,j,rfl,rfl,q⟩:=h
 obtain ⟨t,rfl⟩:=rx
 obtain ⟨t',rfl⟩:=ry
 exact rule i j t t' s _ _ ⟨.int (g i j),H,I.tok _,⟨_,rfl⟩,q⟩
theorem E8 {f : Value -> Value -> Sem Value} {g : Int -> Int -> Bool}
  (rule : ∀ (i j : Int) (t u : Tok) (s : Shared) (Q : Value -> Shared -> Prop) (E : Value -> Shared -> Prop),Q (.bool (g i j)) s -> wpAny (model X.prog X.w) X.A (f (.int i t) (.int j u)) Q E s) :
  OpR X f (rI0 fun i j => .bl (g i j)):=by
 intro pins s σ H x y v u Q I rx ry h
 obtain ⟨i,j,rfl,rfl,q⟩:=h
 obtain ⟨t,rfl⟩:=rx
 obtain ⟨t',rfl⟩:=ry
 exact rule i j t t' s _ _ ⟨.bl (g i j),H,I,rfl,q⟩
def HF (i j : Int) : Prop:=0 < j /\ j < 1073741824
def HG (i j : Int) : Prop:=0 <= j /\ j <= 1000000 /\ i.natAbs < 2 ^ 64
def CMul (i j : Int) : Prop:=(-(2 ^ 64) < i /\ i < 2 ^ 64) \/ (-(2 ^ 64) < j /\ j < 2 ^ 64)
theorem CMul.ok {i j : Int} (h : CMul i j) : IntMulOk i j:=by
 rcases h with ⟨h1,h2⟩ | ⟨h1,h2⟩
 ·exact .of_left (intBits_le_64 h1 h2)
 ·exact .of_right (intBits_le_64 h1 h2)
theorem aY : OpR X (binaryOp .Add) (rI0 fun i j => .int (i + j)):=Hi fun _ _ _ _ _ _ _ q => add_int q
theorem zQ : OpR X (binaryOp .Sub) (rI0 fun i j => .int (i - j)):=Hi fun _ _ _ _ _ _ _ q => sub_int q
theorem eZ : OpR X (binaryOp .Mult) (rI CMul fun i j => .int (i * j)):=opI fun _ _ _ _ _ _ _ hc q => mul_int q hc.ok
theorem rh : OpR X (binaryOp .FloorDiv) (rI HF fun i j => .int (i / j)):=opI fun i j _ _ _ _ _ hc q => by
 have h1 : (0 : Int) < j:=hc.1
 have h2 : j < 1073741824:=hc.2
 exact floordiv_int (by omega) (by rw [Int.fdiv_eq_ediv_of_nonneg i (by omega)]; exact q) (.inl (PyProof.noPylong_small (by omega)))
theorem bw : OpR X (binaryOp .Mod) (rI (fun _ j => 0 < j) fun i j => .int (i % j)):=opI fun i j _ _ _ _ _ hc q => by
 have h1 : (0 : Int) < j:=hc
 exact mod_int' (by omega) (by rw [Int.fmod_eq_emod_of_nonneg i (by omega)]; exact q)
theorem Dy : OpR X (binaryOp .Pow) (rI HG fun i j => .int (i ^ j.toNat)):=opI fun _ _ _ _ _ _ _ hc q => pow_int_small hc.1 hc.2.1 hc.2.2 q
theorem unI {f : Value -> Sem Value} {g : Int -> Int}
  (rule : ∀ (i : Int) (t : Tok) (s : Shared) (Q : Value -> Shared -> Prop) (E : Value -> Shared -> Prop),Q (.int (g i) s.toks) { s with toks:=s.toks + 1 } -> wpAny (model X.prog X.w) X.A (f (.int i t)) Q E s) :
  UnR X f (rU fun i => .int (g i)):=by
 intro pins s σ H x v Q I rx h
 obtain ⟨i,rfl,q⟩:=h
 obtain ⟨t,rfl⟩:=rx
 exact rule i t s _ _ ⟨.int (g i),H,I.tok _,⟨_,rfl⟩,q⟩
theorem El : UnR X (unaryOp .USub) (rU fun i => .int (-i)):=unI fun _ _ _ _ _ q => neg_int q
end
def Hr : V -> V -> Bool
 | .non,.non => true | .non,.int _ => true | .int _,.non => true | .non,.bl _ => true | .bl _,.non => true | .non,.str _ => true | .str _,.non => true
 | .int _,.int _ => true | .bl _,.bl _ => true | .str _,.str _ => true | .byt _,.byt _ => true
 | .int _,.str _ => true | .str _,.int _ => true | .bl _,.str _ => true | .str _,.bl _ => true
 | _,_ => false
def rEq : R2:=fun x y H Q => Hr x y = true /\ Q (.bl (decide (x = y))) H
def rNe : R2:=fun x y H Q => Hr x y = true /\ Q (.bl (!decide (x = y))) H
theorem AE {i j : Int} : decide (V.int i = V.int j) = (i == j):=by
 rw [Bool.eq_iff_iff]
 simp
theorem CG {i j : Bool} : decide (V.bl i = V.bl j) = (i == j):=by
 rw [Bool.eq_iff_iff]
 simp
theorem AF {i j : Str} : decide (V.str i = V.str j) = (i == j):=by
 rw [Bool.eq_iff_iff]
 simp
theorem AD {i j : Array UInt8} : decide (V.byt i = V.byt j) = (i.toList == j.toList):=by
 rw [Bool.eq_iff_iff]
 cases i
 cases j
 simp
section
variable {X : Cx} {a b c : Expr} {ta tb tc : TE} {pos : Pos}
theorem bj {pins : List (Addr × Obj)} {σ : St} {H : Hp} {s : Shared} {Q : VK} {k k' : Bool} (I : Inv X pins σ H s) (q : Q (.bl k) H) (e : k = k') : EP X pins σ Q (.bool k') s:=by
 subst e
 exact ⟨.bl k,H,I,rfl,q⟩
theorem fj : OpR X (compareOp .Eq) rEq:=by
 intro pins s σ H x y v u Q I rx ry h
 obtain ⟨hs,q⟩:=h
 cases x with
 | non =>
  cases rx
  cases y with
  | non => cases ry; exact PySem.EqNone.eq_none_none (bj I q (by simp))
  | bl j => cases ry; exact PySem.EqNone.eq_none_bool (bj I q (by simp))
  | int j => obtain ⟨t',rfl⟩:=ry; exact PySem.EqNone.eq_none_int (bj I q (by simp))
  | str j => obtain ⟨t',rfl⟩:=ry; exact PySem.EqNone.eq_none_str (bj I q (by simp))
  | _ => exact absurd (show false = true from hs) Bool.false_ne_true
 | bl i =>
  cases rx
  cases y with
  | non => cases ry; exact PySem.EqNone.eq_bool_none (bj I q (by simp))
  | bl j => cases ry; exact eq_bool (bj I q CG)
  | str j => obtain ⟨t',rfl⟩:=ry; exact PySem.EqMixed.eq_bool_str (bj I q (by simp))
  | _ => exact absurd (show false = true from hs) Bool.false_ne_true
 | int i =>
  obtain ⟨t,rfl⟩:=rx
  cases y with
  | non => cases ry; exact PySem.EqNone.eq_int_none (bj I q (by simp))
  | int j => obtain ⟨t',rfl⟩:=ry; exact eq_int (bj I q AE)
  | str j => obtain ⟨t',rfl⟩:=ry; exact PySem.EqMixed.eq_int_str (bj I q (by simp))
  | _ => exact absurd (show false = true from hs) Bool.false_ne_true
 | str i =>
  obtain ⟨t,rfl⟩:=rx
  cases y with
  | non => cases ry; exact PySem.EqNone.eq_str_none (bj I q (by simp))
  | bl j => cases ry; exact PySem.EqMixed.eq_str_bool (bj I q (by simp))
  | int j => obtain ⟨t',rfl⟩:=ry; exact PySem.EqMixed.eq_str_int (bj I q (by simp))
  | str j => obtain ⟨t',rfl⟩:=ry; exact eq_str (bj I q AF)
  | _ => exact absurd (show false = true from hs) Bool.false_ne_true
 | byt i =>
  obtain ⟨t,rfl⟩:=rx
  cases y with
  | byt j => obtain ⟨t',rfl⟩:=ry; exact PySem.W.eq_bytes (bj I q AD)
  | _ => exact absurd (show false = true from hs) Bool.false_ne_true
 | _ => cases y <;> exact absurd (show false = true from hs) Bool.false_ne_true
theorem Hj : OpR X (compareOp .NotEq) rNe:=by
 intro pins s σ H x y v u Q I rx ry h
 obtain ⟨hs,q⟩:=h
 cases x with
 | non =>
  cases rx
  cases y with
  | non => cases ry; exact PySem.EqNone.ne_none_none (bj I q (by simp))
  | bl j => cases ry; exact PySem.EqNone.ne_none_bool (bj I q (by simp))
  | int j => obtain ⟨t',rfl⟩:=ry; exact PySem.EqNone.ne_none_int (bj I q (by simp))
  | str j => obtain ⟨t',rfl⟩:=ry; exact PySem.EqNone.ne_none_str (bj I q (by simp))
  | _ => exact absurd (show false = true from hs) Bool.false_ne_true
 | bl i =>
  cases rx
  cases y with
  | non => cases ry; exact PySem.EqNone.ne_bool_none (bj I q (by simp))
  | bl j => cases ry; exact ne_bool (bj I q (congrArg not CG))
  | str j => obtain ⟨t',rfl⟩:=ry; exact PySem.EqMixed.ne_bool_str (bj I q (by simp))
  | _ => exact absurd (show false = true from hs) Bool.false_ne_true
 | int i =>
  obtain ⟨t,rfl⟩:=rx
  cases y with
  | non => cases ry; exact PySem.EqNone.ne_int_none (bj I q (by simp))
  | int j => obtain ⟨t',rfl⟩:=ry; exact ne_int (bj I q (congrArg not AE))
  | str j => obtain ⟨t',rfl⟩:=ry; exact PySem.EqMixed.ne_int_str (bj I q (by simp))
  | _ => exact absurd (show false = true from hs) Bool.false_ne_true
 | str i =>
  obtain ⟨t,rfl⟩:=rx
  cases y with
  | non => cases ry; exact PySem.EqNone.ne_str_none (bj I q (by simp))
  | bl j => cases ry; exact PySem.EqMixed.ne_str_bool (bj I q (by simp))
  | int j => obtain ⟨t',rfl⟩:=ry; exact PySem.EqMixed.ne_str_int (bj I q (by simp))
  | str j => obtain ⟨t',rfl⟩:=ry; exact ne_str (bj I q (congrArg not AF))
  | _ => exact absurd (show false = true from hs) Bool.false_ne_true
 | byt i =>
  obtain ⟨t,rfl⟩:=rx
  cases y with
  | byt j => obtain ⟨t',rfl⟩:=ry; exact PySem.W.ne_bytes (bj I q (congrArg not AD))
  | _ => exact absurd (show false = true from hs) Bool.false_ne_true
 | _ => cases y <;> exact absurd (show false = true from hs) Bool.false_ne_true
theorem AR : OpR X (compareOp .Lt) (rI0 fun i j => .bl (decide (i < j))):=E8 fun _ _ _ _ _ _ _ q => lt_int q
theorem FL : OpR X (compareOp .LtE) (rI0 fun i j => .bl (decide (i <= j))):=E8 fun _ _ _ _ _ _ _ q => le_int q
theorem FK : OpR X (compareOp .Gt) (rI0 fun i j => .bl (decide (j < i))):=E8 fun _ _ _ _ _ _ _ q => gt_int q
theorem FJ : OpR X (compareOp .GtE) (rI0 fun i j => .bl (decide (j <= i))):=E8 fun _ _ _ _ _ _ _ q => ge_int q
theorem Gu : OpR X (compareOp .Is) (fun x y H Q => y = .non /\ Q (.bl (decide (x = .non))) H):=by
 intro pins s σ H x y v u Q I rx ry h
 obtain ⟨rfl,q⟩:=h
 cases ry
 refine is_none_gen (bj I q ?_)
 cases x <;> first
  | (cases rx; rfl)
  | (obtain ⟨t,rfl⟩:=rx; rfl)
theorem bh (b : Expr) {op : CmpOp} (h : op ≠ .In:=by decide) (h2 : op ≠ .NotIn:=by decide) : behindInMarks op b = false:=by
 have e1 : (op == CmpOp.In) = false:=by cases op <;> first | rfl | exact absurd rfl h
 have e2 : (op == CmpOp.NotIn) = false:=by cases op <;> first | rfl | exact absurd rfl h2
 cases b <;> simp [behindInMarks,e1,e2]
theorem rj {op : CmpOp} {r : R2} (ho : OpR X (compareOp op) r) (ha : PE X a ta) (hb : PE X b tb) (hm : behindInMarks op b = false) : PE X (.Compare a [op] [b] pos) (tOp r ta tb):=by
 intro pins s σ H Q I h
 exact wpAny_Compare1 (F6 ha hb I h fun v u s2 x y H2 I2 rx ry q => ho pins s2 σ H2 x y v u Q I2 rx ry q) hm
def HA (t : TE) : TT:=fun σ H Q => t σ H fun x H' => ∃ k,x = .bl k /\ Q k H'
theorem a8 {op : CmpOp} {r : R2} (ho : OpR X (compareOp op) r) (ha : PE X a ta) (hb : PE X b tb) (hm : behindInMarks op b = false) : PT X (.Compare a [op] [b] pos) (HA (tOp r ta tb)):=by
 intro pins s σ H Q I h
 refine wpAny_isTrue_Compare1 (thn (ha pins s σ H _ I h) fun v s1 ⟨x,H1,I1,r1,q1⟩ => thn (hb pins s1 σ H1 _ I1 q1) fun u s2 ⟨y,H2,I2,r2,q2⟩ =>
  thn (ho pins s2 σ H2 x y v u _ I2 r1 r2 q2) fun c s3 ⟨z,H3,I3,r3,k,e,q3⟩ => ?_) hm
 subst e
 cases r3
 exact wpAny_truthy_bool ⟨H3,I3,q3⟩
def GY (K : PySem.W.Frag) (x : V) (H : Hp) (k : Bool) : Prop:=
 match x with
 | .non => k = false
 | .bl b => k = b
 | .int i => k = (i != 0)
 | .str y => y.length <= sizeLine /\ k = ((y.length : Int) != 0)
 | .byt y => y.size <= sizeLine /\ k = ((y.size : Int) != 0)
 | .ref p => (∃ xs,SqL K H p xs /\ k = !xs.isEmpty) \/ (∃ xs,SqT K H p xs /\ k = !xs.isEmpty) \/ ∃ kvs,H p = some (.dK kvs) /\ k = !kvs.isEmpty
 | _ => False
theorem zi {κ : Type} {kvs : List (κ × V)} {vs : List (κ × Value)} (r : KV kvs vs) : (!vs.isEmpty) = !kvs.isEmpty:=by
 cases r <;> rfl
theorem su {xs : List V} {its : List Value} (r : Vals xs its) : (!its.toArray.isEmpty) = !xs.isEmpty:=by
 cases r <;> simp
theorem sJ : (sizeLine : Nat) < 2 ^ 63:=by rw [sizeLine_eq]; decide
theorem GP : HI X (fun x H Q => ∃ k,GY X.K x H k /\ Q k H):=by
 intro pins s σ H x v Q I rx h
 obtain ⟨k,e,q⟩:=h
 have hl:=sJ
 have hs : sizeLine = 16777216:=sizeLine_eq
 cases x with
 | non =>
  cases rx
  have e' : k = false:=e
  subst e'
  exact truthy_none ⟨H,I,q⟩
 | bl b =>
  cases rx
  have e' : k = b:=e
  subst e'
  exact wpAny_truthy_bool ⟨H,I,q⟩
 | int i =>
  obtain ⟨t,rfl⟩:=rx
  have e' : k = (i != 0):=e
  subst e'
  exact PySem.P.truthy_int ⟨H,I,q⟩
 | str y =>
  obtain ⟨t,rfl⟩:=rx
  obtain ⟨hy,e'⟩ : y.length <= sizeLine /\ k = ((y.length : Int) != 0):=e
  subst e'
  exact PySem.P.truthy_str (by omega) ⟨H,I.tok _,q⟩
 | byt y =>
  obtain ⟨t,rfl⟩:=rx
  obtain ⟨hy,e'⟩ : y.size <= sizeLine /\ k = ((y.size : Int) != 0):=e
  subst e'
  exact PySem.W.truthy_bytes (by omega) ⟨H,I.tok _,q⟩
 | ref p =>
  cases rx
  have e' : (∃ xs,SqL X.K H p xs /\ k = !xs.isEmpty) \/ (∃ xs,SqT X.K H p xs /\ k = !xs.isEmpty) \/ ∃ kvs,H p = some (.dK kvs) /\ k = !kvs.isEmpty:=e
  rcases e' with ⟨xs,hx,e'⟩ | ⟨xs,hx,e'⟩ | ⟨kvs,hx,e'⟩
  ·subst e'
   obtain ⟨its,r,pl,hz⟩:=I.list hx
   have hlen:=r.length
   exact wpAny_truthy_list pl.isList (by simp only [List.size_toArray]; omega) ⟨H,I.tok _,by rw [su r]; exact q⟩
  ·subst e'
   obtain ⟨its,r,pl,hz⟩:=I.tuple hx
   have hlen:=r.length
   exact truthy_tuple pl (by simp only [List.size_toArray]; omega) ⟨H,I.tok _,by rw [su r]; exact q⟩
  ·subst e'
   obtain ⟨hz,hS,vs,r,m⟩ : kvs.length <= sizeLine /\ (p == sysModules) = false /\ ∃ vs,KV kvs vs /\ s.heap.DictOf (aP X.prog X.w) p vs:=I.hok p _ hx
   have hlen : kvs.length = vs.length:=Paired.length r
   exact wpAny_truthy_dict hS m (by omega) ⟨H,I.tok _,by rw [zi r]; exact q⟩
 | _ => exact (show False from e).elim
theorem nY (ha : PE X a ta) (he : ∀ whole,isTrue a X.env whole = (do let v <- whole; standAt a.pos; holding [v] (truthy v))) :
  PT X a (fun σ H Q => ta σ H fun x H' => ∃ k,GY X.K x H' k /\ Q k H'):=by
 intro pins s σ H Q I h
 exact isTrue_plain (thn (ha pins s σ H _ I h) fun v s1 ⟨x,H1,I1,r1,q1⟩ => GP pins s1 σ H1 x v Q I1 r1 q1) (he _)
theorem vals1 {x : V} {us : List Value} (r : Vals [x] us) : ∃ u,us = [u] /\ RelV x u:=by
 cases r with
 | cons r1 r2 => cases r2; exact ⟨_,rfl,r1⟩
theorem vals2 {x y : V} {us : List Value} (r : Vals [x,y] us) : ∃ u w',us = [u,w'] /\ RelV x u /\ RelV y w' := by
 cases r with
 | cons r1 r2 =>
  cases r2 with
  | cons r3 r4 => cases r4; exact ⟨_,_,rfl,r1,r3⟩
theorem oO (hc : X.calm = true) : gX X (.builtin "min") (fun xs H Q => ∃ i j,xs = [.int i,.int j] /\ Q (.int (if j < i then j else i)) H):=by
 intro pins s σ H xs us Q I r h
 obtain ⟨i,j,rfl,q⟩:=h
 obtain ⟨u,w',rfl,⟨t,rfl⟩,⟨t',rfl⟩⟩:=vals2 r
 refine min_two_ints (I.ok.hd hc) fun h' tk k => ⟨_,H,I.kept k,?_,q⟩
 by_cases hj : j < i
 ·rw [if_pos hj,if_pos hj]; exact ⟨_,rfl⟩
 ·rw [if_neg hj,if_neg hj]; exact ⟨_,rfl⟩
theorem Bd : gX X (.type "int") (fun xs H Q => (∃ i,xs = [.int i] /\ Q (.int i) H) \/ ∃ k,xs = [.bl k] /\ Q (.int (if k then 1 else 0)) H):=by
 intro pins s σ H xs us Q I r h
 rcases h with ⟨i,rfl,q⟩ | ⟨k,rfl,q⟩
 ·obtain ⟨u,rfl,t,rfl⟩:=vals1 r
  exact call_int_int ⟨.int i,H,I,⟨_,rfl⟩,q⟩
 ·obtain ⟨u,rfl,r1⟩:=vals1 r
  cases r1
  exact call_int_bool ⟨.int (if k then 1 else 0),H,I.tok _,⟨_,rfl⟩,q⟩
end
end L2
namespace L2
open PySem PySem.Spec PyProof.Rows
structure ObjM (h : Heap) (x dx C : Addr) (mA : Str -> Option Value) : Prop where
 obj : h.get? x = some (PySem.W.instObj C dx)
 ns : h.Ns1 dx mA
 ne : dx ≠ x
theorem BG {h : Heap} {dx : Addr} {mA : Str -> Option Value} (n : h.Ns1 dx mA) : ∃ od,h.get? dx = some od /\ ∀ name,PySem.W.lookIn name od = some (mA name):=by
 obtain ⟨o,es,ep,ho,hd,hk,_,hm⟩:=n
 refine ⟨o,ho,fun name => ?_⟩
 have e:=hm name
 unfold nsFind findBy at e
 rw [<- Array.find?_toList] at e
 unfold PySem.W.lookIn
 rw [hd]
 dsimp only
 split
 ·rename_i y q
  rw [q] at e
  exact congrArg some e
 ·rename_i q
  rw [q] at e
  have a : es.toList.any (·.refKey) = false:=by
   rw [List.any_eq_false]
   intro y hy
   obtain ⟨z,t,hkey⟩:=hk y (Array.mem_toList_iff.mp hy)
   simp [DictEntry.refKey,hkey]
  have a' : ¬ es.toList.any (·.refKey) = true:=by rw [a]; exact Bool.false_ne_true
  rw [if_neg a']
  exact congrArg some e
theorem ObjM.look {h : Heap} {x dx C : Addr} {mA : Str -> Option Value} (I : ObjM h x dx C mA) : ∃ od,PySem.W.InstAt h x (PySem.W.instObj C dx) C (some od) /\ ∀ name,PySem.W.lookIn name od = some (mA name):=
 let ⟨od,ho,hl⟩:=BG I.ns
 ⟨od,⟨I.obj,rfl,rfl,ho⟩,hl⟩
section
variable {prog : Program} {w : World} {A : Around} {E : Value -> Shared -> Prop} {s : Shared} {K : PySem.W.Frag} {x dx C f : Addr} {mA : Str -> Option Value} {name : Str} {v : Value}
theorem get_map {expr : Bool} {Q : Value -> Shared -> Prop} (X : K.In s.heap) (I : ObjM s.heap x dx C mA) (hg : PySem.W.plainGet K C name = true) (hh : PySem.W.hasDictIn K C = true)
  (ha : PySem.W.findIn K (.ref C) name = some none) (hv : mA name = some v) (hv' : PySem.W.handedIn v = true) (h : Q v { s with toks:=s.toks + 1 }) :
  wpAny (model prog w) A (getAttr (.ref x) name expr) Q E s:=by
 obtain ⟨od,J,hl⟩:=I.look
 exact PySem.W.get_value X J (PySem.W.plainGet_of hg).1 (PySem.W.findObj_own hh ha rfl (by rw [hl,hv])) hv' h
theorem CN {pl : Sem Bool} {Q : Value × List Value -> Shared -> Prop} (X : K.In s.heap) (I : ObjM s.heap x dx C mA) (hg : PySem.W.plainGet K C name = true)
  (hf : PySem.W.findIn K (.ref C) name = some (some (.ref f))) (ht : PySem.W.isFn K (.ref f) = true) (hv : mA name = none) (h : Q (.ref f,[.ref x]) s) :
  wpAny (model prog w) A (getMethod (.ref x) name pl) Q E s:=by
 obtain ⟨od,J,hl⟩:=I.look
 exact PySem.W.method_fn X J (PySem.W.plainGet_of hg).1 (PySem.W.plainGet_of hg).2 hf (beq_iff_eq.mp ht) (by show (PySem.W.lookIn name od).map (·.isSome) = some false; rw [hl,hv]; rfl) h
theorem Fs {ns : List Str} {Q : Unit -> Shared -> Prop} (X : K.In s.heap) (I : ObjM s.heap x dx C mA)
  (hs : PySem.W.findIn K (.ref C) "__setattr__" = some (some (.builtin "object.__setattr__"))) (hp : PySem.W.plainOver K C = true) (ht : PySem.W.takerIn K C name = some none) (hh : PySem.W.hasDictIn K C = true)
  (hw : PySem.Within mA ns) (hsz : ns.length <= sizeLine)
  (h : ∀ h',ObjM h' x dx C (fun y => if y = name then some v else mA y) -> Heap.SameBut dx s.heap h' -> Q () { s with heap:=h',toks:=s.toks + 2 }) :
  wpAny (model prog w) A (setAttr (.ref x) name v) Q E s:=by
 obtain ⟨od,J,hl⟩:=I.look
 refine PySem.W.set_plain X J hs (PySem.W.osa_open (s:={ s with toks:=s.toks + 1 }) (r:=none) X J hp ht fun b => ?_)
 obtain ⟨cd,hc,hd'⟩:=PySem.W.any_some hh
 have hx : s.heap.get? x = some ⟨.ref C,some dx,.plain,#[]⟩:=I.obj
 refine wpAny_bind (wpAny_pure (wpAny_bind (wpAny_bind (wpAny_loadPart hx (wpAny_bind (PySem.W.Looks.here (s:={ s with toks:=s.toks + 1 }) (PySem.W.looks_clsIn X hc) ?_))))))
 rw [hd']
 refine wpAny_pure (a:=some dx) (wpAny_bind (wpAny_pure (wpAny_bind ?_)))
 refine wpAny_nsSet1 (s:={ s with toks:=s.toks + 1 }) I.ns fun h' hn2 hs2 => ?_
 obtain ⟨oD,esD,epD,hoD,hdD,hcD⟩:=hn2.count (PySem.Within.cons name v hw)
 refine wpAny_bind (wpAny_lookBehind hoD (by rw [hdD]; exact pastItsLine_dict (Nat.le_trans hcD (by rw [List.length_cons]; omega))) ?_)
 exact wpAny_pure (h _ ⟨(hs2.2 _ (Ne.symm I.ne)).trans I.obj,hn2,I.ne⟩ hs2)
theorem C9 {R : Result -> Shared -> Prop} {vs : List Value} {kw : List (Str × Value)} (X : K.In s.heap) (hm : PySem.W.makesIn K C = true)
  (hi : PySem.W.findIn K (.ref C) "__init__" = some (some (.ref f))) (hf : PySem.W.typeIn K (.ref f) = some (.type "function"))
  (h : codeAny (model prog w) (A.under (.builtin "type.__call__" ⟨.ref C :: vs,kw⟩)) (.call (.ref f) ⟨.ref (s.heap.objs.size + 1) :: vs,kw⟩) (PySem.W.InitBack (s.heap.objs.size + 1) R)
   { s with heap:=(s.heap.push PySem.W.emptyDict).push (PySem.W.instObj C s.heap.objs.size) }) :
  codeAny (model prog w) A (.call (.ref C) ⟨vs,kw⟩) R s:=by
 obtain ⟨hh,g,d,t,os⟩:=s
 exact PySem.W.make_core (PySem.W.makes_of X hm) (PySem.W.looks_findIn X hi) (fun self => PySem.W.bind_fn X self hf) (.inl rfl) h
end
def iM (f : Str) (v : V) : List (Str × V) -> List (Str × V)
 | [] => [(f,v)]
 | (g,x) :: r => if g = f then (g,v) :: r else (g,x) :: iM f v r
theorem qe (f g : Str) (v : V) : ∀ fs : List (Str × V),(iM f v fs).lookup g = if g = f then some v else fs.lookup g
 | [] => by
  show List.lookup g [(f,v)] = _
  by_cases h : g = f
  ·have hb : (g == f) = true:=beq_iff_eq.mpr h
   simp only [List.lookup,hb,if_pos h]
  ·have hb : (g == f) = false:=beq_eq_false_iff_ne.mpr h
   simp only [List.lookup,hb,if_neg h]
 | (k,x) :: r => by
  have ih:=qe f g v r
  rw [show iM f v ((k,x) :: r) = (if k = f then (k,v) :: r else (k,x) :: iM f v r) from rfl]
  by_cases hk : k = f
  ·rw [if_pos hk]
   by_cases h : g = k
   ·have hb : (g == k) = true:=beq_iff_eq.mpr h
    simp only [List.lookup,hb,if_pos (h.trans hk)]
   ·have hb : (g == k) = false:=beq_eq_false_iff_ne.mpr h
    simp only [List.lookup,hb,if_neg (fun e : g = f => h (e.trans hk.symm))]
  ·rw [if_neg hk]
   by_cases h : g = k
   ·have hb : (g == k) = true:=beq_iff_eq.mpr h
    simp only [List.lookup,hb,if_neg (fun e : g = f => hk (h.symm.trans e))]
   ·have hb : (g == k) = false:=beq_eq_false_iff_ne.mpr h
    simp only [List.lookup,hb]
    exact ih
theorem pe (f : Str) (v : V) : ∀ fs : List (Str × V),f ∈ (iM f v fs).map (·.1) /\ ∀ g,g ∈ fs.map (·.1) -> g ∈ (iM f v fs).map (·.1)
 | [] => ⟨by simp [iM],fun g h => by simp at h⟩
 | (k,x) :: r => by
  obtain ⟨i1,i2⟩:=pe f v r
  rw [show iM f v ((k,x) :: r) = (if k = f then (k,v) :: r else (k,x) :: iM f v r) from rfl]
  by_cases hk : k = f
  ·rw [if_pos hk]
   subst hk
   exact ⟨by simp,fun g h => by simpa using h⟩
  ·rw [if_neg hk]
   refine ⟨?_,fun g h => ?_⟩
   ·rw [List.map_cons]
    exact List.mem_cons_of_mem _ i1
   ·rw [List.map_cons] at h ⊢
    rcases List.mem_cons.mp h with e | e
    ·exact List.mem_cons.mpr (.inl e)
    ·exact List.mem_cons_of_mem _ (i2 g e)
theorem qd (f : Str) (v : V) : ∀ fs : List (Str × V),(iM f v fs).length <= fs.length + 1
 | [] => by simp [iM]
 | (k,x) :: r => by
  have ih:=qd f v r
  rw [show iM f v ((k,x) :: r) = (if k = f then (k,v) :: r else (k,x) :: iM f v r) from rfl]
  by_cases hk : k = f
  ·rw [if_pos hk,List.length_cons,List.length_cons]; omega
  ·rw [if_neg hk,List.length_cons,List.length_cons]; omega
theorem RelO.some_of {v : V} {o : Option Value} (r : RelO (some v) o) : ∃ u,o = some u /\ RelV v u:=by
 cases o with
 | none => exact (show False from r).elim
 | some u => exact ⟨u,rfl,r⟩
theorem RelO.none_of {o : Option Value} (r : RelO none o) : o = none:=by
 cases o with
 | none => rfl
 | some u => exact (show False from r).elim
theorem Bu {v : V} {u : Value} (r : RelV v u) : PySem.W.handedIn u = true:=by
 cases v with
 | non => cases (show u = Value.none from r); rfl
 | bl b => cases (show u = Value.bool b from r); rfl
 | int i => obtain ⟨t,e⟩:=(show ∃ t,u = Value.int i t from r); cases e; rfl
 | str x => obtain ⟨t,e⟩:=(show ∃ t,u = Value.str x t from r); cases e; rfl
 | byt b => obtain ⟨t,e⟩:=(show ∃ t,u = Value.bytes b t from r); cases e; rfl
 | flt b => obtain ⟨t,e⟩:=(show ∃ t,u = Value.float b t from r); cases e; rfl
 | ref a => cases (show u = Value.ref a from r); rfl
 | ty n => cases (show u = Value.type n from r); rfl
section
variable {P : Program} {w : World} {H H' : Hp} {h h' : Heap} {a C dx : Addr} {fs fs' : List (Str × V)}
theorem qZ (hok : HOk P w H h) (e : H a = some (.ins C dx fs)) : ∃ mA,ObjM h a dx C mA /\ (∀ f,RelO (fs.lookup f) (mA f)) /\ PySem.Within mA (fs.map (·.1)) /\ fs.length <= 1000 /\ H dx = some (.own a):=by
 obtain ⟨d,z,ne,ob,mA,n,r,q⟩:=(show ObjOk P w H h a (.ins C dx fs) from hok a _ e)
 exact ⟨mA,⟨ob,n,ne⟩,r,q,z,d⟩
end
structure Cls (K : PySem.W.Frag) (C : Addr) : Prop where
 pg : PySem.W.plainGet K C Str.empty = true
 hd : PySem.W.hasDictIn K C = true
 po : PySem.W.plainOver K C = true
 sa : PySem.W.findIn K (.ref C) "__setattr__" = some (some (.builtin "object.__setattr__"))
theorem Cls.get {K : PySem.W.Frag} {C : Addr} (c : Cls K C) (f : Str) : PySem.W.plainGet K C f = true:=c.pg
def NoAttr (K : PySem.W.Frag) (C : Addr) (f : Str) : Prop:=PySem.W.findIn K (.ref C) f = some none
theorem NoAttr.taker {K : PySem.W.Frag} {C : Addr} {f : Str} (n : NoAttr K C f) : PySem.W.takerIn K C f = some none:=by
 unfold PySem.W.takerIn
 rw [show PySem.W.findIn K (.ref C) f = some none from n]
 rfl
structure Con (K : PySem.W.Frag) (C : Addr) (f : Str) (v : V) (u : Value) : Prop where
 at_ : PySem.W.findIn K (.ref C) f = some (some u)
 rel : RelV v u
 get : PySem.W.specialIn K u "__get__" = some none
 cp : PySem.W.copiedNames.contains f = false
structure Meth (K : PySem.W.Frag) (C : Addr) (m : Str) (f : Addr) : Prop where
 at_ : PySem.W.findIn K (.ref C) m = some (some (.ref f))
 fn : PySem.W.isFn K (.ref f) = true
 kp : PySem.W.keepIn K (.ref f) = true
section
variable {X : Cx} {pins : List (Addr × Obj)} {σ : St} {H : Hp} {s : Shared} {a C dx : Addr} {fs : List (Str × V)} {f : Str} {v : V} {A : Around} {E : Value -> Shared -> Prop}
theorem zh {b : Bool} {Q : Value -> Shared -> Prop} (I : Inv X pins σ H s) (e : H a = some (.ins C dx fs)) (c : Cls X.K C) (n : NoAttr X.K C f) (l : fs.lookup f = some v)
  (h : ∀ u s',Inv X pins σ H s' -> RelV v u -> Q u s') : wpAny (model X.prog X.w) A (getAttr (.ref a) f b) Q E s:=by
 obtain ⟨mA,O,r,_,_,_⟩:=qZ I.hok e
 obtain ⟨u,hu,ru⟩:=RelO.some_of (v:=v) (o:=mA f) (by rw [<- l]; exact r f)
 exact get_map I.kIn O (c.get f) c.hd n hu (Bu ru) (h u _ (I.tok _) ru)
theorem sq {m : Str} {g : Addr} {pl : Sem Bool} {Q : Value × List Value -> Shared -> Prop} (I : Inv X pins σ H s) (e : H a = some (.ins C dx fs)) (c : Cls X.K C) (k : Meth X.K C m g) (l : fs.lookup m = none)
  (h : Q (.ref g,[.ref a]) s) : wpAny (model X.prog X.w) A (getMethod (.ref a) m pl) Q E s:=by
 obtain ⟨mA,O,r,_,_,_⟩:=qZ I.hok e
 have hn : mA m = none:=RelO.none_of (by rw [<- l]; exact r m)
 exact CN I.kIn O (c.get m) k.at_ k.fn hn h
theorem z9 {y : V} {u : Value} {Q : Unit -> Shared -> Prop} (I : Inv X pins σ H s) (e : H a = some (.ins C dx fs)) (c : Cls X.K C) (n : NoAttr X.K C f) (hl : fs.length < 1000) (ry : RelV y u)
  (h : ∀ s',Inv X pins σ (upd H a (.ins C dx (iM f y fs))) s' -> Q () s') : wpAny (model X.prog X.w) A (setAttr (.ref a) f u) Q E s:=by
 obtain ⟨mA,O,r,wi,_,ho⟩:=qZ I.hok e
 have hz : (fs.map (·.1)).length <= sizeLine:=by rw [List.length_map,sizeLine_eq]; omega
 refine Fs I.kIn O c.sa c.po n.taker c.hd wi hz fun h' O' sb => h _ ?_
 have hd : ∃ o,h'.get? dx = some o:=let ⟨o,_,_,e',_⟩:=O'.ns; ⟨o,e'⟩
 refine I.write (x:=a) (e:=dx) (by rw [e]; exact True.intro) (.inr ho) (fun b q hb z => (sb.2 b hb).trans z) hd ?_
 refine ⟨by rw [ae O.ne]; exact ho,?_,O.ne,O'.obj,_,O'.ns,fun g => ?_,fun g hg => ?_⟩
 ·have:=qd f y fs; omega
 ·show RelO ((iM f y fs).lookup g) (if g = f then some u else mA g)
  rw [qe]
  by_cases q : g = f
  ·rw [if_pos q,if_pos q]; exact ry
  ·rw [if_neg q,if_neg q]; exact r g
 ·by_cases q : g = f
  ·rw [q]; exact (pe f y fs).1
  ·refine (pe f y fs).2 g (wi g fun z => hg ?_)
   show (if g = f then some u else mA g) = none
   rw [if_neg q]; exact z
theorem Inv.made (I : Inv X pins σ H s) : Inv X pins σ (upd (upd H s.heap.objs.size (.own (s.heap.objs.size + 1))) (s.heap.objs.size + 1) (.ins C s.heap.objs.size []))
  { s with heap:=(s.heap.push PySem.W.emptyDict).push (PySem.W.instObj C s.heap.objs.size) }:=by
 have e1 : (s.heap.push PySem.W.emptyDict).get? s.heap.objs.size = some PySem.W.emptyDict:=Heap.get?_push_size s.heap rfl
 have e2 : ((s.heap.push PySem.W.emptyDict).push (PySem.W.instObj C s.heap.objs.size)).get? (s.heap.objs.size + 1) = some (PySem.W.instObj C s.heap.objs.size):=by
  have:=Heap.get?_push_size (s.heap.push PySem.W.emptyDict) (o:=PySem.W.instObj C s.heap.objs.size) rfl
  rwa [Heap.size_push] at this
 have e3 : (s.heap.push PySem.W.emptyDict).Ns s.heap.objs.size (fun _ => none):=⟨PySem.W.emptyDict,#[],_,e1,rfl,(fun e he => absurd he (by simp)),fun _ => rfl⟩
 have I1:=I.laid (a:=s.heap.objs.size) (o:=.own (s.heap.objs.size + 1)) (h' := s.heap.push PySem.W.emptyDict) (t' := s.toks) (fun b u q => Heap.get?_push_of_some _ q) (Nat.le_refl _) ⟨_,e1⟩
 refine I1.laid (a:=s.heap.objs.size + 1) (o:=.ins C s.heap.objs.size []) (t' := s.toks) (fun b u q => Heap.get?_push_of_some _ q) (Nat.le_of_eq (Heap.size_push _ _)) ?_
 have ne : s.heap.objs.size ≠ s.heap.objs.size + 1:=Nat.ne_of_lt (Nat.lt_succ_self _)
 refine ⟨by rw [ae ne,ab],Nat.zero_le _,ne,e2,fun _ => none,(Heap.Ns1.of_empty e3).at fun o q => Heap.get?_push_of_some _ q,fun _ => True.intro,fun y hy => absurd rfl hy⟩
theorem Ex {prog : Program} {w : World} {env : Env} {e : Expr} {f : Str} {pos : Pos} {s : Shared} {Q : Value -> Shared -> Prop} (hb : attributeBase e f env (eval e env) = eval e env)
  (h : wpAny (model prog w) A (eval e env) (fun o s₁ => wpAny (model prog w) A (getAttr o f true) Q E s₁) E s) : wpAny (model prog w) A (eval (.Attribute e f pos) env) Q E s:=
 Attribute_any_ h (by rw [arm_eval_Attribute,hb])
end
def Ie (K : PySem.W.Frag) (ta : TE) (f : Str) : TE:=fun σ H Q => ta σ H fun x H1 => ∃ a C dx fs v,x = .ref a /\ H1 a = some (.ins C dx fs) /\ Cls K C /\ NoAttr K C f /\ fs.lookup f = some v /\ Q v H1
def HZ (K : PySem.W.Frag) (ta tv : TE) (f : Str) : TS:=fun D σ H => tv σ H fun y H1 => ta σ H1 fun x H2 => ∃ a C dx fs,x = .ref a /\ H2 a = some (.ins C dx fs) /\ Cls K C /\ NoAttr K C f /\ fs.length < 1000 /\
 D.nx σ (upd H2 a (.ins C dx (iM f y fs)))
section
variable {X : Cx} {o e value : Expr} {f : Str} {pos pos' tpos : Pos} {ta tv : TE}
theorem cF (he : PE X e ta) (hb : attributeBase e f X.env (eval e X.env) = eval e X.env) : PE X (.Attribute e f pos) (Ie X.K ta f):=by
 intro pins s σ H Q I h
 refine Ex hb (thn (he pins s σ H _ I h) fun u s1 ⟨x,H1,I1,rx,a,C,dx,fs,v,ex,ea,c,n,l,q⟩ => ?_)
 subst ex
 obtain rfl : u = Value.ref a:=rx
 exact zh I1 ea c n l fun u' s2 I2 ru => ⟨v,H1,I2,ru,q⟩
theorem pL (ha : PE X o ta) (hv : PE X value tv) (hs : swapsWith value (some (.Attribute o f pos')) pos.line X.env = pure false) : PS X (.Assign [.Attribute o f pos'] value pos) (HZ X.K ta tv f):=by
 intro pins s σ H D I h
 refine plainObj_wpAny_Assign_Attribute (thn (hv pins s σ H _ I h) fun u s1 ⟨y,H1,I1,ry,q⟩ => thn (ha pins s1 σ H1 _ I1 q) fun ov s2 ⟨x,H2,I2,rx,a,C,dx,fs,ex,ea,c,n,l,q2⟩ => ?_) hs
 subst ex
 obtain rfl : ov = Value.ref a:=rx
 exact z9 I2 ea c n l ry fun s3 I3 => ⟨σ,_,I3,q2⟩
end
section
variable {X : Cx} {pins : List (Addr × Obj)} {σ : St} {H : Hp} {s : Shared} {A : Around} {E : Value -> Shared -> Prop} {Q : Value -> Shared -> Prop} {c : Value} {b : Bool}
inductive TyOf (K : PySem.W.Frag) (H : Hp) : V -> Value -> Prop where
 | non : TyOf K H .non (.type "NoneType")
 | bl (x : Bool) : TyOf K H (.bl x) (.type "bool")
 | int (i : Int) : TyOf K H (.int i) (.type "int")
 | str (x : Str) : TyOf K H (.str x) (.type "str")
 | flt (x : UInt64) : TyOf K H (.flt x) (.type "float")
 | lst {a : Addr} {xs : List V} (e : H a = some (.lst xs)) : TyOf K H (.ref a) (.type "list")
 | frz {a : Addr} {o : Obj} {xs : List V} (e : H a = some (.frz o (.lst xs))) : TyOf K H (.ref a) (.type "list")
 | tup {a : Addr} {xs : List V} (e : H a = some (.tup xs)) : TyOf K H (.ref a) (.type "tuple")
 | dK {a : Addr} {kvs : List (Key × V)} (e : H a = some (.dK kvs)) : TyOf K H (.ref a) (.type "dict")
 | dT {a : Addr} {kvs : List (List Key × V)} (e : H a = some (.dT kvs)) : TyOf K H (.ref a) (.type "dict")
 | ins {a C dx : Addr} {fs : List (Str × V)} (e : H a = some (.ins C dx fs)) (cl : Cls K C) (ha : PySem.W.findIn K (.ref C) "__class__" = some (some (.builtin "object.__class__")))
   (hn : PySem.W.specialIn K (.builtin "object.__class__") "__get__" = some (some (.builtin "getset_descriptor.__get__"))) (htk : PySem.W.takesIn K (.builtin "object.__class__") = some true)
   (hm : PySem.W.mroIn K C (.type "object") = some true) : TyOf K H (.ref a) (.ref C)
theorem Bz {x : V} {u t : Value} (I : Inv X pins σ H s) (rx : RelV x u) (ty : TyOf X.K H x t) (e : PySem.W.kitOne X.K t c = some b) (h : ∀ tk,Q (.bool b) { s with toks:=tk }) :
  wpAny (model X.prog X.w) A (call (.builtin "isinstance") [u,c]) Q E s:=by
 cases ty with
 | non => cases (show u = Value.none from rx); exact PySem.W.kia_one PySem.W.kitx_none I.kIn True.intro e (fun z => nomatch z) h
 | bl y => cases (show u = Value.bool y from rx); exact PySem.W.kia_one PySem.W.kitx_bool I.kIn True.intro e (fun z => nomatch z) h
 | int i => obtain ⟨t,q⟩:=(show ∃ t,u = Value.int i t from rx); cases q; exact PySem.W.kia_one PySem.W.kitx_int I.kIn True.intro e (fun z => nomatch z) h
 | str y => obtain ⟨t,q⟩:=(show ∃ t,u = Value.str y t from rx); cases q; exact PySem.W.kia_one PySem.W.kitx_str I.kIn True.intro e (fun z => nomatch z) h
 | flt y => obtain ⟨t,q⟩:=(show ∃ t,u = Value.float y t from rx); cases q; exact PySem.W.kia_one PySem.W.kitx_float I.kIn True.intro e (fun z => nomatch z) h
 | @lst a xs ea =>
  cases (show u = Value.ref a from rx)
  obtain ⟨_,_,n,_,h1⟩:=(show ObjOk X.prog X.w H s.heap a (.lst xs) from I.hok a _ ea)
  exact PySem.W.kia_one PySem.W.kitx_list I.kIn ⟨_,h1,rfl⟩ e (fun z => nomatch z) h
 | @frz a ob xs ea =>
  cases (show u = Value.ref a from rx)
  obtain ⟨_,_,_,n,_,h1⟩:=(show ObjOk X.prog X.w H s.heap a (.frz ob (.lst xs)) from I.hok a _ ea)
  exact PySem.W.kia_one PySem.W.kitx_list I.kIn ⟨_,h1,rfl⟩ e (fun z => nomatch z) h
 | @tup a xs ea =>
  cases (show u = Value.ref a from rx)
  obtain ⟨_,_,_,p⟩:=(show ObjOk X.prog X.w H s.heap a (.tup xs) from I.hok a _ ea)
  obtain ⟨o,h1,h2,_⟩:=p
  exact PySem.W.kia_one PySem.W.kitx_tuple I.kIn ⟨o,h1,h2⟩ e (fun z => nomatch z) h
 | @dK a kvs ea =>
  cases (show u = Value.ref a from rx)
  obtain ⟨_,_,vs,_,p⟩:=(show ObjOk X.prog X.w H s.heap a (.dK kvs) from I.hok a _ ea)
  obtain ⟨o,es,ep,h1,h2,_⟩:=p
  exact PySem.W.kia_one PySem.W.kitx_dict I.kIn ⟨o,h1,h2.1⟩ e (fun z => nomatch z) h
 | @dT a kvs ea =>
  cases (show u = Value.ref a from rx)
  obtain ⟨_,_,xs,_,o,es,ep,h1,h2,_⟩:=(show ObjOk X.prog X.w H s.heap a (.dT kvs) from I.hok a _ ea)
  exact PySem.W.kia_one PySem.W.kitx_dict I.kIn ⟨o,h1,h2.1⟩ e (fun z => nomatch z) h
 | @ins a C dx fs ea cl ha hn htk hm =>
  cases (show u = Value.ref a from rx)
  obtain ⟨mA,O,_⟩:=qZ I.hok ea
  obtain ⟨od,J,_⟩:=O.look
  exact PySem.W.kia_one (PySem.W.kitx_own (cl.get _) cl.hd ha hn htk hm) I.kIn J e (fun z => nomatch z) h
end
end L2
namespace L2
open PySem PySem.Spec PyProof.Rows
structure Room (k : Nat) (A : Around) : Prop where
 hd : A.handled = none
 dp : A.depth + 3 * k + 5 < recursionLimit
 un : A.units + 16 * k + 200 < cLine
theorem Room.mono {j k : Nat} {A : Around} (r : Room k A) (h : j <= k) : Room j A:=⟨r.hd,by have:=r.dp; omega,by have:=r.un; omega⟩
theorem Room.deeper {k : Nat} {A : Around} (r : Room (k + 1) A) (env : Env) : Room k (A.deeper env):=
 ⟨r.hd,by have:=r.dp; show A.depth + 1 + 3 * k + 5 < _; omega,by have:=r.un; show A.units + 3 + 16 * k + 200 < _; omega⟩
theorem zv {A : Around} {C : Addr} {us : List Value} {kw : List (Str × Value)} : (A.under (.builtin "type.__call__" ⟨.ref C :: us,kw⟩)).depth = A.depth + 1:=by
 first | rfl | simp [Around.under,Code.weight,Code.isCreation,Code.isGuard,Code.isCaller,Code.frames,Code.isFrame,guardIds]
theorem zw {A : Around} {C : Addr} {us : List Value} {kw : List (Str × Value)} : (A.under (.builtin "type.__call__" ⟨.ref C :: us,kw⟩)).units = A.units + 1:=by
 first | rfl | simp [Around.under,Code.cUnits,Code.frames,Code.isFrame]
theorem Room.make {k : Nat} {A : Around} (r : Room (k + 1) A) (C : Addr) (us : List Value) (kw : List (Str × Value)) : Room k (A.under (.builtin "type.__call__" ⟨.ref C :: us,kw⟩)):=
 ⟨r.hd,by have:=r.dp; rw [zv]; omega,by have:=r.un; rw [zw]; omega⟩
theorem Room.depth {k : Nat} {A : Around} (r : Room k A) : A.depth < recursionLimit:=by have:=r.dp; omega
theorem Room.units {k : Nat} {A : Around} (r : Room k A) : A.units + 64 < cLine:=by have:=r.un; omega
def FA : TA:=fun _ H Q => Q [] H
def FU (ta : TE) (tr : TA) : TA:=fun σ H Q => ta σ H fun x H1 => tr σ H1 fun xs H2 => Q (x :: xs) H2
section
variable {X : Cx} {e : Expr} {es : List Expr} {te : TE} {t : TA} {pos : Pos}
theorem af : PA X [] FA:=fun _ _ _ _ H Q I h => Calls.spliced_nil ⟨[],H,I,.nil,h⟩
theorem aa (ha : PE X e te) (hr : PA X es t) (hs : starEach (e :: es) X.env = (false,eval e X.env) :: starEach es X.env:=by rfl) : PA X (e :: es) (FU te t):=by
 intro pos pins s σ H Q I h
 rw [hs]
 show wpAny _ _ (spliced ((false,eval e X.env) :: backTo pos (starEach es X.env))) _ _ s
 refine Calls.spliced_cons (thn (ha pins s σ H _ I h) fun u s1 ⟨x,H1,I1,r1,q1⟩ => ?_)
 exact thn (hr pos pins s1 σ H1 _ I1 q1) fun us s2 ⟨xs,H2,I2,r2,q2⟩ => ⟨x :: xs,H2,I2,.cons r1 r2,q2⟩
def HB (t : TA) : TE:=fun σ H Q => t σ H fun xs H1 => xs.length <= sizeLine /\ ∀ p,H1 p = none -> Q (.ref p) (upd H1 p (.tup xs))
def Ig (t : TA) : TE:=fun σ H Q => t σ H fun xs H1 => xs.length <= sizeLine /\ ∀ p,H1 p = none -> Q (.ref p) (upd H1 p (.lst xs))
theorem eD {x1} (h : PA X es t) : PE X (.Tuple es x1 pos) (HB t):=by
 intro pins s σ H Q I hq
 refine wpAny_Tuple_spliced (thn (h pos pins s σ H _ I hq) fun us s1 ⟨xs,H1,I1,r,z,q⟩ => ⟨by rw [<- r.length]; exact z,?_⟩)
 have hf : H1 s1.heap.objs.size = none:=I1.hok.fresh (Nat.le_refl _)
 refine ⟨.ref s1.heap.objs.size,upd H1 s1.heap.objs.size (.tup xs),I1.laid (t' := s1.toks) (fun b u e => Heap.get?_push_of_some _ e) (Nat.le_refl _) ?_,rfl,q _ hf⟩
 exact ⟨z,us,r,⟨_,Heap.get?_push_size _ rfl,rfl,_,rfl⟩⟩
theorem bI (h : PA X es t) : PE X (.List es pos) (Ig t):=by
 intro pins s σ H Q I hq
 refine wpAny_List_spliced (thn (h pos pins s σ H _ I hq) fun us s1 ⟨xs,H1,I1,r,z,q⟩ => ⟨by rw [<- r.length]; exact z,?_⟩)
 have hf : H1 s1.heap.objs.size = none:=I1.hok.fresh (Nat.le_refl _)
 refine ⟨.ref s1.heap.objs.size,upd H1 s1.heap.objs.size (.lst xs),I1.laid (t' := s1.toks) (fun b u e => Heap.get?_push_of_some _ e) (Nat.le_refl _) ?_,rfl,q _ hf⟩
 exact ⟨z,us,0,r,Heap.get?_push_size _ rfl⟩
end
abbrev Sp:=List V -> Hp -> VK -> XK -> Prop
abbrev CXT:=List Env -> Hp -> Shared -> XK -> Value -> Shared -> Prop
structure Env0 (P : Program) (w : World) (K : PySem.W.Frag) (mg : Str -> Option Value) (base : Heap) (A : Around) (outer : List Env) (s : Shared) (H : Hp) : Prop where
 frames : A.frames = some outer
 mod : Mod K mg base
 bs : ∀ b o,base.get? b = some o -> s.heap.get? b = some o /\ H b = none
 bsz : base.objs.size <= s.heap.objs.size
 funs : s.heap.FunFrames base outer
 frf : ∀ b ∈ frs outer,H b = none
 hok : HOk P w H s.heap
 bare : AllBare s.gens
def CE (outer : List Env) (P : Program) (w : World) (H : Hp) (s : Shared) (Q : VK) (u : Value) (s' : Shared) : Prop:=
 ∃ v H',s'.os = s.os /\ AllBare s'.gens /\ Un (frs outer) [] H H' s.heap s'.heap /\ HOk P w H' s'.heap /\ RelV v u /\ Q v H'
def CR (CX : CXT) (outer : List Env) (P : Program) (w : World) (H : Hp) (s : Shared) (Q : VK) (E : XK) (r : Result) (s' : Shared) : Prop:=
 match r with
 | .ok (.ret u) => CE outer P w H s Q u s'
 | .ok _ => False
 | .error e => CX outer H s E e s'
structure FnOk (P : Program) (w : World) (K : PySem.W.Frag) (mg : Str -> Option Value) (base : Heap) (CX : CXT) (k : Nat) (f : Addr) (fd : FuncData) (ps : List Str) (sp : Sp) : Prop where
 len : ∀ vs H Q E,sp vs H Q E -> vs.length = ps.length
 run : ∀ (A : Around) (outer : List Env) (s : Shared) (H : Hp) (args : Args) (us : List Value) (vs : List V) (Q : VK) (E : XK),Room k A -> Env0 P w K mg base A outer s H -> BindsTo s fd args (ps.zip us) -> Vals vs us -> sp vs H Q E ->
  codeAny (model P w) A (.call (.ref f) args) (CR CX outer P w H s Q E) s
theorem Env0.make {P : Program} {w : World} {K : PySem.W.Frag} {mg : Str -> Option Value} {base : Heap} {A : Around} {outer : List Env} {s : Shared} {H : Hp} (e : Env0 P w K mg base A outer s H) (C : Addr) (us : List Value) (kw : List (Str × Value)) :
  Env0 P w K mg base (A.under (.builtin "type.__call__" ⟨.ref C :: us,kw⟩)) outer s H:=⟨by first | exact e.frames | (simpa [Around.under,Code.envs,Code.isFrame,pushEnvs] using e.frames),e.mod,e.bs,e.bsz,e.funs,e.frf,e.hok,e.bare⟩
section
variable {X : Cx} {pins : List (Addr × Obj)} {σ : St} {H : Hp} {s s' : Shared}
theorem Inv.env0 (I : Inv X pins σ H s) : Env0 X.prog X.w X.K X.mg X.base X.A X.stack s H:=
 ⟨I.ok.frames,I.ok.mod,I.bs,Nat.le_trans I.ok.bsz I.sz,I.stack,I.stkFree,I.hok,I.bare⟩
theorem Inv.after {Q : VK} {u : Value} (I : Inv X pins σ H s) (h : CE X.stack X.prog X.w H s Q u s') : EP X pins σ Q u s' := by
 obtain ⟨v,H',os,bare,un,hok,r,q⟩:=h
 obtain ⟨hh,g,d,t,os'⟩:=s'
 obtain rfl : os' = s.os:=os
 exact ⟨v,H',I.call (h' := hh) (g' := g) (d' := d) (t' := t) (ch:=[]) un hok bare (fun b z => absurd z (by simp)),r,q⟩
end
def FR (sp : Sp) (dvs : List V) (E : XK) (t : TA) : TE:=fun σ H Q => t σ H fun vs H1 => sp (vs ++ dvs) H1 Q E
def A2 (C : Addr) (m : Str) (sp : Sp) (dvs : List V) (E : XK) (ta : TE) (t : TA) : TE:=fun σ H Q => ta σ H fun x H1 => ∃ a dx fs,x = .ref a /\ H1 a = some (.ins C dx fs) /\ fs.lookup m = none /\
 t σ H1 fun vs H2 => sp (x :: (vs ++ dvs)) H2 Q E
def FW (C : Addr) (sp : Sp) (dvs : List V) (E : XK) (t : TA) : TE:=fun σ H Q => t σ H fun vs H1 => ∀ x dx,H1 x = none -> H1 dx = none -> dx ≠ x ->
 sp (.ref x :: (vs ++ dvs)) (upd (upd H1 dx (.own x)) x (.ins C dx [])) (fun v H2 => v = .non /\ Q (.ref x) H2) E
def Binds (K : PySem.W.Frag) (fd : FuncData) (ps : List Str) (ds : List Value) : Prop:=
 ∀ (s : Shared) (us : List Value),K.In s.heap -> (us ++ ds).length = ps.length -> BindsTo s fd ⟨us,[]⟩ (ps.zip (us ++ ds))
theorem Binds.all {K : PySem.W.Frag} {fd : FuncData} {ps : List Str} (h : ∀ us : List Value,us.length = ps.length -> bindArgs fd ⟨us,[]⟩ = pure (ps.zip us)) : Binds K fd ps []:=fun s us _ hl => by
 rw [List.append_nil] at hl ⊢
 exact .of_eq (h us hl)
def Passes (CX : CXT) (X : Cx) (E : XK) : Prop := ∀ (pins : List (Addr × Obj)) (σ : St) (H : Hp) (s : Shared) (e : Value) (s' : Shared),Inv X pins σ H s -> CX X.stack H s E e s' -> X.xe e s'
section
variable {X : Cx} {CX : CXT} {k : Nat} {f C : Addr} {fd : FuncData} {ps : List Str} {sp : Sp} {dvs : List V} {ds : List Value} {E : XK} {x m : Str} {p pos apos : Pos} {e o : Expr} {es : List Expr} {ta : TE} {t : TA}
theorem z7 {pins : List (Addr × Obj)} {σ : St} {H : Hp} {s : Shared} {Q : VK} {us : List Value} {vs : List V} (F : FnOk X.prog X.w X.K X.mg X.base CX k f fd ps sp) (hr : Room k X.A) (hb : Binds X.K fd ps ds) (hd : Vals dvs ds) (hx : Passes CX X E)
  (I : Inv X pins σ H s) (r : Vals vs us) (h : sp (vs ++ dvs) H Q E) : wpAny (model X.prog X.w) X.A (call (.ref f) us) (EP X pins σ Q) X.xe s:=by
 have r2 : Vals (vs ++ dvs) (us ++ ds):=r.append hd
 have hl : (us ++ ds).length = ps.length:=by rw [<- r2.length]; exact F.len _ _ _ _ h
 refine wpAny_call (codeAny_mono (F.run X.A X.stack s H ⟨us,[]⟩ (us ++ ds) (vs ++ dvs) Q E hr I.env0 (hb s us I.kIn hl) r2 h) fun r s' hq => ?_)
 cases r with
 | error e => exact hx pins σ H s e s' I hq
 | ok fl =>
  cases fl with
  | ret u => exact I.after hq
  | next => exact False.elim hq
  | brk => exact False.elim hq
  | cont => exact False.elim hq
theorem Fb (F : FnOk X.prog X.w X.K X.mg X.base CX k f fd ps sp) (hr : Room k X.A) (hg : Gl X x) (hm : X.mg x = some (.ref f)) (hk : PySem.W.keepIn X.K (.ref f) = true) (hb : Binds X.K fd ps ds) (hd : Vals dvs ds) (hx : Passes CX X E)
  (ha : PA X (e :: es) t) (hdb : (x == ("__debug__" : Str)) = false:=by decide) (he : starEach (e :: es) X.env = (false,eval e X.env) :: starEach es X.env:=by rfl) (hpl : (backTo pos (starEach es X.env)).any (·.1) = false:=by rfl) :
  PE X (.Call (.Name x p) (e :: es) [] pos) (FR sp dvs E t):=by
 intro pins s σ H Q I h
 refine wpAny_Call_Name_kw (AQ I hg hm ?_ hdb)
 refine PySem.W.callWith_K (h₀:=X.base) I.ok.mod.kin hk (thn (ha pos pins s σ H _ I h) fun us s1 ⟨vs,H1,I1,r,q⟩ => ⟨I1.kIn,?_⟩) he hpl
 exact z7 F hr hb hd hx I1 r q
theorem Fg {pl : Sem Bool} (he : PE X o ta) (c : Cls X.K C) (hm : Meth X.K C m f) (F : FnOk X.prog X.w X.K X.mg X.base CX k f fd ps sp) (hr : Room k X.A) (hb : Binds X.K fd ps ds) (hd : Vals dvs ds) (hx : Passes CX X E) (ha : PA X (e :: es) t)
  (hst : starEach (e :: es) X.env = (false,eval e X.env) :: starEach es X.env:=by rfl) (hpl : (backTo pos (starEach es X.env)).any (·.1) = false:=by rfl)
  (ht : eval (.Call (.Attribute o m apos) (e :: es) [] pos) X.env = (do
   let ov <- eval o X.env
   standAt apos.atName
   let (f,first) <- holding [ov] (getMethod ov m pl)
   callWith pos f first (backTo pos (starEach (e :: es) X.env)) (backToKw pos (keywordEach [] X.env))):=by rfl) :
  PE X (.Call (.Attribute o m apos) (e :: es) [] pos) (A2 C m sp dvs E ta t):=by
 intro pins s σ H Q I h
 refine PySem.W.methodCall_KW (pl:=pl) (thn (he pins s σ H _ I h) fun u s1 ⟨x,H1,I1,rx,a,dx,fs,ex,ea,l,q⟩ => ?_) ht
 subst ex
 obtain rfl : u = Value.ref a:=rx
 refine sq I1 ea c hm l ?_
 refine PySem.W.callWith_K (first:=[.ref a]) (h₀:=X.base) I.ok.mod.kin hm.kp (thn (ha pos pins s1 σ H1 _ I1 q) fun us s2 ⟨vs,H2,I2,r,q2⟩ => ⟨I2.kIn,?_⟩) hst hpl
 exact z7 (us:=.ref a :: us) (vs:=.ref a :: vs) F hr hb hd hx I2 (.cons rfl r) q2
theorem DE {pl : Sem Bool} (he : PE X o ta) (c : Cls X.K C) (hm : Meth X.K C m f) (F : FnOk X.prog X.w X.K X.mg X.base CX k f fd ps sp) (hr : Room k X.A) (hb : Binds X.K fd ps ds) (hd : Vals dvs ds) (hx : Passes CX X E)
  (ht : eval (.Call (.Attribute o m apos) [] [] pos) X.env = (do
   let ov <- eval o X.env
   standAt apos.atName
   let (f,first) <- holding [ov] (getMethod ov m pl)
   callWith pos f first (backTo pos (starEach [] X.env)) (backToKw pos (keywordEach [] X.env))):=by rfl) :
  PE X (.Call (.Attribute o m apos) [] [] pos) (A2 C m sp dvs E ta FA):=by
 intro pins s σ H Q I h
 refine PySem.W.methodCall_KW (pl:=pl) (thn (he pins s σ H _ I h) fun u s1 ⟨x,H1,I1,rx,a,dx,fs,ex,ea,l,q⟩ => ?_) ht
 subst ex
 obtain rfl : u = Value.ref a:=rx
 refine sq I1 ea c hm l ?_
 exact PySem.W.callWith_K0 (first:=[.ref a]) I1.kIn hm.kp (z7 (us:=[.ref a]) (vs:=[.ref a]) F hr hb hd hx I1 (.cons rfl .nil) q)
structure Mk (K : PySem.W.Frag) (C f : Addr) : Prop where
 makes : PySem.W.makesIn K C = true
 init : PySem.W.findIn K (.ref C) "__init__" = some (some (.ref f))
 fn : PySem.W.isFn K (.ref f) = true
 kp : PySem.W.keepIn K (.ref C) = true
theorem Ea {pins : List (Addr × Obj)} {σ : St} {H : Hp} {s : Shared} {Q : VK} {us : List Value} {vs : List V} (M : Mk X.K C f) (F : FnOk X.prog X.w X.K X.mg X.base CX k f fd ps sp) (hr : Room (k + 1) X.A) (hb : Binds X.K fd ps ds) (hd : Vals dvs ds)
  (hx : Passes CX X E) (I : Inv X pins σ H s) (r : Vals vs us)
  (h : ∀ x dx,H x = none -> H dx = none -> dx ≠ x -> sp (.ref x :: (vs ++ dvs)) (upd (upd H dx (.own x)) x (.ins C dx [])) (fun v H2 => v = .non /\ Q (.ref x) H2) E) :
  wpAny (model X.prog X.w) X.A (call (.ref C) us) (EP X pins σ Q) X.xe s:=by
 have hq:=h (s.heap.objs.size + 1) s.heap.objs.size (I.hok.fresh (Nat.le_succ _)) (I.hok.fresh (Nat.le_refl _)) (Nat.ne_of_lt (Nat.lt_succ_self _))
 have I2:=Inv.made (C:=C) I
 have r2 : Vals (V.ref (s.heap.objs.size + 1) :: (vs ++ dvs)) (Value.ref (s.heap.objs.size + 1) :: (us ++ ds)):=.cons rfl (r.append hd)
 have hl : (Value.ref (s.heap.objs.size + 1) :: us ++ ds).length = ps.length:=by
  have e:=r2.length
  rw [F.len _ _ _ _ hq] at e
  exact e.symm
 refine wpAny_call (C9 (f:=f) I.kIn M.makes M.init (beq_iff_eq.mp M.fn) (codeAny_mono (F.run _ X.stack _ _ ⟨Value.ref (s.heap.objs.size + 1) :: us,[]⟩ (Value.ref (s.heap.objs.size + 1) :: (us ++ ds)) _ _ E (hr.make C us [])
  (I2.env0.make C us []) (hb _ (Value.ref (s.heap.objs.size + 1) :: us) I2.kIn hl) r2 hq) fun r s' hq' => ?_))
 cases r with
 | error e => exact hx pins σ _ _ e s' I2 hq'
 | ok fl =>
  cases fl with
  | ret u =>
   obtain ⟨v,H',I3,rv,ev,q3⟩:=I2.after hq'
   subst ev
   exact ⟨rv,⟨V.ref (s.heap.objs.size + 1),H',I3,rfl,q3⟩⟩
  | next => exact False.elim hq'
  | brk => exact False.elim hq'
  | cont => exact False.elim hq'
theorem Ff (M : Mk X.K C f) (F : FnOk X.prog X.w X.K X.mg X.base CX k f fd ps sp) (hr : Room (k + 1) X.A) (hg : Gl X x) (hm : X.mg x = some (.ref C)) (hb : Binds X.K fd ps ds) (hd : Vals dvs ds) (hx : Passes CX X E)
  (ha : PA X (e :: es) t) (hdb : (x == ("__debug__" : Str)) = false:=by decide) (he : starEach (e :: es) X.env = (false,eval e X.env) :: starEach es X.env:=by rfl) (hpl : (backTo pos (starEach es X.env)).any (·.1) = false:=by rfl) :
  PE X (.Call (.Name x p) (e :: es) [] pos) (FW C sp dvs E t):=by
 intro pins s σ H Q I h
 refine wpAny_Call_Name_kw (AQ I hg hm ?_ hdb)
 refine PySem.W.callWith_K (h₀:=X.base) I.ok.mod.kin M.kp (thn (ha pos pins s σ H _ I h) fun us s1 ⟨vs,H1,I1,r,q⟩ => ⟨I1.kIn,?_⟩) he hpl
 exact Ea M F hr hb hd hx I1 r q
end
section
variable {X : Cx} {CX : CXT} {k : Nat} {f C : Addr} {fd : FuncData} {ps ks : List Str} {sp : Sp} {E : XK} {x m : Str} {p pos apos kpos : Pos} {e o : Expr} {es : List Expr} {kws : List Keyword} {te ta : TE} {t tk : TA} {nm : Option Str}
structure KBinds (K : PySem.W.Frag) (fd : FuncData) (ps ks : List Str) (g : List Value -> List Value -> List Value) (gV : List V -> List V -> List V) : Prop where
 to : ∀ (s : Shared) (us ws : List Value),K.In s.heap -> (g us ws).length = ps.length -> BindsTo s fd ⟨us,ks.zip ws⟩ (ps.zip (g us ws))
 rel : ∀ {vs : List V} {us : List Value} {zs : List V} {ws : List Value},Vals vs us -> Vals zs ws -> Vals (gV vs zs) (g us ws)
variable {g : List Value -> List Value -> List Value} {gV : List V -> List V -> List V}
end
structure FnScope (N P : List Str) (sc : Scope) : Prop where
 kind : sc.kind = .function
 co : sc.isCoroutine = false
 gen : sc.isGenerator = false
 nd : N.Nodup
 pre : N.take P.length = P
 par : ∀ x ∈ P,sc.names.lookup x = some .local \/ sc.names.lookup x = some .cell
 nofree : ∀ y ∈ sc.names,y.2 ≠ .free
theorem u5 {kindOf : Str -> Option NameKind} {x : Str} : ∀ {binds : List (Str × Value)} {m : Str -> Option Value},(∀ v,(x,v) ∉ binds) -> bindL kindOf binds m x = m x
 | [],_,_ => rfl
 | (n,v) :: r,m,h => by
  unfold bindL
  rw [u5 fun w hw => h w (List.mem_cons_of_mem _ hw)]
  split
  ·have : x ≠ n:=by rintro rfl; exact h v List.mem_cons_self
   simp [this]
  ·rfl
theorem u3 {kindOf : Str -> Option NameKind} {x : Str} : ∀ {binds : List (Str × Value)} {m : Str -> Option Value},(∀ v,(x,v) ∉ binds) -> bindC kindOf binds m x = m x
 | [],_,_ => rfl
 | (n,v) :: r,m,h => by
  unfold bindC
  rw [u3 fun w hw => h w (List.mem_cons_of_mem _ hw)]
  split
  ·rfl
  ·have : x ≠ n:=by rintro rfl; exact h v List.mem_cons_self
   simp [this]
theorem u4 {kindOf : Str -> Option NameKind} {x : Str} {v : Value} : ∀ {P : List Str} {vs : List Value} {i : Nat} {m : Str -> Option Value},P.Nodup -> P[i]? = some x -> vs[i]? = some v -> kindOf x = some .local ->
  bindL kindOf (P.zip vs) m x = some v
 | [],_,_,_,_,h,_,_ => by simp at h
 | _ :: _,[],_,_,_,_,h,_ => by simp at h
 | p :: P,w :: vs,0,m,nd,h1,h2,hk => by
  simp at h1 h2; subst h1; subst h2
  show bindL kindOf ((p,w) :: P.zip vs) m p = _
  unfold bindL
  rw [u5 fun v hv => (List.nodup_cons.mp nd).1 (List.of_mem_zip hv).1,if_pos hk]
  simp
 | p :: P,w :: vs,i + 1,m,nd,h1,h2,hk => by
  show bindL kindOf ((p,w) :: P.zip vs) m x = _
  unfold bindL
  exact u4 (i:=i) (List.nodup_cons.mp nd).2 (by simpa using h1) (by simpa using h2) hk
theorem u0 {kindOf : Str -> Option NameKind} {x : Str} {v : Value} : ∀ {P : List Str} {vs : List Value} {i : Nat} {m : Str -> Option Value},P.Nodup -> P[i]? = some x -> vs[i]? = some v -> kindOf x ≠ some .local ->
  bindC kindOf (P.zip vs) m x = some v
 | [],_,_,_,_,h,_,_ => by simp at h
 | _ :: _,[],_,_,_,_,h,_ => by simp at h
 | p :: P,w :: vs,0,m,nd,h1,h2,hk => by
  simp at h1 h2; subst h1; subst h2
  show bindC kindOf ((p,w) :: P.zip vs) m p = _
  unfold bindC
  rw [u3 fun v hv => (List.nodup_cons.mp nd).1 (List.of_mem_zip hv).1,if_neg hk]
  simp
 | p :: P,w :: vs,i + 1,m,nd,h1,h2,hk => by
  show bindC kindOf ((p,w) :: P.zip vs) m x = _
  unfold bindC
  exact u0 (i:=i) (List.nodup_cons.mp nd).2 (by simpa using h1) (by simpa using h2) hk
def start (N : List Str) (vs : List V) : St:=vs.map some ++ List.replicate (N.length - vs.length) none
def Bi (CX : CXT) (P : Program) (w : World) (K : PySem.W.Frag) (mg : Str -> Option Value) (base : Heap) (N : List Str) (qual : Str) (scope : Scope) (f : Addr) (cd : Value) (A : Around) (outer : List Env) (s : Shared) (H : Hp) (E : XK) : Cx where
 prog:=P
 w:=w
 K:=K
 mg:=mg
 base:=base
 A:=A.deeper (envOfC qual scope s.heap.objs.size f cd)
 N:=N
 s₀:=s
 H₀:=H
 env:=envOfC qual scope s.heap.objs.size f cd
 outer:=outer
 stack:=envOfC qual scope s.heap.objs.size f cd :: outer
 ex:=[]
 calm:=true
 fn:=fun _ => true
 pn:=[]
 xe:=fun e s' => wpAny (model P w) (A.deeper (envOfC qual scope s.heap.objs.size f cd)) (leaving (envOfC qual scope s.heap.objs.size f cd) e) (fun _ s'' => CX outer H s E e s'') (fun e' s'' => CX outer H s E e' s'') s'
theorem xM {sc : Scope} {n : Nat} {x : Str} (h : sc.names.lookup x = some .cell) : ∃ c,(cellsFrom n sc.names []).lookup x = some c:=by
 have q:=PySem.W.cellsFrom_some sc.names n [] (.inl h)
 exact Option.isSome_iff_exists.mp q
theorem Bx {CX : CXT} {P : Program} {w : World} {K : PySem.W.Frag} {mg : Str -> Option Value} {base : Heap} {N ps : List Str} {qual : Str} {scope : Scope} {f : Addr} {cd : Value} {A : Around} {outer : List Env} {s s1 : Shared} {H : Hp} {E : XK} {us : List Value} {vs : List V}
  (S : FnScope N ps scope) (hd : A.handled = none) (e0 : Env0 P w K mg base A outer s H) (hl : vs.length = ps.length) (r : Vals vs us)
  (x : InCallC s s.heap.objs.size (bindL (envOfC qual scope s.heap.objs.size f cd).kindOf (ps.zip us) fun _ => none) (cellsFrom (s.heap.objs.size + 1) scope.names []) (bindC (envOfC qual scope s.heap.objs.size f cd).kindOf (ps.zip us) fun _ => none) s1) :
  Inv (Bi CX P w K mg base N qual scope f cd A outer s H E) [] (start N vs) H s1:=by
 have hpl : ps.length <= N.length:=by have:=congrArg List.length S.pre; rw [List.length_take] at this; omega
 obtain ⟨h1,tk,rfl,hk⟩:=x.done
 have noA : ∀ b : Addr,b ∉ (Bi CX P w K mg base N qual scope f cd A outer s H E).ex:=fun b z => absurd (show b ∈ ([] : List Addr) from z) (by simp)
 refine ⟨⟨e0.mod,S.kind,rfl,rfl,Nat.le_refl _,fun y z c h1 h2 => ?_,fun y hy => ?_,fun y c _ h => ?_,fun _ => hd,Around.frames_deeper e0.frames,.inr ⟨rfl,rfl⟩,fun b z => absurd z (noA b),e0.bs,e0.bsz,fun b _ _ => noA b,fun b z => absurd z (noA b),e0.funs,e0.frf⟩,
  rfl,e0.bare,Un.kept hk,⟨_,x.toInCall.ns,fun i y v h1 h2 h3 => ?_⟩,fun y c h => ⟨_,x.cell y c h⟩,e0.hok.fresh (Nat.le_refl _),fun y c h => ?_,fun p hp => absurd (show p ∈ ([] : List (Addr × Obj)) from hp) (by simp),e0.hok.kept hk,?_⟩
 ·exact name_of_addr x.apart (PySem.mem_of_lookup h1) (PySem.mem_of_lookup h2)
 ·have hy : scope.names.lookup y = some .cell \/ scope.names.lookup y = some .free:=hy
  rcases hy with hy | hy
  ·exact xM hy
  ·exact absurd rfl (S.nofree _ (PySem.mem_of_lookup hy))
 ·exact Nat.le_of_lt (x.above y c (PySem.mem_of_lookup h))
 ·have hi : i < vs.length:=by
   unfold start at h2
   by_cases hi : i < vs.length
   ·exact hi
   ·rw [List.getElem?_append_right (by simpa using hi)] at h2
    rw [List.getElem?_replicate] at h2
    split at h2 <;> cases h2
  have ha : vs[i]? = some v:=by
   unfold start at h2
   rw [List.getElem?_append_left (by simpa using hi),List.getElem?_map] at h2
   cases e : vs[i]? with
   | none => rw [e] at h2; cases h2
   | some a => rw [e] at h2; cases h2; rfl
  obtain ⟨u,hu,rv⟩:=r.get ha
  have hp : ps[i]? = some y:=by
   rw [<- S.pre,List.getElem?_take_of_lt (by omega)]; exact h1
  have ndP : ps.Nodup:=by rw [<- S.pre]; exact S.nd.sublist (List.take_sublist _ _)
  refine ⟨u,rv,?_⟩
  rcases S.par y (List.mem_of_getElem? hp) with k | k
  ·exact .inl ⟨k,u4 ndP hp hu k⟩
  ·obtain ⟨c,e⟩:=xM (n:=s.heap.objs.size + 1) k
   refine .inr ⟨.inl k,c,e,?_⟩
   have q:=x.cell y c e
   rw [u0 ndP hp hu (by show scope.names.lookup y ≠ _; rw [k]; decide)] at q
   exact q
 ·exact e0.hok.fresh (Nat.le_of_lt (x.above y c (PySem.mem_of_lookup h)))
 ·unfold start
  show _ = N.length
  rw [List.length_append,List.length_map,List.length_replicate]
  omega
theorem G1 {CX : CXT} {P : Program} {w : World} {K : PySem.W.Frag} {mg : Str -> Option Value} {base : Heap} {k : Nat} {f : Addr} {name qual : Str} {params : Arguments} {body : List Stmt} {scope : Scope} {dV kV doc pm cdv ct oc : Value} {an od : Option Addr}
  {osl : Array (Option Value)} {N ps : List Str} {sp : Sp} (lk : K.lookup f = some ⟨oc,od,.func (PySem.W.fnOf name qual params body scope dV kV doc pm an cdv ct),osl⟩) (hcd : PySem.W.codeIn K cdv qual = true) (S : FnScope N ps scope)
  (len : ∀ vs H Q E,sp vs H Q E -> vs.length = ps.length)
  (hbody : ∀ (A : Around) (outer : List Env) (s : Shared) (H : Hp) (vs : List V) (Q : VK) (E : XK),Room k (A.deeper (envOfC qual scope s.heap.objs.size f cdv)) -> sp vs H Q E ->
   ∃ t,PSs (Bi CX P w K mg base N qual scope f cdv A outer s H E) body t /\ t { nx:=fun _ H' => Q .non H',rt:=Q } (start N vs) H) :
  FnOk P w K mg base CX (k + 1) f (PySem.W.fnOf name qual params body scope dV kV doc pm an cdv ct) ps sp:=by
 refine ⟨len,fun A outer s H args us vs Q E hr e0 hb r hsp => ?_⟩
 have hl:=len _ _ _ _ hsp
 have KX : K.In s.heap:=e0.mod.kin.keeps fun b o e => (e0.bs b o e).1
 have lim : s.heap.NoLimit:=e0.mod.nolimit.keeps fun b o e => (e0.bs b o e).1
 have hkind : ∀ y ∈ ps.zip us,scope.names.lookup y.1 = some .local \/ (scope.names.lookup y.1 = some .cell /\ ((cellsFrom (s.heap.objs.size + 1) scope.names []).lookup y.1).isSome = true):=fun ⟨n,v⟩ hy => by
  rcases S.par n (List.of_mem_zip hy).1 with q | q
  ·exact .inl q
  ·exact .inr ⟨q,PySem.W.cellsFrom_some _ _ _ (.inl q)⟩
 refine codeAny_call_function hr.depth (KX _ _ lk) rfl S.co S.gen rfl (PySem.W.codeRec_of KX hcd) (hb _ _ _ _ ?_)
 refine wpAny_newFunctionEnv_cells S.kind hkind fun env he s1 x => ?_
 subst he
 refine ⟨lim.keeps x.toInCall.keep,codeAny_func ?_⟩
 obtain ⟨t,ht,hq⟩:=hbody A outer s H vs Q E (hr.deeper _) hsp
 have I : Inv (Bi CX P w K mg base N qual scope f cdv A outer s H E) [] (start N vs) H s1:=Bx S hr.hd e0 hl r x
 refine wpAny_mono (ht [] s1 (start N vs) H _ I hq) (fun fl s' hs => ?_) fun e s' hs => hs
 have fin : ∀ {σ' : St} {H' : Hp} {v : V} {u : Value},Inv (Bi CX P w K mg base N qual scope f cdv A outer s H E) [] σ' H' s' -> RelV v u -> Q v H' -> CE outer P w H s Q u s' :=
  fun {σ' H' v u} J rv q => ⟨v,H',J.os,J.bare,J.base,J.hok,rv,q⟩
 cases fl with
 | ret u =>
  obtain ⟨v,σ',H',J,rv,q⟩:=hs
  exact fin J rv q
 | next =>
  obtain ⟨σ',H',J,q⟩:=hs
  exact fin (v:=V.non) (u:=Value.none) J rfl q
 | brk =>
  obtain ⟨_,_,_,q⟩:=hs
  exact False.elim q
 | cont =>
  obtain ⟨_,_,_,q⟩:=hs
  exact False.elim q
end L2
namespace L2
open PySem PySem.Spec PyProof.Rows
section
variable {X : Cx} {x : Str} {p pos : Pos} {e : Expr} {es : List Expr} {t : TA} {id T : String} {r : List V -> Hp -> VK -> Prop}
def tCB (r : List V -> Hp -> VK -> Prop) (t : TA) : TE:=fun σ H Q => t σ H fun vs H1 => r vs H1 Q
theorem aR (hc : gX X (.builtin id) r) (hg : Gl X x) (hm : X.mg x = none) (hv : bootBuiltins x = some (.builtin id)) (ha : PA X (e :: es) t) (hn : x ≠ "__name__" := by decide) (hdb : (x == ("__debug__" : Str)) = false:=by decide)
  (he : starEach (e :: es) X.env = (false,eval e X.env) :: starEach es X.env:=by rfl) (hpl : (backTo pos (starEach es X.env)).any (·.1) = false:=by rfl) : PE X (.Call (.Name x p) (e :: es) [] pos) (tCB r t):=by
 intro pins s σ H Q I h
 refine wpAny_Call_Name_kw (gT I hg hm hv ?_ hn hdb)
 exact PyProof.Rows.callWith_builtin1 (thn (ha pos pins s σ H _ I h) fun us s1 ⟨vs,H1,I1,r1,q1⟩ => hc pins s1 σ H1 vs us Q I1 r1 q1) he hpl
theorem aL (hc : gX X (.type T) r) (hg : Gl X x) (hm : X.mg x = none) (hv : bootBuiltins x = some (.type T)) (ha : PA X (e :: es) t) (hn : x ≠ "__name__" := by decide) (hdb : (x == ("__debug__" : Str)) = false:=by decide)
  (he : starEach (e :: es) X.env = (false,eval e X.env) :: starEach es X.env:=by rfl) (hpl : (backTo pos (starEach es X.env)).any (·.1) = false:=by rfl) : PE X (.Call (.Name x p) (e :: es) [] pos) (tCB r t):=by
 intro pins s σ H Q I h
 refine wpAny_Call_Name_kw (gT I hg hm hv ?_ hn hdb)
 exact PyProof.Rows.callWith_type1 (thn (ha pos pins s σ H _ I h) fun us s1 ⟨vs,H1,I1,r1,q1⟩ => hc pins s1 σ H1 vs us Q I1 r1 q1) he hpl
end
end L2
namespace HT
open PySem PyProof.Rows
section
open PySem.SeqAt
open PySem.AutoSeq1 (wpAny_loadPart')
open PySem.MeetsSeq PySem.MeetsSeq2 PySem.MeetsSeq3
end
section
variable {prog : Program} {w : World} {A : Around} {E : Value -> Shared -> Prop} {s : Shared}
def sIx (n d : Nat) : Option Int -> Nat
 | none => d
 | some v => if v < 0 then (v + (n : Int)).toNat else min v.toNat n
theorem sIx_none (n d : Nat) : sIx n d none = d:=rfl
theorem sIx_nat (n d k : Nat) : sIx n d (some (k : Int)) = min k n:=by
 show (if (k : Int) < 0 then ((k : Int) + (n : Int)).toNat else min (k : Int).toNat n) = min k n
 rw [if_neg (by omega),Int.toNat_natCast]
theorem GF (n d : Nat) (hd : d <= n) (o : Option Int) : sIx n d o <= n:=by
 cases o with
 | none => exact hd
 | some v =>
  show (if v < 0 then (v + (n : Int)).toNat else min v.toNat n) <= n
  by_cases hv : v < 0
  ·rw [if_pos hv]; omega
  ·rw [if_neg hv]; exact Nat.min_le_right _ _
theorem AA (v : Int) (n d : Nat) : (if v < 0 then max (v + (n : Int)) 0 else min v (n : Int)) = ((sIx n d (some v) : Nat) : Int):=by
 show (if v < 0 then max (v + (n : Int)) 0 else min v (n : Int)) = (((if v < 0 then (v + (n : Int)).toNat else min v.toNat n) : Nat) : Int)
 by_cases hv : v < 0
 ·simp only [if_pos hv]; omega
 ·simp only [if_neg hv]; omega
theorem yO (lo hi : Option Int) (n : Nat) : Builtin.Slice.sliceAdjust lo hi 1 (n : Int) = (((sIx n 0 lo : Nat) : Int),((sIx n n hi : Nat) : Int)):=by
 have h1 : ¬ ((1 : Int) < 0):=by omega
 unfold Builtin.Slice.sliceAdjust
 simp only [h1,if_false]
 refine Prod.ext ?_ ?_
 ·cases lo with
  | none => rfl
  | some v => exact AA v n 0
 ·cases hi with
  | none => rfl
  | some v => exact AA v n n
theorem zV (i j : Nat) : Builtin.Slice.slicePlaces (i : Int) (j : Int) 1 = j - i:=by
 unfold Builtin.Slice.slicePlaces
 have h1 : (1 : Int) > 0:=by omega
 simp only [h1,if_true,Int.ediv_one]
 split <;> omega
theorem slicePart_ {v : Value} {o : Option Int} {Q : Option Int -> Shared -> Prop} (p : IsPart v o) (h : Q o s) : wpAny (model prog w) A (Builtin.Slice.slicePartIndex v) Q E s:=by
 cases p with
 | none => exact slicePart_none h
 | int i t => exact slicePart_int h
theorem iR {sl : Addr} {vl vu : Value} {lo hi : Option Int} {n : Nat} {Q : Int × Int × Nat -> Shared -> Prop} (hs : s.heap.IsSliceOf sl vl vu .none) (pl : IsPart vl lo) (pu : IsPart vu hi)
  (h : Q (((sIx n 0 lo : Nat) : Int),1,sIx n n hi - sIx n 0 lo) s) : wpAny (model prog w) A (Builtin.Slice.sliceApplied (.ref sl) (pure (n : Int))) Q E s:=by
 obtain ⟨os,hos,hcs,hds⟩:=id hs
 unfold Builtin.Slice.sliceApplied Builtin.Slice.sliceFields
 refine wpAny_bind (wpAny_bind (wpAny_field hos hds (x:=vl) rfl (wpAny_bind (wpAny_field hos hds (x:=vu) rfl (wpAny_bind (wpAny_field hos hds (x:=.none) rfl (wpAny_pure ?_)))))))
 refine wpAny_bind (slicePart_none ?_)
 show wpAny _ _ (if ((1 : Int) == 0) = true then _ else _) _ _ s
 rw [if_neg (by decide)]
 refine wpAny_bind (slicePart_ pl (wpAny_bind (slicePart_ pu (wpAny_bind (wpAny_pure ?_)))))
 show wpAny _ _ (match Builtin.Slice.sliceAdjust lo hi 1 (n : Int) with | (lo,hi) => pure (lo,(1 : Int),Builtin.Slice.slicePlaces lo hi 1)) _ _ s
 rw [yO lo hi n]
 show wpAny _ _ (pure (((sIx n 0 lo : Nat) : Int),(1 : Int),Builtin.Slice.slicePlaces ((sIx n 0 lo : Nat) : Int) ((sIx n n hi : Nat) : Int) 1)) _ _ s
 rw [zV]
 exact wpAny_pure h
theorem DQ (xs : Array Value) (i k : Nat) : ((List.range k).filterMap fun (m : Nat) => xs[((i : Int) + (m : Int) * 1).toNat]?).toArray = ((xs.toList.drop i).take k).toArray:=by
 have e : (fun (m : Nat) => xs[((i : Int) + (m : Int) * 1).toNat]?) = fun m => xs[i + m]? := by
  funext m
  have : ((i : Int) + (m : Int) * 1).toNat = i + m:=by omega
  rw [this]
 rw [e]
 have:=pick_run xs i k
 rw [List.filterMap_map] at this
 have e2 : ((fun x => xs[x]?) ∘ fun x => i + x) = fun m => xs[i + m]? := rfl
 rw [e2] at this
 rw [this]
theorem getItem_tuple_cut {t sl : Addr} {items : Array Value} {vl vu : Value} {lo hi : Option Int} {Q : Value -> Shared -> Prop} (ht : IsTup s.heap t items) (hs : s.heap.IsSliceOf sl vl vu .none) (pl : IsPart vl lo) (pu : IsPart vu hi)
  (hw : ¬ (sIx items.size 0 lo = 0 /\ sIx items.size items.size hi = items.size))
  (h : Q (.ref s.heap.objs.size) { s with heap:=s.heap.push { cls:=.type "tuple",data:=.seq ((items.toList.drop (sIx items.size 0 lo)).take (sIx items.size items.size hi - sIx items.size 0 lo)).toArray } })
  (hsz : items.size <= sizeLine) : wpAny (model prog w) A (getItem (.ref t) (.ref sl)) Q E s:=by
 have htake : sizeOk (.seq ((items.toList.drop (sIx items.size 0 lo)).take (sIx items.size items.size hi - sIx items.size 0 lo)).toArray):=by
  show ((items.toList.drop (sIx items.size 0 lo)).take (sIx items.size items.size hi - sIx items.size 0 lo)).toArray.size <= sizeLine
  rw [List.size_toArray,List.length_take,List.length_drop,Array.length_toList]
  omega
 have hj : sIx items.size items.size hi <= items.size:=GF _ _ (Nat.le_refl _) hi
 obtain ⟨os,hos,hcs,hds⟩:=id hs
 have hTs : s.TypeIs (.ref sl) "slice" := ⟨os,hos,hcs⟩
 unfold getItem
 try with_reducible refine wpAny_holding ?_
 first | refine wpAny_bind (wpAny_pure ?_) | skip
 refine wpAny_bind (wpAny_sequenceKey ht.typeIs (by decide) ?_)
 refine wpAny_bind (wpAny_callSpecial?_slot (name:=Str.ofString "__getitem__") ht.typeIs PyProof.Rows.slot_tuple_getitem
  (wpAny_call_entry PyProof.Rows.slot_tuple_getitem ht.typeIs entry_tuple_getitem ?_ (args_tuple_getitem _ _)))
 show wpAny _ _ (Builtin.Tuple.tupleItemsOf (.ref t) >>= _) _ _ s
 refine wpAny_bind (tupleItemsOf_ ht ?_)
 refine wpAny_bind (wpAny_typeOf hTs ?_)
 rw [if_pos (by decide)]
 refine wpAny_bind (iR hs pl pu ?_)
 have hno : ¬ ((((sIx items.size 0 lo : Nat) : Int) == 0 && (1 : Int) == 1 && (sIx items.size items.size hi - sIx items.size 0 lo) == items.size) = true):=by
  intro q
  rw [Bool.and_eq_true,Bool.and_eq_true] at q
  have q1 : ((sIx items.size 0 lo : Nat) : Int) = 0:=eq_of_beq q.1.1
  have q2 : sIx items.size items.size hi - sIx items.size 0 lo = items.size:=eq_of_beq q.2
  exact hw ⟨by omega,by omega⟩
 show wpAny _ _ (if (((sIx items.size 0 lo : Nat) : Int) == 0 && (1 : Int) == 1 && (sIx items.size items.size hi - sIx items.size 0 lo) == items.size) = true then _ else _) _ _ s
 rw [if_neg hno,DQ]
 first
  | exact wpAny_bind (m:=Builtin.Tuple.tupleExact _) (wpAny_newObj_type (wpAny_pure ⟨_,rfl,wpAny_pure h⟩) htake)
  | exact wpAny_bind (m:=Builtin.Tuple.tupleExact _) (wpAny_newObj_type (wpAny_bind (wpAny_pure (wpAny_pure ⟨_,rfl,wpAny_pure h⟩))) htake)
  | exact wpAny_bind (wpAny_bind (m:=Builtin.Tuple.tupleExact _) (wpAny_newObj_type (wpAny_pure (wpAny_pure ⟨_,rfl,wpAny_pure h⟩)) htake))
  | exact wpAny_bind (wpAny_bind (m:=Builtin.Tuple.tupleExact _) (wpAny_newObj_type (wpAny_pure ⟨_,rfl,wpAny_pure h⟩) htake))
end
end HT
namespace L2
open PySem PySem.Spec PyProof.Rows
abbrev TO:=St -> Hp -> (Option Int -> Hp -> Prop) -> Prop
def PO (X : Cx) (e : Option Expr) (t : TO) : Prop:=
 ∀ (pins : List (Addr × Obj)) (s : Shared) (σ : St) (H : Hp) (Q : Option Int -> Hp -> Prop),Inv X pins σ H s -> t σ H Q ->
  wpAny (model X.prog X.w) X.A (evalPart e X.env) (fun u s' => ∃ o H',Inv X pins σ H' s' /\ IsPart u o /\ Q o H') X.xe s
def FC : TO:=fun _ H Q => Q none H
def Hy (t : TE) : TO:=fun σ H Q => t σ H fun x H1 => ∃ i,x = .int i /\ Q (some i) H1
section
variable {X : Cx} {e : Expr} {te : TE} {lo hi : Option Expr} {tl th : TO} {pos p2 : Pos}
theorem nW : PO X none FC:=by
 intro pins s σ H Q I h
 rw [evalPart_none]
 exact wpAny_pure ⟨none,H,I,.none,h⟩
theorem rA (h : PE X e te) : PO X (some e) (Hy te):=by
 intro pins s σ H Q I hw
 rw [evalPart_some]
 refine thn (h pins s σ H _ I hw) fun u s1 ⟨x,H1,I1,r1,q1⟩ => ?_
 obtain ⟨i,rfl,q⟩:=q1
 obtain ⟨t,rfl⟩:=r1
 exact ⟨some i,H1,I1,.int i t,q⟩
def SlR (X : Cx) (r : V -> Option Int -> Option Int -> Hp -> VK -> Prop) : Prop:=
 ∀ (pins : List (Addr × Obj)) (s : Shared) (σ : St) (H : Hp) (x : V) (v vl vu : Value) (lo hi : Option Int) (sl : Addr) (Q : VK),Inv X pins σ H s -> RelV x v -> s.heap.IsSliceOf sl vl vu .none -> IsPart vl lo -> IsPart vu hi -> r x lo hi H Q ->
  ∃ T id,typeLookup (.type T) "__getitem__" = pure (some (.builtin id)) /\ s.TypeIs v T /\ wpAny (model X.prog X.w) X.A (getItem v (.ref sl)) (EP X pins σ Q) X.xe s
def tSl (r : V -> Option Int -> Option Int -> Hp -> VK -> Prop) (te : TE) (tl th : TO) : TE:=fun σ H Q => te σ H fun x H1 => tl σ H1 fun l H2 => th σ H2 fun u H3 => r x l u H3 Q
theorem sU {r : V -> Option Int -> Option Int -> Hp -> VK -> Prop} (hr : SlR X r) (he : PE X e te) (hl : PO X lo tl) (hu : PO X hi th) : PE X (.Subscript e (.Slice lo hi none p2) pos) (tSl r te tl th):=by
 intro pins s σ H Q I h
 refine Subscript_ (thn (he pins s σ H _ I h) fun v s1 ⟨x,H1,I1,r1,q1⟩ => ?_)
 refine wpAny_Slice (thn (hl pins s1 σ H1 _ I1 q1) fun vl s2 ⟨l,H2,I2,pl,q2⟩ => thn (hu pins s2 σ H2 _ I2 q2) fun vu s3 ⟨u,H3,I3,pu,q3⟩ => ?_)
 rw [evalPart_none]
 refine wpAny_pure ?_
 have I4 : Inv X pins σ H3 { s3 with heap:=s3.heap.push { cls:=.type "slice",data:=.fields #[vl,vu,.none] } }:=I3.kept (t' := s3.toks) fun b ob q => Heap.get?_push_of_some _ q
 obtain ⟨T,id,hT,ht,hg⟩:=hr pins { s3 with heap:=s3.heap.push { cls:=.type "slice",data:=.fields #[vl,vu,.none] } } σ H3 x v vl vu l u s3.heap.objs.size Q I4 r1 (Heap.IsSliceOf.new ..) pl pu q3
 show wpAny (model X.prog X.w) X.A (subscriptTail e (.Slice lo hi none p2) v (.ref s3.heap.objs.size)) (EP X pins σ Q) X.xe { s3 with heap:=s3.heap.push { cls:=.type "slice",data:=.fields #[vl,vu,.none] } }
 exact tail_any (ops:=[.ref s3.heap.objs.size,v]) ht hT hg (by with_unfolding_all rfl)
def jY (xs : List V) (lo hi : Option Int) : List V:=(xs.drop (HT.sIx xs.length 0 lo)).take (HT.sIx xs.length xs.length hi - HT.sIx xs.length 0 lo)
theorem p7 (xs : List V) (lo hi : Option Int) : (jY xs lo hi).length <= xs.length:=by
 unfold jY
 rw [List.length_take,List.length_drop]
 omega
def HY (K : PySem.W.Frag) : V -> Option Int -> Option Int -> Hp -> VK -> Prop:=fun x lo hi H Q => ∃ a xs,x = .ref a /\ SqT K H a xs /\
 ¬ (HT.sIx xs.length 0 lo = 0 /\ HT.sIx xs.length xs.length hi = xs.length) /\ ∀ p,H p = none -> Q (.ref p) (upd H p (.tup (jY xs lo hi)))
theorem GH : SlR X (HY X.K):=by
 intro pins s σ H x v vl vu lo hi sl Q I rx hs pl pu h
 obtain ⟨a,xs,rfl,hx,hw,q⟩:=h
 cases rx
 obtain ⟨its,r,ht,hz⟩:=I.tuple hx
 have hlen : its.toArray.size = xs.length:=by rw [List.size_toArray]; exact r.length.symm
 refine ⟨"tuple",_,PyProof.Rows.slot_tuple_getitem.lookup,ht.typeIs,?_⟩
 refine HT.getItem_tuple_cut ht hs pl pu (by rw [hlen]; exact hw) ?_ (by rw [hlen]; exact hz)
 rw [hlen]
 refine ⟨.ref s.heap.objs.size,_,I.laid (t' := s.toks) (o:=.tup (jY xs lo hi)) (fun b ob q => Heap.get?_push_of_some _ q) (Nat.le_refl _) ?_,rfl,q _ (I.hok.fresh (Nat.le_refl _))⟩
 exact ⟨Nat.le_trans (p7 xs lo hi) hz,_,(r.drop (HT.sIx xs.length 0 lo)).take (HT.sIx xs.length xs.length hi - HT.sIx xs.length 0 lo),IsTup.new _ _⟩
end
end L2
namespace L2
open PySem PySem.Spec PyProof.Rows
def ixN (n : Nat) (i : Int) : Option Nat:=if 0 <= i then (if i < n then some i.toNat else none) else if -(n : Int) <= i then some (i + n).toNat else none
def atI {α : Type} (xs : List α) (i : Int) : Option α:=(ixN xs.length i).bind fun j => xs[j]?
theorem AM {n : Nat} {i : Int} {j : Nat} (h : ixN n i = some j) : seqIndex? i n = some j /\ j < n /\ -(n : Int) <= i /\ i < n:=by
 unfold ixN at h
 by_cases h0 : 0 <= i
 ·rw [if_pos h0] at h
  by_cases h1 : i < n
  ·rw [if_pos h1] at h
   have e : i.toNat = j:=Option.some.inj h
   exact ⟨by rw [seqIndex_of h0 h1,e],by omega,by omega,h1⟩
  ·rw [if_neg h1] at h; cases h
 ·rw [if_neg h0] at h
  by_cases h1 : -(n : Int) <= i
  ·rw [if_pos h1] at h
   have e : (i + n).toNat = j:=Option.some.inj h
   exact ⟨by rw [seqIndex_neg (by omega) h1,e],by omega,h1,by omega⟩
  ·rw [if_neg h1] at h; cases h
theorem Ax {α : Type} {xs : List α} {i : Int} {v : α} (h : atI xs i = some v) : ∃ j,seqIndex? i xs.length = some j /\ xs[j]? = some v /\ j < xs.length /\ -(xs.length : Int) <= i /\ i < xs.length:=by
 unfold atI at h
 cases e : ixN xs.length i with
 | none => rw [e] at h; cases h
 | some j =>
  rw [e] at h
  obtain ⟨h1,h2,h3,h4⟩:=AM e
  exact ⟨j,h1,h,h2,h3,h4⟩
theorem mQ {α : Type} {xs : List α} {j : Nat} {v : α} (h : xs[j]? = some v) : atI xs (j : Int) = some v:=by
 have hj : j < xs.length:=(List.getElem?_eq_some_iff.mp h).1
 have e : ixN xs.length (j : Int) = some j:=by
  unfold ixN
  rw [if_pos (by omega),if_pos (by omega)]; simp
 unfold atI; rw [e]; exact h
theorem Cs {α : Type} (xs : List α) (v : α) : atI (xs ++ [v]) (-1) = some v:=by
 have hl : (xs ++ [v]).length = xs.length + 1:=by simp
 have e : ixN (xs ++ [v]).length (-1) = some xs.length:=by
  unfold ixN
  rw [hl,if_neg (by decide),if_pos (by omega)]
  congr 1
  omega
 unfold atI
 rw [e]
 show (xs ++ [v])[xs.length]? = some v
 simp
def Er (b : Expr) : Prop := ∀ o i,subscripted b false o i = operate [o,i] (getItem o i)
def IxR (X : Cx) (r : R2) : Prop:=
 ∀ (value slice : Expr) (pins : List (Addr × Obj)) (s : Shared) (σ : St) (H : Hp) (x y : V) (v u : Value) (Q : VK),Inv X pins σ H s -> RelV x v -> RelV y u -> r x y H Q ->
  subscripted slice false v u = operate [v,u] (getItem v u) -> wpAny (model X.prog X.w) X.A (subscriptTail value slice v u) (EP X pins σ Q) X.xe s
def MtR (X : Cx) (id : String) (r : V -> List V -> Hp -> VK -> Prop) : Prop:=
 ∀ (pins : List (Addr × Obj)) (s : Shared) (σ : St) (H : Hp) (x : V) (xs : List V) (v : Value) (us : List Value) (Q : VK),Inv X pins σ H s -> RelV x v -> Vals xs us -> r x xs H Q ->
  wpAny (model X.prog X.w) X.A (call (.builtin id) (v :: us)) (EP X pins σ Q) X.xe s
section
variable {X : Cx} {a b : Expr} {ta tb : TE} {pos : Pos}
theorem aW {r : R2} (hr : IxR X r) (ha : PE X a ta) (hb : PE X b tb) (hs : Er b) : PE X (.Subscript a b pos) (tOp r ta tb):=by
 intro pins s σ H Q I h
 exact Subscript_ (F6 ha hb I h fun v u s2 x y H2 I2 rx ry q => hr a b pins s2 σ H2 x y v u Q I2 rx ry q (hs _ _))
def Hk (K : PySem.W.Frag) : R2:=fun x y H Q => ∃ p xs i v,x = .ref p /\ y = .int i /\ SqL K H p xs /\ atI xs i = some v /\ Q v H
def Hl (K : PySem.W.Frag) : R2:=fun x y H Q => ∃ p xs i v,x = .ref p /\ y = .int i /\ SqT K H p xs /\ atI xs i = some v /\ Q v H
theorem b9 : IxR X (Hk X.K):=by
 intro value slice pins s σ H x y v u Q I rx ry h hs
 obtain ⟨p,xs,i,z,rfl,rfl,hq,he,q⟩:=h
 cases rx
 obtain ⟨t,rfl⟩:=ry
 obtain ⟨its,r,pl,hz⟩:=I.list hq
 obtain ⟨j,h1,h2,h3,h4,h5⟩:=Ax he
 obtain ⟨w,ew,rw'⟩:=r.get h2
 have hl:=r.length
 have hn:=sJ
 have fin : EP X pins σ Q w s:=⟨z,H,I,rw',q⟩
 by_cases h0 : 0 <= i
 ·have hj : i.toNat = j:=by
   rw [seqIndex_of h0 h5] at h1
   exact Option.some.inj h1
  exact item_listR pl.isList h0 (by omega) (by rw [hj]; simpa using ew) fin hs
 ·have hj : (i + (its.toArray.size : Int)).toNat = j:=by
   rw [seqIndex_neg (by omega) h4] at h1
   rw [List.size_toArray,<- hl]
   exact Option.some.inj h1
  exact subscriptTail_builtinR (x:=w) pl.isList.typeIs slot_list_getitem.lookup
   (wpAny_getItem_list_neg (Q:=fun r s' => r = w /\ EP X pins σ Q r s') pl.isList (by omega) (by rw [List.size_toArray] <;> omega) (by omega) (by rw [hj]; simpa using ew) ⟨rfl,fin⟩) hs
theorem bA : IxR X (Hl X.K):=by
 intro value slice pins s σ H x y v u Q I rx ry h hs
 obtain ⟨p,xs,i,z,rfl,rfl,hq,he,q⟩:=h
 cases rx
 obtain ⟨t,rfl⟩:=ry
 obtain ⟨its,r,pl,hz⟩:=I.tuple hq
 obtain ⟨j,h1,h2,h3,h4,h5⟩:=Ax he
 obtain ⟨w,ew,rw'⟩:=r.get h2
 have hl:=r.length
 have hn:=sJ
 have fin : EP X pins σ Q w s:=⟨z,H,I,rw',q⟩
 exact subscriptTail_builtinR (x:=w) pl.typeIs slot_tuple_getitem.lookup
  (getItem_tuple (j:=j) (Q:=fun r s' => r = w /\ EP X pins σ Q r s') pl (by omega) (by omega) (by rw [List.size_toArray,<- hl]; exact h1) (by simpa using ew) ⟨rfl,fin⟩) hs
theorem zx (its : List Value) (n j : Nat) (u : Value) : Obj.mapSeq (·.setIfInBounds j u) { cls:=.type "list",data:=.seq its.toArray n } = { cls:=.type "list",data:=.seq (its.set j u).toArray n }:=by
 simp [Obj.mapSeq]
theorem Inv.lst {pins : List (Addr × Obj)} {σ : St} {H : Hp} {s : Shared} {p : Addr} {xs : List V} (I : Inv X pins σ H s) (h : H p = some (.lst xs)) :
  ∃ (its : List Value) (n : Nat),Vals xs its /\ s.heap.get? p = some { cls:=.type "list",data:=.seq its.toArray n } /\ xs.length <= sizeLine:=by
 obtain ⟨z,its,n,r,e⟩:=I.hok p _ h
 exact ⟨its,n,r,e,z⟩
theorem Inv.lstUpd {pins : List (Addr × Obj)} {σ : St} {H : Hp} {s : Shared} {p : Addr} {xs ys : List V} {its its' : List Value} {n n' : Nat} {f : Obj -> Obj} (I : Inv X pins σ H s) (h : H p = some (.lst xs))
  (ho : s.heap.get? p = some { cls:=.type "list",data:=.seq its.toArray n }) (hf : f { cls:=.type "list",data:=.seq its.toArray n } = { cls:=.type "list",data:=.seq its'.toArray n' }) (r : Vals ys its') (hz : ys.length <= sizeLine) (t : Nat) :
  Inv X pins σ (upd H p (.lst ys)) { s with heap:=s.heap.update p f,toks:=t }:=by
 have e : (s.heap.update p f).get? p = some { cls:=.type "list",data:=.seq its'.toArray n' }:=by
  rw [Heap.get?_update_self f ho (by rw [hf] <;> rfl),hf]
 refine I.write (x:=p) (e:=p) (by rw [h]; trivial) (.inl rfl) (fun b u hb q => (Heap.get?_update_other _ _ (Ne.symm hb)).trans q) ⟨_,e⟩ ?_
 exact ⟨hz,its',n',r,e⟩
def Hm : V -> V -> V -> Hp -> (Hp -> Prop) -> Prop:=fun o i v H Q => ∃ p xs k j,o = .ref p /\ i = .int k /\ H p = some (.lst xs) /\ ixN xs.length k = some j /\ Q (upd H p (.lst (xs.set j v)))
theorem set_list : GW X Hm:=by
 intro pins s σ H o i v ov iv u Q I ro ri rv h
 obtain ⟨p,xs,k,j,rfl,rfl,hp,hj,q⟩:=h
 cases ro
 obtain ⟨t,rfl⟩:=ri
 obtain ⟨its,n,r,ho,hz⟩:=I.lst hp
 obtain ⟨h1,h2,h3,h4⟩:=AM hj
 have hl:=r.length
 have hn:=sJ
 have I' : Inv X pins σ (upd H p (.lst (xs.set j v))) { s with heap:=s.heap.update p (Obj.mapSeq (·.setIfInBounds j u)) }:=
  I.lstUpd hp ho (zx its n j u) (r.set rv j) (by rw [List.length_set]; exact hz) s.toks
 by_cases h0 : 0 <= k
 ·have hk : k.toNat = j:=by
   rw [seqIndex_of h0 h4] at h1
   exact Option.some.inj h1
  exact PySem.W.ki_setAt ho h0 (by omega) (by rw [List.size_toArray,<- hl]; exact h4) (by rw [hk]; exact ⟨_,I',q⟩)
 ·have hk : (k + (its.toArray.size : Int)).toNat = j:=by
   rw [seqIndex_neg (by omega) h3] at h1
   rw [List.size_toArray,<- hl]
   exact Option.some.inj h1
  exact PySem.W.ki_setBack ho (by omega) (by rw [List.size_toArray,<- hl]; exact h3) (by omega) (by rw [hk]; exact ⟨_,I',q⟩)
theorem xh (lo hi : Option Int) (n : Nat) : (sliceBounds lo hi none n).1 = ((HT.sIx n 0 lo : Nat) : Int) /\ (sliceBounds lo hi none n).2.1 = ((HT.sIx n n hi : Nat) : Int) /\ (sliceBounds lo hi none n).2.2 = 1:=by
 refine ⟨?_,?_,rfl⟩
 ·cases lo with
  | none => simp [sliceBounds,HT.sIx]
  | some i =>
   simp only [sliceBounds,HT.sIx,Option.getD_none,show (1 : Int) > 0 by decide,if_true]
   by_cases h : i < 0
   ·simp only [h,if_true] <;> omega
   ·simp only [h,if_false] <;> omega
 ·cases hi with
  | none => simp [sliceBounds,HT.sIx]
  | some i =>
   simp only [sliceBounds,HT.sIx,Option.getD_none,show (1 : Int) > 0 by decide,if_true]
   by_cases h : i < 0
   ·simp only [h,if_true] <;> omega
   ·simp only [h,if_false] <;> omega
theorem uZ (its : List Value) (lo hi : Option Int) : slicePick its.toArray lo hi none = ((its.drop (HT.sIx its.length 0 lo)).take (HT.sIx its.length its.length hi - HT.sIx its.length 0 lo)).toArray:=by
 obtain ⟨h1,h2,h3⟩:=xh lo hi its.toArray.size
 unfold slicePick
 rw [h1,h2,h3]
 simp only [sliceRange_one,pick_run,List.size_toArray] <;> rfl
def HX (K : PySem.W.Frag) : V -> Option Int -> Option Int -> Hp -> VK -> Prop:=fun x lo hi H Q => ∃ a xs,x = .ref a /\ SqL K H a xs /\ ∀ p,H p = none -> Q (.ref p) (upd H p (.lst (jY xs lo hi)))
theorem AZ : SlR X (HX X.K):=by
 intro pins s σ H x v vl vu lo hi sl Q I rx hs pl pu h
 obtain ⟨a,xs,rfl,hx,q⟩:=h
 cases rx
 obtain ⟨its,r,ht,hz⟩:=I.list hx
 have hlen:=r.length
 refine ⟨"list",_,slot_list_getitem.lookup,ht.isList.typeIs,?_⟩
 refine wpAny_getItem_list_slice ht.isList hs pl pu .none (by simp) ?_ (by rw [List.size_toArray] <;> omega)
 rw [uZ,<- hlen]
 refine ⟨.ref s.heap.objs.size,_,I.laid (t' := s.toks) (o:=.lst (jY xs lo hi)) (fun b ob q => Heap.get?_push_of_some _ q) (Nat.le_refl _) ?_,rfl,q _ (I.hok.fresh (Nat.le_refl _))⟩
 exact ⟨Nat.le_trans (p7 xs lo hi) hz,_,0,(r.drop (HT.sIx xs.length 0 lo)).take (HT.sIx xs.length xs.length hi - HT.sIx xs.length 0 lo),Heap.get?_push_size _ rfl⟩
theorem aU : gX X (.builtin "len") (fun xs H Q => ∃ p ys,xs = [.ref p] /\ (SqL X.K H p ys \/ SqT X.K H p ys) /\ Q (.int ys.length) H):=by
 intro pins s σ H xs us Q I r h
 obtain ⟨p,ys,rfl,hq,q⟩:=h
 obtain ⟨u,rfl,rx⟩:=vals1 r
 cases rx
 have hn:=sJ
 rcases hq with hq | hq
 ·obtain ⟨its,r',pl,hz⟩:=I.list hq
  have hlen:=r'.length
  exact Calls.call_len_list pl.isList (by simp only [List.size_toArray] <;> omega) ⟨.int ys.length,H,I.tok _,⟨s.toks + 1,by rw [List.size_toArray,hlen]⟩,q⟩
 ·obtain ⟨its,r',pl,hz⟩:=I.tuple hq
  have hlen:=r'.length
  exact len_tuple pl (by simp only [List.size_toArray] <;> omega) ⟨.int ys.length,H,I.tok _,⟨s.toks + 1,by rw [List.size_toArray,hlen]⟩,q⟩
theorem aF : gX X (.type "tuple") (fun xs H Q => ∃ p ys,xs = [.ref p] /\ ((SqL X.K H p ys /\ ∀ l,H l = none -> Q (.ref l) (upd H l (.tup ys))) \/ (SqT X.K H p ys /\ Q (.ref p) H))):=by
 intro pins s σ H xs us Q I r h
 obtain ⟨p,ys,rfl,h⟩:=h
 obtain ⟨u,rfl,rx⟩:=vals1 r
 cases rx
 rcases h with ⟨hq,q⟩ | ⟨hq,q⟩
 ·obtain ⟨its,r',pl,hz⟩:=I.list hq
  have hlen:=r'.length
  refine call_tuple_list pl.isList (fun h' kp => ?_) (by simp only [List.size_toArray] <;> omega)
  have I1 : Inv X pins σ H { s with heap:=h' }:=I.kept (t' := s.toks) kp
  have I2 : Inv X pins σ (upd H h'.objs.size (.tup ys)) { s with heap:=h'.push { cls:=.type "tuple",data:=.seq its.toArray } }:=
   I1.laid (t' := s.toks) (fun b o e => Heap.get?_push_of_some _ e) (Nat.le_refl _) (show ObjOk X.prog X.w _ _ _ (.tup ys) from ⟨hz,its,r',IsTup.new _ _⟩)
  exact ⟨.ref h'.objs.size,_,I2,rfl,q _ (I1.hok.fresh (Nat.le_refl _))⟩
 ·obtain ⟨its,r',pl,hz⟩:=I.tuple hq
  exact call_tuple_same pl ⟨.ref p,H,I,rfl,q⟩
def tyV (K : PySem.W.Frag) (T : String) (x : V) (H : Hp) : Prop:=match x with
 | .str _ => T = "str"
 | .int _ => T = "int"
 | .ref p => (T = "list" /\ ∃ xs,SqL K H p xs) \/ (T = "tuple" /\ ∃ o,K.lookup p = some o /\ o.cls = .type "tuple" /\ o.dict = none) \/
   (T = "dict" /\ ((∃ kvs,H p = some (.dK kvs)) \/ ∃ kvs,H p = some (.dT kvs))) \/ (T = "set" /\ ∃ S n,H p = some (.set S n))
 | _ => False
theorem Ek {pins : List (Addr × Obj)} {σ : St} {H : Hp} {s : Shared} {T : String} {x : V} {v : Value} (I : Inv X pins σ H s) (r : RelV x v) (ty : tyV X.K T x H) :
  s.TypeIs v T /\ ∀ a,v = .ref a -> ∃ ob,s.heap.get? a = some ob /\ ob.dict = none:=by
 cases x with
 | str z =>
  obtain ⟨t,rfl⟩:=r
  cases (show T = "str" from ty)
  exact ⟨typeIs_str s z t,fun _ e => nomatch e⟩
 | int i =>
  obtain ⟨t,rfl⟩:=r
  cases (show T = "int" from ty)
  exact ⟨typeIs_int s i t,fun _ e => nomatch e⟩
 | ref p =>
  cases r
  rcases ty with ⟨rfl,xs,hq⟩ | ⟨rfl,o,hk,hc,hd⟩ | ⟨rfl,hk⟩ | ⟨rfl,S,n,hk⟩
  ·obtain ⟨its,_,pl,_⟩:=I.list hq
   refine ⟨pl.isList.typeIs,fun a e => ?_⟩
   cases e
   obtain ⟨o,n,e,c,hd,_⟩:=pl
   exact ⟨o,e,hd⟩
  ·refine ⟨⟨o,I.kIn p o hk,hc⟩,fun a e => ?_⟩
   cases e
   exact ⟨o,I.kIn _ o hk,hd⟩
  ·have z : ∃ o,s.heap.get? p = some o /\ o.ExactDict:=by
    rcases hk with ⟨kvs,hk⟩ | ⟨kvs,hk⟩
    ·obtain ⟨_,_,_,_,o,_,_,e,ex,_⟩:=I.hok p _ hk
     exact ⟨o,e,ex⟩
    ·obtain ⟨_,_,_,_,o,_,_,e,ex,_⟩:=I.hok p _ hk
     exact ⟨o,e,ex⟩
   obtain ⟨o,e,ex⟩:=z
   refine ⟨⟨o,e,ex.1⟩,fun a e2 => ?_⟩
   cases e2
   exact ⟨o,e,ex.2.1⟩
  ·obtain ⟨o,_,_,_,e,ex,_⟩:=I.hok p _ hk
   refine ⟨⟨o,e,ex.1⟩,fun a e2 => ?_⟩
   cases e2
   exact ⟨o,e,ex.2.1⟩
 | _ => exact False.elim ty
def Ib (K : PySem.W.Frag) (T : String) (r : V -> List V -> Hp -> VK -> Prop) (to : TE) : TE:=fun σ H Q => to σ H fun x H1 => tyV K T x H1 /\ r x [] H1 Q
def tBM (K : PySem.W.Frag) (T : String) (r : V -> List V -> Hp -> VK -> Prop) (to : TE) (t : TA) : TE:=fun σ H Q => to σ H fun x H1 => tyV K T x H1 /\ t σ H1 fun xs H2 => r x xs H2 Q
variable {o e : Expr} {es : List Expr} {to : TE} {t : TA} {name : Str} {apos cpos : Pos} {T id : String} {r : V -> List V -> Hp -> VK -> Prop}
theorem zR (pa : PlainAttrs T) (slot : Slot T name id) (hty : typeOf (.builtin id) = pure (.type "method_descriptor")) (hm : MtR X id r) (ho : PE X o to)
  (hbase : attributeBase o name X.env (eval o X.env) = eval o X.env:=by rfl) (hline : (apos.endLine == cpos.line) = true:=by rfl) : PE X (.Call (.Attribute o name apos) [] [] cpos) (Ib X.K T r to):=by
 intro pins s σ H Q I h
 refine wpAny_Call_method0_late hbase hline (thn (ho pins s σ H _ I h) fun v s1 ⟨x,H1,I1,r1,ty,q1⟩ => ?_)
 obtain ⟨h1,h2⟩:=Ek I1 r1 ty
 exact ⟨T,id,pa,slot,hty,h1,h2,Calls.callWith_builtin rfl (PySem.evalArgs_none (hm pins s1 σ H1 x [] v [] Q I1 r1 .nil q1))⟩
theorem eC (pa : PlainAttrs T) (slot : Slot T name id) (hty : typeOf (.builtin id) = pure (.type "method_descriptor")) (hm : MtR X id r) (ho : PE X o to) (ha : PA X (e :: es) t)
  (hbase : attributeBase o name X.env (eval o X.env) = eval o X.env:=by rfl)
  (hfew : ((backTo cpos (starEach (e :: es) X.env)).all (fun x => !x.1) && (backToKw cpos (keywordEach [] X.env)).all (fun x => x.1.isSome)
   && decide ((e :: es).length + ([] : List Keyword).length + (if ([] : List Keyword).isEmpty then 0 else 1) < 30)) = true:=by rfl)
  (hline : (apos.endLine == cpos.line) = true:=by rfl) (hs : starEach (e :: es) X.env = (false,eval e X.env) :: starEach es X.env:=by rfl) (hplain : (backTo cpos (starEach es X.env)).any (·.1) = false:=by rfl) :
  PE X (.Call (.Attribute o name apos) (e :: es) [] cpos) (tBM X.K T r to t):=by
 intro pins s σ H Q I h
 refine wpAny_Call_method_late hbase hfew hline rfl (thn (ho pins s σ H _ I h) fun v s1 ⟨x,H1,I1,r1,ty,q1⟩ => ?_)
 obtain ⟨h1,h2⟩:=Ek I1 r1 ty
 refine ⟨T,id,pa,slot,hty,h1,h2,?_⟩
 have hA:=ha cpos pins s1 σ H1 _ I1 q1
 rw [hs] at hA ⊢
 refine Calls.callWith_builtin (by show (false || (backTo cpos (starEach es X.env)).any (·.1)) = false; rw [hplain] <;> rfl) (Calls.evalArgs_plain ?_)
 exact thn hA fun us s2 ⟨vs,H2,I2,r2,q2⟩ => hm pins s2 σ H2 x vs v us Q I2 r1 r2 q2
/- xs.append(e),list.index on a module's tuple .. are MtR facts of 06m -/
end
end L2
namespace L2
open PySem PySem.Spec PyProof.Rows
def MtM (X : Cx) (id : String) (r : V -> List V -> Hp -> VK -> Prop) : Prop:=
 ∀ (pins : List (Addr × Obj)) (s : Shared) (σ : St) (H : Hp) (x : V) (xs : List V) (v : Value) (us : List Value) (Q : VK),Inv X pins σ H s -> RelV x v -> Vals xs us -> r x xs H Q ->
  wpAny (model X.prog X.w) X.A (call (.builtin id) (v :: us)) (EP X pins σ Q) X.xe s
theorem Vals.one : ∀ {x : V} {us : List Value},Vals [x] us -> ∃ u,us = [u] /\ RelV x u
 | _,_,.cons r .nil => ⟨_,rfl,r⟩
theorem Vals.two : ∀ {x y : V} {us : List Value},Vals [x,y] us -> ∃ u v,us = [u,v] /\ RelV x u /\ RelV y v
 | _,_,_,.cons r (.cons q .nil) => ⟨_,_,rfl,r,q⟩
theorem Vals.zero : ∀ {us : List Value},Vals [] us -> us = []
 | _,.nil => rfl
theorem Vals.dropLast {xs : List V} {us : List Value} (h : Vals xs us) : Vals xs.dropLast us.dropLast:=by
 induction h with
 | nil => exact .nil
 | cons r t ih =>
  cases t with
  | nil => exact .nil
  | cons q t' => exact .cons r ih
theorem ze {α : Type} (l : List α) : l.eraseIdx (l.length - 1) = l.dropLast:=by
 induction l with
 | nil => rfl
 | cons a r ih =>
  cases r with
  | nil => rfl
  | cons b r =>
   have e : (a :: b :: r).length - 1 = ((b :: r).length - 1) + 1:=by
    have h1 : (a :: b :: r).length = r.length + 2:=rfl
    have h2 : (b :: r).length = r.length + 1:=rfl
    omega
   rw [e,List.eraseIdx_cons_succ,ih]
   all_goals rfl
section
variable {X : Cx} {pins : List (Addr × Obj)} {σ : St} {H : Hp} {s : Shared} {l b : Addr} {xs ys zs : List V}
theorem Inv.lset {its its' : List Value} {n : Nat} {f : Array Value -> Array Value} {t' : Nat} (I : Inv X pins σ H s) (hH : H l = some (.lst xs))
  (e : s.heap.get? l = some { cls:=.type "list",data:=.seq its.toArray n }) (hf : f its.toArray = its'.toArray) (hv : Vals ys its') (hz : ys.length <= sizeLine) :
  Inv X pins σ (upd H l (.lst ys)) { s with heap:=s.heap.update l (Obj.mapSeq f),toks:=t' }:=by
 have q:=PySem.IsL.update e f
 rw [hf] at q
 refine I.write (x:=l) (e:=l) (by rw [hH]; exact trivial) (.inl rfl) (fun b' u hb hu => (Heap.get?_update_other s.heap (Obj.mapSeq f) (Ne.symm hb)).trans hu) ⟨_,q⟩ ?_
 exact ⟨hz,its',_,hv,q⟩
theorem Inv.lnew {its : List Value} {t' : Nat} (I : Inv X pins σ H s) (hv : Vals ys its) (hz : ys.length <= sizeLine) :
  Inv X pins σ (upd H s.heap.objs.size (.lst ys)) { s with heap:=s.heap.push { cls:=.type "list",data:=.seq its.toArray },toks:=t' }:=
 I.laid (fun _ _ q => Heap.get?_push_of_some _ q) (Nat.le_refl _) ⟨hz,its,0,hv,Heap.get?_push_size _ rfl⟩
theorem Inv.fresh (I : Inv X pins σ H s) : H s.heap.objs.size = none:=I.hok.fresh (Nat.le_refl _)
theorem Inv.lstM (I : Inv X pins σ H s) (hH : H l = some (.lst xs)) : xs.length <= sizeLine /\ ∃ (its : List Value) (n : Nat),Vals xs its /\ xs.length = its.length /\ s.heap.get? l = some { cls:=.type "list",data:=.seq its.toArray n }:=by
 obtain ⟨z,its,n,r,e⟩:=I.hok l _ hH
 exact ⟨z,its,n,r,r.length,e⟩
theorem yk {n : Nat} (h : n <= sizeLine) : Builtin.List.listTooLong n = false:=by
 unfold Builtin.List.listTooLong
 exact decide_eq_false (by omega)
end
section
variable {X : Cx}
def Fn : V -> List V -> Hp -> VK -> Prop:=fun x vs H Q => ∃ l xs y,x = .ref l /\ vs = [y] /\ H l = some (.lst xs) /\ xs.length < sizeLine /\ Q .non (upd H l (.lst (xs ++ [y])))
theorem ba : MtM X "list.append" Fn:=by
 intro pins s σ H x vs v us Q I rx rv h
 obtain ⟨l,xs,y,rfl,rfl,hH,hz,q⟩:=h
 cases rx
 obtain ⟨u,rfl,ru⟩:=rv.one
 obtain ⟨z,its,n,r,hl,e⟩:=I.lstM hH
 refine call_meets F.slot_list_append ⟨_,e,rfl⟩ F.entry_list_append (F.args_list_append_2 _ _) (PySem.list_append l its.toArray n u (by rw [List.size_toArray]; omega)) ⟨e,?_⟩
 refine ⟨.non,_,I.lset (its' := its ++ [u]) hH e (by simp) (r.append (.cons ru .nil)) ?_,rfl,q⟩
 rw [List.length_append,List.length_singleton]
 omega
def AY : V -> List V -> Hp -> VK -> Prop:=fun x vs H Q => ∃ l b xs zs,x = .ref l /\ vs = [.ref b] /\ H l = some (.lst xs) /\ H b = some (.lst zs) /\ xs.length + zs.length <= sizeLine /\ Q .non (upd H l (.lst (xs ++ zs)))
theorem BM : MtM X "list.extend" AY:=by
 intro pins s σ H x vs v us Q I rx rv h
 obtain ⟨l,b,xs,zs,rfl,rfl,hH,hB,hz,q⟩:=h
 cases rx
 obtain ⟨u,rfl,ru⟩:=rv.one
 cases ru
 obtain ⟨z,its,n,r,hl,e⟩:=I.lstM hH
 obtain ⟨z2,its2,n2,r2,hl2,e2⟩:=I.lstM hB
 have hsz : its.toArray.size + its2.toArray.size <= sizeLine:=by rw [List.size_toArray,List.size_toArray]; omega
 have hlong : ¬ (!its.toArray.isEmpty && Builtin.List.listTooLong (its.toArray.size + its2.toArray.size)) = true:=by
  rw [yk hsz,Bool.and_false]
  exact Bool.false_ne_true
 refine call_meets F.slot_list_extend ⟨_,e,rfl⟩ F.entry_list_extend (F.args_list_extend_2 _ _)
  (AutoSeq1.list_extend_list_list_0 l its.toArray n b its2.toArray n2 hlong (by rw [List.size_toArray]; omega) (by omega)) ⟨e,e2,?_⟩
 refine ⟨.non,_,I.lset (its' := its ++ its2) hH e (by simp) (r.append r2) ?_,rfl,q⟩
 rw [List.length_append]
 omega
def HW : V -> List V -> Hp -> VK -> Prop:=fun x vs H Q => ∃ l xs y,x = .ref l /\ vs = [] /\ H l = some (.lst xs) /\ xs[xs.length - 1]? = some y /\ Q y (upd H l (.lst xs.dropLast))
theorem Dd : MtM X "list.pop" HW:=by
 intro pins s σ H x vs v us Q I rx rv h
 obtain ⟨l,xs,y,rfl,rfl,hH,hy,q⟩:=h
 cases rx
 have hus:=rv.zero
 subst hus
 obtain ⟨z,its,n,r,hl,e⟩:=I.lstM hH
 obtain ⟨u,hu,ru⟩:=r.get hy
 have hy' : its.toArray[its.toArray.size - 1]? = some u:=by
  show its.toArray[its.length - 1]? = some u
  rw [<- Array.getElem?_toList,<- hl]
  exact hu
 refine call_meets F.slot_list_pop ⟨_,e,rfl⟩ F.entry_list_pop (F.args_list_pop_1 _) (MeetsSeq.list_pop_last l its.toArray n u hy' (by rw [List.size_toArray]; omega)) ⟨e,?_⟩
 refine ⟨y,_,I.lset (its' := its.dropLast) hH e ?_ r.dropLast ?_,ru,q⟩
 ·show its.toArray.eraseIdxIfInBounds (its.toArray.size - 1) = its.dropLast.toArray
  rw [List.size_toArray,List.eraseIdxIfInBounds_toArray,ze]
 ·rw [List.length_dropLast]
  omega
def HU : R2:=fun x y H Q => ∃ l b xs zs,x = .ref l /\ y = .ref b /\ H l = some (.lst xs) /\ H b = some (.lst zs) /\ xs.length + zs.length <= sizeLine /\ ∀ p,H p = none -> Q (.ref p) (upd H p (.lst (xs ++ zs)))
theorem zO : OpR X (binaryOp .Add) HU:=by
 intro pins s σ H x y v u Q I rx ry h
 obtain ⟨l,b,xs,zs,rfl,rfl,hH,hB,hz,q⟩:=h
 cases rx
 cases ry
 obtain ⟨z,its,n,r,hl,e⟩:=I.lstM hH
 obtain ⟨z2,its2,n2,r2,hl2,e2⟩:=I.lstM hB
 refine PySem.P.add_list e e2 ?_ (by rw [List.size_toArray,List.size_toArray]; omega)
 have ea : its.toArray ++ its2.toArray = (its ++ its2).toArray:=by simp
 rw [ea]
 exact ⟨.ref _,_,I.lnew (t' := s.toks) (r.append r2) (by rw [List.length_append]; omega),rfl,q _ I.fresh⟩
end
section
variable {prog : Program} {w : World} {A : Around} {E : Value -> Shared -> Prop} {s : Shared}
end
section
variable {X : Cx}
end
end L2
namespace Att
open PySem PySem.W PySem.Calls PyProof.Rows
theorem qC {P : Params} {h : Heap} : ∀ (ns : List Int) (vs : List Value),WellAll P h vs (ns.map WData.int) -> IntsAre vs ns:=by
 intro ns
 induction ns with
 | nil =>
  intro vs w
  rw [List.map_nil] at w
  cases w
  exact .nil
 | cons n ns ih =>
  intro vs w
  rw [List.map_cons] at w
  cases w with
  | cons a b =>
   cases a
   exact .cons _ _ (ih _ b)
theorem Ca {l : OpenLaw} {n : Nat} (hn : l.most = some n) {P : Params} {h : Heap} {args : List WData} {vals : List Value}
  (hpre : l.row.toRowW.claim.pre args = true) (hwl : WellAll P h vals args) :
  ∃ a vs ns,vals = [Value.ref a] /\ args = [WData.list (ns.map WData.int)] /\ h.get? a = some { cls:=.type "list",data:=.seq vs.toArray } /\ IntsAre vs ns /\ ns.length <= n:=by
 have hsh : WShape.hasAll [] args [.list .int] = true:=(pre_splitW hpre).1
 have hc : l.pre.holds [] { args:=args } = true:=(pre_splitW hpre).2
 obtain ⟨d,r,rfl,h1,h2⟩:=hasAllW_cons hsh
 obtain rfl:=hasAllW_nil h2
 obtain ⟨xs,rfl,h3⟩:=hasW_list h1
 obtain ⟨ns,rfl⟩:=items_int h3
 have hlen : ns.length <= n:=by
  unfold OpenLaw.pre at hc
  have h4 : (WTm.not (.lt (.lit (.int (n : Int))) (.len (.arg 0)))).holds [] { args:=[.list (ns.map .int)] } = true:=by
   have h4:=(holds_andW hc).1
   rw [hn] at h4
   exact h4
  have h5:=condW_of h4 (w_not (w_lt w_lit (w_len_list (w_arg rfl))))
  rw [List.length_map] at h5
  refine Nat.le_of_not_lt fun q => ?_
  have q' : (n : Int) < ((ns.length : Nat) : Int):=by omega
  first
   | (rw [decide_eq_true q'] at h5; exact absurd h5 (by decide))
   | (simp at h5; omega)
 cases hwl with
 | cons w1 w2 =>
  cases w2
  cases w1 with
  | list ho hall => exact ⟨_,_,ns,rfl,rfl,ho,qC ns _ hall,hlen⟩
theorem B8 (l : OpenLaw) (args : List WData) : l.row.toRowW.claim.post args (.bool true) args = true:=
 postW_of (r:=l.row.toRowW) (X:=(true == true))
  (show WShape.has [] (.bool true) .bool = true by first | rfl | decide | simp [WShape.has,WShape.arms,WShape.armsAll])
  (show (WTm.eq .res (.lit (.bool true))).value [] { args:=args,res:=some (.bool true),after:=args } = some (.bool (true == true)) from w_eq_bool (w_res rfl) w_lit) rfl
theorem attach_call {l : OpenLaw} {n : Nat} {q : Program} {loose : List Str} {XP : (Str -> Option Value) -> Heap -> Prop} {YP : World -> Heap -> Prop} {d : DefRec}
  (hn : l.most = some n) (hdf : d.params.defaults = [])
  (call : ∀ (w : World) (s₀ s₁ : Shared) (mg mb : Str -> Option Value) (fa : Addr) (o : Obj) (pm cd doc : Value) (a : Addr) (vs : List Value) (ns : List Int),
   Ground q loose [] XP w s₀ mg mb s₁.heap -> YP w s₁.heap ->
   s₁.heap.get? fa = some o -> o.data = .func (docDef d.name d.params d.body d.scope pm cd doc) -> s₁.heap.CodeRec cd d.name -> mg d.name = some (.ref fa) ->
   s₁.heap.get? a = some { cls:=.type "list",data:=.seq vs.toArray } -> IntsAre vs ns -> ns.length <= n -> s₁.gens = #[] ->
   codeAny (model l.prog w) callerA (.call (.ref fa) ⟨[.ref a],[]⟩) (fun r s' => r = .ok (.ret (.bool true)) /\ OldK s₁.heap s'.heap /\ s'.os = s₁.os /\ AllBare s'.gens) s₁) :
  WalkO q loose XP YP l.row.toRowW d [] (fun f vs => PySem.call f vs):=by
 intro w s₀ s₁ mg mb G Y fa o pm cd doc dV kV ho hd hcd hD hmg hg args vals as hpre hlay hrd hwl hlo
 obtain rfl : dV = .none:=Dflts.none hD hdf
 obtain rfl : kV = .none:=Dflts.noKw hD
 obtain ⟨a,vs,ns,rfl,rfl,hobj,hints,hlen⟩:=Ca hn hpre hwl
 refine enter_call (codeAny_mono (call w s₀ s₁ mg mb fa o pm cd doc a vs ns G Y ho (fd_plain hd) hcd hmg hobj hints hlen hg) fun r s' hq => ?_)
 obtain ⟨rfl,h2,h3,h4⟩:=hq
 exact ⟨.inl ⟨.bool true,.bool true,[],rfl,fun _ => rfl,.bool true,B8 l _,fun _ => ⟨List.Pairwise.nil,fun _ hm => (nomatch hm)⟩⟩,h2,h3,h4⟩
section
variable {prog : Program} {w : World} {A : Around} {E : Value -> Shared -> Prop} {s : Shared} {K : Frag}
def ledger (h : Heap) (L d : Addr) : List (Addr × Obj):=(List.range h.objs.size).filterMap fun a => if a = L \/ a = d then none else (h.get? a).map fun o => (a,o)
end
end Att
namespace L2
open PySem PySem.Spec PyProof.Rows
theorem vE : ∀ {vs : List Value} {ns : List Int},IntsAre vs ns -> Vals (ns.map V.int) vs
 | _,_,.nil => .nil
 | _,_,.cons n t h => .cons ⟨t,rfl⟩ (vE h)
def FZ (H : Hp) : Prop := ∀ b,H b = none \/ ∃ o xs,H b = some (.frz o (.lst xs))
theorem C4 {P : Program} {w : World} {K : PySem.W.Frag} {mg mb : Str -> Option Value} {CX : CXT} {k : Nat} {fa a : Addr} {fd : FuncData} {x : Str} {sp : Sp} {s₁ : Shared} {vs : List Value} {ns : List Int}
  (KX : K.In s₁.heap) (hns : s₁.heap.Ns mainGlobals mg) (hb : s₁.heap.Ns builtinsNs mb) (hbb : ∀ x : Str,x ≠ "__name__" -> mb x = bootBuiltins x) (hlim : s₁.heap.NoLimit) (hg : s₁.gens = #[])
  (ha : s₁.heap.get? a = some { cls:=.type "list",data:=.seq vs.toArray }) (hi : IntsAre vs ns) (hl : ns.length <= sizeLine) (hr : Room k callerA)
  (F : ∀ base : Heap,K.In base -> base.Ns mainGlobals mg -> FnOk P w K mg base CX k fa fd [x] sp) (hbind : ∀ (s : Shared) (u : Value),BindsTo s fd ⟨[u],[]⟩ [(x,u)])
  (hsp : ∀ H : Hp,FZ H -> SqL K H a (ns.map V.int) -> sp [.ref a] H (fun v _ => v = .bl true) fun _ _ _ => False)
  (hCX : ∀ H e s',CX [] H s₁ (fun _ _ _ => False) e s' -> False) :
  codeAny (model P w) callerA (.call (.ref fa) ⟨[.ref a],[]⟩) (fun r s' => r = .ok (.ret (.bool true)) /\ OldK s₁.heap s'.heap /\ s'.os = s₁.os /\ AllBare s'.gens) s₁:=by
 have rv:=vE hi
 have lenV:=hi.length
 have core : ∀ H : Hp,FZ H -> SqL K H a (ns.map V.int) -> HOk P w H s₁.heap -> (∀ b,H b ≠ none -> b = a) -> (H a ≠ none -> K.lookup a = none) ->
   codeAny (model P w) callerA (.call (.ref fa) ⟨[.ref a],[]⟩) (fun r s' => r = .ok (.ret (.bool true)) /\ OldK s₁.heap s'.heap /\ s'.os = s₁.os /\ AllBare s'.gens) s₁:=by
  intro H hO hS hok hA hK
  have base_of : ∀ {b : Addr} {o : Obj},s₁.heap.get? b = some o -> H b = none -> (we s₁.heap H).get? b = some o:=fun e n => CP e n
  have noA : ∀ {b : Addr} {o : Obj} {es : Array DictEntry} {ep : Nat},s₁.heap.get? b = some o -> o.data = .dict es ep -> H b = none:=fun {b o es ep} e d => by
   cases q : H b with
   | none => rfl
   | some u =>
    have e' : b = a:=hA b (by rw [q]; simp)
    subst e'
    rw [ha] at e; cases e
    have d' : Data.seq vs.toArray _ = Data.dict es ep:=d
    cases d'
  have nsK : ∀ {b : Addr} {m : Str -> Option Value},s₁.heap.Ns b m -> (we s₁.heap H).Ns b m:=fun {b m} ⟨o,es,ep,e,d,r⟩ => ⟨o,es,ep,base_of e (noA e d),d,r⟩
  have hKb : K.In (we s₁.heap H):=fun b o e => base_of (KX b o e) (by
   cases q : H b with
   | none => rfl
   | some u =>
    have e' : b = a:=hA b (by rw [q]; simp)
    subst e'
    rw [hK (by rw [q]; simp)] at e; cases e)
  have hM : Mod K mg (we s₁.heap H):=⟨hKb,nsK hns,⟨mb,nsK hb,hbb⟩,let ⟨mc,h1,h2⟩:=hlim; ⟨mc,nsK h1,h2⟩⟩
  have e0 : Env0 P w K mg (we s₁.heap H) callerA [] s₁ H:=⟨rfl,hM,fun b o e => EY e,Nat.le_of_eq (Bv _ _),trivial,fun b hb => absurd (show b ∈ ([] : List Addr) from hb) (by simp),hok,.of_eq hg⟩
  refine codeAny_mono ((F _ hKb (nsK hns)).run callerA [] s₁ H ⟨[.ref a],[]⟩ [.ref a] [.ref a] _ _ hr e0 (hbind s₁ (.ref a)) (.cons rfl .nil) (hsp H hO hS)) fun r s' h => ?_
  cases r with
  | error e => exact (hCX H e s' h).elim
  | ok fl =>
   cases fl with
   | next => exact False.elim h
   | brk => exact False.elim h
   | cont => exact False.elim h
   | ret u =>
    obtain ⟨v,H',os,bare,un,hok',r',q⟩:=h
    have q' : v = .bl true:=q
    subst q'
    obtain rfl : u = Value.bool true:=r'
    refine ⟨rfl,OldK.of_keep fun b o e => ?_,os,bare⟩
    cases q : H b with
    | none => exact un.keep b o e q (by intro z; exact absurd (show b ∈ ([] : List Addr) from z) (by simp)) (by simp)
    | some u =>
     rcases hO b with z | ⟨ob,xs,z⟩
     ·rw [q] at z; cases z
     ·have z2:=un.frzs b ob _ z
      obtain ⟨e1,_⟩:=hok b _ z
      obtain ⟨e2,_⟩:=hok' b _ z2
      rw [e] at e1; cases e1
      exact e2
 cases hk : K.lookup a with
 | some o =>
  have e:=KX a o hk
  rw [ha] at e
  cases e
  refine core (fun _ => none) (fun _ => .inl rfl) (.inr ⟨_,vs.toArray,_,hk,rfl,rfl,rfl,by rw [List.size_toArray,lenV]; exact hl,by simpa using rv⟩) (fun b u z => by have z' : (none : Option HO) = some u:=z; cases z') (fun b z => absurd rfl z) fun z => absurd rfl z
 | none =>
  refine core (fun b => if b = a then some (.frz { cls:=.type "list",data:=.seq vs.toArray } (.lst (ns.map V.int))) else none) (fun b => ?_) (.inl (.inr ⟨{ cls:=.type "list",data:=.seq vs.toArray },if_pos rfl⟩)) (fun b u z => ?_) (fun b z => ?_) fun _ => hk
  ·by_cases hb : b = a
   ·exact .inr ⟨_,_,if_pos hb⟩
   ·exact .inl (if_neg hb)
  ·by_cases hb : b = a
   ·have z' := (if_pos hb).symm.trans z
    cases z'
    subst hb
    exact ⟨ha,by rw [List.length_map]; exact hl,vs,_,rv,ha⟩
   ·have z' := (if_neg hb).symm.trans z
    cases z'
  ·by_cases hb : b = a
   ·exact hb
   ·exact absurd (if_neg hb) z
end L2
namespace L2
open PySem PySem.Spec PyProof.Rows
theorem walk_of {l : PySem.W.OpenLaw} {n k : Nat} {q : Program} {loose : List Str} {XP : (Str -> Option Value) -> Heap -> Prop} {YP : World -> Heap -> Prop} {d : DefRec} {K : Params -> PySem.W.Frag} {CX : World -> CXT} {sp : World -> Sp} {x : Str}
  (hn : l.most = some n) (hn2 : n <= sizeLine) (hdf : d.params.defaults = []) (hr : Room k callerA)
  (hY : ∀ (w : World) (h : Heap),YP w h -> (K w.params).In h)
  (F : ∀ (w : World) (mg : Str -> Option Value) (fa : Addr) (h : Heap),(K w.params).In h -> h.Ns mainGlobals mg -> mg d.name = some (.ref fa) ->
   ∃ fd : FuncData,(∀ (s : Shared) (u : Value),BindsTo s fd ⟨[u],[]⟩ [(x,u)]) /\
    ∀ base : Heap,(K w.params).In base -> base.Ns mainGlobals mg -> FnOk l.prog w (K w.params) mg base (CX w) k fa fd [x] (sp w))
  (hsp : ∀ (w : World) (H : Hp) (a : Addr) (ns : List Int),ns.length <= n -> FZ H -> SqL (K w.params) H a (ns.map V.int) -> sp w [.ref a] H (fun v _ => v = .bl true) fun _ _ _ => False)
  (hCX : ∀ (w : World) (H : Hp) (s : Shared) (e : Value) (s' : Shared),CX w [] H s (fun _ _ _ => False) e s' -> False) :
  PySem.W.WalkO q loose XP YP l.row.toRowW d [] (fun f vs => PySem.call f vs):=by
 refine Att.attach_call hn hdf fun w s₀ s₁ mg mb fa o pm cd doc a vs ns G Y ho hd hcd hmg hobj hints hlen hg => ?_
 have KX:=hY w _ Y
 obtain ⟨fd,hb,hF⟩:=F w mg fa _ KX G.T.g hmg
 exact C4 KX G.T.g G.T.b G.T.builtins G.T.nolimit hg hobj hints (Nat.le_trans hlen hn2) hr hF hb (fun H hO hS => hsp w H a ns hlen hO hS) fun H e s' => hCX w H s₁ e s'
end L2
namespace L2
open PySem PySem.Spec PyProof.Rows
def inClass (s : Stmt) (j : Nat) : Stmt:=match s with
 | .ClassDef _ _ _ body _ _ _ _ _ _ _ => body.getD j (.Pass ⟨0,0,0,0⟩)
 | _ => .Pass ⟨0,0,0,0⟩
def aC (s : Stmt) : Arguments:=match s with
 | .FunctionDef _ a _ _ _ _ _ _ _ _ => a
 | _ => { posonlyargs:=[],args:=[],vararg:=none,kwonlyargs:=[],kw_defaults:=[],kwarg:=none,defaults:=[] }
def aB (s : Stmt) : List Stmt:=match s with
 | .FunctionDef _ _ b _ _ _ _ _ _ _ => b
 | _ => []
def aj (s : Stmt) : Scope:=match s with
 | .FunctionDef _ _ _ _ _ _ sc _ _ _ => sc
 | _ => { kind:=.function,names:=[],isGenerator:=false,isCoroutine:=false }
abbrev CX0 : CXT:=fun _ _ _ _ _ _ => False
abbrev E0 : XK:=fun _ _ _ => False
theorem Dz {X : Cx} : Passes CX0 X E0:=fun _ _ _ _ _ _ _ h => h.elim
structure Fun (K : PySem.W.Frag) (x qual : Str) (st : Stmt) (f : Addr) (fd : FuncData) : Prop where
 ex : ∃ (oc : Value) (od : Option Addr) (kV doc pm : Value) (an : Option Addr) (cdv ct : Value) (osl : Array (Option Value)),
  fd = PySem.W.fnOf x qual (aC st) (aB st) (aj st) .none kV doc pm an cdv ct /\ K.lookup f = some ⟨oc,od,.func fd,osl⟩ /\ PySem.W.codeIn K cdv qual = true
 kp : PySem.W.keepIn K (.ref f) = true
section
variable {P : Program} {w : World} {K : PySem.W.Frag} {mg : Str -> Option Value} {base : Heap}
end
theorem jI {A : Around} {k : Nat} (hr : Room k A) : A.units + 1 < cLine:=Nat.lt_of_le_of_lt (Nat.add_le_add_left (by decide : 1 <= 64) _) hr.units
theorem aw {n : Nat} (h : n <= 1000) : n < sizeLine:=Nat.lt_of_le_of_lt h (by decide)
section
variable {X : Cx}
theorem pv (i : Nat) {x : Str} {pos : Pos} (hN : X.N[i]? = some x:=by rfl) (hv : Vis X.env.scope x:=by first | exact Or.inl rfl | exact Or.inr (Or.inl rfl) | exact Or.inr (Or.inr rfl)) (hd : (x == ("__debug__" : Str)) = false:=by decide)
  (hcd : (x == ("__classdict__" : Str)) = false:=by decide) : PE X (.Name x pos) (HC i):=Gy hN hv hd hcd
end
theorem j9 {A B : Prop} (h : B) : if false = true then A else B:=by
 rw [if_neg Bool.false_ne_true]
 exact h
theorem wj {A B : Prop} (h : A) : if true = true then A else B:=by
 rw [if_pos rfl]
 exact h
theorem Gg {c A B : Prop} [Decidable c] (h1 : c -> A) (h2 : ¬ c -> B) : if c then A else B:=by
 by_cases h : c
 ·rw [if_pos h]
  exact h1 h
 ·rw [if_neg h]
  exact h2 h
theorem Hg {c A B : Prop} [Decidable c] (hc : c) (h : B) : if (!decide c) = true then A else B:=by
 rw [decide_eq_true hc]
 exact j9 h
def Same (H H' : Hp) : Prop := ∀ b o,H b = some o -> H' b = some o
theorem Same.refl (H : Hp) : Same H H:=fun _ _ h => h
theorem Same.trans {H H1 H2 : Hp} (a : Same H H1) (b : Same H1 H2) : Same H H2:=fun c o h => b c o (a c o h)
theorem Same.free {H H' : Hp} (e : Same H H') {l : Addr} (h : H' l = Option.none) : H l = Option.none:=by
 cases q : H l with
 | none => rfl
 | some o =>
  rw [e l o q] at h
  cases h
theorem Same.seq {K : PySem.W.Frag} {H H' : Hp} {a : Addr} {xs : List V} (e : Same H H') (h : SqL K H a xs) : SqL K H' a xs:=by
 rcases h with (h | ⟨o,h⟩) | h
 ·exact .inl (.inl (e _ _ h))
 ·exact .inl (.inr ⟨o,e _ _ h⟩)
 ·exact .inr h
end L2
set_option Elab.async false
set_option linter.all false
set_option maxRecDepth 100000
namespace L2
open PySem PySem.Spec PyProof.Rows
def cN (cells : List (Str × Addr)) : List (Str × NameKind) -> List (Str × Addr) -> List (Str × Addr)
 | [],cs => cs
 | (n,k) :: r,cs => cN cells r (if k == .free then (n,(cells.lookup n).getD 0) :: cs else cs)
theorem lC {scope : Scope} {env : Env} (h : ∀ y ∈ scope.names,y.2 = .free -> ∃ c,env.cells.lookup y.1 = some c) :
  closureFor scope env = pure (cN env.cells scope.names []):=by
 have all : ∀ (ns : List (Str × NameKind)) (cs : List (Str × Addr)),(∀ y ∈ ns,y.2 = .free -> ∃ c,env.cells.lookup y.1 = some c) ->
   (forIn ns cs (fun (x : Str × NameKind) (r : List (Str × Addr)) => (match x with
    | (name,kind) => if (kind == NameKind.free) = true then (do let c <- cellOf env name; pure (ForInStep.yield ((name,c) :: r))) else pure (ForInStep.yield r) : Sem (ForInStep (List (Str × Addr))))) : Sem (List (Str × Addr)))
   = pure (cN env.cells ns cs):=by
  intro ns
  induction ns with
  | nil => intro cs _; rfl
  | cons y r ih =>
   intro cs hy
   obtain ⟨n,k⟩:=y
   rw [List.forIn_cons]
   by_cases hk : k = .free
   ·subst hk
    obtain ⟨c,e⟩:=hy (n,.free) List.mem_cons_self rfl
    have e' : env.cells.lookup n = some c:=e
    have e1 : cellOf env n = pure c:=by unfold cellOf; rw [e']
    simp only [beq_self_eq_true,if_true,e1,pure_bind]
    rw [ih _ fun z hz => hy z (List.mem_cons_of_mem _ hz)]
    simp only [cN,beq_self_eq_true,if_true,e',Option.getD_some]
   ·have hb : (k == NameKind.free) = false:=by simpa using hk
    simp only [hb,Bool.false_eq_true,if_false,pure_bind]
    rw [ih _ fun z hz => hy z (List.mem_cons_of_mem _ hz)]
    simp only [cN,hb,Bool.false_eq_true,if_false]
 unfold closureFor
 have q:=all scope.names [] h
 simp only [bind_pure]
 exact q
theorem lA (cells : List (Str × Addr)) {x : Str} {c : Addr} : ∀ (ns : List (Str × NameKind)) (cs : List (Str × Addr)),(cN cells ns cs).lookup x = some c ->
  ((x,NameKind.free) ∈ ns /\ (cells.lookup x).getD 0 = c) \/ cs.lookup x = some c
 | [],_,h => .inr h
 | (n,k) :: r,cs,h => by
  rcases lA cells r _ h with ⟨h1,h2⟩ | h1
  ·exact .inl ⟨List.mem_cons_of_mem _ h1,h2⟩
  ·by_cases hk : k = .free
   ·subst hk
    simp only [beq_self_eq_true,if_true] at h1
    by_cases hx : x = n
    ·subst hx
     simp only [List.lookup_cons,beq_self_eq_true] at h1
     exact .inl ⟨List.mem_cons_self,Option.some.inj h1⟩
    ·have hb : (x == n) = false:=by simpa using hx
     simp only [List.lookup_cons,hb] at h1
     exact .inr h1
   ·have hb : (k == NameKind.free) = false:=by simpa using hk
    simp only [hb,Bool.false_eq_true,if_false] at h1
    exact .inr h1
theorem jf (cells : List (Str × Addr)) {x : Str} {c : Addr} (e : cells.lookup x = some c) : ∀ (ns : List (Str × NameKind)) (cs : List (Str × Addr)),((x,NameKind.free) ∈ ns \/ cs.lookup x = some c) ->
  (cN cells ns cs).lookup x = some c
 | [],_,h => by
  rcases h with h | h
  ·cases h
  ·exact h
 | (n,k) :: r,cs,h => by
  refine jf cells e r _ ?_
  rcases h with h | h
  ·rcases List.mem_cons.mp h with z | z
   ·cases z
    right
    simp only [beq_self_eq_true,if_true,List.lookup_cons,e,Option.getD_some]
   ·exact .inl z
  ·right
   by_cases hk : (k == NameKind.free) = true
   ·rw [if_pos hk]
    by_cases hx : x = n
    ·subst hx
     simp only [List.lookup_cons,beq_self_eq_true,e,Option.getD_some]
    ·have hb : (x == n) = false:=by simpa using hx
     simp only [List.lookup_cons,hb]
     exact h
   ·rw [if_neg hk]
    exact h
theorem n9 {env : Env} : ∀ {names : List (Str × NameKind)} {x : Str},names.lookup x = some .free ->
  (names.map fun (n,k) => if (k == NameKind.free && env.scope.kind == .function && env.kindOf n == some .cell) then (n,NameKind.cell) else (n,k)).lookup x = some .cell \/
  (names.map fun (n,k) => if (k == NameKind.free && env.scope.kind == .function && env.kindOf n == some .cell) then (n,NameKind.cell) else (n,k)).lookup x = some .free
 | [],_,h => by simp at h
 | (n,k) :: r,x,h => by
  have ih:=@n9 env r x
  show List.lookup x ((if (k == NameKind.free && env.scope.kind == .function && env.kindOf n == some .cell) = true then (n,NameKind.cell) else (n,k)) :: _) = _ \/
   List.lookup x ((if (k == NameKind.free && env.scope.kind == .function && env.kindOf n == some .cell) = true then (n,NameKind.cell) else (n,k)) :: _) = _
  cases hx : x == n with
  | true =>
   simp only [List.lookup_cons,hx] at h
   cases h
   by_cases hc : (NameKind.free == NameKind.free && env.scope.kind == .function && env.kindOf n == some .cell) = true
   ·rw [if_pos hc]; simp only [List.lookup_cons,hx]; first | exact .inl trivial | exact .inl rfl
   ·rw [if_neg hc]; simp only [List.lookup_cons,hx]; first | exact .inr trivial | exact .inr rfl
  | false =>
   simp only [List.lookup_cons,hx] at h
   by_cases hc : (k == NameKind.free && env.scope.kind == .function && env.kindOf n == some .cell) = true
   ·rw [if_pos hc]; simp only [List.lookup_cons,hx]; exact ih h
   ·rw [if_neg hc]; simp only [List.lookup_cons,hx]; exact ih h
theorem jC {env : Env} : ∀ {names : List (Str × NameKind)} {x : Str} {k' : NameKind},k' = .cell \/ k' = .free -> (∀ y ∈ names,y.2 ≠ .cell) ->
  (names.map fun (n,k) => if (k == NameKind.free && env.scope.kind == .function && env.kindOf n == some .cell) then (n,NameKind.cell) else (n,k)).lookup x = some k' -> (x,NameKind.free) ∈ names
 | [],_,_,_,_,h => by simp at h
 | (n,k) :: r,x,k',hk',hn,h => by
  have ih:=@jC env r x k' hk' (fun y hy => hn y (List.mem_cons_of_mem _ hy))
  have h' : List.lookup x ((if (k == NameKind.free && env.scope.kind == .function && env.kindOf n == some .cell) = true then (n,NameKind.cell) else (n,k)) :: (r.map fun (n,k) => if (k == NameKind.free && env.scope.kind == .function && env.kindOf n == some .cell) then (n,NameKind.cell) else (n,k))) = some k' := h
  have hkc : k ≠ .cell:=hn (n,k) List.mem_cons_self
  cases hx : x == n with
  | true =>
   have hxn : x = n:=by simpa using hx
   subst hxn
   by_cases hc : (k == NameKind.free && env.scope.kind == .function && env.kindOf x == some .cell) = true
   ·have hk : k = .free:=by
     simp only [Bool.and_eq_true,beq_iff_eq] at hc
     exact hc.1.1
    subst hk
    exact List.mem_cons_self
   ·rw [if_neg hc] at h'
    simp only [List.lookup_cons,beq_self_eq_true] at h'
    have hk : k = k' := Option.some.inj h'
    rcases hk' with z | z
    ·exact absurd (hk.trans z) hkc
    ·rw [hk,z]; exact List.mem_cons_self
  | false =>
   refine List.mem_cons_of_mem _ (ih ?_)
   by_cases hc : (k == NameKind.free && env.scope.kind == .function && env.kindOf n == some .cell) = true
   ·rw [if_pos hc] at h'
    simpa only [List.lookup_cons,hx] using h'
   ·rw [if_neg hc] at h'
    simpa only [List.lookup_cons,hx] using h'
def aO (ix : List (Option Nat)) (σ : St) : St:=ix.map fun o => match o with
 | none => none
 | some i => (σ[i]?).join
structure BlkScope (NX : List Str) (scX : Scope) (N : List Str) (ix : List (Option Nat)) (sc : Scope) : Prop where
 kind : sc.kind = .function
 nd : N.Nodup
 nocell : ∀ y ∈ sc.names,y.2 ≠ .cell
 locs : ∀ y ∈ sc.names,y.2 = .local -> sc.names.lookup y.1 = some .local
 free : ∀ y ∈ sc.names,y.2 = .free -> scX.names.lookup y.1 = some .cell \/ scX.names.lookup y.1 = some .free
 len : ix.length = N.length
 at_ : ∀ p ∈ N.zip ix,∀ i,p.2 = some i -> NX[i]? = some p.1 /\ sc.names.lookup p.1 = some .free
def eP (X : Cx) (N : List Str) (scope : Scope) (fp : List Addr) (s : Shared) (H : Hp) (C : Addr) : Cx:=
 { prog:=X.prog,w:=X.w,K:=X.K,mg:=X.mg,base:=X.base,A:=X.A,N:=N,s₀:=s,H₀:=H,env:=compEnvC scope (cN X.env.cells scope.names []) C X.env,outer:=X.stack,stack:=X.stack,ex:=fp,fn:=fun _ => false,calm:=X.calm,pn:=X.pn,xe:=fun _ _ => False }
theorem qI {names : List (Str × NameKind)} {x : Str} (h : names.lookup x = some .free) : (x,NameKind.free) ∈ names:=PySem.mem_of_lookup h
section
variable {X : Cx} {pins : List (Addr × Obj)} {σ : St} {H : Hp} {s : Shared} {N : List Str} {ix : List (Option Nat)} {scope : Scope} {fp : List Addr}
theorem BlkScope.clos (S : BlkScope X.N X.env.scope N ix scope) (ok : X.Ok) : ∀ y ∈ scope.names,y.2 = .free -> ∃ c,X.env.cells.lookup y.1 = some c:=fun y hy hf => ok.has y.1 (S.free y hy hf)
theorem Bw {D C : Addr} {h' : Heap} {tk : Nat} {m : Str -> Option Value} (I : Inv X pins σ H s) (S : BlkScope X.N X.env.scope N ix scope) (hf : ∀ b ∈ fp,lH X pins H b)
  (hfo : ∀ b ∈ fp,∃ o,s.heap.get? b = some o /\ ∀ v,o.data ≠ .cell v)
  (hD : s.heap.objs.size <= D) (hC : s.heap.objs.size <= C) (hDC : D ≠ C) (hk : ∀ b o,s.heap.get? b = some o -> h'.get? b = some o) (hns : h'.Ns C m)
  (hl : ∃ n,h'.get? D = some { cls:=.type "list",data:=.seq ([] : List Value).toArray n }) :
  Inv (eP X N scope fp s H C) pins (aO ix σ) (upd H D (.lst [])) { s with heap:=h',toks:=tk }:=by
 have fresh : ∀ {a : Addr},s.heap.objs.size <= a -> H a = none:=fun h => I.hok.fresh h
 have cl_of : ∀ x c,(cN X.env.cells scope.names []).lookup x = some c -> X.env.cells.lookup x = some c:=fun x c e => by
  rcases lA _ _ _ e with ⟨h1,h2⟩ | h1
  ·obtain ⟨c',e'⟩:=S.clos I.ok _ h1 rfl
   have e'' : X.env.cells.lookup x = some c' := e'
   rw [e''] at h2
   rw [e'']
   exact congrArg some h2
  ·simp at h1
 have ltO : ∀ {b : Addr} {o : Obj},s.heap.get? b = some o -> b < s.heap.objs.size:=fun e => Heap.lt_size e
 have neC : ∀ {b : Addr} {o : Obj},s.heap.get? b = some o -> b ≠ C:=fun e => Nat.ne_of_lt (Nat.lt_of_lt_of_le (ltO e) hC)
 have neD : ∀ {b : Addr} {o : Obj},s.heap.get? b = some o -> b ≠ D:=fun e => Nat.ne_of_lt (Nat.lt_of_lt_of_le (ltO e) hD)
 have cellG : ∀ x c,X.env.cells.lookup x = some c -> ∃ o,s.heap.get? c = some o:=fun x c e => by
  obtain ⟨v,o,ho,_⟩:=I.cell x c e
  exact ⟨o,ho⟩
 refine ⟨⟨I.ok.mod,?_,I.ok.glob,I.ok.blt,hC,fun x y c e1 e2 => I.ok.inj x y c (cl_of x c e1) (cl_of y c e2),fun x hx => ?_,fun x c h _ => ?_,I.ok.hd,I.ok.frames,.inl rfl,fun b hb => ?_,I.bs,Nat.le_trans I.ok.bsz I.sz,fun b o e hb => ?_,fun b hb hb2 => ?_,I.stack,I.stkFree⟩,
  rfl,I.bare,Un.laid hk hD (fresh hD),⟨m,hns,fun j x v e1 e2 e3 => ?_⟩,fun x c e => ?_,?_,fun x c e => ?_,fun p hp => ?_,I.hok.laid hk hD ?_,?_⟩
 ·exact S.kind
 ·have hx' : (x,NameKind.free) ∈ scope.names:=by
   rcases hx with hx | hx
   ·exact jC (.inl rfl) S.nocell hx
   ·exact jC (.inr rfl) S.nocell hx
  obtain ⟨c,e⟩:=S.clos I.ok _ hx' rfl
  exact ⟨c,jf _ e _ _ (.inl hx')⟩
 ·exact absurd (show false = true from h) Bool.false_ne_true
 ·obtain ⟨f0,f1,f2,f3,f4,f5⟩:=hf b hb
  obtain ⟨o,e,_⟩:=hfo b hb
  exact ⟨neC e,fun x c ec => f4 x c (cl_of x c ec)⟩
 ·obtain ⟨f0,f1,f2,f3,f4,f5⟩:=hf b hb
  rcases f3 with z | z
  ·exact I.ok.noex b o e z
  ·exact absurd (Nat.lt_of_lt_of_le (Heap.lt_size (I.ok.bs b o e).1) z) (Nat.lt_irrefl _)
 ·obtain ⟨f0,f1,f2,f3,f4,f5⟩:=hf b hb
  rcases List.mem_cons.mp (I.stkSub b hb2) with z | z
  ·exact f1 z
  ·exact f2 z
 ·-- a name's value
  obtain ⟨mX,hnX,hlX⟩:=id I.loc
  have hj : (aO ix σ)[j]? = some (some v):=e2
  unfold aO at hj
  rw [List.getElem?_map] at hj
  cases ej : ix[j]? with
  | none => rw [ej] at hj; cases hj
  | some o =>
   rw [ej] at hj
   cases o with
   | none => cases hj
   | some i =>
    have hj' : (σ[i]?).join = some v:=Option.some.inj hj
    have hz : (x,some i) ∈ N.zip ix:=List.mem_iff_getElem?.mpr ⟨j,by rw [List.getElem?_zip_eq_some]; exact ⟨e1,ej⟩⟩
    obtain ⟨hNi,hfr⟩:=S.at_ _ hz i rfl
    have hmem:=qI hfr
    have hσ : σ[i]? = some (some v):=by
     cases q : σ[i]? with
     | none => rw [q] at hj'; cases hj'
     | some w' =>
      rw [q] at hj'
      have q' : w' = some v:=hj'
      rw [q']
    have hvx : X.env.scope.names.lookup x = some .cell \/ X.env.scope.names.lookup x = some .free:=S.free _ hmem rfl
    obtain ⟨u,r,lk⟩:=hlX i x v hNi hσ (.inr hvx)
    refine ⟨u,r,.inr ⟨?_,?_⟩⟩
    ·exact n9 hfr
    ·rcases lk with ⟨k,_⟩ | ⟨k,c,ec,ci⟩
     ·have k' : X.env.scope.names.lookup x = some .local:=k
      rcases hvx with z | z
      ·rw [z] at k'; cases k'
      ·rw [z] at k'; cases k'
     ·obtain ⟨oc,hoc,hocd⟩:=ci
      exact ⟨c,jf _ ec _ _ (.inl hmem),oc,hk c oc hoc,hocd⟩
 ·obtain ⟨v,o,ho,hd⟩:=I.cell x c (cl_of x c e)
  exact ⟨v,o,hk c o ho,hd⟩
 ·show upd H D (.lst []) C = none
  rw [ae (Ne.symm hDC)]
  exact fresh hC
 ·obtain ⟨o,ho⟩:=cellG x c (cl_of x c e)
  rw [ae (neD ho)]
  exact I.freeC x c (cl_of x c e)
 ·obtain ⟨e,n,ne,nf,d⟩:=I.pin p hp
  refine ⟨hk _ _ e,by rw [ae (neD e)]; exact n,neC e,fun z => ?_,d⟩
  rcases List.mem_cons.mp (I.stkSub p.1 z) with q | q
  ·exact ne q
  ·exact nf q
 ·obtain ⟨n,hl⟩:=hl
  exact ⟨Nat.zero_le _,[],n,.nil,hl⟩
 ·show (aO ix σ).length = N.length
  unfold aO
  rw [List.length_map]
  exact S.len
end
end L2
set_option Elab.async false
set_option linter.all false
set_option maxRecDepth 100000
namespace L2
open PySem PySem.Spec PyProof.Rows
theorem xN {prog : Program} {w : World} {A : Around} {R : Result -> Shared -> Prop} {s : Shared} {elt target iter : Expr} {scope : Scope} {pos : Pos} {it acc : Value} {env : Env} (I : Nat -> Shared -> Prop)
  (turn : ∀ n s,I n s -> wpAny (model prog w) A (pyNext it) (fun r s₁ => match r with
   | none => R (.ok .next) s₁
   | some v => wpAny (model prog w) A (letOwnedTupleGo target it v) (fun _ s₁' => wpAny (model prog w) A (assign target env v) (fun _ s₂ => wpAny (model prog w) A (eval elt env) (fun x s₃ =>
     wpAny (model prog w) A (call (.builtin "list.append") [acc,x]) (fun _ s₄ => ∃ m,m < n /\ I m s₄) (fun _ _ => False) s₃)
     (fun _ _ => False) s₂) (fun _ _ => False) s₁') (fun _ _ => False) s₁) (fun _ _ => False) s)
  (n : Nat) (h : I n s) :
  codeAny (model prog w) A (.compLoop (.ListComp elt [⟨target,iter,[],0⟩] scope pos) 0 it acc env) R s:=by
 refine codeAny_loop rfl I (fun n s hI => ?_) n h
 show wpAny _ _ ((compTurn (.ListComp elt [⟨target,iter,[],0⟩] scope pos) 0 it acc env).onRaise (fun x => do noteFrame x env; theTreesLotGoes x)) _ _ s
 refine wpAny_noted ?_
 rw [compTurn_list1]
 refine wpAny_bind (wpAny_standAt (wpAny_bind (wpAny_mono (turn n s hI) (fun r s₁ h₁ => ?_) fun _ _ h' => h'.elim)))
 cases r with
 | none => exact wpAny_pure h₁
 | some v =>
  refine wpAny_bind (wpAny_mono h₁ (fun _ s₁' h₁' => ?_) fun _ _ h' => h'.elim)
  exact wpAny_bind (wpAny_mono h₁' (fun _ s₂ h₂ => wpAny_bind (wpAny_bind (wpAny_mono h₂ (fun x s₃ h₃ => wpAny_bind (wpAny_mono h₃
   (fun _ s₄ h₄ => wpAny_pure (wpAny_pure ⟨rfl,h₄⟩)) fun _ _ h' => h'.elim)) fun _ _ h' => h'.elim))) fun _ _ h' => h'.elim)
def mK (J : It) (ix : List (Option Nat)) (g : TG) (te : TE) (σ : St) (H : Hp) (Qd : Addr -> Hp -> Prop) : Prop:=
 ∀ D,H D = none -> ∃ W : Nat -> Nat -> St -> Hp -> Prop,(∃ m,W 0 m (aO ix σ) (upd H D (.lst []))) /\ ∀ i m σ' H',W i m σ' H' ->
  (J.stop i H' /\ Qd D H') \/ (J.go i H' /\ ∀ x H2,J.yld i H' x H2 -> g x σ' H2 fun σ3 H3 => te σ3 H3 fun y H4 => ∃ ys,H4 D = some (.lst ys) /\ ys.length < sizeLine /\ ∃ m',m' < m /\ W (i + 1) m' σ3 (upd H4 D (.lst (ys ++ [y]))))
section
variable {X : Cx} {pins : List (Addr × Obj)} {σ : St} {H : Hp} {s : Shared} {N : List Str} {ix : List (Option Nat)} {scope : Scope} {fp : List Addr} {tg elt iter : Expr} {pos spos : Pos} {J : It} {it : Addr} {tn : Nat -> Heap -> Prop} {g : TG} {te : TE} {wi : TI}
theorem xO {Qd : Addr -> Hp -> Prop} {RR : Value -> Addr -> Result -> Shared -> Prop} {E : Value -> Shared -> Prop} (I : Inv X pins σ H s) (hc : X.calm = true) (S : BlkScope X.N X.env.scope N ix scope) (T : Turn X.prog X.w X.K tg J fp it tn) (st : tn 0 s.heap) (f2 : ∀ b ∈ fp,lH X pins H b)
  (hg : ∀ C,PG (eP X N scope fp s H C) tg g) (he : ∀ C,PE (eP X N scope fp s H C) elt te) (hW : mK J ix g te σ H Qd)
  (hR : ∀ D C s' H' m,Inv X pins σ H' s' -> s'.heap.Ns C m -> lH X pins H' C -> Qd D H' -> RR (.ref D) C (.ok .next) s') :
  wpAny (model X.prog X.w) X.A (newList []) (fun acc s₃ => wpAny (model X.prog X.w) X.A (newFunctionEnv scope X.env.globals (cN X.env.cells scope.names []) [] X.env.qual none .none (some X.env)) (fun cenv s₄ =>
   codeAny (model X.prog X.w) X.A (.compStart (.ListComp elt [⟨tg,iter,[],0⟩] scope pos) 0 (.ref it) acc { cenv with scope:=relabel scope X.env }) (RR acc cenv.locals) s₄) E s₃) E s:=by
 refine wpAny_newObj_type (wpAny_newFunctionEnv S.nocell (by intro y hy; simp at hy) (fun h₁ hns₁ hsb₁ => ?_) S.kind)
 dsimp only at hns₁ hsb₁ ⊢
 generalize hH2 : s.heap.push { cls:=.type "list",dict:=none,data:=.seq ([] : List Value).toArray } = H2 at hns₁ hsb₁ ⊢
 have hC : H2.objs.size = s.heap.objs.size + 1:=by rw [<- hH2,Heap.size_push]
 have hDC : s.heap.objs.size ≠ H2.objs.size:=by rw [hC]; exact Nat.ne_of_lt (Nat.lt_succ_self _)
 have hCle : s.heap.objs.size <= H2.objs.size:=by rw [hC]; exact Nat.le_succ _
 have below : ∀ b,b < s.heap.objs.size -> b ≠ H2.objs.size:=fun b hb => by rw [hC]; exact Nat.ne_of_lt (Nat.lt_succ_of_lt hb)
 have old : ∀ b o,s.heap.get? b = some o -> h₁.get? b = some o:=fun b o e => hsb₁.extBut b o (below b (Heap.lt_size e)) (Heap.get?_push_of_some _ (hH2 ▸ Heap.get?_push_of_some _ e))
 have hacc : ∃ n,h₁.get? s.heap.objs.size = some { cls:=.type "list",data:=.seq ([] : List Value).toArray n }:=⟨_,hsb₁.extBut _ _ hDC (Heap.get?_push_of_some _ (hH2 ▸ Heap.get?_push_size _ rfl))⟩
 have st1 : tn 0 h₁:=T.keep _ _ _ st fun b _ o e => old b o e
 have fo : ∀ b ∈ fp,∃ o,s.heap.get? b = some o /\ ∀ v,o.data ≠ .cell v:=T.obj _ _ st
 have I0 : Inv (eP X N scope fp s H H2.objs.size) pins (aO ix σ) (upd H s.heap.objs.size (.lst [])) { s with heap:=h₁,toks:=s.toks + ([] : List (Str × Value)).length }:=
  Bw I S f2 fo (Nat.le_refl _) hCle hDC old hns₁ hacc
 have freshD : H s.heap.objs.size = none:=I.hok.fresh (Nat.le_refl _)
 obtain ⟨W,⟨m0,w0⟩,turn⟩:=hW s.heap.objs.size freshD
 have cl_ne : ∀ b ∈ fp,b ≠ H2.objs.size:=fun b hb => by
  obtain ⟨o,e,_⟩:=fo b hb
  exact below b (Heap.lt_size e)
 have stat : ∀ {H' : Hp},(∀ b ∈ fp,H' b = none) -> ∀ b ∈ fp,lH (eP X N scope fp s H H2.objs.size) pins H' b:=fun hn b hb => by
  obtain ⟨f0,f1,f3,f4,f5,f6⟩:=f2 b hb
  exact ⟨hn b hb,cl_ne b hb,I0.ok.exfs b hb,.inl hb,(I0.ok.exf b hb).2,f6⟩
 have fr0 : ∀ b ∈ fp,(upd H s.heap.objs.size (.lst [])) b = none:=fun b hb => by
  obtain ⟨o,e,_⟩:=fo b hb
  rw [ae (Nat.ne_of_lt (Heap.lt_size e))]
  exact (f2 b hb).1
 have loop : codeAny (model X.prog X.w) X.A (.compLoop (.ListComp elt [⟨tg,iter,[],0⟩] scope pos) 0 (.ref it) (.ref s.heap.objs.size) (compEnvC scope (cN X.env.cells scope.names []) H2.objs.size X.env))
   (RR (.ref s.heap.objs.size) H2.objs.size) { s with heap:=h₁,toks:=s.toks + ([] : List (Str × Value)).length }:=by
  refine xN (fun n s' => ∃ i σ' H',Inv (eP X N scope fp s H H2.objs.size) pins σ' H' s' /\ tn i s'.heap /\ (∀ b ∈ fp,H' b = none) /\ W i n σ' H') ?_ m0 ⟨0,_,_,I0,st1,fr0,w0⟩
  rintro n s3 ⟨i,σ3,H3,I3,st3,fr3,w3⟩
  rcases turn i n σ3 H3 w3 with ⟨stop,qn⟩ | ⟨go,step⟩
  ·refine thn (T.done (eP X N scope fp s H H2.objs.size) rfl rfl rfl hc i pins s3 σ3 H3 _ I3 (stat fr3) st3 stop) fun r s4 ⟨hr,I4⟩ => ?_
   subst hr
   obtain ⟨m4,hn4,_⟩:=id I4.loc
   refine hR _ _ s4 H3 m4 ?_ hn4 (I.fpOk hCle I4.free) qn
   exact I.call' (ch:=fp) I4.os I4.base I4.hok I4.bare fun b hb => by
    obtain ⟨f0,f1,f3,f4,f5,f6⟩:=f2 b hb
    exact ⟨f4,f1,f5,f6⟩
  ·refine thn (T.item (eP X N scope fp s H H2.objs.size) rfl rfl rfl hc i pins s3 σ3 H3 _ I3 (stat fr3) st3 go) fun r s4 ⟨u,hr,h4⟩ => ?_
   subst hr
   refine thn h4 fun _ s5 ⟨x,H5,I5,r5,y5,st5,fr5⟩ => ?_
   have I5' := I5.pinned (stat fr5) (T.obj _ _ st5)
   refine thn (hg _ _ s5 σ3 H5 x u _ I5' r5 (step x H5 y5)) fun _ s6 ⟨σ6,H6,I6,q6⟩ => ?_
   refine thn (he _ _ s6 σ6 H6 _ I6 q6) fun yv s7 ⟨y,H7,I7,r7,ys,hD7,hz7,m',hm,w7⟩ => ?_
   refine thn (ba (X:=eP X N scope fp s H H2.objs.size) _ s7 σ6 H7 (.ref s.heap.objs.size) [y] (.ref s.heap.objs.size) [yv] (fun _ H8 => W (i + 1) m' σ6 H8) I7 rfl (.cons r7 .nil) ⟨_,ys,y,rfl,rfl,hD7,hz7,w7⟩) fun _ s8 ⟨_,H8,I8,_,w8⟩ => ?_
   refine ⟨m',hm,i + 1,σ6,H8,I8.unpinned,T.keep _ _ _ st5 fun b hb o e => (I8.pin (b,o) (List.mem_append_right _ (List.mem_append_right _ (jA hb e)))).1,fun b hb => ?_,w8⟩
   obtain ⟨o,e,d⟩:=T.obj _ _ st5 b hb
   exact (I8.pin (b,o) (List.mem_append_right _ (List.mem_append_right _ (jA hb e)))).2.1
 exact codeAny_compStart_list loop (T.self _ _ _ _ _ st1 loop)
def FT (ix : List (Option Nat)) (wi : TI) (g : TG) (te : TE) : TE:=fun σ H Q => wi σ H fun J H1 => mK J ix g te σ H1 fun D H' => Q (.ref D) H'
theorem cB (hc : X.calm = true) (S : BlkScope X.N X.env.scope N ix scope) (hi : PI X tg iter wi) (hg : ∀ fp s H C,PG (eP X N scope fp s H C) tg g) (he : ∀ fp s H C,PE (eP X N scope fp s H C) elt te)
  (hs : ∀ x,foldedSetIterable iter X.env x = pure x:=by intro _; rfl) : PE X (.ListComp elt [⟨tg,iter,[],0⟩] scope pos) (FT ix wi g te):=by
 intro pins s σ H Q I h
 rw [eval_ListComp]
 refine wpAny_comprehension_free (use:=none) rfl hs (lC (S.clos I.ok)) S.kind S.locs (thn (hi pins s σ H _ I h) fun v s1 h1 => thn h1 fun itv s2 h2 => ?_)
 obtain ⟨it,fp,tn,J,H2,e,I2,T,st2,f2,hW⟩:=h2
 subst e
 refine xO (RR:=fun acc C => compPost (model X.prog X.w) X.A X.xe none (EP X pins σ Q) acc C) I2 hc S T st2 f2 (hg _ _ _) (he _ _ _) hW ?_
 intro D C s' H' m I' hn fC q
 exact ⟨m,hn,fun h' sb => ⟨.ref D,H',I'.turned (t' := s'.toks) (fun b o hb e => (sb.2 b hb).trans e) fC.1 fC.2.1 fC.2.2.2.1 fC.2.2.2.2.1 fC.2.2.2.2.2,rfl,q⟩⟩
theorem e6 {i : Nat} {y : Str} {py : Pos} (hc : X.calm = true) (hN : X.N.Nodup) (hyi : X.N[i]? = some y) (hy : Loc X.env.scope y) (S : BlkScope X.N X.env.scope N ix scope) (hi : PI X tg iter wi) (hg : ∀ fp s H C,PG (eP X N scope fp s H C) tg g) (he : ∀ fp s H C,PE (eP X N scope fp s H C) elt te)
  (hsw : swapsWith (.ListComp elt [⟨tg,iter,[],0⟩] scope pos) (some (.Name y py)) spos.line X.env = pure true:=by rfl)
  (hf : X.fn y = true \/ X.env.scope.names.lookup y = some .local:=by first | exact .inl rfl | exact .inr rfl | assumption)
  (hs : ∀ x,foldedSetIterable iter X.env x = pure x:=by intro _; rfl) : PS X (.Assign [.Name y py] (.ListComp elt [⟨tg,iter,[],0⟩] scope pos) spos) (pY (FT ix wi g te) (bt i)):=by
 intro pins s σ H D I h
 rw [exec_Assign_Name_used _ _ _ _ hsw]
 refine wpAny_bind (wpAny_standAt (wpAny_bind ?_))
 show wpAny _ X.A (do let _ <- comprehension (.ListComp elt [⟨tg,iter,[],0⟩] scope pos) scope X.env _ (newList []) false (eval iter X.env) (some (assign (.Name y py) X.env))) _ _ s
 refine wpAny_bind (wpAny_mono (wpAny_comprehension_free (use:=some (assign (.Name y py) X.env)) (Q:=fun _ s' => SP X pins D .next s') rfl hs (lC (S.clos I.ok)) S.kind S.locs
  (thn (hi pins s σ H _ I h) fun v s1 h1 => thn h1 fun itv s2 h2 => ?_)) (fun _ s' hq => wpAny_pure (wpAny_pure hq)) fun _ _ e => e)
 obtain ⟨it,fp,tn,J,H2,e,I2,T,st2,f2,hW⟩:=h2
 subst e
 refine xO (RR:=fun acc C => compPost (model X.prog X.w) X.A X.xe (some (assign (.Name y py) X.env)) (fun _ s' => SP X pins D .next s') acc C) I2 hc S T st2 f2 (hg _ _ _) (he _ _ _) hW ?_
 intro Dl C s' H' m I' hn fC q
 show wpAny _ X.A (assign (.Name y py) X.env (.ref Dl)) _ _ s'
 refine wpAny_assign_Name (vD I' hN hyi hy (v:=.ref Dl) rfl (fun s2 I2' hsb => ?_) hf)
 obtain ⟨a,sb,ha⟩:=hsb
 refine ⟨m,hn.sameBut sb ?_,fun h3 sb3 => ⟨_,H',I2'.turned (t' := s2.toks) (fun b o hb e => (sb3.2 b hb).trans e) fC.1 fC.2.1 fC.2.2.2.1 fC.2.2.2.2.1 fC.2.2.2.2.2,q⟩⟩
 rcases ha with z | z
 ·rw [z]; exact fC.2.1
 ·exact Ne.symm (fC.2.2.2.2.1 _ _ z)
end
theorem cO {lo : Int} {n : Nat} {ix : List (Option Nat)} {te : TE} {σ : St} {H : Hp} {Qd : Addr -> Hp -> Prop} (Pv : Addr -> Nat -> List V -> Hp -> Prop)
  (h0 : ∀ D,H D = none -> Pv D 0 [] (upd H D (.lst [])))
  (hs : ∀ D i ys H' (Q' : VK),H D = none -> i < n -> H' D = some (.lst ys) -> Pv D i ys H' -> (∀ y H4,H4 D = some (.lst ys) -> ys.length < sizeLine -> Pv D (i + 1) (ys ++ [y]) (upd H4 D (.lst (ys ++ [y]))) -> Q' y H4) ->
   te ((aO ix σ).set 0 (some (.int (lo + i)))) H' Q')
  (hd : ∀ D ys H',H D = none -> H' D = some (.lst ys) -> Pv D n ys H' -> Qd D H') : mK (Itr lo n) ix (bt 0) te σ H Qd:=by
 intro D hD
 refine ⟨fun i m σ' H' => m = n - i /\ i <= n /\ (σ' = aO ix σ \/ ∃ t,σ' = (aO ix σ).set 0 t) /\ ∃ ys,H' D = some (.lst ys) /\ Pv D i ys H',⟨n,by simp,Nat.zero_le _,.inl rfl,[],ab,h0 D hD⟩,?_⟩
 rintro i m σ' H' ⟨rfl,hi,hσ,ys,hy,p⟩
 by_cases hlt : i < n
 ·refine .inr ⟨hlt,fun x H2 y => ?_⟩
  obtain ⟨e1,e2⟩:=y
  subst e1
  subst e2
  have es : σ'.set 0 (some (V.int (lo + i))) = (aO ix σ).set 0 (some (V.int (lo + i))):=by
   rcases hσ with z | ⟨t,z⟩
   ·rw [z]
   ·rw [z,List.set_set]
  show te (σ'.set 0 (some (V.int (lo + i)))) _ _
  rw [es]
  refine hs D i ys _ _ hD hlt hy p fun y H4 h4 hz p4 => ⟨ys,h4,hz,n - (i + 1),by omega,rfl,hlt,.inr ⟨_,rfl⟩,ys ++ [y],ab,p4⟩
 ·have e : i = n:=by omega
  subst e
  exact .inl ⟨Nat.le_refl _,hd D ys H' hD hy p⟩
theorem gm {K : PySem.W.Frag} {a : Addr} {xs : List V} {ix : List (Option Nat)} {te : TE} {σ : St} {H : Hp} {Qd : Addr -> Hp -> Prop} (Pv : Addr -> Nat -> List V -> Hp -> Prop)
  (h0 : ∀ D,H D = none -> Pv D 0 [] (upd H D (.lst [])))
  (hl : ∀ D i ys H',i <= xs.length -> Pv D i ys H' -> SqL K H' a xs)
  (hs : ∀ D i x ys H' (Q' : VK),H D = none -> xs[i]? = some x -> H' D = some (.lst ys) -> Pv D i ys H' -> (∀ y H4,H4 D = some (.lst ys) -> ys.length < sizeLine -> Pv D (i + 1) (ys ++ [y]) (upd H4 D (.lst (ys ++ [y]))) -> Q' y H4) ->
   te ((aO ix σ).set 0 (some x)) H' Q')
  (hd : ∀ D ys H',H D = none -> H' D = some (.lst ys) -> Pv D xs.length ys H' -> Qd D H') : mK (Itl K a) ix (bt 0) te σ H Qd:=by
 intro D hD
 refine ⟨fun i m σ' H' => m = xs.length - i /\ i <= xs.length /\ (σ' = aO ix σ \/ ∃ t,σ' = (aO ix σ).set 0 t) /\ ∃ ys,H' D = some (.lst ys) /\ Pv D i ys H',⟨xs.length,by simp,Nat.zero_le _,.inl rfl,[],ab,h0 D hD⟩,?_⟩
 rintro i m σ' H' ⟨rfl,hi,hσ,ys,hy,p⟩
 have q:=hl D i ys H' hi p
 by_cases hlt : i < xs.length
 ·refine .inr ⟨⟨xs,xs[i],q,by simp [hlt]⟩,fun x H2 y => ?_⟩
  obtain ⟨e1,e2⟩:=y
  subst e1
  have ex:=e2 xs q
  have es : σ'.set 0 (some x) = (aO ix σ).set 0 (some x):=by
   rcases hσ with z | ⟨t,z⟩
   ·rw [z]
   ·rw [z,List.set_set]
  show te (σ'.set 0 (some x)) _ _
  rw [es]
  refine hs D i x ys _ _ hD ex hy p fun y H4 h4 hz p4 => ⟨ys,h4,hz,xs.length - (i + 1),by omega,rfl,hlt,.inr ⟨_,rfl⟩,ys ++ [y],ab,p4⟩
 ·have e : i = xs.length:=by omega
  subst e
  exact .inl ⟨⟨xs,q,Nat.le_refl _⟩,hd D ys H' hD hy p⟩
section
variable {X : Cx}
def HV (K : PySem.W.Frag) : List V -> Hp -> VK -> Prop:=fun xs H Q => ∃ x n t b,xs = [x,.ty n] /\ TyOf K H x t /\ PySem.W.kitOne K t (.type n) = some b /\ Q (.bl b) H
theorem xI : gX X (.builtin "isinstance") (HV X.K):=by
 intro pins s σ H xs us Q I r h
 obtain ⟨x,n,t,b,rfl,ty,e,q⟩:=h
 obtain ⟨u,v,rfl,ru,rv⟩:=r.two
 cases (show v = Value.type n from rv)
 exact Bz I ru ty e fun tk => ⟨.bl b,H,I.tok tk,rfl,q⟩
end
section
variable {prog : Program} {w : World} {A : Around} {E : Value -> Shared -> Prop} {s : Shared}
theorem ve {it t : Addr} {items : Array Value} (hne : t ≠ it) : ∀ (n i : Nat) (s : Shared) (Q : List Value -> Shared -> Prop),s.heap.IsListIter it t i -> s.heap.IsList t items -> i + n <= items.size ->
  (∀ h',h'.IsListIter it t (i + n) -> Heap.SameBut it s.heap h' -> Q ((items.toList.drop i).take n) { s with heap:=h' }) -> wpAny (model prog w) A (draw (.ref it) n) Q E s
 | 0,i,s,Q,hit,_,_,hQ => by
  show wpAny _ _ (pure []) Q E s
  exact wpAny_pure (by simpa using hQ s.heap hit (Heap.SameBut.refl ..))
 | n + 1,i,s,Q,hit,ht,hle,hQ => by
  have hlt : i < items.size:=by omega
  show wpAny _ _ (pyNext (.ref it) >>= _) Q E s
  refine wpAny_bind (wpAny_pyNext_list_item hit ht (x:=items[i]) (by simp [hlt]) fun h₁ hit₁ hs₁ => ?_)
  refine wpAny_bind (wpAny_holding (ve hne n (i + 1) _ _ hit₁ (ht.extBut hs₁.extBut hne) (by omega) fun h₂ hit₂ hs₂ => wpAny_pure ?_))
  have hd : items.toList.drop i = items[i] :: items.toList.drop (i + 1):=by simp [List.drop_eq_getElem_cons,hlt]
  have:=hQ h₂ (by rw [show i + (n + 1) = i + 1 + n by omega]; exact hit₂) (hs₁.trans hs₂)
  rw [hd,List.take_succ_cons] at this
  exact this
theorem pZ {t : Addr} {items : Array Value} {Q : List Value -> Shared -> Prop} (hh : A.handled = none) (ht : s.heap.IsList t items)
  (hQ : ∀ h',Heap.ExtBut s.heap.objs.size s.heap h' -> Q items.toList { s with heap:=h' }) : wpAny (model prog w) A (unpackItems (.ref t) items.size none) Q E s:=by
 have hlt : t ≠ s.heap.objs.size:=by obtain ⟨o,ho,_⟩:=ht; exact Nat.ne_of_lt (Heap.lt_size ho)
 unfold unpackItems
 refine wpAny_bind ?_
 ·unfold notIterableAtAll
  refine wpAny_bind (wpAny_specialOf ht.typeIs slot_list_iter.lookup ?_)
  refine wpAny_pure ?_
  simp only [Bool.false_eq_true,if_false]
  refine wpAny_bind (wpAny_holding (wpAny_pyIter_list ht ?_))
  refine wpAny_bind (wpAny_holding (ve hlt items.size 0 _ _ ⟨_,Heap.get?_push_size _ rfl,rfl,rfl⟩ (ht.push _) (by omega) fun h₁ hit₁ hs₁ => ?_))
  have hall : List.take items.size (List.drop 0 items.toList) = items.toList:=by
   rw [List.drop_zero]; exact List.take_of_length_le (by simp)
  rw [hall]
  rw [if_neg (by simp)]
  have ht₁ : h₁.IsList t items:=(ht.push _).extBut hs₁.extBut hlt
  refine wpAny_bind (wpAny_holding (wpAny_pyNext_list_end hh hit₁ ht₁ (by simp) fun h₂ he₂ => ?_))
  simp only [Option.isSome_none,Bool.false_eq_true,if_false]
  refine wpAny_pure (hQ h₂ fun b o hb e => he₂ b o hb (hs₁.extBut b o hb (Heap.get?_push_of_some _ e)))
theorem mP {env : Env} {elts : List Expr} {x1} {pos : Pos} {t : Addr} {items : Array Value} {Q : Unit -> Shared -> Prop} (hh : A.handled = none) (ht : s.heap.IsList t items)
  (hn : (assignEach elts env).length = items.size) (hstar : (assignEach elts env).findIdx? (·.1) = none)
  (h : ∀ h',Heap.ExtBut s.heap.objs.size s.heap h' -> wpAny (model prog w) A (assignInOrder ((assignEach elts env).map (·.2)) items.toList) Q E { s with heap:=h' }) :
  wpAny (model prog w) A (assign (.Tuple elts x1 pos) env (.ref t)) Q E s:=by
 rw [PyProof.Rows.assign_Tuple]
 refine wpAny_bind (wpAny_standAt ?_)
 unfold unpack
 rw [hn,hstar]
 exact wpAny_bind (wpAny_holding (pZ hh ht h))
end
section
variable {X : Cx} {pos : Pos}
def HL (K : PySem.W.Frag) (n : Nat) (t : TGs) : TG:=fun v σ H Q => ∃ a xs,v = .ref a /\ SqL K H a xs /\ xs.length = n /\ t xs σ H Q
theorem Gz {es : List Expr} {k : Nat} {t : TGs} {n : Nat} (hc : X.calm = true) (h : PGs X es t)
  (hn : (assignEach es X.env).length = n:=by rfl) (hst : (assignEach es X.env).findIdx? (·.1) = none:=by rfl) : PG X (.Tuple es k pos) (HL X.K n t):=by
 intro pins s σ H v u Q I r hw
 obtain ⟨a,xs,e1,hq,hl,hw⟩:=hw
 subst e1
 cases r
 obtain ⟨its,rv,ht,hz⟩:=I.list hq
 refine mP (I.ok.hd hc) ht.isList (by simp [hn,<- hl,rv.length]) hst fun h' hx => ?_
 have I1 : Inv X pins σ H { s with heap:=h' }:=I.kept (t' := s.toks) fun b o e => hx b o (Nat.ne_of_lt (Heap.lt_size e)) e
 exact h pins _ σ H xs _ Q I1 (by simpa using rv) hw
end
end L2
set_option Elab.async false
set_option linter.all false
set_option maxRecDepth 100000
namespace HT
open PySem PySem.Spec PyProof.Rows
section
variable {prog : Program} {w : World} {A : Around} {E : Value -> Shared -> Prop} {s : Shared}
theorem getItem_tuple_whole {t sl : Addr} {items : Array Value} {vl vu : Value} {lo hi : Option Int} {Q : Value -> Shared -> Prop} (ht : IsTup s.heap t items) (hs : s.heap.IsSliceOf sl vl vu .none) (pl : IsPart vl lo) (pu : IsPart vu hi)
  (hw : sIx items.size 0 lo = 0 /\ sIx items.size items.size hi = items.size) (h : Q (.ref t) s) : wpAny (model prog w) A (getItem (.ref t) (.ref sl)) Q E s:=by
 obtain ⟨os,hos,hcs,hds⟩:=id hs
 have hTs : s.TypeIs (.ref sl) "slice" := ⟨os,hos,hcs⟩
 unfold getItem
 try with_reducible refine wpAny_holding ?_
 first | refine wpAny_bind (wpAny_pure ?_) | skip
 refine wpAny_bind (wpAny_sequenceKey ht.typeIs (by decide) ?_)
 refine wpAny_bind (wpAny_callSpecial?_slot (name:=Str.ofString "__getitem__") ht.typeIs PyProof.Rows.slot_tuple_getitem
  (wpAny_call_entry PyProof.Rows.slot_tuple_getitem ht.typeIs entry_tuple_getitem ?_ (args_tuple_getitem _ _)))
 show wpAny _ _ (Builtin.Tuple.tupleItemsOf (.ref t) >>= _) _ _ s
 refine wpAny_bind (tupleItemsOf_ ht ?_)
 refine wpAny_bind (wpAny_typeOf hTs ?_)
 rw [if_pos (by decide)]
 refine wpAny_bind (iR hs pl pu ?_)
 have hyes : ((((sIx items.size 0 lo : Nat) : Int) == 0 && (1 : Int) == 1 && (sIx items.size items.size hi - sIx items.size 0 lo) == items.size) = true):=by
  rw [hw.1,hw.2]; simp
 show wpAny _ _ (if (((sIx items.size 0 lo : Nat) : Int) == 0 && (1 : Int) == 1 && (sIx items.size items.size hi - sIx items.size 0 lo) == items.size) = true then _ else _) _ _ s
 rw [if_pos hyes]
 unfold Builtin.Tuple.tupleIsExact
 refine wpAny_bind (wpAny_bind (wpAny_typeOf ht.typeIs (wpAny_pure ?_)))
 rw [if_pos (by decide)]
 first
  | exact wpAny_bind (wpAny_rule (wpAny_pure ⟨_,rfl,wpAny_pure h⟩))
  | exact wpAny_bind (wpAny_rule (wpAny_bind (wpAny_pure (wpAny_pure ⟨_,rfl,wpAny_pure h⟩))))
  | exact wpAny_bind (wpAny_bind (wpAny_rule (wpAny_pure ⟨_,rfl,wpAny_pure h⟩)))
end
end HT
namespace L2
open PySem PySem.Spec PyProof.Rows
section
variable {X : Cx}
def Ho (K : PySem.W.Frag) : V -> Option Int -> Option Int -> Hp -> VK -> Prop:=fun x lo hi H Q => ∃ a xs,x = .ref a /\ SqT K H a xs /\
 (HT.sIx xs.length 0 lo = 0 /\ HT.sIx xs.length xs.length hi = xs.length) /\ Q (.ref a) H
theorem Fw : SlR X (Ho X.K):=by
 intro pins s σ H x v vl vu lo hi sl Q I rx hs pl pu h
 obtain ⟨a,xs,rfl,hx,hw,q⟩:=h
 cases rx
 obtain ⟨its,r,ht,hz⟩:=I.tuple hx
 have hlen : its.toArray.size = xs.length:=by rw [List.size_toArray]; exact r.length.symm
 refine ⟨"tuple",_,PyProof.Rows.slot_tuple_getitem.lookup,ht.typeIs,?_⟩
 exact HT.getItem_tuple_whole ht hs pl pu (by rw [hlen]; exact hw) ⟨.ref a,H,I,rfl,q⟩
def rSl (K : PySem.W.Frag) : V -> Option Int -> Option Int -> Hp -> VK -> Prop:=fun x lo hi H Q => ∃ a xs,x = .ref a /\
 ((SqL K H a xs /\ ∀ p,H p = none -> Q (.ref p) (upd H p (.lst (jY xs lo hi)))) \/
  (SqT K H a xs /\ (jY xs lo hi = xs -> Q (.ref a) H) /\ ∀ p,H p = none -> Q (.ref p) (upd H p (.tup (jY xs lo hi)))))
theorem y8 {xs : List V} {lo hi : Option Int} (h : HT.sIx xs.length 0 lo = 0 /\ HT.sIx xs.length xs.length hi = xs.length) : jY xs lo hi = xs:=by
 unfold jY
 rw [h.1,h.2]
 simp
theorem Ee : SlR X (rSl X.K):=by
 intro pins s σ H x v vl vu lo hi sl Q I rx hs pl pu h
 obtain ⟨a,xs,rfl,h⟩:=h
 rcases h with ⟨hx,q⟩ | ⟨hx,q1,q2⟩
 ·exact AZ pins s σ H _ v vl vu lo hi sl Q I rx hs pl pu ⟨a,xs,rfl,hx,q⟩
 ·by_cases hw : HT.sIx xs.length 0 lo = 0 /\ HT.sIx xs.length xs.length hi = xs.length
  ·exact Fw pins s σ H _ v vl vu lo hi sl Q I rx hs pl pu ⟨a,xs,rfl,hx,hw,q1 (y8 hw)⟩
  ·exact GH pins s σ H _ v vl vu lo hi sl Q I rx hs pl pu ⟨a,xs,rfl,hx,hw,q2⟩
end
structure FunD (K : PySem.W.Frag) (x qual : Str) (st : Stmt) (dV : Value) (f : Addr) (fd : FuncData) : Prop where
 ex : ∃ (oc : Value) (od : Option Addr) (kV doc pm : Value) (an : Option Addr) (cdv ct : Value) (osl : Array (Option Value)),
  fd = PySem.W.fnOf x qual (aC st) (aB st) (aj st) dV kV doc pm an cdv ct /\ K.lookup f = some ⟨oc,od,.func fd,osl⟩ /\ PySem.W.codeIn K cdv qual = true
 kp : PySem.W.keepIn K (.ref f) = true
section
variable {P : Program} {w : World} {K : PySem.W.Frag} {mg : Str -> Option Value} {base : Heap}
theorem FunD.ok {x qual : Str} {st : Stmt} {dV : Value} {f : Addr} {fd : FuncData} {N ps : List Str} {k : Nat} {sp : Sp} (F : FunD K x qual st dV f fd) (S : FnScope N ps (aj st)) (len : ∀ vs H Q E,sp vs H Q E -> vs.length = ps.length)
  (hbody : ∀ (cdv : Value) (A : Around) (outer : List Env) (s : Shared) (H : Hp) (vs : List V) (Q : VK) (E : XK),Room k (A.deeper (envOfC qual (aj st) s.heap.objs.size f cdv)) -> sp vs H Q E ->
   ∃ t,PSs (Bi CX0 P w K mg base N qual (aj st) f cdv A outer s H E).nox (aB st) t /\ t { nx:=fun _ H' => Q .non H',rt:=Q } (start N vs) H) : FnOk P w K mg base CX0 (k + 1) f fd ps sp:=by
 obtain ⟨oc,od,kV,doc,pm,an,cdv,ct,osl,rfl,lk,hcd⟩:=F.ex
 refine G1 lk hcd S len fun A outer s H vs Q E hr hsp => ?_
 obtain ⟨t,h,q⟩:=hbody cdv A outer s H vs Q E hr hsp
 exact ⟨t,h.nox,q⟩
theorem FunD.binds {x qual : Str} {st : Stmt} {f : Addr} {fd : FuncData} {ps : List Str} (F : FunD K x qual st .none f fd)
  (h : ∀ (kV doc pm : Value) (an : Option Addr) (cdv ct : Value) (us : List Value),us.length = ps.length -> bindArgs (PySem.W.fnOf x qual (aC st) (aB st) (aj st) .none kV doc pm an cdv ct) ⟨us,[]⟩ = pure (ps.zip us)) : Binds K fd ps []:=by
 obtain ⟨oc,od,kV,doc,pm,an,cdv,ct,osl,rfl,lk,hcd⟩:=F.ex
 exact .all (h kV doc pm an cdv ct)
theorem FunD.bindsD {x qual : Str} {st : Stmt} {f T : Addr} {fd : FuncData} {ps : List Str} {ds : List Value} {o : Obj} {items : Array Value} {n : Nat} (F : FunD K x qual st (.ref T) f fd) (ho : K.lookup T = some o) (hs : o.data = .seq items n) (m : Nat) (hm : m + ds.length = ps.length)
  (h : ∀ (kV doc pm : Value) (an : Option Addr) (cdv ct : Value) (us : List Value),us.length = m -> ∃ k : Option (Array Value) -> Sem (List (Str × Value)),
   bindArgs (PySem.W.fnOf x qual (aC st) (aB st) (aj st) (.ref T) kV doc pm an cdv ct) ⟨us,[]⟩ = seqItems? (.ref T) >>= k /\ k (some items) = pure (ps.zip (us ++ ds))) : Binds K fd ps ds:=by
 obtain ⟨oc,od,kV,doc,pm,an,cdv,ct,osl,rfl,lk,hcd⟩:=F.ex
 intro s us X hl
 obtain ⟨k,h1,h2⟩:=h kV doc pm an cdv ct us (by rw [List.length_append] at hl; omega)
 exact BindsTo.of_defaults (fd:=PySem.W.fnOf x qual (aC st) (aB st) (aj st) (.ref T) kV doc pm an cdv ct) rfl (X _ _ ho) hs h1 h2
theorem aK {x qual : Str} {st : Stmt} {f : Addr} {oc : Value} {od an : Option Addr} {osl : Array (Option Value)} {dV kV doc pm cdv ct : Value} (l : K.lookup f = some ⟨oc,od,.func (PySem.W.fnOf x qual (aC st) (aB st) (aj st) dV kV doc pm an cdv ct),osl⟩)
  (c : PySem.W.codeIn K cdv qual = true) (k : PySem.W.keepIn K (.ref f) = true) : FunD K x qual st dV f (PySem.W.fnOf x qual (aC st) (aB st) (aj st) dV kV doc pm an cdv ct):=⟨⟨oc,od,kV,doc,pm,an,cdv,ct,osl,rfl,l,c⟩,k⟩
structure DefOk (P : Program) (w : World) (K : PySem.W.Frag) (mg : Str -> Option Value) (base : Heap) (x : Str) (k : Nat) (ps : List Str) (dvs : List V) (sp : Sp) : Prop where
 ex : ∃ (f : Addr) (fd : FuncData) (ds : List Value),mg x = some (.ref f) /\ PySem.W.keepIn K (.ref f) = true /\ Vals dvs ds /\ Binds K fd ps ds /\ FnOk P w K mg base CX0 k f fd ps sp
end
section
variable {X : Cx} {x : Str} {j k : Nat} {ps : List Str} {dvs : List V} {sp : Sp} {p pos : Pos} {e : Expr} {es : List Expr} {t : TA}
theorem aV (G : DefOk X.prog X.w X.K X.mg X.base x k ps dvs sp) (hr : Room j X.A) (ha : PA X (e :: es) t) (hx : ∀ e s,X.xe e s = False:=by intro _ _; rfl) (hkj : k <= j:=by decide) (hg : Gl X x:=by rfl) (hdb : (x == ("__debug__" : Str)) = false:=by decide)
  (he : starEach (e :: es) X.env = (false,eval e X.env) :: starEach es X.env:=by rfl) (hpl : (backTo pos (starEach es X.env)).any (·.1) = false:=by rfl) :
  PE X (.Call (.Name x p) (e :: es) [] pos) (FR sp dvs E0 t):=by
 obtain ⟨f,fd,ds,hm,hk,hd,hb,F⟩:=G.ex
 exact Fb F (hr.mono hkj) hg hm hk hb hd (fun _ _ _ _ _ _ _ h => h.elim) ha hdb he hpl
end
theorem x3 (K : PySem.W.Frag) : PySem.W.kitOne K (.type "int") (.type "int") = some true:=by with_unfolding_all rfl
theorem wy (K : PySem.W.Frag) : PySem.W.kitOne K (.type "int") (.type "bool") = some false:=by with_unfolding_all rfl
theorem ak {H : Hp} {p : Addr} (h : H p = none) (o : HO) : Same H (upd H p o):=fun b u q => by rw [ae (ao q h)]; exact q
theorem small {n : Nat} (h : n <= 1000) : n <= sizeLine:=Nat.le_of_lt (aw h)
theorem cw : bootBuiltins "len" = some (.builtin "len"):=by decide +kernel
theorem yT : bootBuiltins "min" = some (.builtin "min"):=by decide +kernel
theorem kZ : bootBuiltins "isinstance" = some (.builtin "isinstance"):=by decide +kernel
theorem Ct : bootBuiltins "int" = some (.type "int"):=by decide +kernel
theorem Ey : bootBuiltins "bool" = some (.type "bool"):=by decide +kernel
theorem bG : bootBuiltins "tuple" = some (.type "tuple"):=by decide +kernel
theorem mT : bootBuiltins "list" = some (.type "list"):=by decide +kernel
theorem qY : bootBuiltins "dict" = some (.type "dict"):=by decide +kernel
theorem p5 : bootBuiltins "reversed" = some (.type "reversed"):=by decide +kernel
end L2
set_option Elab.async false
set_option linter.all false
set_option maxRecDepth 100000
namespace L2
open PySem PySem.Spec PyProof.Rows
def BIG : Int:=2 ^ 4000
theorem rQ {k : Int} (h0 : 0 <= k) (h : k < BIG) : k.natAbs.log2 < 4000:=by
 rcases Nat.eq_zero_or_pos k.natAbs with z | hp
 ·rw [z]; decide +kernel
 ·refine (Nat.log2_lt (by omega)).mpr ?_
  have e : BIG = ((2 ^ 4000 : Nat) : Int):=by unfold BIG; norm_cast
  rw [e] at h
  omega
def CMulB (i j : Int) : Prop:=(0 <= i /\ i < BIG) /\ (0 <= j /\ j < BIG)
theorem CMulB.ok {i j : Int} (h : CMulB i j) : IntMulOk i j:=by
 have one : ∀ {k : Int},0 <= k -> k < BIG -> Builtin.Int.intBits k <= 2 ^ 20:=fun {k} h0 h1 => by
  unfold Builtin.Int.intBits
  have:=rQ h0 h1
  split <;> omega
 exact .of_bits (one h.1.1 h.1.2) (one h.2.1 h.2.2)
def FI (i j : Int) : Prop:=0 < j /\ j < BIG
section
variable {X : Cx}
theorem E9 : OpR X (binaryOp .Mult) (rI CMulB fun i j => .int (i * j)):=opI fun _ _ _ _ _ _ _ hc q => PyProof.Rows.mul_int q hc.ok
theorem Dx : OpR X (binaryOp .FloorDiv) (rI FI fun i j => .int (i / j)):=opI fun i j _ _ _ _ _ hc q => by
 have h1 : (0 : Int) < j:=hc.1
 have h2 : j < BIG:=hc.2
 have h3:=rQ (Int.le_of_lt h1) h2
 exact floordiv_int (by omega) (by rw [Int.fdiv_eq_ediv_of_nonneg i (by omega)]; exact q) (.inl (PyProof.noPylong_of_log2 (by omega)))
end
def Itv (K : PySem.W.Frag) (a : Addr) (n : Nat) : It:=
 ⟨fun i H => i < n /\ ∃ xs,SqL K H a xs /\ xs.length = n,fun i H x H' => H' = H /\ ∀ xs,SqL K H a xs -> xs[n - 1 - i]? = some x,fun i H => i = n⟩
theorem Ej {P : Program} {w : World} {K : PySem.W.Frag} {tg : Expr} (a it : Addr) (n : Nat) : Turn P w K tg (Itv K a n) [it] it (fun i h => i <= n /\ PySem.Heap.IsRevIter h it a ((n : Int) - 1 - (i : Int))) where
 mem:=by simp
 obj:=fun i h st b hb => by
  have e : b = it:=by simpa using hb
  subst e
  obtain ⟨_,o,e,c,d⟩:=st
  exact ⟨o,e,fun v z => by rw [d] at z; cases z⟩
 keep:=fun i h h' st k => ⟨st.1,st.2.at fun o e => k it (by simp) o e⟩
 item:=by
  intro X hP hw hK hc i pins s σ H E I hf st hg
  subst hP hw hK
  obtain ⟨hi,xs,hq,hn⟩:=hg
  obtain ⟨its,rv,p,hz⟩:=I.list hq
  have hj : n - 1 - i < xs.length:=by omega
  obtain ⟨u,hu,ru⟩:=rv.get (i:=n - 1 - i) (x:=xs[n - 1 - i]) (by simp [hj])
  obtain ⟨f0,f1,f2,f3,f4,f5⟩:=hf it (by simp)
  have e : (n : Int) - 1 - (i : Int) = ((n - 1 - i : Nat) : Int):=by omega
  have st2:=st.2
  rw [e] at st2
  refine wpAny_pyNext_rev_item st2 p.isList (x:=u) (by simpa using hu) fun h' st' sb => ?_
  have I1 : Inv X pins σ H { s with heap:=h' }:=I.turned (t' := s.toks) (fun b o hb e => (sb.2 b hb).trans e) f0 f1 f3 f4 f5
  obtain ⟨o,eo,c,d⟩:=id st'
  refine ⟨u,rfl,vg (s:={ s with heap:=h' }) eo c d (by decide) ⟨xs[n - 1 - i],H,I1,ru,⟨rfl,fun ys hy => by rw [I.list_inj hy hq]; simp [hj]⟩,⟨by omega,?_⟩,fun b hb => (hf b hb).1⟩⟩
  have e2 : (n : Int) - 1 - ((i + 1 : Nat) : Int) = ((n - 1 - i : Nat) : Int) - 1:=by omega
  rw [e2]
  exact st'
 done:=by
  intro X hP hw hK hc i pins s σ H E I hf st hg
  subst hP hw hK
  have hg' : i = n:=hg
  obtain ⟨f0,f1,f2,f3,f4,f5⟩:=hf it (by simp)
  have e : (n : Int) - 1 - (i : Int) = -1:=by omega
  have st2:=st.2
  rw [e] at st2
  exact wpAny_pyNext_rev_end (I.ok.hd hc) st2 fun h' eb => ⟨rfl,I.turned (t' := s.toks) (fun b o hb e => eb b o hb e) f0 f1 f3 f4 f5⟩
 self:=fun _ _ _ _ _ st h => wpAny_pyIter_revIter st.2 h
section
variable {X : Cx} {tg : Expr}
def HP (K : PySem.W.Frag) (ta : TA) : TI:=fun σ H R => ta σ H fun vs H1 => ∃ a xs,vs = [.ref a] /\ SqL K H1 a xs /\ R (Itv K a xs.length) H1
theorem GA {a : Expr} {ta : TA} {p pos : Pos} (hg : Gl X "reversed") (hm : X.mg "reversed" = none) (ha : PA X [a] ta) (hs : starEach [a] X.env = [(false,eval a X.env)]:=by rfl) : PI X tg (.Call (.Name "reversed" p) [a] [] pos) (HP X.K ta):=by
 intro pins s σ H R I h
 refine Call_ (gT I hg hm p5 (PyProof.Rows.callWith_type1 (thn (ha pos pins s σ H _ I h) fun us s1 ⟨vs,H1,I1,r1,q1⟩ => ?_) hs rfl))
 obtain ⟨l,xs,e,hq,q⟩:=q1
 subst e
 cases r1 with
 | cons r rr =>
  cases rr
  cases r
  obtain ⟨its,rv,pl,hz⟩:=I1.list hq
  have hlen:=rv.length
  refine call_reversed_list pl.isList ?_
  have I2 : Inv X pins σ H1 { s1 with heap:=s1.heap.push (revObj l ((its.toArray.size : Int) - 1)) }:=I1.kept (t' := s1.toks) fun b o e => Heap.get?_push_of_some _ e
  have hit : PySem.Heap.IsRevIter (s1.heap.push (revObj l ((its.toArray.size : Int) - 1))) s1.heap.objs.size l ((xs.length : Int) - 1 - ((0 : Nat) : Int)):=by
   refine ⟨_,Heap.get?_push_size _ rfl,rfl,?_⟩
   have e : ((its.toArray.size : Int) - 1) = (xs.length : Int) - 1 - ((0 : Nat) : Int):=by rw [List.size_toArray]; omega
   rw [<- e]
   rfl
  refine wpAny_pyIter_revIter hit ?_
  refine ⟨s1.heap.objs.size,[s1.heap.objs.size],_,_,H1,rfl,I2,Ej l _ xs.length,⟨Nat.zero_le _,hit⟩,fun b hb => ?_,q⟩
  have e : b = s1.heap.objs.size:=by simpa using hb
  subst e
  exact I1.fpOk (Nat.le_refl _) (I1.hok.fresh (Nat.le_refl _))
end
theorem EG {K : PySem.W.Frag} {a : Addr} {xs : List V} {g : TG} {tb : TS} {D : Ends} {σ : St} {H : Hp} (Pv : Nat -> St -> Hp -> Prop) (h0 : Pv 0 σ H) (hl : ∀ i σ H,i <= xs.length -> Pv i σ H -> SqL K H a xs)
  (hs : ∀ i x σ H,i < xs.length -> xs[xs.length - 1 - i]? = some x -> Pv i σ H -> g x σ H fun σ2 H2 => tb { D with nx:=Pv (i + 1),ct:=Pv (i + 1),bk:=D.nx } σ2 H2) (hd : ∀ σ H,Pv xs.length σ H -> D.nx σ H) :
  ∃ W : Nat -> Nat -> St -> Hp -> Prop,(∃ m,W 0 m σ H) /\ ∀ i m σ H,W i m σ H ->
   ((Itv K a xs.length).stop i H /\ D.nx σ H) \/ ((Itv K a xs.length).go i H /\ ∃ N : St -> Hp -> Prop,(∀ σ' H',N σ' H' -> ∃ m',m' < m /\ W (i + 1) m' σ' H') /\ ∀ x H',(Itv K a xs.length).yld i H x H' -> g x σ H' fun σ2 H2 => tb { D with nx:=N,ct:=N,bk:=D.nx } σ2 H2):=by
 refine ⟨fun i m σ H => m = xs.length - i /\ i <= xs.length /\ Pv i σ H,⟨xs.length,by simp,Nat.zero_le _,h0⟩,?_⟩
 rintro i m σ H ⟨rfl,hi,p⟩
 have q:=hl i σ H hi p
 by_cases hlt : i < xs.length
 ·refine .inr ⟨⟨hlt,xs,q,rfl⟩,Pv (i + 1),fun σ' H' p' => ⟨xs.length - (i + 1),by omega,rfl,hlt,p'⟩,fun x H' y => ?_⟩
  obtain ⟨e,y⟩:=y
  subst e
  exact hs i x σ _ hlt (y xs q) p
 ·have e : i = xs.length:=by omega
  subst e
  exact .inl ⟨rfl,hd σ H p⟩
theorem kG {c : TT} {tb : TS} {D : Ends} {σ : St} {H : Hp} (Pv : Nat -> St -> Hp -> Prop) (h0 : ∃ m,Pv m σ H)
  (hs : ∀ m σ H,Pv m σ H -> c σ H fun b H1 => if b = true then ∃ N : St -> Hp -> Prop,(∀ σ' H',N σ' H' -> ∃ m',m' < m /\ Pv m' σ' H') /\ tb { D with nx:=N,ct:=N,bk:=D.nx } σ H1 else D.nx σ H1) : km c tb D σ H:=⟨Pv,h0,hs⟩
end L2
set_option Elab.async false
set_option linter.all false
set_option maxRecDepth 100000
namespace L2
open PySem PySem.Spec PyProof.Rows
section
variable {X : Cx} {pins : List (Addr × Obj)} {σ : St} {H : Hp} {s : Shared}
end
section
variable {X : Cx} {tg : Expr}
end
section
variable {X : Cx}
end
end L2
set_option Elab.async false
set_option linter.all false
set_option maxRecDepth 100000
namespace PySem
section
variable {prog : Program} {w : World} {A : Around} {R : Result -> Shared -> Prop} {I : Addr} {fp wr : List Addr} {n : Nat} {P : Nat -> Value -> Prop} {St : Nat -> Heap -> Prop}
end
section
variable {prog : Program} {w : World} {A : Around} {E : Value -> Shared -> Prop} {s : Shared}
end
end PySem
namespace L2
open PySem PySem.Spec PyProof.Rows
section
variable {X : Cx}
variable {p pos kpos : Pos} {e d : Expr} {ta : TA} {td : TE}
end
def oq (xs : List V) (lo hi : Option Int) (st : Int) : List V:=
 (List.range (Builtin.Slice.slicePlaces (Builtin.Slice.sliceAdjust lo hi st xs.length).1 (Builtin.Slice.sliceAdjust lo hi st xs.length).2 st)).filterMap fun (m : Nat) => xs[((Builtin.Slice.sliceAdjust lo hi st xs.length).1 + (m : Int) * st).toNat]?
theorem Vals.pick {xs : List V} {us : List Value} (r : Vals xs us) (f : Nat -> Nat) : ∀ ks : List Nat,Vals (ks.filterMap fun m => xs[f m]?) (ks.filterMap fun m => us[f m]?)
 | [] => .nil
 | k :: ks => by
  have ih:=Vals.pick r f ks
  cases e : xs[f k]? with
  | none =>
   have e2:=r.none_of e
   rw [List.filterMap_cons_none (f:=fun m => xs[f m]?) e,List.filterMap_cons_none (f:=fun m => us[f m]?) e2]
   exact ih
  | some x =>
   obtain ⟨u,e2,ru⟩:=r.get e
   rw [List.filterMap_cons_some (f:=fun m => xs[f m]?) e,List.filterMap_cons_some (f:=fun m => us[f m]?) e2]
   exact .cons ru ih
section
variable {prog : Program} {w : World} {A : Around} {E : Value -> Shared -> Prop} {s : Shared}
theorem qX {sl : Addr} {vl vu vs : Value} {lo hi : Option Int} {st : Int} {n : Nat} {Q : Int × Int × Nat -> Shared -> Prop} (hs : s.heap.IsSliceOf sl vl vu vs) (pl : IsPart vl lo) (pu : IsPart vu hi) (ps : IsPart vs (some st)) (h0 : st ≠ 0)
  (h : Q ((Builtin.Slice.sliceAdjust lo hi st n).1,st,Builtin.Slice.slicePlaces (Builtin.Slice.sliceAdjust lo hi st n).1 (Builtin.Slice.sliceAdjust lo hi st n).2 st) s) : wpAny (model prog w) A (Builtin.Slice.sliceApplied (.ref sl) (pure (n : Int))) Q E s:=by
 obtain ⟨os,hos,hcs,hds⟩:=id hs
 unfold Builtin.Slice.sliceApplied Builtin.Slice.sliceFields
 refine wpAny_bind (wpAny_bind (wpAny_field hos hds (x:=vl) rfl (wpAny_bind (wpAny_field hos hds (x:=vu) rfl (wpAny_bind (wpAny_field hos hds (x:=vs) rfl (wpAny_pure ?_)))))))
 refine wpAny_bind (HT.slicePart_ ps ?_)
 show wpAny _ _ (if (st == 0) = true then _ else _) _ _ s
 rw [if_neg (by simpa using h0)]
 refine wpAny_bind (HT.slicePart_ pl (wpAny_bind (HT.slicePart_ pu (wpAny_bind (wpAny_pure ?_)))))
 exact wpAny_pure h
theorem o6 {t sl : Addr} {items : Array Value} {vl vu vs : Value} {lo hi : Option Int} {st : Int} {Q : Value -> Shared -> Prop} (ht : IsTup s.heap t items) (hs : s.heap.IsSliceOf sl vl vu vs) (pl : IsPart vl lo) (pu : IsPart vu hi) (ps : IsPart vs (some st)) (h0 : st ≠ 0)
  (hw : ((Builtin.Slice.sliceAdjust lo hi st items.size).1 == 0 && st == 1 && Builtin.Slice.slicePlaces (Builtin.Slice.sliceAdjust lo hi st items.size).1 (Builtin.Slice.sliceAdjust lo hi st items.size).2 st == items.size) = true -> Q (.ref t) s)
  (h : Q (.ref s.heap.objs.size) { s with heap:=s.heap.push { cls:=.type "tuple",data:=.seq ((List.range (Builtin.Slice.slicePlaces (Builtin.Slice.sliceAdjust lo hi st items.size).1 (Builtin.Slice.sliceAdjust lo hi st items.size).2 st)).filterMap fun (m : Nat) => items[((Builtin.Slice.sliceAdjust lo hi st items.size).1 + (m : Int) * st).toNat]?).toArray } })
  (hsz : ((List.range (Builtin.Slice.slicePlaces (Builtin.Slice.sliceAdjust lo hi st items.size).1 (Builtin.Slice.sliceAdjust lo hi st items.size).2 st)).filterMap fun (m : Nat) => items[((Builtin.Slice.sliceAdjust lo hi st items.size).1 + (m : Int) * st).toNat]?).length <= sizeLine) : wpAny (model prog w) A (getItem (.ref t) (.ref sl)) Q E s:=by
 have htake : sizeOk (.seq ((List.range (Builtin.Slice.slicePlaces (Builtin.Slice.sliceAdjust lo hi st items.size).1 (Builtin.Slice.sliceAdjust lo hi st items.size).2 st)).filterMap fun (m : Nat) => items[((Builtin.Slice.sliceAdjust lo hi st items.size).1 + (m : Int) * st).toNat]?).toArray):=by
  show (List.toArray _).size <= sizeLine
  rw [List.size_toArray]
  exact hsz
 obtain ⟨os,hos,hcs,hds⟩:=id hs
 have hTs : s.TypeIs (.ref sl) "slice" := ⟨os,hos,hcs⟩
 unfold getItem
 try with_reducible refine wpAny_holding ?_
 first | refine wpAny_bind (wpAny_pure ?_) | skip
 refine wpAny_bind (wpAny_sequenceKey ht.typeIs (by decide) ?_)
 refine wpAny_bind (wpAny_callSpecial?_slot (name:=Str.ofString "__getitem__") ht.typeIs PyProof.Rows.slot_tuple_getitem
  (wpAny_call_entry PyProof.Rows.slot_tuple_getitem ht.typeIs entry_tuple_getitem ?_ (args_tuple_getitem _ _)))
 show wpAny _ _ (Builtin.Tuple.tupleItemsOf (.ref t) >>= _) _ _ s
 refine wpAny_bind (tupleItemsOf_ ht ?_)
 refine wpAny_bind (wpAny_typeOf hTs ?_)
 rw [if_pos (by decide)]
 refine wpAny_bind (qX hs pl pu ps h0 ?_)
 show wpAny _ _ (if ((Builtin.Slice.sliceAdjust lo hi st items.size).1 == 0 && st == 1 && Builtin.Slice.slicePlaces (Builtin.Slice.sliceAdjust lo hi st items.size).1 (Builtin.Slice.sliceAdjust lo hi st items.size).2 st == items.size) = true then _ else _) _ _ s
 by_cases hc : ((Builtin.Slice.sliceAdjust lo hi st items.size).1 == 0 && st == 1 && Builtin.Slice.slicePlaces (Builtin.Slice.sliceAdjust lo hi st items.size).1 (Builtin.Slice.sliceAdjust lo hi st items.size).2 st == items.size) = true
 ·rw [if_pos hc]
  unfold Builtin.Tuple.tupleIsExact
  refine wpAny_bind (wpAny_bind (wpAny_typeOf ht.typeIs (wpAny_pure ?_)))
  rw [if_pos (by decide)]
  first
   | exact wpAny_bind (wpAny_rule (wpAny_pure ⟨_,rfl,wpAny_pure (hw hc)⟩))
   | exact wpAny_bind (wpAny_rule (wpAny_bind (wpAny_pure (wpAny_pure ⟨_,rfl,wpAny_pure (hw hc)⟩))))
   | exact wpAny_bind (wpAny_bind (wpAny_rule (wpAny_pure ⟨_,rfl,wpAny_pure (hw hc)⟩)))
 rw [if_neg hc]
 first
  | exact wpAny_bind (m:=Builtin.Tuple.tupleExact _) (wpAny_newObj_type (wpAny_pure ⟨_,rfl,wpAny_pure h⟩) htake)
  | exact wpAny_bind (m:=Builtin.Tuple.tupleExact _) (wpAny_newObj_type (wpAny_bind (wpAny_pure (wpAny_pure ⟨_,rfl,wpAny_pure h⟩))) htake)
  | exact wpAny_bind (wpAny_bind (m:=Builtin.Tuple.tupleExact _) (wpAny_newObj_type (wpAny_pure (wpAny_pure ⟨_,rfl,wpAny_pure h⟩)) htake))
  | exact wpAny_bind (wpAny_bind (m:=Builtin.Tuple.tupleExact _) (wpAny_newObj_type (wpAny_pure ⟨_,rfl,wpAny_pure h⟩) htake))
end
section
variable {X : Cx} {e : Expr} {te : TE} {lo hi : Option Expr} {st : Expr} {tl th ts : TO} {pos p2 : Pos}
def GX (X : Cx) (r : V -> Option Int -> Option Int -> Option Int -> Hp -> VK -> Prop) : Prop:=
 ∀ (pins : List (Addr × Obj)) (s : Shared) (σ : St) (H : Hp) (x : V) (v vl vu vs : Value) (lo hi st : Option Int) (sl : Addr) (Q : VK),Inv X pins σ H s -> RelV x v -> s.heap.IsSliceOf sl vl vu vs -> IsPart vl lo -> IsPart vu hi -> IsPart vs st -> r x lo hi st H Q ->
  ∃ T id,typeLookup (.type T) "__getitem__" = pure (some (.builtin id)) /\ s.TypeIs v T /\ wpAny (model X.prog X.w) X.A (getItem v (.ref sl)) (EP X pins σ Q) X.xe s
def Ii (r : V -> Option Int -> Option Int -> Option Int -> Hp -> VK -> Prop) (te : TE) (tl th ts : TO) : TE:=fun σ H Q => te σ H fun x H1 => tl σ H1 fun l H2 => th σ H2 fun u H3 => ts σ H3 fun c H4 => r x l u c H4 Q
theorem B5 {r : V -> Option Int -> Option Int -> Option Int -> Hp -> VK -> Prop} (hr : GX X r) (he : PE X e te) (hl : PO X lo tl) (hu : PO X hi th) (hs : PO X (some st) ts) : PE X (.Subscript e (.Slice lo hi (some st) p2) pos) (Ii r te tl th ts):=by
 intro pins s σ H Q I h
 refine Subscript_ (thn (he pins s σ H _ I h) fun v s1 ⟨x,H1,I1,r1,q1⟩ => ?_)
 refine wpAny_Slice (thn (hl pins s1 σ H1 _ I1 q1) fun vl s2 ⟨l,H2,I2,pl,q2⟩ => thn (hu pins s2 σ H2 _ I2 q2) fun vu s3 ⟨u,H3,I3,pu,q3⟩ => thn (hs pins s3 σ H3 _ I3 q3) fun vc s4 ⟨c,H4,I4,pc,q4⟩ => ?_)
 have I5 : Inv X pins σ H4 { s4 with heap:=s4.heap.push { cls:=.type "slice",data:=.fields #[vl,vu,vc] } }:=I4.kept (t' := s4.toks) fun b ob q => Heap.get?_push_of_some _ q
 obtain ⟨T,id,hT,ht,hg⟩:=hr pins { s4 with heap:=s4.heap.push { cls:=.type "slice",data:=.fields #[vl,vu,vc] } } σ H4 x v vl vu vc l u c s4.heap.objs.size Q I5 r1 (Heap.IsSliceOf.new ..) pl pu pc q4
 show wpAny (model X.prog X.w) X.A (subscriptTail e (.Slice lo hi (some st) p2) v (.ref s4.heap.objs.size)) (EP X pins σ Q) X.xe { s4 with heap:=s4.heap.push { cls:=.type "slice",data:=.fields #[vl,vu,vc] } }
 exact tail_any (ops:=[v,.ref s4.heap.objs.size]) ht hT hg (by with_unfolding_all rfl)
def Hn (K : PySem.W.Frag) : V -> Option Int -> Option Int -> Option Int -> Hp -> VK -> Prop:=fun x lo hi st H Q => ∃ a xs c,x = .ref a /\ st = some c /\ SqT K H a xs /\ c ≠ 0 /\ (oq xs lo hi c).length <= sizeLine /\
 (c = 1 -> (Builtin.Slice.sliceAdjust lo hi c xs.length).1 = 0 -> Builtin.Slice.slicePlaces (Builtin.Slice.sliceAdjust lo hi c xs.length).1 (Builtin.Slice.sliceAdjust lo hi c xs.length).2 c = xs.length -> Q (.ref a) H) /\ ∀ p,H p = none -> Q (.ref p) (upd H p (.tup (oq xs lo hi c)))
theorem Ft : GX X (Hn X.K):=by
 intro pins s σ H x v vl vu vc lo hi st sl Q I rx hs pl pu pc h
 obtain ⟨a,xs,c,rfl,rfl,hx,h0,hz,q1,q2⟩:=h
 cases rx
 obtain ⟨its,r,ht,hz'⟩:=I.tuple hx
 have hlen : its.toArray.size = xs.length:=by rw [List.size_toArray]; exact r.length.symm
 refine ⟨"tuple",_,PyProof.Rows.slot_tuple_getitem.lookup,ht.typeIs,?_⟩
 have rp:=r.pick (fun (m : Nat) => ((Builtin.Slice.sliceAdjust lo hi c xs.length).1 + (m : Int) * c).toNat) (List.range (Builtin.Slice.slicePlaces (Builtin.Slice.sliceAdjust lo hi c xs.length).1 (Builtin.Slice.sliceAdjust lo hi c xs.length).2 c))
 have eg : (fun (m : Nat) => its.toArray[((Builtin.Slice.sliceAdjust lo hi c xs.length).1 + (m : Int) * c).toNat]?) = fun (m : Nat) => its[((Builtin.Slice.sliceAdjust lo hi c xs.length).1 + (m : Int) * c).toNat]? := by
  funext m
  simp
 refine o6 ht hs pl pu pc h0 (fun hc => ?_) ?_ ?_
 ·rw [hlen] at hc
  simp only [Bool.and_eq_true,beq_iff_eq] at hc
  exact ⟨.ref a,H,I,rfl,q1 hc.1.2 hc.1.1 hc.2⟩
 ·rw [hlen,eg]
  refine ⟨.ref s.heap.objs.size,_,I.laid (t' := s.toks) (o:=.tup (oq xs lo hi c)) (fun b ob q => Heap.get?_push_of_some _ q) (Nat.le_refl _) ?_,rfl,q2 _ (I.hok.fresh (Nat.le_refl _))⟩
  exact ⟨hz,_,rp,IsTup.new _ _⟩
 ·rw [hlen,eg,<- rp.length]
  exact hz
end
section
variable {X : Cx} {tg : Expr}
end
theorem jX {K : PySem.W.Frag} {a : Addr} {xs : List V} {ix : List (Option Nat)} {te : TE} {σ : St} {H : Hp} {Qd : Addr -> Hp -> Prop} (Pv : Addr -> Nat -> List V -> Hp -> Prop)
  (h0 : ∀ D,H D = none -> Pv D 0 [] (upd H D (.lst [])))
  (hl : ∀ D i ys H',i <= xs.length -> Pv D i ys H' -> SqT K H' a xs)
  (hs : ∀ D i x ys H' (Q' : VK),H D = none -> xs[i]? = some x -> H' D = some (.lst ys) -> Pv D i ys H' -> (∀ y H4,H4 D = some (.lst ys) -> ys.length < sizeLine -> Pv D (i + 1) (ys ++ [y]) (upd H4 D (.lst (ys ++ [y]))) -> Q' y H4) ->
   te ((aO ix σ).set 0 (some x)) H' Q')
  (hd : ∀ D ys H',H D = none -> H' D = some (.lst ys) -> Pv D xs.length ys H' -> Qd D H') : mK (Itt K a) ix (bt 0) te σ H Qd:=by
 intro D hD
 refine ⟨fun i m σ' H' => m = xs.length - i /\ i <= xs.length /\ (σ' = aO ix σ \/ ∃ t,σ' = (aO ix σ).set 0 t) /\ ∃ ys,H' D = some (.lst ys) /\ Pv D i ys H',⟨xs.length,by simp,Nat.zero_le _,.inl rfl,[],ab,h0 D hD⟩,?_⟩
 rintro i m σ' H' ⟨rfl,hi,hσ,ys,hy,p⟩
 have q:=hl D i ys H' hi p
 by_cases hlt : i < xs.length
 ·refine .inr ⟨⟨xs,xs[i],q,by simp [hlt]⟩,fun x H2 y => ?_⟩
  obtain ⟨e1,e2⟩:=y
  subst e1
  have ex:=e2 xs q
  have es : σ'.set 0 (some x) = (aO ix σ).set 0 (some x):=by
   rcases hσ with z | ⟨t,z⟩
   ·rw [z]
   ·rw [z,List.set_set]
  show te (σ'.set 0 (some x)) _ _
  rw [es]
  refine hs D i x ys _ _ hD ex hy p fun y H4 h4 hz p4 => ⟨ys,h4,hz,xs.length - (i + 1),by omega,rfl,hlt,.inr ⟨_,rfl⟩,ys ++ [y],ab,p4⟩
 ·have e : i = xs.length:=by omega
  subst e
  exact .inl ⟨⟨xs,q,Nat.le_refl _⟩,hd D ys H' hD hy p⟩
section
variable {X : Cx}
theorem CT (K : PySem.W.Frag) (h : X.K = K:=by rfl) : IxR X (Hk K):=by subst h; exact b9
theorem nk (K : PySem.W.Frag) (h : X.K = K:=by rfl) : IxR X (Hl K):=by subst h; exact bA
end
end L2
set_option Elab.async false
set_option linter.all false
set_option maxRecDepth 100000
namespace L2
open PySem PySem.Spec PyProof.Rows
section
variable {κ : Type} [DecidableEq κ]
def di (kvs : List (κ × V)) (k : κ) : Option V:=(kvs.find? fun kv => decide (kv.1 = k)).map (·.2)
def putK (kvs : List (κ × V)) (k : κ) (v : V) : List (κ × V):=
 if (kvs.any fun kv => decide (kv.1 = k)) = true then kvs.map (fun kv => if kv.1 = k then (kv.1,v) else kv) else kvs ++ [(k,v)]
def sj (kvs : List (κ × V)) (k : κ) : List (κ × V):=kvs.filter fun kv => decide (kv.1 ≠ k)
theorem gW {p : κ × V} {r : List (κ × V)} {k : κ} (e : p.1 = k) : di (p :: r) k = some p.2:=by simp [di,List.find?_cons,e]
theorem eF {p : κ × V} {r : List (κ × V)} {k : κ} (e : ¬ p.1 = k) : di (p :: r) k = di r k:=by simp [di,List.find?_cons,e]
theorem tP (k : κ) : ∀ kvs : List (κ × V),(kvs.any fun kv => decide (kv.1 = k)) = (di kvs k).isSome
 | [] => rfl
 | p :: r => by
  rw [List.any_cons]
  by_cases e : p.1 = k
  ·simp only [gW e,decide_eq_true e,Bool.true_or,Option.isSome_some]
  ·rw [eF e,decide_eq_false e,Bool.false_or]; exact tP k r
theorem fh (kvs : List (κ × V)) (k : κ) (v : V) : (putK kvs k v).length <= kvs.length + 1:=by
 unfold putK
 split
 ·rw [List.length_map]; omega
 ·rw [List.length_append,List.length_cons,List.length_nil]; omega
theorem DX {kvs : List (κ × V)} {k : κ} (v : V) (h : di kvs k = none) : putK kvs k v = kvs ++ [(k,v)]:=by
 unfold putK
 rw [tP,h]
 exact if_neg (by decide)
theorem RelO.isSome_eq {o : Option V} {u : Option Value} (r : RelO o u) : o.isSome = u.isSome:=by
 cases o with
 | none => cases u with
  | none => rfl
  | some _ => exact (show False from r).elim
 | some _ => cases u with
  | none => exact (show False from r).elim
  | some _ => rfl
theorem RelO.getD {o : Option V} {u : Option Value} {d : V} {d' : Value} (r : RelO o u) (rd : RelV d d') : RelV (o.getD d) (u.getD d'):=by
 cases o with
 | none => cases u with
  | none => exact rd
  | some _ => exact (show False from r).elim
 | some _ => cases u with
  | none => exact (show False from r).elim
  | some _ => exact r
theorem KV.val {kvs : List (κ × V)} {vs : List (κ × Value)} (r : KV kvs vs) (k : κ) : RelO (di kvs k) (valueAt vs k):=by
 unfold KV at r
 induction r with
 | nil => exact True.intro
 | @cons p q ps qs h t ih =>
  obtain ⟨h1,h2⟩:=h
  by_cases e : p.1 = k
  ·have e' : q.1 = k:=h1.symm.trans e
   have b : valueAt (q :: qs) k = some q.2:=by simp [valueAt,List.find?_cons,e']
   rw [gW e,b]; exact h2
  ·have e' : ¬ q.1 = k:=fun z => e (h1.trans z)
   have b : valueAt (q :: qs) k = valueAt qs k:=by simp [valueAt,List.find?_cons,e']
   rw [eF e,b]; exact ih
theorem KV.any {kvs : List (κ × V)} {vs : List (κ × Value)} (r : KV kvs vs) (k : κ) : (kvs.any fun kv => decide (kv.1 = k)) = vs.any fun kv => decide (kv.1 = k):=by
 unfold KV at r
 induction r with
 | nil => rfl
 | cons h t ih => rw [List.any_cons,List.any_cons,ih,h.1]
theorem KV.repl {kvs : List (κ × V)} {vs : List (κ × Value)} (r : KV kvs vs) (k : κ) {y : V} {u : Value} (ry : RelV y u) :
  KV (kvs.map fun kv => if kv.1 = k then (kv.1,y) else kv) (vs.map fun kv => if kv.1 = k then (kv.1,u) else kv):=by
 unfold KV at r ⊢
 induction r with
 | nil => exact .nil
 | @cons p q ps qs h t ih =>
  rw [List.map_cons,List.map_cons]
  refine .cons ?_ ih
  obtain ⟨h1,h2⟩:=h
  by_cases e : p.1 = k
  ·rw [if_pos e,if_pos (h1.symm.trans e)]; exact ⟨h1,ry⟩
  ·rw [if_neg e,if_neg (fun z => e (h1.trans z))]; exact ⟨h1,h2⟩
theorem KV.put {kvs : List (κ × V)} {vs : List (κ × Value)} (r : KV kvs vs) (k : κ) {y : V} {u : Value} (ry : RelV y u) : KV (putK kvs k y) (stored vs k u):=by
 unfold putK stored
 rw [r.any k]
 by_cases e : (vs.any fun kv => decide (kv.1 = k)) = true
 ·rw [if_pos e,if_pos e]; exact r.repl k ry
 ·rw [if_neg e,if_neg e]; exact Paired.snoc r ⟨rfl,ry⟩
theorem KV.drop {kvs : List (κ × V)} {vs : List (κ × Value)} (r : KV kvs vs) (k : κ) : KV (sj kvs k) (without vs k):=by
 unfold KV at r ⊢
 unfold sj without
 induction r with
 | nil => exact .nil
 | @cons p q ps qs h t ih =>
  obtain ⟨h1,h2⟩:=h
  rw [List.filter_cons,List.filter_cons]
  by_cases e : p.1 = k
  ·have a : ¬ decide (p.1 ≠ k) = true:=by simp [e]
   have b : ¬ decide (q.1 ≠ k) = true:=by simp [h1.symm.trans e]
   rw [if_neg a,if_neg b]; exact ih
  ·have e' : ¬ q.1 = k:=fun z => e (h1.trans z)
   have a : decide (p.1 ≠ k) = true:=by simp [e]
   have b : decide (q.1 ≠ k) = true:=by simp [e']
   rw [if_pos a,if_pos b]; exact .cons ⟨h1,h2⟩ ih
theorem KV.length {kvs : List (κ × V)} {vs : List (κ × Value)} (r : KV kvs vs) : kvs.length = vs.length:=Paired.length r
theorem CH (kvs : List (κ × V)) (k : κ) : (sj kvs k).length <= kvs.length:=List.length_filter_le _ _
end
theorem ka {P : Program} {w : World} {k : Key} {u : Value} (r : RelV (kV k) u) : (aP P w).is k u = true:=by
 cases k with
 | inl i => obtain ⟨t,e⟩:=(show ∃ t,u = Value.int i t from r); subst e; exact yg P w i t
 | inr x => obtain ⟨t,e⟩:=(show ∃ t,u = Value.str x t from r); subst e; exact yh P w x t
theorem vk {P : Program} {w : World} : ∀ {ks : List Key} {us : List Value},Vals (ks.map kV) us -> ItemsAre (aP P w) ks us
 | [],_,r => by rw [List.map_nil] at r; cases r; exact .nil
 | k :: ks,_,r => by
  rw [List.map_cons] at r
  cases r with
  | cons h t => exact .cons (ka h) (vk t)
abbrev KT (H : Hp) : List (List Key × V) -> List (List Key × Addr × Value) -> Prop:=Paired fun p q => p.1 = q.1 /\ H q.2.1 = some (.tup (p.1.map kV)) /\ RelV p.2 q.2.2
theorem KT.val {H : Hp} {kvs : List (List Key × V)} {xs : List (List Key × Addr × Value)} (r : KT H kvs xs) (k : List Key) : RelO (di kvs k) ((atKey xs k).map (·.2)):=by
 induction r with
 | nil => exact True.intro
 | @cons p q ps qs h t ih =>
  obtain ⟨h1,_,h2⟩:=h
  by_cases e : p.1 = k
  ·have e' : q.1 = k:=h1.symm.trans e
   have b : atKey (q :: qs) k = some q.2:=by simp [atKey,List.find?_cons,e']
   rw [gW e,b]; exact h2
  ·have e' : ¬ q.1 = k:=fun z => e (h1.trans z)
   have b : atKey (q :: qs) k = atKey qs k:=by simp [atKey,List.find?_cons,e']
   rw [eF e,b]; exact ih
theorem KT.repl {H : Hp} {kvs : List (List Key × V)} {xs : List (List Key × Addr × Value)} (r : KT H kvs xs) (k : List Key) {y : V} {u : Value} (ry : RelV y u) :
  KT H (kvs.map fun kv => if kv.1 = k then (kv.1,y) else kv) (xs.map (putAt k u)):=by
 induction r with
 | nil => exact .nil
 | @cons p q ps qs h t ih =>
  rw [List.map_cons,List.map_cons]
  refine .cons ?_ ih
  obtain ⟨h1,h2,h3⟩:=h
  unfold putAt
  by_cases e : p.1 = k
  ·rw [if_pos e,if_pos (h1.symm.trans e)]; exact ⟨h1,h2,ry⟩
  ·rw [if_neg e,if_neg (fun z => e (h1.trans z))]; exact ⟨h1,h2,h3⟩
theorem KT.put {H : Hp} {kvs : List (List Key × V)} {xs : List (List Key × Addr × Value)} (r : KT H kvs xs) (k : List Key) {b : Addr} {y : V} {u : Value} (hb : H b = some (.tup (k.map kV))) (ry : RelV y u) :
  KT H (putK kvs k y) (storedH xs k b u):=by
 have e : (kvs.any fun kv => decide (kv.1 = k)) = (atKey xs k).isSome:=by
  rw [tP,(r.val k).isSome_eq,Option.isSome_map]
 unfold putK storedH
 rw [e]
 by_cases q : (atKey xs k).isSome = true
 ·rw [if_pos q,if_pos q]; exact r.repl k ry
 ·rw [if_neg q,if_neg q]; exact Paired.snoc r ⟨rfl,hb,ry⟩
theorem KT.keeps {H H' : Hp} {kvs : List (List Key × V)} {xs : List (List Key × Addr × Value)} (r : KT H kvs xs) (ht : ∀ b ys,H b = some (.tup ys) -> H' b = some (.tup ys)) : KT H' kvs xs:=
 Paired.mapP r fun _ _ z => ⟨z.1,ht _ _ z.2.1,z.2.2⟩
section
variable {P : Program} {w : World} {H : Hp} {h : Heap} {a : Addr}
theorem FQ {u : HO} (ok : HOk P w H h) (e : Rd H a u) : ObjOk P w H h a u:=e.ok ok
theorem m8 {kvs : List (Key × V)} (ok : HOk P w H h) (e : Rd H a (.dK kvs)) : kvs.length <= sizeLine /\ (a == sysModules) = false /\ ∃ vs,KV kvs vs /\ h.DictOf (aP P w) a vs:=
 show ObjOk P w H h a (.dK kvs) from FQ ok e
theorem AG {kvs : List (Key × V)} (ok : HOk P w H h) (e : H a = some (.dK kvs)) : kvs.length <= sizeLine /\ (a == sysModules) = false /\ ∃ vs,KV kvs vs /\ h.DictOf (aP P w) a vs:=m8 ok (.inl e)
theorem jr {ks : List Key} (ok : HOk P w H h) (e : H a = some (.tup (ks.map kV))) : (tupleKind (aP P w)).is h ks a:=by
 obtain ⟨_,its,r,o,h1,h2,n,h3⟩:=(show ObjOk P w H h a (.tup (ks.map kV)) from ok a _ e)
 exact ⟨o,its.toArray,n,h1,h2,h3,by simpa using vk r⟩
theorem p8 {kvs : List (List Key × V)} (ok : HOk P w H h) (e : Rd H a (.dT kvs)) : kvs.length <= sizeLine /\ (a == sysModules) = false /\
  ∃ xs,KT H kvs xs /\ h.DictOfH (tupleKind (aP P w)) a xs:=by
 obtain ⟨z,y,xs,r,o,es,ep,h1,h2,h3,h4,h5⟩:=(show ObjOk P w H h a (.dT kvs) from FQ ok e)
 refine ⟨z,y,xs,r,o,es,ep,h1,h2,h3,h4,fun x hx => ?_,h5⟩
 have all : ∀ {l : List (List Key × V)} {m : List (List Key × Addr × Value)},KT H l m -> ∀ x ∈ m,(tupleKind (aP P w)).is h x.1 x.2.1:=by
  intro l m q
  induction q with
  | nil => intro x hx; exact nomatch hx
  | @cons p q ps qs hq t ih =>
   intro x hx
   rcases List.mem_cons.mp hx with e | hx
   ·subst e
    exact jr ok (by rw [<- hq.1]; exact hq.2.1)
   ·exact ih x hx
 exact all r x hx
theorem CJ {kvs : List (List Key × V)} (ok : HOk P w H h) (e : H a = some (.dT kvs)) : kvs.length <= sizeLine /\ (a == sysModules) = false /\
  ∃ xs,KT H kvs xs /\ h.DictOfH (tupleKind (aP P w)) a xs:=p8 ok (.inl e)
end
def DGet (H : Hp) (a : Addr) (y : V) (r : Option V) : Prop:=
 (∃ kvs k,Rd H a (.dK kvs) /\ y = kV k /\ r = di kvs k) \/ ∃ kvs k b,Rd H a (.dT kvs) /\ y = .ref b /\ H b = some (.tup (k.map kV)) /\ r = di kvs k
def DPut (H : Hp) (a : Addr) (y v : V) (H' : Hp) : Prop:=
 (∃ kvs k,H a = some (.dK kvs) /\ y = kV k /\ kvs.length < sizeLine /\ H' = upd H a (.dK (putK kvs k v))) \/
 ∃ kvs k b,H a = some (.dT kvs) /\ y = .ref b /\ H b = some (.tup (k.map kV)) /\ kvs.length < sizeLine /\ H' = upd H a (.dT (putK kvs k v))
theorem DGet.k {H : Hp} {a : Addr} {kvs : List (Key × V)} {k : Key} (e : H a = some (.dK kvs)) : DGet H a (kV k) (di kvs k):=.inl ⟨kvs,k,.inl e,rfl,rfl⟩
theorem DGet.t {H : Hp} {a b : Addr} {kvs : List (List Key × V)} {k : List Key} (e : H a = some (.dT kvs)) (eb : H b = some (.tup (k.map kV))) : DGet H a (.ref b) (di kvs k):=.inr ⟨kvs,k,b,.inl e,rfl,eb,rfl⟩
theorem DPut.k {H : Hp} {a : Addr} {kvs : List (Key × V)} {k : Key} {v : V} (e : H a = some (.dK kvs)) (hl : kvs.length < sizeLine) : DPut H a (kV k) v (upd H a (.dK (putK kvs k v))):=.inl ⟨kvs,k,e,rfl,hl,rfl⟩
theorem DPut.t {H : Hp} {a b : Addr} {kvs : List (List Key × V)} {k : List Key} {v : V} (e : H a = some (.dT kvs)) (eb : H b = some (.tup (k.map kV))) (hl : kvs.length < sizeLine) :
  DPut H a (.ref b) v (upd H a (.dT (putK kvs k v))):=.inr ⟨kvs,k,b,e,rfl,eb,hl,rfl⟩
section
variable {X : Cx} {pins : List (Addr × Obj)} {σ : St} {H : Hp} {s : Shared} {a : Addr} {y v : V} {u r : Value} {o : Option V} {A : Around} {E : Value -> Shared -> Prop}
theorem Inv.big (I : Inv X pins σ H s) : sysModules < s.heap.objs.size:=by
 have h : mainGlobals < s.heap.objs.size:=(I.mod.glob.keeps I.bk).lt
 exact Nat.lt_trans (by decide) h
theorem Bj {Q : Value -> Shared -> Prop} (hu : A.units + 1 < cLine) (I : Inv X pins σ H s) (g : DGet H a y (some v)) (ry : RelV y u) (h : ∀ w' s',Inv X pins σ H s' -> RelV v w' -> Q w' s') :
  wpAny (model X.prog X.w) A (getItem (.ref a) u) Q E s:=by
 rcases g with ⟨kvs,k,e,ey,l⟩ | ⟨kvs,k,b,e,ey,eb,l⟩
 ·subst ey
  obtain ⟨z,hd,vs,rel,dd⟩:=m8 I.hok e
  obtain ⟨w',hw,rw'⟩:=RelO.some_of (v:=v) (o:=valueAt vs k) (by rw [l]; exact rel.val k)
  exact wpAny_getItem_of (ka ry) dd.mapOf hw (h w' _ (I.tok _) rw')
 ·subst ey
  cases (show u = Value.ref b from ry)
  obtain ⟨z,hd,xs,rel,dd⟩:=p8 I.hok e
  obtain ⟨w',hw,rw'⟩:=RelO.some_of (v:=v) (o:=(atKey xs k).map (·.2)) (by rw [l]; exact rel.val k)
  obtain ⟨p,hp,hp2⟩:=Option.map_eq_some_iff.mp hw
  refine wpAny_getItem_heap (tupleKind_room_in1 hu) (jr I.hok eb) dd hp ?_
  rw [hp2]
  exact h w' _ (I.tok _) rw'
theorem HK {Q : Value -> Shared -> Prop} (hu : A.units + 1 < cLine) (I : Inv X pins σ H s) (g : DGet H a y o) (ry : RelV y u) (h : ∀ s',Inv X pins σ H s' -> Q (.bool o.isSome) s') :
  wpAny (model X.prog X.w) A (compareOp .In u (.ref a)) Q E s:=by
 rcases g with ⟨kvs,k,e,ey,l⟩ | ⟨kvs,k,b,e,ey,eb,l⟩
 ·subst ey
  obtain ⟨z,hd,vs,rel,dd⟩:=m8 I.hok e
  refine wpAny_in_of (ka ry) hd dd.mapOf ?_
  rw [<- (rel.val k).isSome_eq,<- l]
  exact h _ (I.tok _)
 ·subst ey
  cases (show u = Value.ref b from ry)
  obtain ⟨z,hd,xs,rel,dd⟩:=p8 I.hok e
  refine wpAny_in_heap (tupleKind_room_in1 hu) (jr I.hok eb) hd dd ?_
  have q:=(rel.val k).isSome_eq
  rw [Option.isSome_map] at q
  rw [<- q,<- l]
  exact h _ (I.tok _)
theorem EC {Q : Value -> Shared -> Prop} (hu : A.units + 1 < cLine) (I : Inv X pins σ H s) (g : DGet H a y o) (ry : RelV y u) (h : ∀ s',Inv X pins σ H s' -> Q (.bool (!o.isSome)) s') :
  wpAny (model X.prog X.w) A (compareOp .NotIn u (.ref a)) Q E s:=by
 rcases g with ⟨kvs,k,e,ey,l⟩ | ⟨kvs,k,b,e,ey,eb,l⟩
 ·subst ey
  obtain ⟨z,hd,vs,rel,dd⟩:=m8 I.hok e
  refine wpAny_notIn_of (ka ry) hd dd.mapOf ?_
  rw [<- (rel.val k).isSome_eq,<- l]
  exact h _ (I.tok _)
 ·subst ey
  cases (show u = Value.ref b from ry)
  obtain ⟨z,hd,xs,rel,dd⟩:=p8 I.hok e
  refine wpAny_notIn_heap (tupleKind_room_in1 hu) (jr I.hok eb) hd dd ?_
  have q:=(rel.val k).isSome_eq
  rw [Option.isSome_map] at q
  rw [<- q,<- l]
  exact h _ (I.tok _)
theorem kq {h' : Heap} {t' : Nat} {ob : HO} (I : Inv X pins σ H s) (mu : Mut (H a)) (hs : Heap.SameBut a s.heap h') (he : ∃ q,h'.get? a = some q) (new : ObjOk X.prog X.w (upd H a ob) h' a ob) :
  Inv X pins σ (upd H a ob) { s with heap:=h',toks:=t' }:=
 I.write (x:=a) (e:=a) mu (.inl rfl) (fun b q hb z => (hs.2 b hb).trans z) he new
theorem si {P : Program} {w : World} {H' : Hp} {h' : Heap} {kvs : List (Key × V)} {vs : List (Key × Value)} (z : kvs.length <= sizeLine) (hd : (a == sysModules) = false) (rel : KV kvs vs) (dd : h'.DictOf (aP P w) a vs) :
  ObjOk P w H' h' a (.dK kvs):=⟨z,hd,vs,rel,dd⟩
theorem Bk {H' : Hp} {Q : Unit -> Shared -> Prop} (hu : A.units + 1 < cLine) (I : Inv X pins σ H s) (g : DPut H a y v H') (ry : RelV y u) (rv : RelV v r) (h : ∀ s',Inv X pins σ H' s' -> Q () s') :
  wpAny (model X.prog X.w) A (setItem (.ref a) u r) Q E s:=by
 rcases g with ⟨kvs,k,e,ey,l,eH⟩ | ⟨kvs,k,b,e,ey,eb,l,eH⟩
 ·subst ey eH
  obtain ⟨z,hd,vs,rel,dd⟩:=AG I.hok e
  have hz : vs.length <= sizeLine:=by rw [<- rel.length]; exact z
  have hl : (putK kvs k v).length <= sizeLine:=by have:=fh kvs k v; omega
  refine wpAny_setItem_pairs (hsz:=hz) (ka ry) dd fun h' dd' hs => h _ ?_
  have he : ∃ q,h'.get? a = some q:=let ⟨q,_,_,hq,_⟩:=dd'; ⟨q,hq⟩
  exact kq I (by rw [e]; exact True.intro) hs he (si hl hd (rel.put k rv) dd')
 ·subst ey eH
  cases (show u = Value.ref b from ry)
  obtain ⟨z,hd,xs,rel,dd⟩:=CJ I.hok e
  have hz : xs.length <= sizeLine:=by rw [<- Paired.length rel]; exact z
  have hl : (putK kvs k v).length <= sizeLine:=by have:=fh kvs k v; omega
  refine wpAny_setItem_heap (hsz:=hz) (tupleKind_room_in1 hu) (jr I.hok eb) dd fun h' dd' hs => h _ ?_
  obtain ⟨q,es,ep,hq,h2,h3,h4,_,h5⟩:=dd'
  refine kq I (by rw [e]; exact True.intro) hs ⟨q,hq⟩ ⟨hl,hd,_,(rel.put k eb rv).keeps fun c ys ec => ?_,q,es,ep,hq,h2,h3,h4,h5⟩
  rw [ae (aA ec e (fun z => nomatch z))]
  exact ec
end
section
variable {X : Cx} {pins : List (Addr × Obj)} {σ : St} {H : Hp} {s : Shared} {a : Addr} {kvs : List (Key × V)} {k : Key} {u : Value} {A : Around} {E : Value -> Shared -> Prop}
theorem G0 {v : V} {more : List Value} {Q : Value -> Shared -> Prop} (I : Inv X pins σ H s) (e : H a = some (.dK kvs)) (ry : RelV (kV k) u) (l : di kvs k = some v) (hm : more = [] \/ ∃ x,more = [x])
  (h : ∀ w' s',Inv X pins σ (upd H a (.dK (sj kvs k))) s' -> RelV v w' -> Q w' s') : wpAny (model X.prog X.w) A (call (.builtin "dict.pop") (.ref a :: u :: more)) Q E s:=by
 obtain ⟨z,hd,vs,rel,dd⟩:=AG I.hok e
 obtain ⟨w',hw,rw'⟩:=RelO.some_of (v:=v) (o:=valueAt vs k) (by rw [<- l]; exact rel.val k)
 have hp : (keyPart u).isSome = true:=by
  cases k with
  | inl i => obtain ⟨t,q⟩:=(show ∃ t,u = Value.int i t from ry); subst q; rfl
  | inr x => obtain ⟨t,q⟩:=(show ∃ t,u = Value.str x t from ry); subst q; rfl
 have ha : argsOk "dict.pop" ⟨.ref a :: u :: more,[]⟩:=by
  rcases hm with q | ⟨x,q⟩
  ·subst q; exact PySem.F.args_dict_pop_2 _ _
  ·subst q; exact PySem.F.args_dict_pop_3 _ _ _
 refine call_meetsIn PySem.F.slot_dict_pop dd.typeIs PySem.F.entry_dict_pop ha (meets_dict_pop_there (aP X.prog X.w) a (ka ry) more hm hp)
  ⟨vs,w',dd,by rw [<- rel.length]; exact z,hw,fun h' dd' hs => h w' _ ?_ rw'⟩
 have he : ∃ q,h'.get? a = some q:=let ⟨q,_,_,hq,_⟩:=dd'; ⟨q,hq⟩
 exact kq I (by rw [e]; exact True.intro) hs he (si (Nat.le_trans (CH kvs k) z) hd (rel.drop k) dd')
theorem GZ {Q : Value -> Shared -> Prop} (I : Inv X pins σ H s) (e : Rd H a (.dK kvs)) (h : ∀ t s',Inv X pins σ H s' -> Q (.int kvs.length t) s') : wpAny (model X.prog X.w) A (call (.builtin "len") [.ref a]) Q E s:=by
 obtain ⟨z,hd,vs,rel,dd⟩:=m8 I.hok e
 refine call_len_dict hd dd (by rw [<- rel.length]; rw [sizeLine_eq] at z; omega) ?_
 rw [<- rel.length]
 exact h _ _ (I.tok _)
end
def GS (i : Expr) : Prop := ∀ ov iv,subscripted i false ov iv = operate [ov,iv] (getItem ov iv)
theorem Fy {prog : Program} {w : World} {A : Around} {E : Value -> Shared -> Prop} {s : Shared} {env : Env} {value slice : Expr} {pos : Pos} {T id : String} {Q : Value -> Shared -> Prop}
  (hl : typeLookup (.type T) "__getitem__" = pure (some (.builtin id))) (hs : GS slice)
  (h : wpAny (model prog w) A (eval value env) (fun o s₁ => wpAny (model prog w) A (eval slice env) (fun i s₂ => s₂.TypeIs o T /\ wpAny (model prog w) A (getItem o i) Q E s₂) E s₁) E s) :
  wpAny (model prog w) A (eval (.Subscript value slice pos) env) Q E s:=by
 refine Subscript_ (wpAny_mono h (fun o s₁ h₁ => wpAny_mono h₁ (fun i s₂ h₂ => ?_) fun _ _ x => x) fun _ _ x => x)
 obtain ⟨hT,h₂⟩:=h₂
 unfold subscriptTail
 refine wpAny_bind ?_
 rw [getitemInPython_of_ne hT.not_modules]
 refine wpAny_bind (wpAny_specialOf hT hl ?_)
 have fin : wpAny (model prog w) A (subscripted slice false o i) (fun r s₃ => wpAny (model prog w) A (letTemporaryGo value o r >>= fun _ => pure r) Q E s₃) E s₂:=by
  rw [hs o i]
  exact wpAny_operating (wpAny_mono h₂ (fun r s₃ h₃ => wpAny_bind (wpAny_letTemporaryGo (wpAny_pure h₃))) fun _ _ x => x)
 first
  | exact wpAny_pure (wpAny_bind fin)
  | exact wpAny_bind (wpAny_pure (wpAny_bind fin))
  | exact wpAny_bind fin
theorem xR {X : Cx} {pins : List (Addr × Obj)} {σ : St} {H : Hp} {s : Shared} {a : Addr} {y : V} {o : Option V} (I : Inv X pins σ H s) (g : DGet H a y o) : s.TypeIs (.ref a) "dict" := by
 rcases g with ⟨kvs,k,e,_,_⟩ | ⟨kvs,k,b,e,_,_,_⟩
 ·obtain ⟨_,_,vs,_,dd⟩:=m8 I.hok e
  exact dd.typeIs
 ·obtain ⟨_,_,xs,_,dd⟩:=p8 I.hok e
  exact dd.typeIs
def Ht (td ty : TE) : TE:=fun σ H Q => td σ H fun x H1 => ty σ H1 fun y H2 => ∃ a v,x = .ref a /\ DGet H2 a y (some v) /\ Q v H2
def Ic (ty td : TE) : TE:=fun σ H Q => ty σ H fun y H1 => td σ H1 fun x H2 => ∃ a o,x = .ref a /\ DGet H2 a y o /\ Q (.bl o.isSome) H2
def Fz (ty td : TE) : TE:=fun σ H Q => ty σ H fun y H1 => td σ H1 fun x H2 => ∃ a o,x = .ref a /\ DGet H2 a y o /\ Q (.bl (!o.isSome)) H2
def Hq (td ty tv : TE) : TS:=fun D σ H => tv σ H fun v H1 => td σ H1 fun x H2 => ty σ H2 fun y H3 => ∃ a H4,x = .ref a /\ DPut H3 a y v H4 /\ D.nx σ H4
section
variable {X : Cx} {o i e value : Expr} {pos pos' tpos : Pos} {td ty tv : TE}
theorem AU (hu : X.A.units + 1 < cLine) (ho : PE X o td) (hi : PE X i ty) (hs : GS i) : PE X (.Subscript o i pos) (Ht td ty):=by
 intro pins s σ H Q I h
 refine Fy PySem.F.slot_dict_getitem.lookup hs (thn (ho pins s σ H _ I h) fun u s1 ⟨x,H1,I1,rx,q1⟩ => thn (hi pins s1 σ H1 _ I1 q1) fun iv s2 ⟨y,H2,I2,ry,a,v,ex,g,q2⟩ => ?_)
 subst ex
 obtain rfl : u = Value.ref a:=rx
 exact ⟨xR I2 g,Bj hu I2 g ry fun w' s3 I3 rw' => ⟨v,H2,I3,rw',q2⟩⟩
theorem Gv (hu : X.A.units + 1 < cLine) (hi : PE X i ty) (ho : PE X o td) : PC X .In i o (Ic ty td):=by
 intro pins s σ H Q I h
 refine thn (hi pins s σ H _ I h) fun iv s1 ⟨y,H1,I1,ry,q1⟩ => thn (ho pins s1 σ H1 _ I1 q1) fun u s2 ⟨x,H2,I2,rx,a,ov,ex,g,q2⟩ => ?_
 subst ex
 obtain rfl : u = Value.ref a:=rx
 exact HK hu I2 g ry fun s3 I3 => ⟨.bl ov.isSome,H2,I3,rfl,q2⟩
theorem vz (hu : X.A.units + 1 < cLine) (hi : PE X i ty) (ho : PE X o td) : PC X .NotIn i o (Fz ty td):=by
 intro pins s σ H Q I h
 refine thn (hi pins s σ H _ I h) fun iv s1 ⟨y,H1,I1,ry,q1⟩ => thn (ho pins s1 σ H1 _ I1 q1) fun u s2 ⟨x,H2,I2,rx,a,ov,ex,g,q2⟩ => ?_
 subst ex
 obtain rfl : u = Value.ref a:=rx
 exact EC hu I2 g ry fun s3 I3 => ⟨.bl (!ov.isSome),H2,I3,rfl,q2⟩
theorem nX (hu : X.A.units + 1 < cLine) (ho : PE X o td) (hi : PE X i ty) (hv : PE X value tv) (hs : swapsWith value (some (.Subscript o i pos')) pos.line X.env = pure false) :
  PS X (.Assign [.Subscript o i pos'] value pos) (Hq td ty tv):=by
 intro pins s σ H D I h
 refine wpAny_Assign_Subscript (thn (hv pins s σ H _ I h) fun r s1 ⟨v,H1,I1,rv,q1⟩ => thn (ho pins s1 σ H1 _ I1 q1) fun u s2 ⟨x,H2,I2,rx,q2⟩ => thn (hi pins s2 σ H2 _ I2 q2) fun iv s3 ⟨y,H3,I3,ry,a,H4,ex,g,q3⟩ => ?_) hs
 subst ex
 obtain rfl : u = Value.ref a:=rx
 exact Bk hu I3 g ry rv fun s4 I4 => ⟨σ,H4,I4,q3⟩
end
theorem xS {P : Program} {w : World} {H : Hp} (h : Heap) (hb : sysModules < h.objs.size) : ObjOk P w H (h.push { cls:=.type "dict",data:=.dict #[] }) h.objs.size (.dK []):=
 ⟨Nat.zero_le _,beq_eq_false_iff_ne.mpr (Ne.symm (Nat.ne_of_lt hb)),[],.nil,Heap.DictOf.new h⟩
theorem CI {P : Program} {w : World} {H : Hp} (h : Heap) (hb : sysModules < h.objs.size) : ObjOk P w H (h.push { cls:=.type "dict",data:=.dict #[] }) h.objs.size (.dT []):=
 ⟨Nat.zero_le _,beq_eq_false_iff_ne.mpr (Ne.symm (Nat.ne_of_lt hb)),[],.nil,_,#[],0,Heap.get?_push_size _ rfl,⟨rfl,rfl,rfl⟩,rfl,rfl,List.nodup_nil⟩
def GK : TE:=fun _ H Q => ∀ p,H p = none -> Q (.ref p) (upd H p (.dK []))
section
variable {X : Cx} {pos : Pos}
theorem ki : PE X (.Dict [] [] pos) GK:=fun pins s σ H Q I h =>
 wpAny_Dict_empty ⟨.ref s.heap.objs.size,_,I.laid (a:=s.heap.objs.size) (o:=.dK []) (t' := s.toks) (fun _ _ q => Heap.get?_push_of_some _ q) (Nat.le_refl _) (xS s.heap I.big),rfl,h _ (I.hok.fresh (Nat.le_refl _))⟩
end
def xx : List (TE × TE) -> St -> Hp -> (List (V × V) -> Hp -> Prop) -> Prop
 | [],_,H,Q => Q [] H
 | (tk,tv) :: r,σ,H,Q => tk σ H fun x H1 => tv σ H1 fun y H2 => xx r σ H2 fun ps H3 => Q ((x,y) :: ps) H3
abbrev VV : List (V × V) -> List (Value × Value) -> Prop:=Paired fun p q => RelV p.1 q.1 /\ RelV p.2 q.2
def PPs (X : Cx) (pos : Pos) (keys : List (Option Expr)) (values : List Expr) (trs : List (TE × TE)) : Prop:=
 ∀ (pins : List (Addr × Obj)) (s : Shared) (σ : St) (H : Hp) (Q : List (V × V) -> Hp -> Prop),Inv X pins σ H s -> xx trs σ H Q ->
  wpAny (model X.prog X.w) X.A (evalPairs (pairTrees keys values X.env pos)) (fun vs s' => ∃ ps H',Inv X pins σ H' s' /\ VV ps vs /\ Q ps H') X.xe s
theorem AV {X : Cx} {pos : Pos} : PPs X pos [] [] []:=fun pins s σ H Q I h => pairTrees_nil_walk ⟨[],H,I,.nil,h⟩
theorem yt {X : Cx} {pos : Pos} {k v : Expr} {ks : List (Option Expr)} {vs : List Expr} {tk tv : TE} {trs : List (TE × TE)} (hk : PE X k tk) (hv : PE X v tv) (hr : PPs X pos ks vs trs) :
  PPs X pos (some k :: ks) (v :: vs) ((tk,tv) :: trs):=fun pins s σ H Q I h =>
 pairTrees_cons_walk (thn (hk pins s σ H _ I h) fun u s1 ⟨x,H1,I1,rx,q1⟩ => thn (hv pins s1 σ H1 _ I1 q1) fun w2 s2 ⟨y,H2,I2,ry,q2⟩ =>
  thn (hr pins s2 σ H2 _ I2 q2) fun ws s3 ⟨ps,H3,I3,rel,q3⟩ => ⟨(x,y) :: ps,H3,I3,.cons ⟨rx,ry⟩ rel,q3⟩)
def cQ (kvs more : List (Key × V)) : List (Key × V):=more.foldl (fun acc kv => putK acc kv.1 kv.2) kvs
theorem KV.merge : ∀ {more : List (Key × V)} {rs : List (Key × Value)} {kvs : List (Key × V)} {vs : List (Key × Value)},KV more rs -> KV kvs vs -> KV (cQ kvs more) (merged vs rs):=by
 intro more rs kvs vs r
 unfold KV at r
 induction r generalizing kvs vs with
 | nil => intro q; exact q
 | @cons p q ps qs h t ih =>
  intro r0
  have e : KV (putK kvs p.1 p.2) (stored vs q.1 q.2):=by
   have:=r0.put p.1 h.2
   rw [<- h.1]; exact this
  exact ih e
theorem ij : ∀ (more kvs : List (Key × V)),(cQ kvs more).length <= kvs.length + more.length
 | [],kvs => by show kvs.length <= kvs.length + 0; omega
 | p :: r,kvs => by
  have h1:=ij r (putK kvs p.1 p.2)
  have h2:=fh kvs p.1 p.2
  show (cQ (putK kvs p.1 p.2) r).length <= _
  rw [List.length_cons]; omega
theorem rW {P : Program} {w : World} : ∀ {kvs : List (Key × V)} {ws : List (Value × Value)},VV (kvs.map fun kv => (kV kv.1,kv.2)) ws -> ∃ rs,Carries (aP P w) ws rs /\ KV kvs rs
 | [],_,r => by rw [List.map_nil] at r; cases r; exact ⟨[],True.intro,.nil⟩
 | p :: kvs,_,r => by
  rw [List.map_cons] at r
  cases r with
  | @cons a b as bs h t =>
   obtain ⟨rs,c,q⟩:=rW (P:=P) (w:=w) t
   obtain ⟨b1,b2⟩:=b
   exact ⟨(p.1,b2) :: rs,⟨ka h.1,rfl,c⟩,.cons ⟨rfl,h.2⟩ q⟩
def Hv (trs : List (TE × TE)) : TE:=fun σ H Q => ∀ p,H p = none -> xx trs σ (upd H p (.dK [])) fun ps H2 => H2 p = some (.dK []) /\ ∃ kvs : List (Key × V),ps = kvs.map (fun kv => (kV kv.1,kv.2)) /\ kvs.length <= 15 /\ Q (.ref p) (upd H2 p (.dK (cQ [] kvs)))
theorem Fc {X : Cx} {pos : Pos} {keys : List (Option Expr)} {values : List Expr} {trs : List (TE × TE)} (h : PPs X pos keys values trs) (hall : keys.all (·.isSome) = true) (hl : keys.length = values.length) (h0 : keys ≠ [])
  (h15 : keys.length <= 15) : PE X (.Dict keys values pos) (Hv trs):=by
 intro pins s σ H Q I q
 have hn:=I.hok.fresh (Nat.le_refl s.heap.objs.size)
 have I1:=I.laid (a:=s.heap.objs.size) (o:=.dK []) (h' := s.heap.push { cls:=.type "dict",data:=.dict #[] }) (t' := s.toks) (fun _ _ q => Heap.get?_push_of_some _ q) (Nat.le_refl _) (xS s.heap I.big)
 refine wpAny_Dict_walk (knd:=aP X.prog X.w) hall hl h0 h15 (thn (h pins _ σ _ _ I1 (q _ hn)) fun ws s2 ⟨ps,H2,I2,rel,e,kvs,ep,lk,q2⟩ => ?_)
 subst ep
 obtain ⟨rs,c,rk⟩:=rW (P:=X.prog) (w:=X.w) rel
 obtain ⟨z,hd,vs0,r0,dd⟩:=AG I2.hok e
 cases r0
 refine ⟨rs,c,dd,fun h' dd' hs => ⟨.ref s.heap.objs.size,_,?_,rfl,q2⟩⟩
 have hz : (cQ [] kvs).length <= sizeLine:=by
  have h1:=ij kvs []
  rw [List.length_nil] at h1
  rw [sizeLine_eq]; omega
 have he : ∃ q,h'.get? s.heap.objs.size = some q:=let ⟨q,_,_,hq,_⟩:=dd'; ⟨q,hq⟩
 exact kq I2 (by rw [e]; exact True.intro) hs he (si hz hd (rk.merge .nil) dd')
structure M1 (X : Cx) (o : Expr) (m : Str) (apos : Pos) (e : Expr) (cpos : Pos) : Prop where
 base : attributeBase o m X.env (eval o X.env) = eval o X.env
 few : ((backTo cpos (starEach [e] X.env)).all (fun x => !x.1) && (backToKw cpos (keywordEach [] X.env)).all (fun x => x.1.isSome)
  && decide (([e] : List Expr).length + ([] : List Keyword).length + (if ([] : List Keyword).isEmpty then 0 else 1) < 30)) = true
 line : (apos.endLine == cpos.line) = true
 trees : backTo cpos (starEach [e] X.env) = [(false,eval e X.env)]
structure M2 (X : Cx) (o : Expr) (m : Str) (apos : Pos) (e f : Expr) (cpos : Pos) : Prop where
 base : attributeBase o m X.env (eval o X.env) = eval o X.env
 few : ((backTo cpos (starEach [e,f] X.env)).all (fun x => !x.1) && (backToKw cpos (keywordEach [] X.env)).all (fun x => x.1.isSome)
  && decide (([e,f] : List Expr).length + ([] : List Keyword).length + (if ([] : List Keyword).isEmpty then 0 else 1) < 30)) = true
 line : (apos.endLine == cpos.line) = true
 trees : backTo cpos (starEach [e,f] X.env) = [(false,eval e X.env),(false,eval f X.env)]
def IsD (H : Hp) (a : Addr) : Prop:=(∃ kvs,Rd H a (.dK kvs)) \/ ∃ kvs,Rd H a (.dT kvs)
theorem wg {X : Cx} {pins : List (Addr × Obj)} {σ : St} {H : Hp} {s : Shared} {a : Addr} (I : Inv X pins σ H s) (d : IsD H a) :
  s.TypeIs (.ref a) "dict" /\ (∀ b,Value.ref a = .ref b -> ∃ ob,s.heap.get? b = some ob /\ ob.dict = none) /\ (a == sysModules) = false:=by
 rcases d with ⟨kvs,e⟩ | ⟨kvs,e⟩
 ·obtain ⟨_,hd,vs,_,dd⟩:=m8 I.hok e
  refine ⟨dd.typeIs,fun b q => ?_,hd⟩
  cases q
  obtain ⟨ob,_,_,h1,h2,_⟩:=dd
  exact ⟨ob,h1,h2.2.1⟩
 ·obtain ⟨_,hd,xs,_,dd⟩:=p8 I.hok e
  refine ⟨dd.typeIs,fun b q => ?_,hd⟩
  cases q
  obtain ⟨ob,_,_,h1,h2,_⟩:=dd
  exact ⟨ob,h1,h2.2.1⟩
section
variable {X : Cx} {pins : List (Addr × Obj)} {σ : St} {H : Hp} {s : Shared} {a : Addr} {y d : V} {u r : Value} {o : Option V} {A : Around} {E : Value -> Shared -> Prop}
theorem F7 {Q : Value -> Shared -> Prop} (hu : A.units + 1 < cLine) (I : Inv X pins σ H s) (g : DGet H a y o) (ry : RelV y u) (h : ∀ w' s',Inv X pins σ H s' -> RelV (o.getD .non) w' -> Q w' s') :
  wpAny (model X.prog X.w) A (call (.builtin "dict.get") [.ref a,u]) Q E s:=by
 rcases g with ⟨kvs,k,e,ey,l⟩ | ⟨kvs,k,b,e,ey,eb,l⟩
 ·subst ey
  obtain ⟨z,hd,vs,rel,dd⟩:=m8 I.hok e
  refine call_meetsIn PySem.F.slot_dict_get dd.typeIs PySem.F.entry_dict_get (PySem.F.args_dict_get_2 _ _) (meets_dict_get (aP X.prog X.w) a (ka ry) hd) ⟨_,dd.mapOf,h _ _ (I.tok _) ?_⟩
  rw [l]
  exact (rel.val k).getD rfl
 ·subst ey
  cases (show u = Value.ref b from ry)
  obtain ⟨z,hd,xs,rel,dd⟩:=p8 I.hok e
  refine call_meetsIn PySem.F.slot_dict_get dd.typeIs PySem.F.entry_dict_get (PySem.F.args_dict_get_2 _ _) (meetsH_dict_get (tupleKind (aP X.prog X.w)) a b hd) ⟨tupleKind_room_in1 hu,k,xs,jr I.hok eb,dd,h _ _ (I.tok _) ?_⟩
  rw [l]
  exact (rel.val k).getD rfl
theorem F8 {Q : Value -> Shared -> Prop} (hu : A.units + 1 < cLine) (I : Inv X pins σ H s) (g : DGet H a y o) (ry : RelV y u) (rd : RelV d r) (h : ∀ w' s',Inv X pins σ H s' -> RelV (o.getD d) w' -> Q w' s') :
  wpAny (model X.prog X.w) A (call (.builtin "dict.get") [.ref a,u,r]) Q E s:=by
 rcases g with ⟨kvs,k,e,ey,l⟩ | ⟨kvs,k,b,e,ey,eb,l⟩
 ·subst ey
  obtain ⟨z,hd,vs,rel,dd⟩:=m8 I.hok e
  refine call_meetsIn PySem.F.slot_dict_get dd.typeIs PySem.F.entry_dict_get (PySem.F.args_dict_get_3 _ _ _) (meets_dict_get_default (aP X.prog X.w) a (ka ry) hd r) ⟨_,dd.mapOf,h _ _ (I.tok _) ?_⟩
  rw [l]
  exact (rel.val k).getD rd
 ·subst ey
  cases (show u = Value.ref b from ry)
  obtain ⟨z,hd,xs,rel,dd⟩:=p8 I.hok e
  refine call_meetsIn PySem.F.slot_dict_get dd.typeIs PySem.F.entry_dict_get (PySem.F.args_dict_get_3 _ _ _) (meetsH_dict_get_default (tupleKind (aP X.prog X.w)) a b hd r) ⟨tupleKind_room_in1 hu,k,xs,jr I.hok eb,dd,h _ _ (I.tok _) ?_⟩
  rw [l]
  exact (rel.val k).getD rd
end
def GI (td ty : TE) : TE:=fun σ H Q => td σ H fun x H1 => ∃ a,x = .ref a /\ IsD H1 a /\ ty σ H1 fun y H2 => ∃ o,DGet H2 a y o /\ Q (o.getD .non) H2
def GJ (td ty tx : TE) : TE:=fun σ H Q => td σ H fun x H1 => ∃ a,x = .ref a /\ IsD H1 a /\ ty σ H1 fun y H2 => tx σ H2 fun z H3 => ∃ o,DGet H3 a y o /\ Q (o.getD z) H3
def GL (td ty : TE) : TE:=fun σ H Q => td σ H fun x H1 => ∃ a,x = .ref a /\ IsD H1 a /\ ty σ H1 fun y H2 => ∃ kvs k v,H2 a = some (.dK kvs) /\ y = kV k /\ di kvs k = some v /\ Q v (upd H2 a (.dK (sj kvs k)))
section
variable {X : Cx} {o e f : Expr} {apos cpos : Pos} {td ty tx : TE}
theorem DB (hu : X.A.units + 1 < cLine) (ho : PE X o td) (he : PE X e ty) (m : M1 X o "get" apos e cpos) : PE X (.Call (.Attribute o "get" apos) [e] [] cpos) (GI td ty):=by
 intro pins s σ H Q I h
 refine wpAny_Call_method m.base m.few m.line PySem.F.plainAttrs_dict PySem.F.slot_dict_get PySem.F.type_dict_get (thn (ho pins s σ H _ I h) fun u s1 ⟨x,H1,I1,rx,a,ex,d,q1⟩ => ?_)
 subst ex
 obtain rfl : u = Value.ref a:=rx
 obtain ⟨t1,t2,_⟩:=wg I1 d
 refine ⟨t1,t2,?_⟩
 rw [m.trees]
 refine Calls.callWith_builtin rfl (Calls.evalArgs_plain (Calls.spliced_cons (thn (he pins s1 σ H1 _ I1 q1) fun iv s2 ⟨y,H2,I2,ry,ov,g,q2⟩ => Calls.spliced_nil ?_)))
 exact F7 hu I2 g ry fun w' s3 I3 rw' => ⟨_,H2,I3,rw',q2⟩
theorem DC (hu : X.A.units + 1 < cLine) (ho : PE X o td) (he : PE X e ty) (hf : PE X f tx) (m : M2 X o "get" apos e f cpos) : PE X (.Call (.Attribute o "get" apos) [e,f] [] cpos) (GJ td ty tx):=by
 intro pins s σ H Q I h
 refine wpAny_Call_method m.base m.few m.line PySem.F.plainAttrs_dict PySem.F.slot_dict_get PySem.F.type_dict_get (thn (ho pins s σ H _ I h) fun u s1 ⟨x,H1,I1,rx,a,ex,d,q1⟩ => ?_)
 subst ex
 obtain rfl : u = Value.ref a:=rx
 obtain ⟨t1,t2,_⟩:=wg I1 d
 refine ⟨t1,t2,?_⟩
 rw [m.trees]
 refine Calls.callWith_builtin rfl (Calls.evalArgs_plain (Calls.spliced_cons (thn (he pins s1 σ H1 _ I1 q1) fun iv s2 ⟨y,H2,I2,ry,q2⟩ =>
  Calls.spliced_cons (thn (hf pins s2 σ H2 _ I2 q2) fun fv s3 ⟨z,H3,I3,rz,ov,g,q3⟩ => Calls.spliced_nil ?_))))
 exact F8 hu I3 g ry rz fun w' s4 I4 rw' => ⟨_,H3,I4,rw',q3⟩
theorem yq (ho : PE X o td) (he : PE X e ty) (m : M1 X o "pop" apos e cpos) : PE X (.Call (.Attribute o "pop" apos) [e] [] cpos) (GL td ty):=by
 intro pins s σ H Q I h
 refine wpAny_Call_method m.base m.few m.line PySem.F.plainAttrs_dict PySem.F.slot_dict_pop PySem.F.type_dict_pop (thn (ho pins s σ H _ I h) fun u s1 ⟨x,H1,I1,rx,a,ex,d,q1⟩ => ?_)
 subst ex
 obtain rfl : u = Value.ref a:=rx
 obtain ⟨t1,t2,_⟩:=wg I1 d
 refine ⟨t1,t2,?_⟩
 rw [m.trees]
 refine Calls.callWith_builtin rfl (Calls.evalArgs_plain (Calls.spliced_cons (thn (he pins s1 σ H1 _ I1 q1) fun iv s2 ⟨y,H2,I2,ry,kvs,k,v,ea,ey,l,q2⟩ => Calls.spliced_nil ?_)))
 subst ey
 exact G0 I2 ea ry l (.inl rfl) fun w' s3 I3 rw' => ⟨v,_,I3,rw',q2⟩
end
section
variable {X : Cx} {pins : List (Addr × Obj)} {σ : St} {H : Hp} {s : Shared} {a : Addr} {kvs : List (Key × V)} {A : Around} {E : Value -> Shared -> Prop}
end
section
variable {X : Cx} {pins : List (Addr × Obj)} {σ : St} {H : Hp} {s : Shared} {a : Addr} {y : V} {u : Value} {A : Around} {E : Value -> Shared -> Prop}
end
end L2
namespace L2
open PySem PySem.Spec PyProof.Rows
section
variable {κ : Type} [DecidableEq κ]
theorem nF : ∀ {l : List κ} {k : κ},l.Nodup -> ¬ k ∈ l -> (l ++ [k]).Nodup
 | [],k,_,_ => by simp
 | a :: r,k,h,hk => by
  obtain ⟨h1,h2⟩:=List.nodup_cons.mp h
  show (a :: (r ++ [k])).Nodup
  refine List.nodup_cons.mpr ⟨fun m => ?_,nF h2 fun m => hk (List.mem_cons.mpr (Or.inr m))⟩
  rcases List.mem_append.mp m with q | q
  ·exact h1 q
  ·exact hk (List.mem_cons.mpr (Or.inl (List.mem_singleton.mp q).symm))
end
end L2
set_option Elab.async false
set_option linter.all false
set_option maxRecDepth 100000
namespace PySem
open Sem (wp)
open Builtin
end PySem
namespace L2
open PySem PySem.Spec PyProof.Rows
section
variable {X : Cx}
end
inductive Pl (H : Hp) : V -> Prop where
 | non : Pl H .non
 | bl (b : Bool) : Pl H (.bl b)
 | int (i : Int) : Pl H (.int i)
 | str (x : Str) : Pl H (.str x)
 | lst {a : Addr} {xs : List V} (e : H a = some (.lst xs)) : Pl H (.ref a)
 | tup {a : Addr} {xs : List V} (e : H a = some (.tup xs)) : Pl H (.ref a)
 | dK {a : Addr} {kvs : List (Key × V)} (e : H a = some (.dK kvs)) : Pl H (.ref a)
structure PEW (X : Cx) (e : Expr) (t : TE) : Prop where
 out : PE X e t
structure PAW (X : Cx) (es : List Expr) (t : TA) : Prop where
 out : PA X es t
structure PTW (X : Cx) (e : Expr) (t : TT) : Prop where
 out : PT X e t
structure PSW (X : Cx) (s : Stmt) (t : TS) : Prop where
 out : PS X s t
structure PSsW (X : Cx) (s : List Stmt) (t : TS) : Prop where
 out : PSs X s t
section
variable {X : Cx} {a b e : Expr} {es : List Expr} {ta tb te : TE} {t : TA} {pos : Pos}
theorem GQ : PAW X [] FA:=⟨af⟩
theorem xD (ha : PEW X e te) (hr : PAW X es t) (hs : starEach (e :: es) X.env = (false,eval e X.env) :: starEach es X.env:=by rfl) : PAW X (e :: es) (FU te t):=⟨aa ha.out hr.out hs⟩
theorem HE {x1} (h : PAW X es t) : PEW X (.Tuple es x1 pos) (HB t):=⟨eD h.out⟩
variable {st : Stmt} {rest : List Stmt} {ts us : TS}
theorem bF (h1 : PSW X st ts) (h2 : PSsW X rest us) : PSsW X (st :: rest) (Cf ts us):=⟨ah h1.out h2.out⟩
theorem Ar (h1 : PSW X st ts) : PSsW X [st] ts:=⟨au h1.out⟩
theorem HD (he : PEW X e te) : PSW X (.Return (some e) pos) (Hz te):=⟨aM he.out⟩
theorem yS {b : List Stmt} {R : TS -> Prop} (h : PSsW X b ts) (r : R ts) : ∃ t,PSs X b t /\ R t:=⟨ts,h.out,r⟩
end
end L2
set_option Elab.async false
set_option linter.all false
set_option maxRecDepth 100000
namespace L2
open PySem PySem.Spec PyProof.Rows
def CX1 (P : Program) (w : World) : CXT:=fun outer H s E e s' => ∃ (ea t C : Addr) (B : Heap) (H' : Hp),e = .ref ea /\ s'.os = s.os /\ AllBare s'.gens /\ Un (frs outer) [] H H' s.heap s'.heap /\ HOk P w H' B /\
 Heap.FlyingW B outer ea (.ref C) (.ref t) s'.heap /\ (∀ b o,s.heap.get? b = some o -> b ∉ frs outer -> ∃ o',B.get? b = some o') /\ H' ea = none /\ E (.ref C) none H'
section
variable {P : Program} {w : World} {K : PySem.W.Frag} {mg : Str -> Option Value} {base : Heap} {N : List Str} {qual : Str} {scope : Scope} {f : Addr} {cd : Value} {A : Around} {outer : List Env} {s : Shared} {H : Hp} {E : XK}
end
end L2
set_option Elab.async false
set_option linter.all false
set_option maxRecDepth 100000
namespace L2
open PySem PySem.Spec PyProof.Rows
section
variable {X : Cx} {x : Str} {j k : Nat} {ps : List Str} {dvs : List V} {sp : Sp} {p pos cpos : Pos} {e : Expr} {es : List Expr} {t : TA} {C : Addr} {E : XK}
end
structure DefX (P : Program) (w : World) (K : PySem.W.Frag) (mg : Str -> Option Value) (base : Heap) (x : Str) (k : Nat) (ps : List Str) (dvs : List V) (sp : Sp) : Prop where
 ex : ∃ (f : Addr) (fd : FuncData) (ds : List Value),mg x = some (.ref f) /\ PySem.W.keepIn K (.ref f) = true /\ Vals dvs ds /\ Binds K fd ps ds /\ FnOk P w K mg base (CX1 P w) k f fd ps sp
section
variable {X : Cx} {x : Str} {j k : Nat} {ps : List Str} {dvs : List V} {sp : Sp} {p pos : Pos} {e : Expr} {es : List Expr} {t : TA} {E : XK}
end
section
variable {P : Program} {w : World} {K : PySem.W.Frag} {mg : Str -> Option Value} {base : Heap}
end
section
variable {X : Cx} {e v1 v2 : Expr} {es rest : List Expr} {pos : Pos} {te : TE} {n : Nat}
abbrev TF:=St -> Hp -> (Str -> Hp -> Prop) -> Prop
end
end L2
set_option Elab.async false
set_option linter.all false
set_option maxRecDepth 100000
namespace L2
open PySem PySem.Spec PySem.W PySem.Builtin PySem.Builtin.Getset_descriptor
structure XCls (K : PySem.W.Frag) (C : Addr) : Prop where
 ga : findIn K (.ref C) "__getattribute__" = some (some (.builtin "BaseException.__getattribute__"))
 gt : findIn K (.ref C) "__getattr__" = some none
 cl : findIn K (.ref C) "__class__" = some (some (.builtin "object.__class__"))
 gg : specialIn K (.builtin "object.__class__") "__get__" = some (some (.builtin "getset_descriptor.__get__"))
 tk : takesIn K (.builtin "object.__class__") = some true
 ob : mroIn K C (.type "object") = some true
 be : mroIn K C (.type "BaseException") = some true
 ci : (clsIn K C).isSome = true
section
variable {prog : Program} {w : World} {A : Around} {E : Value -> Shared -> Prop} {s : Shared} {K : PySem.W.Frag} {ea C : Addr} {ob : Obj}
end
end L2
set_option Elab.async false
set_option linter.all false
set_option maxRecDepth 100000
namespace L2
open PySem PySem.Spec PyProof.Rows
section
variable {X : Cx} {pins : List (Addr × Obj)} {σ : St} {H : Hp} {s : Shared} {E : XK} {ea : Addr}
abbrev TX:=Ends -> XK -> St -> Hp -> Prop
end
section
variable {X : Cx} {x : Str} {j k : Nat} {ps : List Str} {dvs : List V} {sp : Sp} {p pos : Pos} {e : Expr} {es : List Expr} {t : TA} {E : XK}
end
section
variable {P : Program} {w : World} {fs : List Addr} {H H1 : Hp} {h h1 : Heap} {ea C : Addr} {o : HO}
end
section
variable {X : Cx} {pins : List (Addr × Obj)} {σ : St} {H : Hp} {s : Shared} {E : XK}
end
section
variable {X : Cx} {pins : List (Addr × Obj)} {σ : St} {H : Hp} {s s' : Shared} {E : XK} {C F : Addr} {i : Nat} {x n : Str} {np pos hpos : Pos} {body : List Stmt} {b₀ : Stmt} {suite : List Stmt} {tb : TX} {ts : TS}
end
end L2
set_option Elab.async false
set_option linter.all false
set_option maxRecDepth 100000
namespace L2
open PySem PySem.Spec PyProof.Rows
structure RoomH (k : Nat) (A : Around) : Prop where
 dp : A.depth + 3 * k + 5 < recursionLimit
 un : A.units + 16 * k + 200 < cLine
structure FnOkH (P : Program) (w : World) (K : PySem.W.Frag) (mg : Str -> Option Value) (base : Heap) (CX : CXT) (k : Nat) (f : Addr) (fd : FuncData) (ps : List Str) (sp : Sp) : Prop where
 len : ∀ vs H Q E,sp vs H Q E -> vs.length = ps.length
 run : ∀ (A : Around) (outer : List Env) (s : Shared) (H : Hp) (args : Args) (us : List Value) (vs : List V) (Q : VK) (E : XK),RoomH k A -> Env0 P w K mg base A outer s H -> BindsTo s fd args (ps.zip us) -> Vals vs us -> sp vs H Q E ->
  codeAny (model P w) A (.call (.ref f) args) (CR CX outer P w H s Q E) s
structure DefH (P : Program) (w : World) (K : PySem.W.Frag) (mg : Str -> Option Value) (base : Heap) (x : Str) (k : Nat) (ps : List Str) (dvs : List V) (sp : Sp) : Prop where
 ex : ∃ (f : Addr) (fd : FuncData) (ds : List Value),mg x = some (.ref f) /\ PySem.W.keepIn K (.ref f) = true /\ Vals dvs ds /\ Binds K fd ps ds /\ FnOkH P w K mg base CX0 k f fd ps sp
section
variable {P : Program} {w : World} {K : PySem.W.Frag} {mg : Str -> Option Value} {base : Heap}
end
section
variable {X : Cx} {x : Str} {j k : Nat} {ps : List Str} {dvs : List V} {sp : Sp} {p pos : Pos} {e : Expr} {es : List Expr} {t : TA}
end
section
variable {X : Cx}
end
end L2
set_option Elab.async false
set_option linter.all false
set_option maxRecDepth 100000
namespace L2
open PySem PySem.Spec PyProof.Rows
section
variable {X : Cx}
end
end L2
set_option Elab.async false
set_option linter.all false
set_option maxRecDepth 100000
namespace L2
open PySem PySem.Spec PyProof.Rows
theorem BH : typeLookup (.type "list_reverseiterator") "__len__" = pure none:=by rw [typeLookup_type,builtinLookup_eq_fast]; kernel_rfl
theorem C6 : typeLookup (.type "list_reverseiterator") "__length_hint__" = pure (some (.builtin "list_reverseiterator.__length_hint__")):=by rw [typeLookup_type,builtinLookup_eq_fast]; kernel_rfl
section
variable {prog : Program} {w : World} {A : Around} {E : Value -> Shared -> Prop} {s : Shared} {it l S : Addr} {items : Array Value}
theorem CQ {Q : Bool -> Shared -> Prop} (hT : s.TypeIs (.ref it) "list_reverseiterator") (h : Q false s) : wpAny (model prog w) A (Builtin.List.listLengthHint (.ref it)) Q E s:=by
 unfold Builtin.List.listLengthHint
 refine wpAny_bind (wpAny_specialOf hT BH ?_)
 dsimp only
 refine wpAny_ite_split (fun z => absurd z (by decide)) (fun _ => ?_)
 refine wpAny_ite_split (fun z => absurd z (by decide)) (fun _ => ?_)
 refine wpAny_bind (wpAny_specialOf hT C6 ?_)
 generalize hid : ("list_reverseiterator.__length_hint__" : String) = id0
 wp_delta
 rw [show splitId id0 = some ("list_reverseiterator","__length_hint__") from by subst hid; decide +kernel]
 subst hid
 refine wpAny_bind (wpAny_isInstance (T := "list_reverseiterator") (b:=true) hT (by rw [isSubtype_type]; kernel_rfl) ?_)
 refine wpAny_ite_split (fun z => absurd z (by decide)) (fun _ => ?_)
 refine wpAny_ite_split (fun _ => ?_) (fun z => absurd (by decide +kernel) z)
 refine wpAny_ite_split (fun z => absurd z (by decide +kernel)) (fun _ => ?_)
 exact wpAny_pure h
abbrev F0 (items : Array Value) : Nat -> Value -> Prop:=fun i v => items[items.size - 1 - i]? = some v
theorem z6 {R : Result -> Shared -> Prop} (hh : A.handled = none) (hit : s.heap.IsRevIter it l ((items.size : Int) - 1)) (hl : s.heap.IsList l items) (hne : l ≠ it) (n1 : S ≠ it) (n2 : S ≠ l) (res : Value) (c₀ : Nat) (hS : s.heap.get? S = some { cls:=.type "list",data:=.seq #[] c₀ })
  (hR : ∀ h' tk acc' c',(∀ b o,b ≠ S -> b ≠ it -> s.heap.get? b = some o -> h'.get? b = some o) -> h'.get? S = some { cls:=.type "list",dict:=none,data:=.seq acc' c',slots := #[] } -> ItemsOf (F0 items) acc' items.size -> R (.ok (.ret res)) { s with heap:=h',toks:=tk }) (hn : items.size <= sizeLine) :
  wpAny (model prog w) A.in1 (Builtin.List.listExtendWith (.ref S) (.ref it) res)
   (fun fin s' => match fin with | .done f => R (.ok f) s' | .again c' => c'.quiet = true /\ codeAny (model prog w) A c' R s') (fun e s' => R (.error e) s') s:=by
 have hT : s.TypeIs (.ref it) "list_reverseiterator" := hit.typeIs
 have W:=PySem.Walks.listRev (prog:=prog) (w:=w) (A:=A.in1) hh it l hne items
 have nf : S ∉ [it,l]:=by simp only [List.mem_cons,List.not_mem_nil,or_false,not_or]; exact ⟨n1,n2⟩
 have key : ∀ (h : Heap) (c₁ tk : Nat),h.IsRevIter it l ((items.size : Int) - 1) -> h.IsList l items -> (∀ b o,b ≠ S -> b ≠ it -> s.heap.get? b = some o -> h.get? b = some o) ->
   h.get? S = some { cls:=.type "list",data:=.seq #[] c₁ } -> codeAny (model prog w) A (.builtin "list.extend.loop" ⟨[.ref S,.ref it,res],[]⟩) R { s with heap:=h,toks:=tk }:=by
  intro h c₁ tk i1 i2 hk e
  refine codeAny_extend_loopS W.toS hn S nf res items.size 0 _ #[] c₁ rfl (Nat.zero_le _) ⟨Nat.zero_le _,by simpa using i1,i2⟩ e (ItemsOf.nil _) fun s' acc' c' hm hS' hacc => ?_
  rw [Moved.eq_with hm]
  refine hR s'.heap s'.toks acc' c' (fun b o nb ni q => hm.heap b o (fun z => ?_) (hk b o nb ni q)) hS' hacc
  rcases List.mem_cons.mp z with z | z
  ·exact nb z
  ·exact ni (List.mem_singleton.mp z)
 unfold Builtin.List.listExtendWith
 refine wpAny_bind (wpAny_typeOf (T := "list_reverseiterator") hT ?_)
 have sr : Builtin.List.listSameRef (.ref S) (.ref it) = false:=by simp [Builtin.List.listSameRef,n1]
 have t1 : (Value.type "list_reverseiterator" == Value.type "list") = false:=by decide
 have t2 : (Value.type "list_reverseiterator" == Value.type "tuple") = false:=by decide
 simp only [sr,t1,t2,Bool.or_false,Bool.false_eq_true,if_false]
 refine wpAny_bind (wpAny_pyIter_revIter hit ?_)
 refine wpAny_bind (wpAny_holding (CQ hT ?_))
 refine wpAny_ite_split (fun _ => ?_) (fun _ => wpAny_pure ⟨plainId_quiet PySem.F.plain_extend_loop _,key _ c₀ _ hit hl (fun _ _ _ _ q => q) hS⟩)
 refine wpAny_bind (wpAny_rule ?_)
 refine wpAny_bind ?_
 show wpAny _ _ (updateSeq S (·.push .none) >>= fun _ => updateSeq S (·.pop)) _ _ _
 refine wpAny_bind (wpAny_updateSeq hS rfl ?_)
 have u1:=Heap.get?_update_self (Obj.mapSeq (·.push Value.none)) hS rfl
 refine wpAny_updateSeq (hz:=by seq_fits) u1 rfl ?_
 have u2:=Heap.get?_update_self (Obj.mapSeq (·.pop)) u1 rfl
 have oth : ∀ b o,b ≠ S -> s.heap.get? b = some o -> ((s.heap.update S (Obj.mapSeq (·.push Value.none))).update S (Obj.mapSeq (·.pop))).get? b = some o:=fun b o nb q =>
  (Heap.get?_update_other _ _ (Ne.symm nb)).trans ((Heap.get?_update_other _ _ (Ne.symm nb)).trans q)
 exact wpAny_pure ⟨plainId_quiet PySem.F.plain_extend_loop _,key _ _ _ (hit.at fun o q => oth _ o (Ne.symm n1) q) (hl.at fun o q => oth _ o (Ne.symm n2) q) (fun b o nb _ q => oth b o nb q) u2⟩
theorem D8 {Q : Value -> Shared -> Prop} (hh : A.handled = none) (hit : s.heap.IsRevIter it l ((items.size : Int) - 1)) (hl : s.heap.IsList l items) (hne : l ≠ it) (i1 : it < s.heap.objs.size) (i2 : l < s.heap.objs.size) (hn : items.size <= sizeLine)
  (hQ : ∀ h' tk acc' c',(∀ b o,b ≠ it -> s.heap.get? b = some o -> h'.get? b = some o) -> h'.get? s.heap.objs.size = some { cls:=.type "list",dict:=none,data:=.seq acc' c',slots := #[] } -> ItemsOf (F0 items) acc' items.size -> Q (.ref s.heap.objs.size) { s with heap:=h',toks:=tk }) :
  wpAny (model prog w) A (call (.type "list") [.ref it]) Q E s:=by
 refine callType_codes (Q₁:=fun obj s₁ => obj = .ref s.heap.objs.size /\ s₁ = { s with heap:=s.heap.push { cls:=.type "list",data:=.seq #[] } }) PySem.F.called_list (PySem.F.typeCall_list_1 _) PySem.F.entry_list_init
  (code_list_new _ ⟨rfl,rfl⟩) fun obj s₁ z => ?_
 obtain ⟨rfl,rfl⟩:=z
 have p0 : (s.heap.push { cls:=.type "list",data:=.seq #[] }).get? s.heap.objs.size = some { cls:=.type "list",data:=.seq #[] }:=Heap.get?_push_size _ rfl
 have a1 : s.heap.objs.size ≠ it:=Nat.ne_of_gt i1
 have a2 : s.heap.objs.size ≠ l:=Nat.ne_of_gt i2
 refine ⟨⟨_,p0,rfl⟩,PySem.F.args_list_init_2 _ _,?_⟩
 show wpAny _ _ (do let old <- Builtin.List.listItems (.ref s.heap.objs.size); Builtin.List.listUpdate (.ref s.heap.objs.size) (fun _ => #[]); letGo old.toList.reverse; Builtin.List.listExtendWith (.ref s.heap.objs.size) (.ref it) .none) _ _ _
 refine wpAny_bind ?_
 unfold Builtin.List.listItems
 refine wpAny_bind (wpAny_seqItems p0 rfl (wpAny_pure ?_))
 show wpAny _ _ (updateSeq s.heap.objs.size (fun _ => #[]) >>= fun _ => letGo (#[] : Array Value).toList.reverse >>= fun _ => Builtin.List.listExtendWith (.ref s.heap.objs.size) (.ref it) .none) _ _ _
 refine wpAny_bind (wpAny_updateSeq p0 rfl ?_)
 have p1:=Heap.get?_update_self (Obj.mapSeq (fun _ => (#[] : Array Value))) p0 rfl
 have oth : ∀ b o,s.heap.get? b = some o -> ((s.heap.push { cls:=.type "list",data:=.seq #[] }).update s.heap.objs.size (Obj.mapSeq (fun _ => (#[] : Array Value)))).get? b = some o:=fun b o q =>
  (Heap.get?_update_other _ _ (Nat.ne_of_gt (Heap.lt_size q))).trans (Heap.get?_push_of_some _ q)
 refine wpAny_bind (wpAny_letGo ?_)
 refine z6 (A:=A.in1) hh (hit.at fun o q => oth _ o q) (hl.at fun o q => oth _ o q) hne a1 a2 .none _ p1 (fun h' tk acc' c' hk hS' hacc => ?_) hn
 exact ⟨rfl,hQ h' tk acc' c' (fun b o ni q => hk b o (Nat.ne_of_lt (Heap.lt_size q)) ni (oth b o q)) hS' hacc⟩
end
theorem BB {items acc : Array Value} (h : ItemsOf (F0 items) acc items.size) : acc.toList = items.toList.reverse:=by
 refine List.ext_getElem? fun j => ?_
 by_cases hj : j < items.size
 ·have ha : j < acc.size:=by rw [h.1]; exact hj
  have e:=h.2 j acc[j] (Array.getElem?_eq_getElem ha)
  rw [Array.getElem?_toList,Array.getElem?_eq_getElem ha,List.getElem?_reverse (by simpa using hj)]
  rw [Array.length_toList,Array.getElem?_toList]
  exact e.symm
 ·rw [List.getElem?_eq_none (by rw [Array.length_toList,h.1]; omega),List.getElem?_eq_none (by rw [List.length_reverse,Array.length_toList]; omega)]
theorem Vals.rev {xs : List V} {us : List Value} (r : Vals xs us) : Vals xs.reverse us.reverse:=by
 induction r with
 | nil => exact .nil
 | cons a t ih =>
  rw [List.reverse_cons,List.reverse_cons]
  exact ih.append (.cons a .nil)
section
variable {X : Cx} {a : Expr} {ta : TA} {p p2 pos pos2 : Pos}
def Eh (K : PySem.W.Frag) (ta : TA) : TE:=fun σ H Q => ta σ H fun vs H1 => ∃ l xs,vs = [.ref l] /\ SqL K H1 l xs /\ ∀ n,H1 n = none -> Q (.ref n) (upd H1 n (.lst xs.reverse))
theorem zS (hc : X.calm = true) (hgl : Gl X "list") (hml : X.mg "list" = none) (hg : Gl X "reversed") (hm : X.mg "reversed" = none) (ha : PA X [a] ta)
  (hs : starEach [a] X.env = [(false,eval a X.env)]:=by rfl) (hs2 : starEach [.Call (.Name "reversed" p2) [a] [] pos2] X.env = [(false,eval (.Call (.Name "reversed" p2) [a] [] pos2) X.env)]:=by rfl) :
  PE X (.Call (.Name "list" p) [.Call (.Name "reversed" p2) [a] [] pos2] [] pos) (Eh X.K ta):=by
 intro pins s σ H Q I h
 refine wpAny_Call_Name_kw (gT I hgl hml mT ?_)
 refine PyProof.Rows.callWith_type1 ?_ hs2 rfl
 rw [hs2]
 refine Calls.spliced_cons ?_
 refine Call_ (gT I hg hm p5 (PyProof.Rows.callWith_type1 (thn (ha pos2 pins s σ H _ I h) fun us s1 ⟨vs,H1,I1,r1,q1⟩ => ?_) hs rfl))
 obtain ⟨l,xs,e,hq,q⟩:=q1
 subst e
 cases r1 with
 | cons r rr =>
  cases rr
  cases r
  obtain ⟨its,rv,pl,hz⟩:=I1.list hq
  refine call_reversed_list pl.isList ?_
  refine Calls.spliced_nil ?_
  have hll : l < s1.heap.objs.size:=by
   obtain ⟨o,e1,_⟩:=pl.isList
   exact Heap.lt_size e1
  have hit : PySem.Heap.IsRevIter (s1.heap.push (revObj l ((its.toArray.size : Int) - 1))) s1.heap.objs.size l ((its.toArray.size : Int) - 1):=⟨_,Heap.get?_push_size _ rfl,rfl,rfl⟩
  have hl2 : (s1.heap.push (revObj l ((its.toArray.size : Int) - 1))).IsList l its.toArray:=pl.isList.at fun o e => Heap.get?_push_of_some _ e
  have sz : (s1.heap.push (revObj l ((its.toArray.size : Int) - 1))).objs.size = s1.heap.objs.size + 1:=Heap.size_push _ _
  refine D8 (s:={ s1 with heap:=s1.heap.push (revObj l ((its.toArray.size : Int) - 1)) }) (I1.ok.hd hc) hit hl2 (Nat.ne_of_lt hll) (by rw [sz]; exact Nat.lt_succ_self _) (by rw [sz]; exact Nat.lt_succ_of_lt hll) (by rw [List.size_toArray,<- rv.length]; exact hz) fun h' tk acc' c' kp e hacc => ?_
  have ei:=BB hacc
  have kp1 : ∀ b o,s1.heap.get? b = some o -> h'.get? b = some o:=fun b o f => kp b o (Nat.ne_of_lt (Heap.lt_size f)) (Heap.get?_push_of_some _ f)
  have ob : ObjOk X.prog X.w (upd H1 (s1.heap.push (revObj l ((its.toArray.size : Int) - 1))).objs.size (.lst xs.reverse)) h' (s1.heap.push (revObj l ((its.toArray.size : Int) - 1))).objs.size (.lst xs.reverse):=by
   refine ⟨by rw [List.length_reverse]; exact hz,its.reverse,c',rv.rev,?_⟩
   have ea : acc' = its.reverse.toArray:=by
    apply Array.ext'
    rw [ei]
   rw [<- ea]
   exact e
  exact ⟨.ref _,_,I1.laid (t' := tk) kp1 (by rw [sz]; exact Nat.le_succ _) ob,rfl,q _ (I1.hok.fresh (by rw [sz]; exact Nat.le_succ _))⟩
end
end L2
set_option Elab.async false
set_option linter.all false
set_option maxRecDepth 100000
namespace L2
open PySem PySem.Spec PyProof.Rows
theorem fk {α β : Type} {F : α -> β -> Prop} : ∀ {l₁ : List α} {l₂ : List β} {j : Nat} {q : β},Paired F l₁ l₂ -> l₂[j]? = some q -> ∃ p,l₁[j]? = some p /\ F p q
 | _,_,_,_,.nil,e => by simp at e
 | _,_,0,_,.cons r _,e => by simp at e; subst e; exact ⟨_,rfl,r⟩
 | _,_,j + 1,_,.cons _ t,e => by
  obtain ⟨p,h1,h2⟩:=fk (j:=j) t (by simpa using e)
  exact ⟨p,by simpa using h1,h2⟩
section
variable {X : Cx}
theorem vn : ∀ {ks : List Key} {us : List Value},us.length = ks.length -> (∀ (j : Nat) (v : Value),us[j]? = some v -> ∃ k,ks[j]? = some k /\ qc k v = true) -> Vals (ks.map kV) us
 | [],[],_,_ => .nil
 | [],_ :: _,h,_ => by simp at h
 | _ :: _,[],h,_ => by simp at h
 | k :: ks,u :: us,h,q => by
  obtain ⟨k',e,i⟩:=q 0 u rfl
  cases (show k = k' from by simpa using e)
  refine .cons ?_ (vn (by simpa using h) fun j v e => by simpa using q (j + 1) v (by simpa using e))
  rcases bH i with ⟨n,t,rfl,rfl⟩ | ⟨x,t,rfl,rfl⟩
  ·exact ⟨t,rfl⟩
  ·exact ⟨t,rfl⟩
def GC : List V -> Hp -> VK -> Prop:=fun xs H Q => ∃ p kvs,xs = [.ref p] /\ H p = some (.dK kvs) /\ ∀ l,H l = none -> Q (.ref l) (upd H l (.lst (kvs.map fun q => kV q.1)))
theorem rV (hc : X.calm = true) : gX X (.type "list") GC:=by
 intro pins s σ H xs us Q I r h
 obtain ⟨p,kvs,rfl,hp,q⟩:=h
 obtain ⟨u,rfl,rx⟩:=vals1 r
 cases rx
 obtain ⟨hz,lo,vs,kv,dof⟩:=(show ObjOk X.prog X.w H s.heap p (.dK kvs) from I.hok p _ hp)
 obtain ⟨ep,hat⟩:=dof.dictAt
 have hlen : kvs.length = vs.length:=Paired.length kv
 refine PySem.W.kdl_call (PySem.W.kdl_dict (knd:=aP X.prog X.w) (kvs:=vs) (ep:=ep) lo) (I.ok.hd hc) hat (by rw [<- hlen]; exact hz) fun h' tk acc c' kp e hacc => ?_
 have rv : Vals ((kvs.map (·.1)).map kV) acc.toList:=vn (by rw [Array.length_toList,hacc.1,List.length_map,hlen]) fun j v ej => by
  obtain ⟨k,x,e1,e2⟩:=hacc.2 j v (by rw [<- Array.getElem?_toList]; exact ej)
  refine ⟨k,?_,e2⟩
  obtain ⟨pv,f1,f2⟩:=fk kv e1
  rw [List.getElem?_map,f1]
  exact congrArg some f2.1
 rw [List.map_map] at rv
 have ob : ObjOk X.prog X.w (upd H s.heap.objs.size (.lst (kvs.map fun q => kV q.1))) h' s.heap.objs.size (.lst (kvs.map fun q => kV q.1)):=by
  refine ⟨by rw [List.length_map]; exact hz,acc.toList,c',rv,?_⟩
  rw [Array.toArray_toList]
  exact e
 exact ⟨.ref _,_,I.laid (t' := tk) kp (Nat.le_refl _) ob,rfl,q _ (I.hok.fresh (Nat.le_refl _))⟩
end
end L2
set_option Elab.async false
set_option linter.all false
set_option maxRecDepth 100000
namespace L2
open PySem PySem.Spec PyProof.Rows
section
variable {X : Cx} {pins : List (Addr × Obj)} {σ : St} {H : Hp} {s : Shared} {N : List Str} {ix : List (Option Nat)} {scope : Scope} {fp : List Addr} {tg elt iter cond : Expr} {tc : TT} {pos spos : Pos} {J : It} {it : Addr} {tn : Nat -> Heap -> Prop} {g : TG} {te : TE} {wi : TI}
end
end L2
set_option Elab.async false
set_option linter.all false
set_option maxRecDepth 100000
set_option maxHeartbeats 4000000
namespace L2
open PySem PySem.Spec PyProof.Rows
open AutoSeq1 (wpAny_loadPart')
section
variable {prog : Program} {w : World} {A : Around} {E : Value -> Shared -> Prop} {s : Shared}
theorem nG {it t : Addr} {i : Nat} {items : Array Value} {x : Value} {Q : Value -> Shared -> Prop} (hit : s.heap.IsTupleIter it t i) (ht : s.heap.IsTuple t items) (hx : items[i]? = some x)
  (hQ : ∀ h',h'.IsTupleIter it t (i + 1) -> Heap.SameBut it s.heap h' -> Q x { s with heap:=h' }) : wpAny (model prog w) A (Builtin.SmallTypes.nextOf (.ref it)) Q E s:=by
 obtain ⟨o,ho,hc,hd⟩:=id hit
 obtain ⟨ol,hol,_,nl,hdl⟩:=ht
 unfold Builtin.SmallTypes.nextOf
 refine wpAny_bind (wpAny_callSpecial?_slot (name:=Str.ofString "__next__") hit.typeIs F.slot_tuple_iterator_next
  (wpAny_call_entry F.slot_tuple_iterator_next hit.typeIs F.entry_tuple_iterator_next ?_ (F.args_tuple_iterator_next_1 _)))
 show wpAny _ _ (field (.ref it) 0 >>= _) _ _ s
 refine wpAny_bind (wpAny_field ho hd (x:=.ref t) rfl ?_)
 show wpAny _ _ (if (Value.ref t == Value.none) = true then _ else _) _ _ s
 rw [if_neg (show ¬ ((Value.ref t == Value.none) = true) from Bool.false_ne_true)]
 show wpAny _ _ (field (.ref it) 1 >>= _) _ _ s
 refine wpAny_bind (wpAny_field ho hd (x:=.int i 0) rfl ?_)
 show wpAny _ _ (seqItems? (.ref t) >>= _) _ _ s
 refine wpAny_bind (wpAny_seqItems hol hdl ?_)
 simp only [Int.toNat_natCast,hx]
 refine wpAny_bind (wpAny_setField ho hd (by simp) (wpAny_pure ⟨x,rfl,wpAny_pure (hQ _ ?_ (Heap.SameBut.update ..))⟩))
 exact ⟨_,Heap.get?_update_self _ ho (Obj.isFreed_of_fields (Obj.data_mapFields hd _)),(Obj.cls_mapFields ..).trans hc,by
  rw [Obj.data_mapFields hd]; simp [rawInt]⟩
theorem iH {it t : Addr} {i : Nat} {items : Array Value} {Q : Value -> Shared -> Prop} (hh : A.handled = none) (hit : s.heap.IsTupleIter it t i) (ht : s.heap.IsTuple t items) (hx : items[i]? = none)
  (hE : ∀ h' e,Heap.ExtBut it s.heap h' -> (∃ o,h'.get? e = some o /\ o.cls = .type "StopIteration") -> E (.ref e) { s with heap:=h' }) : wpAny (model prog w) A (Builtin.SmallTypes.nextOf (.ref it)) Q E s:=by
 obtain ⟨o,ho,hc,hd⟩:=id hit
 obtain ⟨ol,hol,_,nl,hdl⟩:=ht
 unfold Builtin.SmallTypes.nextOf
 refine wpAny_bind (wpAny_callSpecial?_slot (name:=Str.ofString "__next__") hit.typeIs F.slot_tuple_iterator_next
  (wpAny_call_entry F.slot_tuple_iterator_next hit.typeIs F.entry_tuple_iterator_next ?_ (F.args_tuple_iterator_next_1 _)))
 show wpAny _ _ (field (.ref it) 0 >>= _) _ _ s
 refine wpAny_bind (wpAny_field ho hd (x:=.ref t) rfl ?_)
 show wpAny _ _ (if (Value.ref t == Value.none) = true then _ else _) _ _ s
 rw [if_neg (show ¬ ((Value.ref t == Value.none) = true) from Bool.false_ne_true)]
 show wpAny _ _ (field (.ref it) 1 >>= _) _ _ s
 refine wpAny_bind (wpAny_field ho hd (x:=.int i 0) rfl ?_)
 show wpAny _ _ (seqItems? (.ref t) >>= _) _ _ s
 refine wpAny_bind (wpAny_seqItems hol hdl ?_)
 simp only [Int.toNat_natCast,hx]
 refine wpAny_bind (wpAny_rule (wpAny_bind (wpAny_setField ho hd (by simp) ?_)))
 show wpAny _ _ (newExc (.type "StopIteration") [] >>= _) _ _ _
 refine wpAny_bind ?_
 simp only [newExc,newTuple]
 refine wpAny_bind (wpAny_newObj_type ?_ (by size_fits))
 refine wpAny_bind (m:=firstArgMember _ _) (wpAny_of_eq (a:=Value.none) (by first | rfl | (simp only [firstArgMember]; rfl)) ?_)
 refine wpAny_newObj_type ?_ (by size_fits)
 simp only [raiseNew]
 refine wpAny_bind (wpAny_handled ?_)
 first | rw [show A.in1.handled = none from hh] | rw [hh]
 refine wpAny_bind (wpAny_pure (wpAny_throw ?_))
 exact hE _ _ (((Heap.SameBut.update ..).extBut.push _).push _) ⟨_,Heap.get?_push_size _ rfl,rfl⟩
end
theorem zd {prog : Program} {w : World} {A : Around} (hh : A.handled = none) (it t : Addr) (hne : t ≠ it) (items : Array Value) :
  Draws prog w A it [it,t] items.size (fun i v => items[i]? = some v) (fun i h => h.IsTupleIter it t i /\ h.IsTuple t items) where
 live:=fun _ _ st => let ⟨o,ho,_⟩:=st.1; ⟨o,ho⟩
 frame:=fun _ _ _ st hk => ⟨st.1.at fun o e => hk it (by simp) o e,st.2.at fun o e => hk t (by simp) o e⟩
 item:=fun i s Q E hi st hQ => by
  refine nG st.1 st.2 (x:=items[i]) (by simp [hi]) fun h' hit' hs' => ?_
  exact hQ _ h' s.toks (by simp [hi]) ⟨hit',st.2.at fun o e => (hs'.2 t hne).trans e⟩ hs'
 done:=fun s Q E st hE => iH hh st.1 st.2 (by simp) hE
theorem kh (l : Addr) (items : Array Value) (n : Nat) (dct : Option Addr) (sl : Array (Option Value)) :
  Meets (Builtin.«enumerate.__new__» ⟨[.type "enumerate",.ref l],[]⟩) (fun _ R s => s.heap.get? l = some { cls:=.type "tuple",dict:=dct,data:=.seq items n,slots:=sl } /\
   R (.ok (.ret (.ref (s.heap.push { cls:=.type "tuple_iterator",data:=.fields #[.ref l,.int 0 0] }).objs.size)))
    { s with heap:=(s.heap.push { cls:=.type "tuple_iterator",data:=.fields #[.ref l,.int 0 0] }).push { cls:=.type "enumerate",data:=.fields #[.none,.bool false,.ref s.heap.objs.size,rawInt 0,.none,.none] } }):=
 .of_wp fun prog w A R s h => by
  obtain ⟨hp,g,d,tk,os⟩:=s; obtain ⟨hl,h⟩:=h
  have hsub:=sub_enumerate
  have hL : Heap.IsTuple (Shared.heap ⟨hp,g,d,tk,os⟩) l items:=⟨_,hl,rfl,n,rfl⟩
  wp_walk using wpAny_loadPart' hl
  refine wpAny_stack_any fun st => wpAny_pure ?_
  split
  ·rename_i c _ _ _ _ _
   cases (c == Value.type "enumerate")
   ·wp_walk using wpAny_loadPart' hl,wpAny_pyIter_tuple hL
    exact ⟨_,rfl,h⟩
   ·wp_walk using wpAny_loadPart' hl,wpAny_pyIter_tuple hL
    exact ⟨_,rfl,h⟩
  ·wp_walk using wpAny_loadPart' hl,wpAny_pyIter_tuple hL
   exact ⟨_,rfl,h⟩
theorem jV {prog : Program} {w : World} {A : Around} {E : Value -> Shared -> Prop} {s : Shared} {l : Addr} {items : Array Value} {Q : Value -> Shared -> Prop} (hL : s.heap.IsTuple l items)
  (h : ∀ h',IsEnum h' (s.heap.objs.size + 1) s.heap.objs.size 0 .none -> h'.IsTupleIter s.heap.objs.size l 0 -> h'.objs.size = s.heap.objs.size + 2 ->
   (∀ b o,s.heap.get? b = some o -> h'.get? b = some o) -> Q (.ref (s.heap.objs.size + 1)) { s with heap:=h' }) :
  wpAny (model prog w) A (call (.type "enumerate") [.ref l]) Q E s:=by
 obtain ⟨⟨c,dct,dt,sl⟩,hl,hc,n,hd⟩:=hL
 replace hc : c = .type "tuple" := hc
 replace hd : dt = .seq items n:=hd
 subst hc hd
 refine callType_new F.called_enumerate (by decide) (F.typeCall_enumerate_1 _) (F.newCall_enumerate_1 _) (fun obj => F.args_object_init_2 obj _) F.entry_enumerate_new
  (kh l items n dct sl) ⟨hl,?_⟩
 have hz : (s.heap.push { cls:=.type "tuple_iterator",data:=.fields #[.ref l,.int 0 0] }).objs.size = s.heap.objs.size + 1:=Heap.size_push ..
 show _ /\ _
 rw [hz]
 have he : IsEnum ((s.heap.push { cls:=.type "tuple_iterator",data:=.fields #[.ref l,.int 0 0] }).push
   { cls:=.type "enumerate",data:=.fields #[.none,.bool false,.ref s.heap.objs.size,rawInt 0,.none,.none] }) (s.heap.objs.size + 1) s.heap.objs.size 0 .none:=by
  have:=Heap.get?_push_size (s.heap.push { cls:=.type "tuple_iterator",data:=.fields #[.ref l,.int 0 0] })
   (o:={ cls:=.type "enumerate",data:=.fields #[.none,.bool false,.ref s.heap.objs.size,rawInt 0,.none,.none] }) rfl
  rw [hz] at this; exact this
 refine ⟨⟨_,he,rfl⟩,h _ he ⟨_,Heap.get?_push_of_some _ (Heap.get?_push_size _ rfl),rfl,rfl⟩ (by rw [Heap.size_push,hz]) fun b o x => Heap.get?_push_of_some _ (Heap.get?_push_of_some _ x)⟩
end L2
set_option Elab.async false
set_option linter.all false
set_option maxRecDepth 100000
set_option maxHeartbeats 4000000
namespace L2
open PySem PySem.Spec PyProof.Rows
section
variable {X : Cx} {pins : List (Addr × Obj)} {σ : St} {H : Hp} {s : Shared} {h' : Heap}
theorem Inv.turned2 {t' : Nat} {e it : Addr} (I : Inv X pins σ H s) (k : ∀ b o,b ≠ e -> b ≠ it -> s.heap.get? b = some o -> h'.get? b = some o) (fe : lH X pins H e) (fi : lH X pins H it) : Inv X pins σ H { s with heap:=h',toks:=t' }:=by
 have nn : ∀ b u,H b = some u -> b ≠ e /\ b ≠ it:=fun b u q => ⟨fun z => (by rw [z,fe.1] at q; cases q),fun z => (by rw [z,fi.1] at q; cases q)⟩
 have kk : ∀ b o,b ∉ [e,it] -> s.heap.get? b = some o -> h'.get? b = some o:=fun b o hc q => k b o (fun z => hc (by simp [z])) (fun z => hc (by simp [z])) q
 refine I.step (g' := s.gens) (d' := s.drawn) (ch:=[e,it]) (fun b hb => ?_) (fun b o _ _ hc q _ => kk b o hc q) (fun b o _ _ hc q _ => ⟨o.slots,kk b o hc q⟩) (fun _ _ _ _ n => n)
  (fun b o hc q => ⟨o,kk b o hc q⟩) (fun _ _ q => q) (fun _ _ _ q => q) (fun b ps q => ⟨#[],by rw [q]; simp⟩) (fun m hm => ?_) (fun b u q => ?_) I.bare
 ·have q : b = e \/ b = it:=by simpa using hb
  rcases q with rfl | rfl
  ·exact ⟨fe.2.2.2.1,fe.2.1,fe.2.2.2.2.1,fe.2.2.2.2.2⟩
  ·exact ⟨fi.2.2.2.1,fi.2.1,fi.2.2.2.2.1,fi.2.2.2.2.2⟩
 ·obtain ⟨o,es,ep,ho,r⟩:=hm
  exact ⟨o,es,ep,k _ o (Ne.symm fe.2.1) (Ne.symm fi.2.1) ho,r⟩
 ·refine (I.hok b u q).stay (fun c v hc z => k c v ?_ ?_ z) (fun _ z => z) fun _ _ z => z
  ·rcases hc with z | z
   ·rw [z]; exact (nn b u q).1
   ·exact (nn c _ z).1
  ·rcases hc with z | z
   ·rw [z]; exact (nn b u q).2
   ·exact (nn c _ z).2
end
def Ite (K : PySem.W.Frag) (a : Addr) : It:=
 ⟨fun i H => ∃ xs x,SqT K H a xs /\ xs[i]? = some x,fun i H v H' => ∃ T x,v = .ref T /\ H T = none /\ H' = upd H T (.tup [.int i,x]) /\ ∀ xs,SqT K H a xs -> xs[i]? = some x,fun i H => ∃ xs,SqT K H a xs /\ xs.length <= i⟩
theorem Am {P : Program} {w : World} {K : PySem.W.Frag} {elts : List Expr} {x1 : _} {pos : Pos} (a e it : Addr) : Turn P w K (.Tuple elts x1 pos) (Ite K a) [e,it] e (fun i h => (∃ old,IsEnum h e it i old) /\ h.IsTupleIter it a i) where
 mem:=by simp
 obj:=fun i h st b hb => by
  have q : b = e \/ b = it:=by simpa using hb
  rcases q with rfl | rfl
  ·obtain ⟨⟨old,st⟩,_⟩:=st
   exact ⟨_,st,fun v z => by
    have z' : Data.fields _ = Data.cell v:=z
    cases z'⟩
  ·obtain ⟨_,o,e,c,d⟩:=st
   exact ⟨o,e,fun v z => by rw [d] at z; cases z⟩
 keep:=fun i h h' st k => ⟨let ⟨old,z⟩:=st.1; ⟨old,k e (by simp) _ z⟩,st.2.at fun o z => k it (by simp) o z⟩
 item:=by
  intro X hP hw hK hc i pins s σ H E I hf st hg
  subst hP hw hK
  obtain ⟨xs,x,hq,hx⟩:=hg
  obtain ⟨its,rv,p,hz⟩:=I.tuple hq
  obtain ⟨u,hu,ru⟩:=rv.get hx
  obtain ⟨⟨old,he⟩,hit⟩:=st
  have p' : s.heap.IsTuple a its.toArray:=p
  have fe:=hf e (by simp)
  have fi:=hf it (by simp)
  have ne : e ≠ it:=fun z => by
   subst z
   obtain ⟨o,e1,c,d⟩:=hit
   rw [he] at e1
   cases e1
   have c' : Value.type "enumerate" = Value.type "tuple_iterator" := c
   injection c' with c'
   exact absurd c' (by decide)
  have nae : a ≠ e:=fun z => by
   subst z
   obtain ⟨o,e1,c,d⟩:=p'
   rw [he] at e1
   cases e1
   have c' : Value.type "enumerate" = Value.type "tuple" := c
   injection c' with c'
   exact absurd c' (by decide)
  have nai : a ≠ it:=fun z => by
   subst z
   obtain ⟨o,e1,c,d⟩:=p'
   obtain ⟨o2,e2,c2,d2⟩:=hit
   rw [e1] at e2
   cases e2
   rw [c] at c2
   injection c2 with c'
   exact absurd c' (by decide)
  have hi : i < its.toArray.size:=by
   have : i < its.length:=(List.getElem?_eq_some_iff.mp hu).1
   simpa using this
  have D:=zd (prog:=X.prog) (w:=X.w) (A:=X.A.in1) (show X.A.in1.handled = none from I.ok.hd hc) it a nai its.toArray
  refine wpAny_pyNext_enum_itemD D he ⟨hit,p'⟩ hi ne (by simp [ne,Ne.symm nae]) fun y h1 tk hy ho st1 hT hsz hk => ?_
  have ey : y = u:=by
   have : its.toArray[i]? = some u:=by simpa using hu
   rw [this] at hy
   exact (Option.some.inj hy).symm
  subst ey
  refine ⟨_,rfl,wpAny_letOwnedTupleGo_enum ho fun h2 he2 hs2 => ?_⟩
  have fr : H s.heap.objs.size = none:=I.hok.fresh (Nat.le_refl _)
  have I1 : Inv X pins σ (upd H s.heap.objs.size (.tup [.int i,x])) { s with heap:=s.heap.push { cls:=.type "tuple",data:=.seq #[.int i tk,y] },toks:=tk + 1 }:=
   I.laid (o:=.tup [.int i,x]) (fun b ob q => Heap.get?_push_of_some _ q) (Nat.le_refl _) ⟨by show 2 <= sizeLine; decide,[.int i tk,y],.cons ⟨tk,rfl⟩ (.cons ru .nil),⟨_,Heap.get?_push_size _ rfl,rfl,_,rfl⟩⟩
  have lt : ∀ b ∈ [e,it],b < s.heap.objs.size:=fun b hb => by
   have q : b = e \/ b = it:=by simpa using hb
   rcases q with rfl | rfl
   ·exact Heap.lt_size he
   ·obtain ⟨o,e1,_⟩:=hit
    exact Heap.lt_size e1
  have f2 : ∀ b ∈ [e,it],lH X pins (upd H s.heap.objs.size (.tup [.int i,x])) b:=fun b hb => by
   refine ⟨?_,(hf b hb).2⟩
   rw [ae (Nat.ne_of_lt (lt b hb))]
   exact (hf b hb).1
  have I2 : Inv X pins σ (upd H s.heap.objs.size (.tup [.int i,x])) { s with heap:=h2,toks:=tk + 1 }:=by
   refine I1.turned2 (t' := tk + 1) (h' := h2) (fun b o b1 b2 q => ?_) (f2 e (by simp)) (f2 it (by simp))
   refine (hs2.2 b b1).trans ?_
   rcases Heap.get?_push_cases (show (s.heap.push { cls:=.type "tuple",data:=.seq #[.int i tk,y] }).get? b = some o from q) with ⟨rfl,rfl⟩ | z
   ·exact hT
   ·exact hk b o b1 b2 z
  refine ⟨.ref s.heap.objs.size,_,I2,rfl,⟨s.heap.objs.size,x,rfl,fr,rfl,fun ys hy => by rw [I.tuple_inj hy hq]; exact hx⟩,⟨⟨y,?_⟩,?_⟩,fun b hb => (f2 b hb).1⟩
  ·have : ((i + 1 : Nat) : Int) = (i : Int) + 1:=by push_cast; rfl
   rw [this]
   exact he2
  ·exact st1.1.at fun o z => (hs2.2 it (Ne.symm ne)).trans z
 done:=by
  intro X hP hw hK hc i pins s σ H E I hf st hg
  subst hP hw hK
  obtain ⟨xs,hq,hx⟩:=hg
  obtain ⟨its,rv,p,hz⟩:=I.tuple hq
  obtain ⟨⟨old,he⟩,hit⟩:=st
  obtain ⟨f0,f1,f2,f3,f4,f5⟩:=hf it (by simp)
  have p' : s.heap.IsTuple a its.toArray:=p
  have hl:=rv.length
  have hT : s.TypeIs (.ref e) "enumerate" := ⟨_,he,rfl⟩
  unfold pyNext
  refine wpAny_bind (wpAny_attempt (wpAny_callSpecial?_slot (name:=Str.ofString "__next__") hT F.slot_enumerate_next
   (wpAny_call_entry F.slot_enumerate_next hT F.entry_enumerate_next ?_ (F.args_enumerate_next_1 _))))
  show wpAny _ _ (field (.ref e) 2 >>= _) _ _ _
  refine wpAny_bind (wpAny_field he rfl (x:=.ref it) rfl ?_)
  refine wpAny_bind (iH (show X.A.in1.handled = none from I.ok.hd hc) hit p' (by simp; omega) fun h' x he' hx' => ?_)
  obtain ⟨o,ho,hcl⟩:=hx'
  refine wpAny_bind (wpAny_isInstance (T := "StopIteration") (b:=true) ⟨o,ho,hcl⟩ isSubtype_stop ?_)
  exact wpAny_pure ⟨rfl,I.turned (t' := s.toks) (fun b o hb z => he' b o hb z) f0 f1 f3 f4 f5⟩
 self:=fun _ _ _ _ _ st h => let ⟨_,z⟩:=st.1; wpAny_pyIter_enum z h
section
variable {X : Cx}
def Ge (K : PySem.W.Frag) (tl : TA) : TI:=fun σ H R => tl σ H fun vs H1 => ∃ a,vs = [.ref a] /\ (∃ xs,SqT K H1 a xs) /\ R (Ite K a) H1
theorem mR : bootBuiltins "enumerate" = some (.type "enumerate"):=by decide +kernel
theorem DN {elts : List Expr} {x1 : _} {tpos : Pos} {l : Expr} {tl : TA} {p pos : Pos} (hg : Gl X "enumerate") (hm : X.mg "enumerate" = none) (hl : PA X [l] tl) (hs : starEach [l] X.env = [(false,eval l X.env)]:=by rfl) :
  PI X (.Tuple elts x1 tpos) (.Call (.Name "enumerate" p) [l] [] pos) (Ge X.K tl):=by
 intro pins s σ H R I h
 refine Call_ (gT I hg hm mR (PyProof.Rows.callWith_type1 (thn (hl pos pins s σ H _ I h) fun us s1 ⟨vs,H1,I1,r1,q1⟩ => ?_) hs rfl))
 obtain ⟨a,e,⟨xs,hq⟩,q⟩:=q1
 subst e
 cases r1 with
 | cons r rr =>
  cases rr
  cases r
  obtain ⟨its,rv,p,hz⟩:=I1.tuple hq
  refine jV (show s1.heap.IsTuple a its.toArray from p) fun h' he hit hsz hk => ?_
  refine wpAny_pyIter_enum he ?_
  refine ⟨s1.heap.objs.size + 1,[s1.heap.objs.size + 1,s1.heap.objs.size],_,_,H1,rfl,I1.kept (t' := s1.toks) hk,Am a _ s1.heap.objs.size,⟨⟨_,he⟩,hit⟩,fun b hb => ?_,q⟩
  have e : b = s1.heap.objs.size + 1 \/ b = s1.heap.objs.size:=by simpa using hb
  rcases e with rfl | rfl
  ·exact I1.fpOk (Nat.le_succ _) (I1.hok.fresh (Nat.le_succ _))
  ·exact I1.fpOk (Nat.le_refl _) (I1.hok.fresh (Nat.le_refl _))
end
theorem Bq {K : PySem.W.Frag} {a : Addr} {xs : List V} {g : TG} {tb : TS} {D : Ends} {σ : St} {H : Hp} (Pv : Nat -> St -> Hp -> Prop) (h0 : Pv 0 σ H) (hl : ∀ i σ H,i <= xs.length -> Pv i σ H -> SqT K H a xs)
  (hs : ∀ i x σ H T,xs[i]? = some x -> Pv i σ H -> H T = none -> g (.ref T) σ (upd H T (.tup [.int i,x])) fun σ2 H2 => tb { D with nx:=Pv (i + 1),ct:=Pv (i + 1),bk:=D.nx } σ2 H2) (hd : ∀ σ H,Pv xs.length σ H -> D.nx σ H) :
  ∃ W : Nat -> Nat -> St -> Hp -> Prop,(∃ m,W 0 m σ H) /\ ∀ i m σ H,W i m σ H ->
   ((Ite K a).stop i H /\ D.nx σ H) \/ ((Ite K a).go i H /\ ∃ N : St -> Hp -> Prop,(∀ σ' H',N σ' H' -> ∃ m',m' < m /\ W (i + 1) m' σ' H') /\ ∀ x H',(Ite K a).yld i H x H' -> g x σ H' fun σ2 H2 => tb { D with nx:=N,ct:=N,bk:=D.nx } σ2 H2):=by
 refine ⟨fun i m σ H => m = xs.length - i /\ i <= xs.length /\ Pv i σ H,⟨xs.length,by simp,Nat.zero_le _,h0⟩,?_⟩
 rintro i m σ H ⟨rfl,hi,p⟩
 have q:=hl i σ H hi p
 by_cases hlt : i < xs.length
 ·refine .inr ⟨⟨xs,xs[i],q,by simp [hlt]⟩,Pv (i + 1),fun σ' H' p' => ⟨xs.length - (i + 1),by omega,rfl,hlt,p'⟩,fun x H' y => ?_⟩
  obtain ⟨T,x0,rfl,hT,rfl,y⟩:=y
  exact hs i x0 σ _ T (y xs q) p hT
 ·have e : i = xs.length:=by omega
  subst e
  exact .inl ⟨⟨xs,q,Nat.le_refl _⟩,hd σ H p⟩
end L2
set_option Elab.async false
set_option linter.all false
set_option maxRecDepth 100000
set_option maxHeartbeats 4000000
namespace L2
open PySem PySem.Spec PyProof.Rows
theorem zj {acc : Array Value} {n : Nat} (h : ItemsOf (fun i v => ∃ t,v = .int (0 + (i : Int) * 1) t) acc n) : Vals ((List.range n).map fun i : Nat => V.int i) acc.toList:=by
 have go : ∀ (n : Nat) (us : List Value),us.length = n -> (∀ (j : Nat) (v : Value),us[j]? = some v -> ∃ t,v = Value.int (0 + (j : Int) * 1) t) -> Vals ((List.range n).map fun i : Nat => V.int i) us:=by
  intro n
  induction n with
  | zero =>
   intro us hl _
   cases us with
   | nil => exact .nil
   | cons a r => cases hl
  | succ n ih =>
   intro us hl hv
   have ne : us ≠ []:=fun z => by rw [z] at hl; cases hl
   have e:=List.dropLast_concat_getLast ne
   rw [<- e,List.range_succ,List.map_append]
   have hd : us.dropLast.length = n:=by rw [List.length_dropLast,hl]; rfl
   refine (ih us.dropLast hd fun j v hj => ?_).append (.cons ?_ .nil)
   ·refine hv j v ?_
    have lt:=(List.getElem?_eq_some_iff.mp hj).1
    rw [<- e,List.getElem?_append_left lt]
    exact hj
   ·obtain ⟨t,ht⟩:=hv n (us.getLast ne) (by rw [List.getLast_eq_getElem,List.getElem?_eq_getElem (by omega)]; simp [hl])
    rw [ht]
    exact ⟨t,by rw [Int.zero_add,Int.mul_one]⟩
 exact go n acc.toList (by rw [Array.length_toList,h.1]) fun j v hj => h.2 j v (by rw [<- Array.getElem?_toList]; exact hj)
section
variable {X : Cx} {a : Expr} {ta : TA} {p p2 pos pos2 : Pos}
def Ei (ta : TA) : TE:=fun σ H Q => ta σ H fun vs H1 => ∃ n : Nat,vs = [.int n] /\ n <= sizeLine /\ ∀ l,H1 l = none -> Q (.ref l) (upd H1 l (.lst ((List.range n).map fun i : Nat => V.int i)))
theorem zT (hc : X.calm = true) (hgl : Gl X "list") (hml : X.mg "list" = none) (hg : Gl X "range") (hm : X.mg "range" = none) (ha : PA X [a] ta)
  (hs : starEach [a] X.env = [(false,eval a X.env)]:=by rfl) (hs2 : starEach [.Call (.Name "range" p2) [a] [] pos2] X.env = [(false,eval (.Call (.Name "range" p2) [a] [] pos2) X.env)]:=by rfl) :
  PE X (.Call (.Name "list" p) [.Call (.Name "range" p2) [a] [] pos2] [] pos) (Ei ta):=by
 intro pins s σ H Q I h
 refine wpAny_Call_Name_kw (gT I hgl hml mT ?_)
 refine PyProof.Rows.callWith_type1 ?_ hs2 rfl
 rw [hs2]
 refine Calls.spliced_cons ?_
 refine Call_ (gT I hg hm boot_range (PyProof.Rows.callWith_type1 (thn (ha pos2 pins s σ H _ I h) fun us s1 ⟨vs,H1,I1,r1,q1⟩ => ?_) hs rfl))
 obtain ⟨n,e,hn,q⟩:=q1
 subst e
 cases r1 with
 | cons r rr =>
  cases rr
  obtain ⟨t,rfl⟩:=r
  have big : sizeLine <= 2 ^ 24:=by decide
  have big2 : ((sizeLine : Nat) : Int) < 2 ^ 62:=by decide
  have hn62 : (n : Int) < 2 ^ 62:=by omega
  refine call_range_1 ?_
  refine Calls.spliced_nil ?_
  have sz : (s1.heap.push { cls:=.type "range",data:=.fields #[.int 0 s1.toks,.int n t,.int 1 (s1.toks + 1)] }).objs.size = s1.heap.objs.size + 1:=Heap.size_push _ _
  refine PySem.call_list_range (s:={ s1 with heap:=s1.heap.push { cls:=.type "range",data:=.fields #[.int 0 s1.toks,.int n t,.int 1 (s1.toks + 1)] },toks:=s1.toks + 1 + 1 }) (n:=n) (I1.ok.hd hc) (IsRange.new ..) (small_one (by omega) (by omega) (by omega) hn62)
   (by rw [rangeSize_one]; split <;> omega) (by omega) fun h' tk acc' c' kp e hacc => ?_
  have kp1 : ∀ b o,s1.heap.get? b = some o -> h'.get? b = some o:=fun b o f => kp b o (Heap.get?_push_of_some _ f)
  have ob : ObjOk X.prog X.w (upd H1 (s1.heap.push { cls:=.type "range",data:=.fields #[.int 0 s1.toks,.int n t,.int 1 (s1.toks + 1)] }).objs.size (.lst ((List.range n).map fun i : Nat => V.int i))) h' (s1.heap.push { cls:=.type "range",data:=.fields #[.int 0 s1.toks,.int n t,.int 1 (s1.toks + 1)] }).objs.size (.lst ((List.range n).map fun i : Nat => V.int i)):=by
   refine ⟨by rw [List.length_map,List.length_range]; exact hn,acc'.toList,c',zj hacc,?_⟩
   exact e
  exact ⟨.ref _,_,I1.laid (t' := tk) kp1 (by rw [sz]; exact Nat.le_succ _) ob,rfl,q _ (I1.hok.fresh (by rw [sz]; exact Nat.le_succ _))⟩
end
structure DefMk (P : Program) (w : World) (K : PySem.W.Frag) (mg : Str -> Option Value) (base : Heap) (x : Str) (C : Addr) (k : Nat) (ps : List Str) (sp : Sp) : Prop where
 m : mg x = some (.ref C)
 cl : Cls K C
 ex : ∃ (f : Addr) (fd : FuncData),Mk K C f /\ Binds K fd ps [] /\ FnOk P w K mg base CX0 k f fd ps sp
theorem DF {X : Cx} {x : Str} {C : Addr} {j k : Nat} {ps : List Str} {sp : Sp} {p pos : Pos} {e : Expr} {es : List Expr} {t : TA} (G : DefMk X.prog X.w X.K X.mg X.base x C k ps sp) (hr : Room j X.A) (ha : PA X (e :: es) t) (hkj : k + 1 <= j:=by decide) (hg : Gl X x:=by rfl) (hdb : (x == ("__debug__" : Str)) = false:=by decide)
  (he : starEach (e :: es) X.env = (false,eval e X.env) :: starEach es X.env:=by rfl) (hpl : (backTo pos (starEach es X.env)).any (·.1) = false:=by rfl) : PE X (.Call (.Name x p) (e :: es) [] pos) (FW C sp [] E0 t):=by
 obtain ⟨f,fd,M,hb,F⟩:=G.ex
 exact Ff M F (hr.mono hkj) hg G.m hb .nil Dz ha hdb he hpl
structure DefMe (P : Program) (w : World) (K : PySem.W.Frag) (mg : Str -> Option Value) (base : Heap) (C : Addr) (m : Str) (k : Nat) (ps : List Str) (sp : Sp) : Prop where
 cl : Cls K C
 ex : ∃ (f : Addr) (fd : FuncData),Meth K C m f /\ Binds K fd ps [] /\ FnOk P w K mg base CX0 k f fd ps sp
theorem vA {X : Cx} {m : Str} {C : Addr} {j k : Nat} {ps : List Str} {sp : Sp} {apos pos : Pos} {o e : Expr} {es : List Expr} {ta : TE} {t : TA} {pl : Sem Bool} (G : DefMe X.prog X.w X.K X.mg X.base C m k ps sp) (hr : Room j X.A) (ho : PE X o ta) (ha : PA X (e :: es) t) (hkj : k <= j:=by decide)
  (hst : starEach (e :: es) X.env = (false,eval e X.env) :: starEach es X.env:=by rfl) (hpl : (backTo pos (starEach es X.env)).any (·.1) = false:=by rfl)
  (ht : eval (.Call (.Attribute o m apos) (e :: es) [] pos) X.env = (do
   let ov <- eval o X.env
   standAt apos.atName
   let (f,first) <- holding [ov] (getMethod ov m pl)
   callWith pos f first (backTo pos (starEach (e :: es) X.env)) (backToKw pos (keywordEach [] X.env))):=by rfl) :
  PE X (.Call (.Attribute o m apos) (e :: es) [] pos) (A2 C m sp [] E0 ta t):=by
 obtain ⟨f,fd,hm,hb,F⟩:=G.ex
 exact Fg ho G.cl hm F (hr.mono hkj) hb .nil Dz ha hst hpl ht
end L2
set_option Elab.async false
set_option linter.all false
set_option maxRecDepth 100000
set_option maxHeartbeats 4000000
namespace L2
open PySem PySem.Spec PyProof.Rows
section
variable {prog : Program} {w : World} {A : Around} {E : Value -> Shared -> Prop} {s : Shared}
structure ZipFar (z TI TO i1 i2 : Addr) (fp1 fp2 : List Addr) : Prop where
 TIz : TI ≠ z
 TOz : TO ≠ z
 TITO : TI ≠ TO
 i1z : i1 ≠ z
 i2z : i2 ≠ z
 TIi1 : TI ≠ i1
 TIi2 : TI ≠ i2
 TOi1 : TO ≠ i1
 TOi2 : TO ≠ i2
 i12 : i1 ≠ i2
 z1 : z ∉ fp1
 TO1 : TO ∉ fp1
 i21 : i2 ∉ fp1
 z2 : z ∉ fp2
 TO2 : TO ∉ fp2
 i12' : i1 ∉ fp2
variable {z TI TO i1 i2 : Addr} {fp1 fp2 : List Addr} {n1 n2 k : Nat} {P1 P2 : Nat -> Value -> Prop} {St1 St2 : Nat -> Heap -> Prop} {a b : Value}
end
end L2
set_option Elab.async false
set_option linter.all false
set_option maxRecDepth 100000
set_option maxHeartbeats 4000000
namespace L2
open PySem PySem.Spec PyProof.Rows
section
variable {X : Cx} {pins : List (Addr × Obj)} {σ : St} {H : Hp} {s : Shared} {h' : Heap}
end
section
variable {X : Cx}
end
end L2
set_option Elab.async false
set_option linter.all false
set_option maxRecDepth 100000
set_option maxHeartbeats 4000000
namespace L2
open PySem PySem.Spec PyProof.Rows
inductive EqN (K : PySem.W.Frag) (H : Hp) : V -> V -> Prop where
 | non : EqN K H .non .non
 | tup {a b : Addr} {ns : List Int} (ha : SqT K H a (ns.map V.int)) (hb : SqT K H b (ns.map V.int)) : EqN K H (.ref a) (.ref b)
section
variable {X : Cx} {pins : List (Addr × Obj)} {σ : St} {H : Hp} {s : Shared}
end
end L2
set_option Elab.async false
set_option linter.all false
set_option maxRecDepth 100000
set_option maxHeartbeats 4000000
namespace L2
open PySem PySem.Spec PyProof.Rows
def A9 (K : PySem.W.Frag) (a : Addr) : It:=
 ⟨fun i H => ∃ xs x,SqL K H a xs /\ xs[i]? = some x,fun i H v H' => ∃ T x,v = .ref T /\ H T = none /\ H' = upd H T (.tup [.int i,x]) /\ ∀ xs,SqL K H a xs -> xs[i]? = some x,fun i H => ∃ xs,SqL K H a xs /\ xs.length <= i⟩
theorem Al {P : Program} {w : World} {K : PySem.W.Frag} {elts : List Expr} {x1 : _} {pos : Pos} (a e it : Addr) : Turn P w K (.Tuple elts x1 pos) (A9 K a) [e,it] e (fun i h => (∃ old,IsEnum h e it i old) /\ h.IsListIter it a i) where
 mem:=by simp
 obj:=fun i h st b hb => by
  have q : b = e \/ b = it:=by simpa using hb
  rcases q with rfl | rfl
  ·obtain ⟨⟨old,st⟩,_⟩:=st
   exact ⟨_,st,fun v z => by
    have z' : Data.fields _ = Data.cell v:=z
    cases z'⟩
  ·obtain ⟨_,o,e,c,d⟩:=st
   exact ⟨o,e,fun v z => by rw [d] at z; cases z⟩
 keep:=fun i h h' st k => ⟨let ⟨old,z⟩:=st.1; ⟨old,k e (by simp) _ z⟩,st.2.at fun o z => k it (by simp) o z⟩
 item:=by
  intro X hP hw hK hc i pins s σ H E I hf st hg
  subst hP hw hK
  obtain ⟨xs,x,hq,hx⟩:=hg
  obtain ⟨its,rv,p,hz⟩:=I.list hq
  obtain ⟨u,hu,ru⟩:=rv.get hx
  obtain ⟨⟨old,he⟩,hit⟩:=st
  have p' : s.heap.IsList a its.toArray:=p.isList
  have fe:=hf e (by simp)
  have fi:=hf it (by simp)
  have ne : e ≠ it:=fun z => by
   subst z
   obtain ⟨o,e1,c,d⟩:=hit
   rw [he] at e1
   cases e1
   have c' : Value.type "enumerate" = Value.type "list_iterator" := c
   injection c' with c'
   exact absurd c' (by decide)
  have nae : a ≠ e:=fun z => by
   subst z
   obtain ⟨o,e1,c,d⟩:=p'
   rw [he] at e1
   cases e1
   have c' : Value.type "enumerate" = Value.type "list" := c
   injection c' with c'
   exact absurd c' (by decide)
  have nai : a ≠ it:=fun z => by
   subst z
   obtain ⟨o,e1,c,d⟩:=p'
   obtain ⟨o2,e2,c2,d2⟩:=hit
   rw [e1] at e2
   cases e2
   rw [c] at c2
   injection c2 with c'
   exact absurd c' (by decide)
  have hi : i < its.toArray.size:=by
   have : i < its.length:=(List.getElem?_eq_some_iff.mp hu).1
   simpa using this
  have D:=Draws.list (prog:=X.prog) (w:=X.w) (A:=X.A.in1) (show X.A.in1.handled = none from I.ok.hd hc) it a nai its.toArray
  refine wpAny_pyNext_enum_itemD D he ⟨hit,p'⟩ hi ne (by simp [ne,Ne.symm nae]) fun y h1 tk hy ho st1 hT hsz hk => ?_
  have ey : y = u:=by
   have : its.toArray[i]? = some u:=by simpa using hu
   rw [this] at hy
   exact (Option.some.inj hy).symm
  subst ey
  refine ⟨_,rfl,wpAny_letOwnedTupleGo_enum ho fun h2 he2 hs2 => ?_⟩
  have fr : H s.heap.objs.size = none:=I.hok.fresh (Nat.le_refl _)
  have I1 : Inv X pins σ (upd H s.heap.objs.size (.tup [.int i,x])) { s with heap:=s.heap.push { cls:=.type "tuple",data:=.seq #[.int i tk,y] },toks:=tk + 1 }:=
   I.laid (o:=.tup [.int i,x]) (fun b ob q => Heap.get?_push_of_some _ q) (Nat.le_refl _) ⟨by show 2 <= sizeLine; decide,[.int i tk,y],.cons ⟨tk,rfl⟩ (.cons ru .nil),⟨_,Heap.get?_push_size _ rfl,rfl,_,rfl⟩⟩
  have lt : ∀ b ∈ [e,it],b < s.heap.objs.size:=fun b hb => by
   have q : b = e \/ b = it:=by simpa using hb
   rcases q with rfl | rfl
   ·exact Heap.lt_size he
   ·obtain ⟨o,e1,_⟩:=hit
    exact Heap.lt_size e1
  have f2 : ∀ b ∈ [e,it],lH X pins (upd H s.heap.objs.size (.tup [.int i,x])) b:=fun b hb => by
   refine ⟨?_,(hf b hb).2⟩
   rw [ae (Nat.ne_of_lt (lt b hb))]
   exact (hf b hb).1
  have I2 : Inv X pins σ (upd H s.heap.objs.size (.tup [.int i,x])) { s with heap:=h2,toks:=tk + 1 }:=by
   refine I1.turned2 (t' := tk + 1) (h' := h2) (fun b o b1 b2 q => ?_) (f2 e (by simp)) (f2 it (by simp))
   refine (hs2.2 b b1).trans ?_
   rcases Heap.get?_push_cases (show (s.heap.push { cls:=.type "tuple",data:=.seq #[.int i tk,y] }).get? b = some o from q) with ⟨rfl,rfl⟩ | z
   ·exact hT
   ·exact hk b o b1 b2 z
  refine ⟨.ref s.heap.objs.size,_,I2,rfl,⟨s.heap.objs.size,x,rfl,fr,rfl,fun ys hy => by rw [I.list_inj hy hq]; exact hx⟩,⟨⟨y,?_⟩,?_⟩,fun b hb => (f2 b hb).1⟩
  ·have : ((i + 1 : Nat) : Int) = (i : Int) + 1:=by push_cast; rfl
   rw [this]
   exact he2
  ·exact st1.1.at fun o z => (hs2.2 it (Ne.symm ne)).trans z
 done:=by
  intro X hP hw hK hc i pins s σ H E I hf st hg
  subst hP hw hK
  obtain ⟨xs,hq,hx⟩:=hg
  obtain ⟨its,rv,p,hz⟩:=I.list hq
  obtain ⟨⟨old,he⟩,hit⟩:=st
  obtain ⟨f0,f1,f2,f3,f4,f5⟩:=hf it (by simp)
  have p' : s.heap.IsList a its.toArray:=p.isList
  have hl:=rv.length
  have hT : s.TypeIs (.ref e) "enumerate" := ⟨_,he,rfl⟩
  unfold pyNext
  refine wpAny_bind (wpAny_attempt (wpAny_callSpecial?_slot (name:=Str.ofString "__next__") hT F.slot_enumerate_next
   (wpAny_call_entry F.slot_enumerate_next hT F.entry_enumerate_next ?_ (F.args_enumerate_next_1 _))))
  show wpAny _ _ (field (.ref e) 2 >>= _) _ _ _
  refine wpAny_bind (wpAny_field he rfl (x:=.ref it) rfl ?_)
  refine wpAny_bind (wpAny_nextOf_list_end (show X.A.in1.handled = none from I.ok.hd hc) hit p' (by simp; omega) fun h' x he' hx' => ?_)
  obtain ⟨o,ho,hcl⟩:=hx'
  refine wpAny_bind (wpAny_isInstance (T := "StopIteration") (b:=true) ⟨o,ho,hcl⟩ isSubtype_stop ?_)
  exact wpAny_pure ⟨rfl,I.turned (t' := s.toks) (fun b o hb z => he' b o hb z) f0 f1 f3 f4 f5⟩
 self:=fun _ _ _ _ _ st h => let ⟨_,z⟩:=st.1; wpAny_pyIter_enum z h
section
variable {X : Cx}
def Gd (K : PySem.W.Frag) (tl : TA) : TI:=fun σ H R => tl σ H fun vs H1 => ∃ a,vs = [.ref a] /\ (∃ xs,SqL K H1 a xs) /\ R (A9 K a) H1
theorem sV {elts : List Expr} {x1 : _} {tpos : Pos} {l : Expr} {tl : TA} {p pos : Pos} (hg : Gl X "enumerate") (hm : X.mg "enumerate" = none) (hl : PA X [l] tl) (hs : starEach [l] X.env = [(false,eval l X.env)]:=by rfl) :
  PI X (.Tuple elts x1 tpos) (.Call (.Name "enumerate" p) [l] [] pos) (Gd X.K tl):=by
 intro pins s σ H R I h
 refine Call_ (gT I hg hm mR (PyProof.Rows.callWith_type1 (thn (hl pos pins s σ H _ I h) fun us s1 ⟨vs,H1,I1,r1,q1⟩ => ?_) hs rfl))
 obtain ⟨a,e,⟨xs,hq⟩,q⟩:=q1
 subst e
 cases r1 with
 | cons r rr =>
  cases rr
  cases r
  obtain ⟨its,rv,p,hz⟩:=I1.list hq
  refine call_enumerate_list (show s1.heap.IsList a its.toArray from p.isList) fun h' he hit hsz hk => ?_
  refine wpAny_pyIter_enum he ?_
  refine ⟨s1.heap.objs.size + 1,[s1.heap.objs.size + 1,s1.heap.objs.size],_,_,H1,rfl,I1.kept (t' := s1.toks) hk,Al a _ s1.heap.objs.size,⟨⟨_,he⟩,hit⟩,fun b hb => ?_,q⟩
  have e : b = s1.heap.objs.size + 1 \/ b = s1.heap.objs.size:=by simpa using hb
  rcases e with rfl | rfl
  ·exact I1.fpOk (Nat.le_succ _) (I1.hok.fresh (Nat.le_succ _))
  ·exact I1.fpOk (Nat.le_refl _) (I1.hok.fresh (Nat.le_refl _))
end
theorem vf {K : PySem.W.Frag} {a : Addr} {xs : List V} {g : TG} {tb : TS} {D : Ends} {σ : St} {H : Hp} (Pv : Nat -> St -> Hp -> Prop) (h0 : Pv 0 σ H) (hl : ∀ i σ H,i <= xs.length -> Pv i σ H -> SqL K H a xs)
  (hs : ∀ i x σ H T,xs[i]? = some x -> Pv i σ H -> H T = none -> g (.ref T) σ (upd H T (.tup [.int i,x])) fun σ2 H2 => tb { D with nx:=Pv (i + 1),ct:=Pv (i + 1),bk:=D.nx } σ2 H2) (hd : ∀ σ H,Pv xs.length σ H -> D.nx σ H) :
  ∃ W : Nat -> Nat -> St -> Hp -> Prop,(∃ m,W 0 m σ H) /\ ∀ i m σ H,W i m σ H ->
   ((A9 K a).stop i H /\ D.nx σ H) \/ ((A9 K a).go i H /\ ∃ N : St -> Hp -> Prop,(∀ σ' H',N σ' H' -> ∃ m',m' < m /\ W (i + 1) m' σ' H') /\ ∀ x H',(A9 K a).yld i H x H' -> g x σ H' fun σ2 H2 => tb { D with nx:=N,ct:=N,bk:=D.nx } σ2 H2):=by
 refine ⟨fun i m σ H => m = xs.length - i /\ i <= xs.length /\ Pv i σ H,⟨xs.length,by simp,Nat.zero_le _,h0⟩,?_⟩
 rintro i m σ H ⟨rfl,hi,p⟩
 have q:=hl i σ H hi p
 by_cases hlt : i < xs.length
 ·refine .inr ⟨⟨xs,xs[i],q,by simp [hlt]⟩,Pv (i + 1),fun σ' H' p' => ⟨xs.length - (i + 1),by omega,rfl,hlt,p'⟩,fun x H' y => ?_⟩
  obtain ⟨T,x0,rfl,hT,rfl,y⟩:=y
  exact hs i x0 σ _ T (y xs q) p hT
 ·have e : i = xs.length:=by omega
  subst e
  exact .inl ⟨⟨xs,q,Nat.le_refl _⟩,hd σ H p⟩
end L2
set_option Elab.async false
set_option linter.all false
set_option maxRecDepth 100000
set_option maxHeartbeats 4000000
namespace L2
open PySem PySem.Spec PyProof.Rows
theorem Eb {B : St} {t u a b : Option V} : ((((B.set 0 t).set 1 u).set 0 a).set 1 b) = (B.set 0 a).set 1 b:=by
 rw [List.set_comm u a (l:=B.set 0 t) (by decide : (1 : Nat) ≠ 0),List.set_set,List.set_set]
theorem y0 {J : It} {n : Nat} {item : Nat -> V} {ix : List (Option Nat)} {g : TG} {te : TE} {σ : St} {H : Hp} {Qd : Addr -> Hp -> Prop} (Pv : Addr -> Nat -> List V -> Hp -> Prop)
  (hg : ∀ (T : Addr) (σ : St) (H : Hp) (Q : St -> Hp -> Prop) (i : Int) (x : V),H T = some (.tup [.int i,x]) -> Q ((σ.set 0 (some (.int i))).set 1 (some x)) H -> g (.ref T) σ H Q)
  (h0 : ∀ D,H D = none -> Pv D 0 [] (upd H D (.lst [])))
  (hgo : ∀ D i ys H',i < n -> Pv D i ys H' -> J.go i H' /\ ∀ x H2,J.yld i H' x H2 -> ∃ T,x = .ref T /\ H' T = none /\ H2 = upd H' T (.tup [.int i,item i]))
  (hst : ∀ D ys H',Pv D n ys H' -> J.stop n H')
  (hs : ∀ D i ys H' T (Q' : VK),H D = none -> i < n -> H' D = some (.lst ys) -> Pv D i ys H' -> H' T = none -> (∀ y H4,H4 D = some (.lst ys) -> ys.length < sizeLine -> Pv D (i + 1) (ys ++ [y]) (upd H4 D (.lst (ys ++ [y]))) -> Q' y H4) ->
   te (((aO ix σ).set 0 (some (.int i))).set 1 (some (item i))) (upd H' T (.tup [.int i,item i])) Q')
  (hd : ∀ D ys H',H D = none -> H' D = some (.lst ys) -> Pv D n ys H' -> Qd D H') : mK J ix g te σ H Qd:=by
 intro D hD
 refine ⟨fun i m σ' H' => m = n - i /\ i <= n /\ (σ' = aO ix σ \/ ∃ t u,σ' = ((aO ix σ).set 0 t).set 1 u) /\ ∃ ys,H' D = some (.lst ys) /\ Pv D i ys H',⟨n,by simp,Nat.zero_le _,.inl rfl,[],ab,h0 D hD⟩,?_⟩
 rintro i m σ' H' ⟨rfl,hi,hσ,ys,hy,p⟩
 by_cases hlt : i < n
 ·obtain ⟨g1,g2⟩:=hgo D i ys H' hlt p
  refine .inr ⟨g1,fun x H2 y => ?_⟩
  obtain ⟨T,rfl,hT,rfl⟩:=g2 x H2 y
  refine hg T σ' _ _ i (item i) ab ?_
  have es : ((σ'.set 0 (some (V.int i))).set 1 (some (item i))) = ((aO ix σ).set 0 (some (V.int i))).set 1 (some (item i)):=by
   rcases hσ with z | ⟨t,u,z⟩
   ·rw [z]
   ·rw [z,Eb]
  show te ((σ'.set 0 (some (V.int i))).set 1 (some (item i))) _ _
  rw [es]
  refine hs D i ys _ T _ hD hlt hy p hT fun y H4 h4 hz p4 => ⟨ys,h4,hz,n - (i + 1),by omega,rfl,hlt,.inr ⟨_,_,rfl⟩,ys ++ [y],ab,p4⟩
 ·have e : i = n:=by omega
  subst e
  exact .inl ⟨hst D ys H' p,hd D ys H' hD hy p⟩
end L2
set_option Elab.async false
set_option linter.all false
set_option maxRecDepth 100000
namespace L2
open PySem PySem.Spec PyProof.Rows
section
variable {X : Cx} {pins : List (Addr × Obj)} {σ : St} {H H' : Hp} {s : Shared} {h' : Heap}
end
theorem AN {k : Key} {v : Value} (h : qc k v = true) : RelV (kV k) v:=by
 rcases bH h with ⟨n,t,rfl,rfl⟩ | ⟨x,t,rfl,rfl⟩
 ·exact ⟨t,rfl⟩
 ·exact ⟨t,rfl⟩
section
variable {X : Cx}
abbrev mL (v d : Addr) : HO:=.ext fun h => h.IsItemsView v d
def GB : V -> List V -> Hp -> VK -> Prop:=fun x vs H Q => ∃ d kvs,x = .ref d /\ vs = [] /\ H d = some (.dK kvs) /\ ∀ v,H v = none -> Q (.ref v) (upd H v (mL v d))
theorem Dc : MtM X "dict.items" GB:=by
 intro pins s σ H x vs v us Q I rx rv h
 obtain ⟨d,kvs,rfl,rfl,hd,q⟩:=h
 cases rx
 have hus:=rv.zero
 subst hus
 obtain ⟨z,lo,vs,kv,dof⟩:=(show ObjOk X.prog X.w H s.heap d (.dK kvs) from I.hok d _ hd)
 refine call_meetsIn PySem.F.slot_dict_items dof.typeIs PySem.F.entry_dict_items (PySem.F.args_dict_items_1 _) (meets_dict_items (aP X.prog X.w) d lo) ⟨⟨vs,dof⟩,?_⟩
 refine ⟨.ref _,_,I.laid (o:=mL s.heap.objs.size d) (t' := s.toks) (fun b o e => Heap.get?_push_of_some _ e) (Nat.le_refl _) ?_,rfl,q _ (I.hok.fresh (Nat.le_refl _))⟩
 exact ⟨⟨_,Heap.get?_push_size _ rfl,rfl,rfl⟩,⟨_,Heap.get?_push_size _ rfl⟩,fun h1 h2 ⟨o,ho,x⟩ kp => ⟨o,kp o ho,x⟩⟩
end
end L2
set_option Elab.async false
set_option linter.all false
set_option maxRecDepth 100000
namespace L2
open PySem PySem.Spec PyProof.Rows
section
variable {X : Cx}
theorem vR : gX X (.builtin "divmod") (fun xs H Q => ∃ i j,xs = [.int i,.int j] /\ FI i j /\ ∀ p,H p = none -> Q (.ref p) (upd H p (.tup [.int (i / j),.int (i % j)]))):=by
 intro pins s σ H xs us Q I r h
 obtain ⟨i,j,rfl,⟨h1,h2⟩,q⟩:=h
 obtain ⟨u,w',rfl,⟨t,rfl⟩,⟨t',rfl⟩⟩:=vals2 r
 have h3:=rQ (Int.le_of_lt h1) h2
 refine divmod_int (by omega) ?_ (.inl (PyProof.noPylong_of_log2 (by omega)))
 rw [Int.fdiv_eq_ediv_of_nonneg i (by omega),Int.fmod_eq_emod_of_nonneg i (by omega)]
 have hn : H s.heap.objs.size = none:=I.hok.fresh (Nat.le_refl _)
 refine ⟨.ref s.heap.objs.size,_,?_,rfl,q _ hn⟩
 refine I.laid (fun b o e => Heap.get?_push_of_some _ e) (Nat.le_refl _) ⟨by simp only [List.length_cons,List.length_nil]; rw [sizeLine_eq]; decide,[.int (i / j) s.toks,.int (i % j) (s.toks + 1)],.cons ⟨_,rfl⟩ (.cons ⟨_,rfl⟩ .nil),?_⟩
 exact ⟨_,Heap.get?_push_size s.heap rfl,rfl,0,rfl⟩
end
theorem Bc : bootBuiltins "divmod" = some (.builtin "divmod"):=by decide +kernel
end L2
set_option Elab.async false
set_option linter.all false
set_option maxRecDepth 100000
namespace L2
open PySem PySem.Spec PyProof.Rows
section
variable {X : Cx}
end
end L2
namespace PySem
open PyProof.Rows
namespace F
end F
section
variable {prog : Program} {w : World} {A : Around} {E : Value -> Shared -> Prop} {s : Shared}
end
end PySem
namespace L2
open PySem PySem.Spec PyProof.Rows
section
variable {X : Cx} {tg : Expr}
end
end L2
set_option Elab.async false
set_option linter.all false
set_option maxRecDepth 100000
set_option maxHeartbeats 4000000
namespace L2
open PySem PySem.Spec PyProof.Rows
section
variable {X : Cx}
end
section
variable {X : Cx}
theorem Fh (K : PySem.W.Frag) {es : List Expr} {k : Nat} {pos : Pos} {t : TGs} {n : Nat} (hc : X.calm = true) (h : PGs X es t) (hK : X.K = K:=by rfl)
  (hn : (assignEach es X.env).length = n:=by rfl) (hst : (assignEach es X.env).findIdx? (·.1) = none:=by rfl) : PG X (.Tuple es k pos) (G3 K n t):=by
 subst hK
 exact pG hc h hn hst
theorem zU {m : Str} {C : Addr} {j k : Nat} {ps : List Str} {sp : Sp} {apos pos : Pos} {o : Expr} {ta : TE} {pl : Sem Bool} (G : DefMe X.prog X.w X.K X.mg X.base C m k ps sp) (hr : Room j X.A) (ho : PE X o ta) (hkj : k <= j:=by decide)
  (ht : eval (.Call (.Attribute o m apos) [] [] pos) X.env = (do
   let ov <- eval o X.env
   standAt apos.atName
   let (f,first) <- holding [ov] (getMethod ov m pl)
   callWith pos f first (backTo pos (starEach [] X.env)) (backToKw pos (keywordEach [] X.env))):=by rfl) :
  PE X (.Call (.Attribute o m apos) [] [] pos) (A2 C m sp [] E0 ta FA):=by
 obtain ⟨f,fd,hm,hb,F⟩:=G.ex
 exact DE ho G.cl hm F (hr.mono hkj) hb .nil Dz ht
end
end L2
set_option Elab.async false
set_option linter.all false
set_option maxRecDepth 100000
set_option maxHeartbeats 4000000
namespace L2
open PySem PySem.Spec PyProof.Rows
section
variable {prog : Program} {w : World} {A : Around} {E : Value -> Shared -> Prop} {s : Shared}
structure ZipFar3 (z TI TO i1 i2 i3 : Addr) (fp1 fp2 fp3 : List Addr) : Prop where
 TIz : TI ≠ z
 TOz : TO ≠ z
 TITO : TI ≠ TO
 i1z : i1 ≠ z
 i2z : i2 ≠ z
 i3z : i3 ≠ z
 TIi1 : TI ≠ i1
 TIi2 : TI ≠ i2
 TIi3 : TI ≠ i3
 TOi1 : TO ≠ i1
 TOi2 : TO ≠ i2
 TOi3 : TO ≠ i3
 z1 : z ∉ fp1
 TO1 : TO ∉ fp1
 i21 : i2 ∉ fp1
 i31 : i3 ∉ fp1
 z2 : z ∉ fp2
 TO2 : TO ∉ fp2
 i12 : i1 ∉ fp2
 i32 : i3 ∉ fp2
 z3 : z ∉ fp3
 TO3 : TO ∉ fp3
 i13 : i1 ∉ fp3
 i23 : i2 ∉ fp3
variable {z TI TO i1 i2 i3 : Addr} {fp1 fp2 fp3 : List Addr} {n1 n2 n3 k : Nat} {P1 P2 P3 : Nat -> Value -> Prop} {St1 St2 St3 : Nat -> Heap -> Prop} {a b c : Value}
end
section
variable {X : Cx}
end
section
variable {X : Cx}
end
theorem dX {t u : TS} {D : Ends} {σ : St} {H : Hp} (R : St -> Hp -> Prop) (h1 : ∀ σ' H',R σ' H' -> u D σ' H') (h2 : ∀ D' : Ends,(∀ σ' H',R σ' H' -> D'.nx σ' H') -> t D' σ H) : Cf t u D σ H:=
 h2 { D with nx:=u D } h1
theorem ko {X : Cx} : gX X (.builtin "len") (fun xs H Q => ∃ a kvs,xs = [.ref a] /\ H a = some (.dK kvs) /\ Q (.int kvs.length) H):=by
 intro pins s σ H xs us Q I r h
 obtain ⟨a,kvs,rfl,ha,q⟩:=h
 obtain ⟨u,rfl,rx⟩:=vals1 r
 cases rx
 exact GZ I (.inl ha) fun t s' I' => ⟨.int kvs.length,H,I',⟨t,rfl⟩,q⟩
end L2
set_option Elab.async false
set_option linter.all false
set_option maxRecDepth 100000
set_option maxHeartbeats 4000000
namespace L2
open PySem PySem.Spec PyProof.Rows
structure BlkScope1 (NX : List Str) (scX : Scope) (N : List Str) (ix : List (Option Nat)) (sc : Scope) (x : Str) : Prop where
 kind : sc.kind = .function
 nd : N.Nodup
 cell : sc.names.lookup x = some .cell
 only : ∀ y ∈ sc.names,y.2 = .cell -> y.1 = x
 lay : ∀ n cl,cellsFrom n sc.names cl = (x,n) :: cl
 lays : ∀ h,pushCells h sc.names = h.push { cls:=.type "cell",data:=.cell none }
 locs : ∀ y ∈ sc.names,y.2 = .local -> sc.names.lookup y.1 = some .local
 free : ∀ y ∈ sc.names,y.2 = .free -> scX.names.lookup y.1 = some .cell \/ scX.names.lookup y.1 = some .free
 nofree : ∀ y ∈ sc.names,y.2 = .free -> y.1 ≠ x
 len : ix.length = N.length
 at_ : ∀ p ∈ N.zip ix,∀ i,p.2 = some i -> NX[i]? = some p.1 /\ sc.names.lookup p.1 = some .free
section
variable {X : Cx} {pins : List (Addr × Obj)} {σ : St} {H : Hp} {s : Shared} {N : List Str} {ix : List (Option Nat)} {scope : Scope} {fp : List Addr} {x : Str}
variable {tg elt iter : Expr} {pos spos : Pos} {J : It} {it : Addr} {tn : Nat -> Heap -> Prop} {g : TG} {te : TE} {wi : TI}
end
end L2
set_option Elab.async false
set_option linter.all false
set_option maxRecDepth 100000
namespace L2
open PySem PySem.Spec PyProof.Rows
abbrev HH (xs : Array Nat) : Prop:=xs.toList.Pairwise (· < ·)
structure TabOk (t : SetTable) (led : Bool) : Prop where
 rise : HH t.place
 nod : t.dummies = #[]
 led : t.led = led
abbrev byT (w : World) : Bool:=w.params.followText "set-order"
section
variable {P : Program} {w : World} {A : Around} {E : Value -> Shared -> Prop} {s : Shared}
end
end L2
set_option Elab.async false
set_option linter.all false
set_option maxRecDepth 100000
namespace L2
open PySem PySem.Spec PyProof.Rows
section
variable {P : Program} {w : World} {A : Around} {E : Value -> Shared -> Prop} {R : Result -> Shared -> Prop} {I : Addr} {fp wr : List Addr} {G : Array GenState -> Array GenState -> Prop} {n : Nat} {Pz : Nat -> Value -> Prop} {St : Nat -> Shared -> Prop}
end
section
variable {P : Program} {w : World} {A : Around} {E : Value -> Shared -> Prop} {s : Shared}
end
end L2
set_option Elab.async false
set_option linter.all false
set_option maxRecDepth 100000
namespace L2
open PySem PySem.Spec PyProof.Rows
namespace SF
end SF
def A8 (h : Heap) (I S : Addr) (first : Value) (i n ep : Nat) : Prop := ∃ o,h.get? I = some o /\ o.cls = .type "set_iterator" /\ o.data = .fields #[first,.int i 0,.ref S,.int n 0,.int ep 0]
def F5 (w : World) (es : Array (Int × Value)) (ep : Nat) (t : SetTable) (S T : Addr) (L : List Value) (h : Heap) (i : Nat) (first : Value) : Prop:=
 (byT w = true /\ (∃ z : Nat,first = .int z 0) /\ L = (pickOrder (w.params.setOrder S ep) es).toList.map (·.2)) \/
 (byT w = false /\ (t.plain = true \/ es.size <= 1) /\ (∃ z : Nat,first = .int z 0 /\ SetTable.below t.place z = i) /\ L = es.toList.map (·.2)) \/
 (byT w = false /\ first = .ref T /\ ∃ pl : List Nat,pl.Perm (List.range es.size) /\ (∃ o e,h.get? T = some o /\ o.data = .seq (pl.map fun p : Nat => Value.int (p : Int) 0).toArray e) /\ L = pl.map fun p => (es.getD p (0,.none)).2)
structure SetSt (w : World) (es : Array (Int × Value)) (ep : Nat) (t : SetTable) (S T I : Addr) (L : List Value) (i : Nat) (h : Heap) : Prop where
 set : ∃ o,h.get? S = some o /\ o.data = .set es ep t
 it : ∃ first,A8 h I S first i es.size ep /\ F5 w es ep t S T L h i first
section
variable {P : Program} {w : World} {A : Around} {E : Value -> Shared -> Prop} {s : Shared} {es : Array (Int × Value)} {ep : Nat} {t : SetTable} {S T I : Addr} {L : List Value} {i : Nat}
end
end L2
set_option Elab.async false
set_option linter.all false
set_option maxRecDepth 100000
namespace L2
open PySem PySem.Spec PyProof.Rows
namespace SF
end SF
section
variable {P : Program} {w : World} {A : Around} {E : Value -> Shared -> Prop} {s : Shared} {es : Array (Int × Value)} {ep : Nat} {t : SetTable} {S T I : Addr} {L : List Value}
end
end L2
set_option Elab.async false
set_option linter.all false
set_option maxRecDepth 100000
namespace L2
open PySem PySem.Spec PyProof.Rows
section
variable {P : Program} {w : World} {A : Around} {E : Value -> Shared -> Prop} {s : Shared} {S : Addr} {ns : List Int}
end
end L2
set_option Elab.async false
set_option linter.all false
set_option maxRecDepth 100000
namespace L2
open PySem PySem.Spec PyProof.Rows
def a9 (ns : List Int) : List Int:=ns.foldl step_dedup []
theorem Bn {s : List Int} {v k : Int} : k ∈ step_dedup s v ↔ k ∈ s \/ k = v:=by
 unfold step_dedup
 split
 ·rename_i h
  have hv : v ∈ s:=by simpa using h
  exact ⟨.inl,fun z => z.elim id fun e => e ▸ hv⟩
 ·simp
theorem qg : ∀ (ns s : List Int) (k : Int),k ∈ ns.foldl step_dedup s ↔ k ∈ s \/ k ∈ ns
 | [],s,k => by simp
 | n :: r,s,k => by
  rw [List.foldl_cons,qg r,Bn,List.mem_cons]
  constructor
  ·rintro ((h | h) | h)
   ·exact .inl h
   ·exact .inr (.inl h)
   ·exact .inr (.inr h)
  ·rintro (h | h | h)
   ·exact .inl (.inl h)
   ·exact .inl (.inr h)
   ·exact .inr h
theorem once_mem {ns : List Int} {k : Int} : k ∈ a9 ns ↔ k ∈ ns:=by
 unfold a9
 rw [qg]
 simp
theorem dH : ∀ (ns s : List Int),(ns.foldl step_dedup s).length <= s.length + ns.length
 | [],s => Nat.le_refl _
 | n :: r,s => by
  refine Nat.le_trans (dH r _) ?_
  have : (step_dedup s n).length <= s.length + 1:=by
   unfold step_dedup
   split
   ·exact Nat.le_succ _
   ·rw [List.length_append]; exact Nat.le_refl _
  rw [List.length_cons]
  omega
theorem nO (ns : List Int) : (a9 ns).length <= ns.length:=by
 have q:=dH ns []
 unfold a9
 simpa using q
section
variable {X : Cx}
end
end L2
set_option Elab.async false
set_option linter.all false
set_option maxRecDepth 100000
namespace PySem
open PyProof.Rows
theorem sA : typeLookup (.type "list") "keys" = pure none:=by rw [typeLookup_type,builtinLookup_eq_fast]; kernel_rfl
theorem kc {prog : Program} {w : World} {A : Around} {E : Value -> Shared -> Prop} {s : Shared} {a : Addr} {xs : Array Value} {k : Nat} {sl : Array (Option Value)} {Q : Option Value -> Shared -> Prop}
  (hx : s.heap.get? a = some { cls:=.type "list",dict:=none,data:=.seq xs k,slots:=sl }) (hA : A.handled = none)
  (h : ∀ h' tk,(∀ b o,s.heap.get? b = some o -> h'.get? b = some o) -> Q none { s with heap:=h',toks:=tk }) : wpAny (model prog w) A (getAttr? (.ref a) "keys") Q E s:=by
 obtain ⟨hp,g,d,tk,os⟩:=s
 have hT : ∀ tk',(⟨hp,g,d,tk',os⟩ : Shared).TypeIs (.ref a) "list" := fun _ => ⟨_,hx,rfl⟩
 have f1:=sub_AttributeError
 have f3:=F.slot_list_getattribute.lookup
 have f4:=F.slot_list_getattribute.bind (.ref a)
 have f5:=am_list_getattr_none
 have hmiss:=sA
 have hname : (["__module__","__name__","__qualname__","__doc__","__annotations__"] : List Str).contains (Str.ofString "keys") = false:=by decide +kernel
 unfold getAttr? getAttrBy? getAttrBy
 repeat (any_goals (first | assumption | exact hT _ | ((with_reducible show wpAny _ _ (call (Value.builtin "list.__getattribute__") _ _) _ _ _); refine call_meets F.slot_list_getattribute (hT _) am_entry_list_getattribute (F.args_list_getattribute_2 _ _) (meets_getattribute_miss_list a xs k sl (Str.ofString "keys") _ hmiss hname (by decide)) ⟨hx,hA,fun h' tk' e hx' => ?_⟩) | wp_step))
 obtain ⟨t',u',he⟩:=hx'.there
 show wpAny _ _ (getattributeRaised _ _ _ _ _ _ _) _ _ _
 unfold getattributeRaised
 repeat (any_goals (first | assumption | wp_step))
 exact h h' tk' hx'.keeps
section
variable {prog : Program} {w : World} {K : Type} [DecidableEq K] {knd : KeyKind prog w K} {A : Around} {E : Value -> Shared -> Prop} {s : Shared} {R : Result -> Shared -> Prop}
theorem cH : entryFor table "dict.update.loop" = some Builtin.«dict.update.loop» := entryFor_of_tree (by kernel_rfl)
theorem bc : plainId "dict.update.loop" = true:=by decide +kernel
def rM (knd : KeyKind prog w K) (h : Heap) (ts : List Addr) (ps : List (K × Value)) : Prop := ∀ (j : Nat) (t : Addr) (p : K × Value),ts[j]? = some t -> ps[j]? = some p -> ∃ key,knd.is p.1 key = true /\ IsTup h t #[key,p.2]
theorem yK {D I l : Addr} {ts : List Addr} {ps : List (K × Value)} (W : Walks prog w A.in1 I [I,l] [I] ts.length (fun i v => (ts.map Value.ref).toArray[i]? = some v) (fun i h => h.IsListIter I l i /\ h.IsList l (ts.map Value.ref).toArray))
  (hl : ts.length = ps.length) (hDI : D ≠ I) (hDl : D ≠ l) (hDt : ∀ t ∈ ts,t ≠ D /\ t ≠ I) (hz : ps.length <= sizeLine) :
  ∀ (k i : Nat) (s : Shared) (acc : List (K × Value)),ts.length - i = k -> i <= ts.length -> (s.heap.IsListIter I l i /\ s.heap.IsList l (ts.map Value.ref).toArray) -> s.heap.DictOf knd D acc -> acc.length <= i -> rM knd s.heap ts ps ->
  (∀ h' tk,(∀ b o,b ≠ D -> b ≠ I -> s.heap.get? b = some o -> h'.get? b = some o) -> h'.DictOf knd D (merged acc (ps.drop i)) -> R (.ok (.ret .none)) { s with heap:=h',toks:=tk }) ->
  codeAny (model prog w) A (.builtin "dict.update.loop" ⟨[.ref D,.ref I,rawInt (i : Int),.none],[]⟩) R s:=by
 intro k
 induction k with
 | zero =>
  intro i s acc hk hi hst hD hacc hP hR
  have hin : i = ts.length:=by omega
  subst hin
  refine codeAny_builtin cH ?_
  rw [Around.under_plainId bc _]
  show wpAny _ A.in1 (pyNext (.ref I) >>= _) _ _ s
  refine wpAny_bind (W.done s _ _ hst fun h' tk hm => ?_)
  show wpAny _ _ (Builtin.Dict.addKeywords D [] >>= _) _ _ _
  refine wpAny_bind (wpAny_of_eq (a:=()) rfl ?_)
  have e : ps.drop ts.length = []:=by rw [hl,List.drop_length]
  refine wpAny_pure (hR h' tk (fun b o _ hb q => hm b o (by simpa using hb) q) ?_)
  rw [e]
  exact hD.extBut (b:=I) (fun b o hb q => hm b o (by simpa using hb) q) hDI
 | succ k ih =>
  intro i s acc hk hi hst hD hacc hP hR
  have hlt : i < ts.length:=by omega
  have hlt2 : i < ps.length:=by omega
  refine codeAny_builtin cH ?_
  rw [Around.under_plainId bc _]
  show wpAny _ A.in1 (pyNext (.ref I) >>= _) _ _ s
  refine wpAny_bind (W.item i s _ _ hlt hst fun v h' tk hv hst' hm => ?_)
  have ev : v = .ref ts[i]:=by
   have : (ts.map Value.ref).toArray[i]? = some (.ref ts[i]):=by simp [hlt]
   rw [this] at hv
   exact (Option.some.inj hv).symm
  subst ev
  have keep : ∀ b o,b ≠ I -> s.heap.get? b = some o -> h'.get? b = some o:=fun b o hb q => hm b o (by simpa using hb) q
  obtain ⟨key,hkey,ht⟩:=hP i ts[i] ps[i] (List.getElem?_eq_getElem hlt) (List.getElem?_eq_getElem hlt2)
  have tn:=hDt ts[i] (List.getElem_mem hlt)
  have ht' : IsTup h' ts[i] #[key,(ps[i]).2]:=ht.extBut (b:=I) keep tn.2
  have hD' : h'.DictOf knd D acc:=hD.extBut (b:=I) keep hDI
  obtain ⟨ot,hot,hct,nt,hdt⟩:=id ht'
  try dsimp only
  refine wpAny_bind (wpAny_holding ?_)
  refine wpAny_bind (wpAny_tryCatch ?_)
  unfold Builtin.Dict.pairItems
  refine wpAny_bind (wpAny_typeOf (s:={ s with heap:=h',toks:=tk }) ht'.typeIs ?_)
  rw [if_pos (by decide)]
  refine wpAny_bind (wpAny_seqItems (s:={ s with heap:=h',toks:=tk }) hot hdt ?_)
  refine wpAny_pure ?_
  show wpAny _ _ (holding [key,(ps[i]).2] (dictSet D key (ps[i]).2)) _ _ _
  refine wpAny_holding (wpAny_dictSet_pairs (knd:=knd) (s:={ s with heap:=h',toks:=tk }) hkey hD' (fun h2 hD2 sb2 => ?_) (by omega))
  have keep2 : ∀ b o,b ≠ D -> h'.get? b = some o -> h2.get? b = some o:=fun b o hb q => sb2.extBut b o hb q
  refine wpAny_pure ⟨plainId_quiet bc _,?_⟩
  have ri : rawInt ((i : Int) + 1) = rawInt (((i + 1 : Nat)) : Int):=by push_cast; rfl
  rw [ri]
  refine ih (i + 1) { s with heap:=h2,toks:=tk + 1 } (stored acc (ps[i]).1 (ps[i]).2) (by omega) hlt ⟨hst'.1.at fun o q => keep2 I o (Ne.symm hDI) q,hst'.2.at fun o q => keep2 l o (Ne.symm hDl) q⟩ hD2 (by
   have:=stored_length_le acc (ps[i]).1 (ps[i]).2
   omega) (fun j t p h1 h2' => ?_) (fun h3 tk3 kp3 hD3 => ?_)
  ·obtain ⟨key',hk',ht''⟩:=hP j t p h1 h2'
   have tn' := hDt t (List.mem_of_getElem? h1)
   exact ⟨key',hk',(ht''.extBut (b:=I) keep tn'.2).extBut (b:=D) keep2 tn'.1⟩
  ·refine hR h3 tk3 (fun b o hb hb2 q => kp3 b o hb hb2 (keep2 b o hb (keep b o hb2 q))) ?_
   rw [List.drop_eq_getElem_cons hlt2]
   exact hD3
theorem qu {l : Addr} {ts : List Addr} {ps : List (K × Value)} {c : Nat} {Q : Value -> Shared -> Prop} (hh : A.handled = none) (hL : s.heap.get? l = some { cls:=.type "list",dict:=none,data:=.seq (ts.map Value.ref).toArray c,slots := #[] })
  (hl : ts.length = ps.length) (hP : rM knd s.heap ts ps) (hz : ps.length <= sizeLine)
  (hQ : ∀ h' tk,(∀ b o,s.heap.get? b = some o -> h'.get? b = some o) -> h'.DictOf knd s.heap.objs.size (merged [] ps) -> Q (.ref s.heap.objs.size) { s with heap:=h',toks:=tk }) :
  wpAny (model prog w) A (call (.type "dict") [.ref l]) Q E s:=by
 refine callType_codes (Q₁:=fun obj s₁ => obj = .ref s.heap.objs.size /\ s₁ = { s with heap:=s.heap.push { cls:=.type "dict",data:=.dict #[] } }) F.kt_called_dict (F.kt_typeCall_dict_1 _) F.entry_dict_init (kt_code_dict_new _ ⟨rfl,rfl⟩) ?_
 rintro obj s₁ ⟨rfl,rfl⟩
 have hnew : (s.heap.push { cls:=.type "dict",data:=.dict #[] }).DictOf knd s.heap.objs.size []:=Heap.DictOf.new s.heap
 have hlt : l < s.heap.objs.size:=Heap.lt_size hL
 have hL' : (s.heap.push { cls:=.type "dict",data:=.dict #[] }).get? l = some { cls:=.type "list",dict:=none,data:=.seq (ts.map Value.ref).toArray c,slots := #[] }:=Heap.get?_push_of_some _ hL
 refine ⟨hnew.typeIs,F.args_dict_init_2 _ _,?_⟩
 unfold Builtin.«dict.__init__»
 refine wpAny_bind ?_
 unfold Builtin.Dict.selfAndRest
 refine wpAny_bind (wpAny_notOrdered_dict hnew.typeIs ?_)
 show wpAny _ _ (pure (s.heap.objs.size,[Value.ref l])) _ _ _
 refine wpAny_pure ?_
 show wpAny _ _ (Builtin.Dict.updateFrom "dict.__init__" s.heap.objs.size (.ref l) [] .none) _ _ _
 unfold Builtin.Dict.updateFrom
 refine wpAny_bind (wpAny_typeOf (T := "list") ⟨_,hL',rfl⟩ ?_)
 rw [if_pos (by decide)]
 refine wpAny_bind (kc hL' hh fun h1 tk1 kp1 => ?_)
 rw [if_pos (by rfl)]
 refine wpAny_bind (wpAny_rule ?_)
 have hL1:=kp1 _ _ hL'
 have il1 : Heap.IsList h1 l (ts.map Value.ref).toArray:=⟨_,hL1,rfl,c,rfl⟩
 refine wpAny_bind (wpAny_pyIter_list (s:={ s with heap:=h1,toks:=tk1 }) il1 ?_)
 refine wpAny_pure ⟨plainId_quiet bc _,?_⟩
 have oI : (h1.push { cls:=.type "list_iterator",data:=.fields #[.ref l,.int 0 0] }).get? h1.objs.size = some { cls:=.type "list_iterator",data:=.fields #[.ref l,.int 0 0] }:=Heap.get?_push_size _ rfl
 have l1 : l < h1.objs.size:=Heap.lt_size hL1
 have d1 : s.heap.objs.size < h1.objs.size:=Heap.lt_size (kp1 _ _ (Heap.get?_push_size s.heap rfl))
 have W:=Walks.list (prog:=prog) (w:=w) (A:=A.in1.in1) hh h1.objs.size l (Nat.ne_of_lt l1) (ts.map Value.ref).toArray
 have sz : (ts.map Value.ref).toArray.size = ts.length:=by simp
 rw [sz] at W
 have kp2 : ∀ b o,s.heap.get? b = some o -> (h1.push { cls:=.type "list_iterator",data:=.fields #[.ref l,.int 0 0] }).get? b = some o:=fun b o q => Heap.get?_push_of_some _ (kp1 _ _ (Heap.get?_push_of_some _ q))
 refine yK (A:=A.in1) (knd:=knd) (D:=s.heap.objs.size) (ps:=ps) W hl (Nat.ne_of_lt d1) (Nat.ne_of_gt hlt) (fun t ht => ?_) hz ts.length 0 { s with heap:=h1.push { cls:=.type "list_iterator",data:=.fields #[.ref l,.int 0 0] },toks:=tk1 } [] rfl (Nat.zero_le _) ⟨⟨_,oI,rfl,rfl⟩,il1.at fun o q => Heap.get?_push_of_some _ q⟩ ?_ (Nat.zero_le _) (fun j t p a1 a2 => ?_) (fun h3 tk3 kp3 hD3 => ?_)
 ·obtain ⟨j,hj⟩:=List.mem_iff_getElem?.mp ht
  have jl : j < ps.length:=by
   rw [<- hl]
   exact (List.getElem?_eq_some_iff.mp hj).1
  obtain ⟨key,_,o,ho,_⟩:=hP j t ps[j] hj (List.getElem?_eq_getElem jl)
  have tl:=Heap.lt_size ho
  exact ⟨Nat.ne_of_lt tl,Nat.ne_of_lt (Nat.lt_trans tl d1)⟩
 ·exact hnew.extBut (b:=h1.objs.size) (fun b o _ q => Heap.get?_push_of_some _ (kp1 _ _ q)) (Nat.ne_of_lt d1)
 ·obtain ⟨key,hk,ht⟩:=hP j t p a1 a2
  exact ⟨key,hk,ht.keeps kp2⟩
 ·exact ⟨rfl,hQ h3 tk3 (fun b o q => kp3 b o (Nat.ne_of_lt (Heap.lt_size q)) (Nat.ne_of_lt (Nat.lt_trans (Heap.lt_size q) d1)) (kp2 b o q)) hD3⟩
end
end PySem
namespace L2
open PySem PySem.Spec PyProof.Rows
section
variable {X : Cx}
def PairsV (H : Hp) : List Addr -> List (Key × V) -> Prop:=Paired fun a p => H a = some (.tup [kV p.1,p.2])
theorem sP {P : Program} {w : World} : ∀ {kvs : List (Key × V)} {ts : List Addr} {H : Hp} {h : Heap},PairsV H ts kvs -> HOk P w H h -> ∃ ps : List (Key × Value),KV kvs ps /\ ps.length = ts.length /\ rM (aP P w) h ts ps
 | [],[],_,_,.nil,_ => ⟨[],.nil,rfl,fun j t p h => by simp at h⟩
 | _,_,_,_,.cons (a:=a) (b:=p) (l₁:=ts) (l₂:=kvs) q t,ok => by
  obtain ⟨ps,r1,r2,r3⟩:=sP t ok
  obtain ⟨z,its,rv,ht⟩:=ok a _ q
  obtain ⟨u,v,rfl,ru,rv'⟩:=Vals.two rv
  refine ⟨(p.1,v) :: ps,.cons ⟨rfl,rv'⟩ r1,by simp [r2],fun j t' p' h1 h2 => ?_⟩
  cases j with
  | zero =>
   simp at h1 h2
   subst h1 h2
   exact ⟨u,ka ru,by simpa using ht⟩
  | succ j => exact r3 j t' p' (by simpa using h1) (by simpa using h2)
def Fp : List V -> Hp -> VK -> Prop:=fun xs H Q => ∃ l ts kvs,xs = [.ref l] /\ H l = some (.lst (ts.map V.ref)) /\ PairsV H ts kvs /\ ∀ D,H D = none -> Q (.ref D) (upd H D (.dK (cQ [] kvs)))
theorem p3 : ∀ {ts : List Addr} {us : List Value},Vals (ts.map V.ref) us -> us = ts.map Value.ref
 | [],_,.nil => rfl
 | t :: ts,_,.cons r q => by
  cases r
  rw [List.map_cons,p3 q]
theorem jU (hc : X.calm = true) : gX X (.type "dict") Fp:=by
 intro pins s σ H xs us Q I r h
 obtain ⟨l,ts,kvs,rfl,hl,hp,q⟩:=h
 obtain ⟨u,rfl,rx⟩:=vals1 r
 cases rx
 obtain ⟨z,its,n,rv,hln,e⟩:=I.lstM hl
 have ei:=p3 rv
 subst ei
 obtain ⟨ps,r1,r2,r3⟩:=sP hp I.hok
 have hlen : kvs.length = ps.length:=Paired.length r1
 have zl : ps.length <= sizeLine:=by
  rw [r2]
  rw [List.length_map] at z
  exact z
 refine qu (knd:=aP X.prog X.w) (I.ok.hd hc) e r2.symm r3 zl fun h' tk kp dd => ?_
 have ob : ObjOk X.prog X.w (upd H s.heap.objs.size (.dK (cQ [] kvs))) h' s.heap.objs.size (.dK (cQ [] kvs)):=by
  refine si ?_ (beq_eq_false_iff_ne.mpr (Ne.symm (Nat.ne_of_lt I.big))) (KV.merge r1 .nil) dd
  have:=ij kvs []
  simp only [List.length_nil] at this
  omega
 exact ⟨.ref _,_,I.laid (t' := tk) kp (Nat.le_refl _) ob,rfl,q _ (I.hok.fresh (Nat.le_refl _))⟩
end
section
variable {X : Cx} {pins : List (Addr × Obj)} {σ : St} {H : Hp} {s : Shared} {a : Addr} {z : V} {u r : Value} {A : Around} {E : Value -> Shared -> Prop} {kvs : List (Key × V)} {k : Key}
theorem vW {Q : Value -> Shared -> Prop} (I : Inv X pins σ H s) (e : H a = some (.dK kvs)) (hz : kvs.length < sizeLine) (ry : RelV (kV k) u) (rz : RelV z r)
  (h1 : ∀ v w' s',di kvs k = some v -> Inv X pins σ H s' -> RelV v w' -> Q w' s') (h2 : ∀ s',di kvs k = none -> Inv X pins σ (upd H a (.dK (putK kvs k z))) s' -> Q r s') :
  wpAny (model X.prog X.w) A (call (.builtin "dict.setdefault") [.ref a,u,r]) Q E s:=by
 obtain ⟨zl,hd,vs,rel,dd⟩:=AG I.hok e
 have rv:=rel.val k
 refine call_meetsIn PySem.F.slot_dict_setdefault dd.typeIs PySem.F.entry_dict_setdefault (PySem.F.args_dict_setdefault_3 _ _ _) (kt_meets_setdefault (aP X.prog X.w) a (ka ry) hd r) ⟨vs,dd,by rw [<- rel.length]; exact zl,fun v hv => ?_,fun hn h' dd' sb => ?_⟩
 ·cases hk : di kvs k with
  | none => rw [hk,hv] at rv; exact rv.elim
  | some x =>
   rw [hk,hv] at rv
   exact h1 x v _ hk (I.tok _) rv
 ·have hk : di kvs k = none:=by
   cases hk : di kvs k with
   | none => rfl
   | some x => rw [hk,hn] at rv; exact rv.elim
  refine h2 _ hk (kq (t' := s.toks + 1) I (by rw [e]; trivial) sb ?_ (si (kvs:=putK kvs k z) (by have:=fh kvs k z; omega) hd (rel.put k rz) dd'))
  obtain ⟨ob,_,_,g,_⟩:=dd'
  exact ⟨ob,g⟩
end
def Hu (td ty tx : TE) : TE:=fun σ H Q => td σ H fun x H1 => ∃ a,x = .ref a /\ IsD H1 a /\ ty σ H1 fun y H2 => tx σ H2 fun z H3 => ∃ kvs k,H3 a = some (.dK kvs) /\ y = kV k /\ kvs.length < sizeLine /\
 (∀ v,di kvs k = some v -> Q v H3) /\ (di kvs k = none -> Q z (upd H3 a (.dK (putK kvs k z))))
section
variable {X : Cx} {o e f : Expr} {apos cpos : Pos} {td ty tx : TE}
theorem wU (ho : PE X o td) (he : PE X e ty) (hf : PE X f tx) (m : M2 X o "setdefault" apos e f cpos) : PE X (.Call (.Attribute o "setdefault" apos) [e,f] [] cpos) (Hu td ty tx):=by
 intro pins s σ H Q I h
 refine wpAny_Call_method m.base m.few m.line PySem.F.plainAttrs_dict PySem.F.slot_dict_setdefault PySem.F.type_dict_setdefault (thn (ho pins s σ H _ I h) fun u s1 ⟨x,H1,I1,rx,a,ex,d,q1⟩ => ?_)
 subst ex
 obtain rfl : u = Value.ref a:=rx
 obtain ⟨t1,t2,_⟩:=wg I1 d
 refine ⟨t1,t2,?_⟩
 rw [m.trees]
 refine Calls.callWith_builtin rfl (Calls.evalArgs_plain (Calls.spliced_cons (thn (he pins s1 σ H1 _ I1 q1) fun iv s2 ⟨y,H2,I2,ry,q2⟩ =>
  Calls.spliced_cons (thn (hf pins s2 σ H2 _ I2 q2) fun fv s3 ⟨z,H3,I3,rz,kvs,k,ea,ey,hz,q3,q4⟩ => Calls.spliced_nil ?_))))
 subst ey
 exact vW I3 ea hz ry rz (fun v w' s' hv I4 rv => ⟨v,H3,I4,rv,q3 v hv⟩) fun s' hn I4 => ⟨z,_,I4,rz,q4 hn⟩
end
end L2
set_option Elab.async false
set_option linter.all false
set_option maxRecDepth 100000
namespace L2
open PySem PySem.Spec PyProof.Rows
section
variable {X : Cx} {pins : List (Addr × Obj)} {σ : St} {H : Hp} {s : Shared} {a : Addr} {o : Obj} {kvs : List (Key × V)}
theorem Inv.freeze (I : Inv X pins σ H s) (e : H a = some (.dK kvs)) (ho : s.heap.get? a = some o) : Inv X pins σ (upd H a (.frz o (.dK kvs))) s:=by
 have nt : ∀ b u,H b = some u -> (u = .dK kvs -> False) -> b ≠ a:=fun b u q d => aA q e d
 refine I.un (t' := s.toks) ⟨fun b u q _ _ _ => q,fun b u q _ _ _ => ⟨u.slots,q⟩,fun b u q n _ => ?_,fun b u q _ => ⟨u,q⟩,fun b xs q => ?_,fun b u xs q => ?_,fun b ps q => ⟨#[],?_⟩⟩ (fun b u q => ?_)
 ·rw [ae (fun z => by rw [z,e] at n; cases n)]; exact n
 ·rw [ae (nt b _ q (by intro z; cases z))]; exact q
 ·rw [ae (nt b _ q (by intro z; cases z))]; exact q
 ·rw [ae (nt b _ q (by intro z; cases z)),q]; simp
 ·by_cases hb : b = a
  ·subst hb
   rw [ab] at q
   cases q
   exact ⟨ho,(I.hok b _ e)⟩
  ·rw [ae hb] at q
   exact (I.hok b u q).stay (fun c v _ z => z) (fun c z => by rw [ae (nt c _ z (by intro y; cases y))]; exact z) fun c xs z => by rw [ae (nt c _ z (by intro y; cases y))]; exact z
end
def fY (o : Obj) : Nat:=match o.data with
 | .dict _ ep => ep
 | _ => 0
def Itd (a : Addr) (o : Obj) (kvs : List (Key × V)) : It:=
 ⟨fun i H => i < kvs.length /\ H a = some (.frz o (.dK kvs)),fun i H x H' => H' = H /\ ∀ p,kvs[i]? = some p -> x = kV p.1,fun i H => kvs.length <= i /\ H a = some (.frz o (.dK kvs))⟩
def Iti (a : Addr) (o : Obj) (kvs : List (Key × V)) : It:=
 ⟨fun i H => i < kvs.length /\ H a = some (.frz o (.dK kvs)),fun i H x H' => ∃ T p,x = .ref T /\ H T = none /\ H' = upd H T (.tup [kV p.1,p.2]) /\ kvs[i]? = some p,fun i H => kvs.length <= i /\ H a = some (.frz o (.dK kvs))⟩
theorem iT {P : Program} {w : World} {H : Hp} {h : Heap} {a : Addr} {o : Obj} {kvs : List (Key × V)} (ok : HOk P w H h) (e : H a = some (.frz o (.dK kvs))) : ∃ vs,KV kvs vs /\ h.DictAt (aP P w) a vs (fY o) /\ (a == sysModules) = false /\ h.get? a = some o:=by
 obtain ⟨ho,z,lo,vs,rel,ob,es,ep,hg,hx,hd,rest⟩:=ok a _ e
 rw [ho] at hg
 cases hg
 have ee : fY o = ep:=by unfold fY; rw [hd]
 exact ⟨vs,rel,⟨o,es,ho,hx,by rw [ee]; exact hd,rest⟩,lo,ho⟩
theorem Cg {P : Program} {w : World} {K : PySem.W.Frag} {tg : Expr} (a it : Addr) (o : Obj) (kvs : List (Key × V)) : Turn P w K tg (Itd a o kvs) [it] it (fun i h => h.IsKeyIter it a i kvs.length (fY o)) where
 mem:=by simp
 obj:=fun i h st b hb => by
  have e : b = it:=by simpa using hb
  subst e
  obtain ⟨o,e,c,d⟩:=st
  exact ⟨o,e,fun v z => by rw [d] at z; cases z⟩
 keep:=fun i h h' st k => by
  obtain ⟨ob,e,r⟩:=st
  exact ⟨ob,k it (by simp) ob e,r⟩
 item:=by
  intro X hP hw hK hc i pins s σ H E I hf st hg
  subst hP hw hK
  obtain ⟨hi,hfz⟩:=hg
  obtain ⟨vs,rel,dat,lo,ho⟩:=iT I.hok hfz
  have hlen : kvs.length = vs.length:=Paired.length rel
  have hv : i < vs.length:=by omega
  obtain ⟨f0,f1,f2,f3,f4,f5⟩:=hf it (by simp)
  rw [hlen] at st
  refine wpAny_pyNext_dict_item (knd:=aP X.prog X.w) st dat (k:=(vs[i]).1) (v:=(vs[i]).2) (List.getElem?_eq_getElem hv) fun key h' hk st' sb => ?_
  have I1 : Inv X pins σ H { s with heap:=h' }:=I.turned (t' := s.toks) (fun b o hb e => (sb.2 b hb).trans e) f0 f1 f3 f4 f5
  obtain ⟨p,e1,e2⟩:=fk rel (List.getElem?_eq_getElem hv)
  rw [<- hlen] at st'
  obtain ⟨ob,e,c,d⟩:=id st'
  refine ⟨key,rfl,vg (s:={ s with heap:=h' }) e c d (by decide) ⟨kV p.1,H,I1,?_,⟨rfl,fun p' hp' => by rw [e1] at hp'; cases hp'; rfl⟩,st',fun b hb => (hf b hb).1⟩⟩
  rw [e2.1]
  exact AN hk
 done:=by
  intro X hP hw hK hc i pins s σ H E I hf st hg
  subst hP hw hK
  obtain ⟨hi,hfz⟩:=hg
  obtain ⟨vs,rel,dat,lo,ho⟩:=iT I.hok hfz
  have hlen : kvs.length = vs.length:=Paired.length rel
  obtain ⟨f0,f1,f2,f3,f4,f5⟩:=hf it (by simp)
  rw [hlen] at st
  exact wpAny_pyNext_dict_end (I.ok.hd hc) st dat (List.getElem?_eq_none (by omega)) fun h' eb => ⟨rfl,I.turned (t' := s.toks) (fun b o hb e => eb b o hb e) f0 f1 f3 f4 f5⟩
 self:=fun A i s Q E st h => by
  refine wpAny_pyIter_slot st.typeIs PySem.F.slot_dict_keyiterator_iter (wpAny_call_entry PySem.F.slot_dict_keyiterator_iter st.typeIs PySem.F.entry_dict_keyiterator_iter ?_ (PySem.F.args_dict_keyiterator_iter_1 _))
  show wpAny _ _ (ret (.ref it)) _ _ s
  exact wpAny_pure ⟨_,rfl,"dict_keyiterator",_,st.typeIs,PySem.F.slot_dict_keyiterator_next.lookup,h⟩
section
variable {X : Cx} {tg : Expr}
def G4 (tl : TE) : TI:=fun σ H R => tl σ H fun x H1 => ∃ a kvs,x = .ref a /\ ((H1 a = some (.dK kvs) /\ ∀ o,R (Itd a o kvs) (upd H1 a (.frz o (.dK kvs)))) \/ ∃ o,H1 a = some (.frz o (.dK kvs)) /\ R (Itd a o kvs) H1)
theorem Fi {l : Expr} {tl : TE} (hl : PE X l tl) : PI X tg l (G4 tl):=by
 intro pins s σ H R I h
 refine thn (hl pins s σ H _ I h) fun v s1 ⟨x,H1,I1,r1,q1⟩ => ?_
 obtain ⟨a,kvs,e,q⟩:=q1
 subst e
 cases r1
 have main : ∀ (o : Obj) (H2 : Hp),Inv X pins σ H2 s1 -> H2 a = some (.frz o (.dK kvs)) -> R (Itd a o kvs) H2 -> wpAny (model X.prog X.w) X.A (pyIter (.ref a)) (PIE X pins σ tg R) X.xe s1:=fun o H2 I2 e2 q2 => by
  obtain ⟨vs,rel,dat,lo,ho⟩:=iT I2.hok e2
  have hlen : kvs.length = vs.length:=Paired.length rel
  refine wpAny_pyIter_dict lo dat ?_
  refine ⟨s1.heap.objs.size,[s1.heap.objs.size],_,_,H2,rfl,I2.kept (t' := s1.toks) fun b o e => Heap.get?_push_of_some _ e,Cg a _ o kvs,⟨_,Heap.get?_push_size _ rfl,rfl,by rw [hlen]; rfl⟩,fun b hb => ?_,q2⟩
  have e : b = s1.heap.objs.size:=by simpa using hb
  subst e
  exact I2.fpOk (Nat.le_refl _) (I2.hok.fresh (Nat.le_refl _))
 rcases q with ⟨hd,q⟩ | ⟨o,hd,q⟩
 ·obtain ⟨z,lo,vs,rel,ob,es,ep,hg,rest⟩:=I1.hok a _ hd
  exact main ob _ (I1.freeze hd hg) ab (q ob)
 ·exact main o H1 I1 hd q
end
theorem qB : entryFor table "dict_itemiterator.__iter__" = some Builtin.«dict_keyiterator.__iter__» :=
 entryFor_alias (id' := "dict_keyiterator.__iter__") (by kernel_rfl) (by first | rfl | decide +kernel | (unfold String.splitOn; simp +decide [String.splitOnAux])) (by decide +kernel) (by kernel_rfl)
theorem An {P : Program} {w : World} {K : PySem.W.Frag} {elts : List Expr} {x1 : _} {pos : Pos} (a it : Addr) (o : Obj) (kvs : List (Key × V)) : Turn P w K (.Tuple elts x1 pos) (Iti a o kvs) [it] it (fun i h => ∃ ok ov,IsItemIter h it a i kvs.length (fY o) ok ov) where
 mem:=by simp
 obj:=fun i h st b hb => by
  have e : b = it:=by simpa using hb
  subst e
  obtain ⟨ok,ov,st⟩:=st
  exact ⟨_,st,fun v z => by
   have z' : Data.fields _ = Data.cell v:=z
   cases z'⟩
 keep:=fun i h h' st k => by
  obtain ⟨ok,ov,st⟩:=st
  exact ⟨ok,ov,k it (by simp) _ st⟩
 item:=by
  intro X hP hw hK hc i pins s σ H E I hf st hg
  subst hP hw hK
  obtain ⟨hi,hfz⟩:=hg
  obtain ⟨ok,ov,st⟩:=st
  obtain ⟨vs,rel,dat,lo,ho⟩:=iT I.hok hfz
  have hlen : kvs.length = vs.length:=Paired.length rel
  have hv : i < vs.length:=by omega
  obtain ⟨f0,f1,f2,f3,f4,f5⟩:=hf it (by simp)
  rw [hlen] at st
  have itl : it < s.heap.objs.size:=Heap.lt_size st
  refine wpAny_pyNext_items_item (knd:=aP X.prog X.w) st dat (k:=(vs[i]).1) (v:=(vs[i]).2) (List.getElem?_eq_getElem hv) fun key h' hk st' ht hsz kp => ?_
  obtain ⟨p,e1,e2⟩:=fk rel (List.getElem?_eq_getElem hv)
  refine ⟨.ref s.heap.objs.size,rfl,wpAny_letOwnedTupleGo_items (s:={ s with heap:=h' }) st' fun h2 st2 sb2 => ?_⟩
  have kp2 : ∀ b u,s.heap.get? b = some u -> b ≠ it -> h2.get? b = some u:=fun b u e hb => (sb2.2 b hb).trans (kp b u hb e)
  have nT : s.heap.objs.size ≠ it:=Nat.ne_of_gt itl
  have ht2 : h2.get? s.heap.objs.size = some { cls:=.type "tuple",data:=.seq #[key,(vs[i]).2] }:=(sb2.2 _ nT).trans ht
  have fr : H s.heap.objs.size = none:=I.hok.fresh (Nat.le_refl _)
  have fit : lH X pins (upd H s.heap.objs.size (.tup [kV p.1,p.2])) it:=⟨by rw [ae (Ne.symm nT)]; exact f0,f1,f2,f3,f4,f5⟩
  have I0 : Inv X pins σ (upd H s.heap.objs.size (.tup [kV p.1,p.2])) { s with heap:=s.heap.push { cls:=.type "tuple",data:=.seq #[key,(vs[i]).2] } }:=
   I.laid (t' := s.toks) (o:=.tup [kV p.1,p.2]) (fun b ob q => Heap.get?_push_of_some _ q) (Nat.le_refl _) ⟨by show 2 <= sizeLine; decide,[key,(vs[i]).2],.cons (by rw [e2.1]; exact AN hk) (.cons e2.2 .nil),⟨_,Heap.get?_push_size _ rfl,rfl,_,rfl⟩⟩
  have I2 : Inv X pins σ (upd H s.heap.objs.size (.tup [kV p.1,p.2])) { s with heap:=h2 }:=by
   refine I0.turned (t' := s.toks) (h' := h2) (fun b ob hb q => ?_) fit.1 fit.2.1 fit.2.2.2.1 fit.2.2.2.2.1 fit.2.2.2.2.2
   rcases Heap.get?_push_cases (show (s.heap.push { cls:=.type "tuple",data:=.seq #[key,(vs[i]).2] }).get? b = some ob from q) with ⟨rfl,rfl⟩ | z
   ·exact ht2
   ·exact kp2 b ob z hb
  refine ⟨.ref s.heap.objs.size,_,I2,rfl,⟨s.heap.objs.size,p,rfl,fr,rfl,e1⟩,⟨_,_,by rw [hlen]; exact st2⟩,fun b hb => ?_⟩
  have e : b = it:=by simpa using hb
  subst e
  exact fit.1
 done:=by
  intro X hP hw hK hc i pins s σ H E I hf st hg
  subst hP hw hK
  obtain ⟨hi,hfz⟩:=hg
  obtain ⟨ok,ov,st⟩:=st
  obtain ⟨vs,rel,dat,lo,ho⟩:=iT I.hok hfz
  have hlen : kvs.length = vs.length:=Paired.length rel
  obtain ⟨f0,f1,f2,f3,f4,f5⟩:=hf it (by simp)
  rw [hlen] at st
  exact wpAny_pyNext_items_end (I.ok.hd hc) st dat (List.getElem?_eq_none (by omega)) fun h' eb => ⟨rfl,I.turned (t' := s.toks) (fun b o hb e => eb b o hb e) f0 f1 f3 f4 f5⟩
 self:=fun A i s Q E st h => by
  obtain ⟨ok,ov,st⟩:=st
  have hT : s.TypeIs (.ref it) "dict_itemiterator" := ⟨_,st,rfl⟩
  refine wpAny_pyIter_slot hT PySem.F.slot_dict_itemiterator_iter (wpAny_call_entry PySem.F.slot_dict_itemiterator_iter hT qB ?_ (PySem.F.args_dict_itemiterator_iter_1 _))
  show wpAny _ _ (ret (.ref it)) _ _ s
  exact wpAny_pure ⟨_,rfl,"dict_itemiterator",_,hT,PySem.F.slot_dict_itemiterator_next.lookup,h⟩
section
variable {X : Cx}
def Gf (tl : TE) : TI:=fun σ H R => tl σ H fun x H1 => ∃ v d kvs,x = .ref v /\ H1 v = some (mL v d) /\ H1 d = some (.dK kvs) /\ ∀ o,R (Iti d o kvs) (upd H1 d (.frz o (.dK kvs)))
theorem DP {elts : List Expr} {x1 : _} {tpos : Pos} {l : Expr} {tl : TE} (hl : PE X l tl) : PI X (.Tuple elts x1 tpos) l (Gf tl):=by
 intro pins s σ H R I h
 refine thn (hl pins s σ H _ I h) fun v s1 ⟨x,H1,I1,r1,q1⟩ => ?_
 obtain ⟨v,a,kvs,e,hv,hd,q⟩:=q1
 subst e
 cases r1
 obtain ⟨hview,_,_⟩:=(show ObjOk X.prog X.w H1 s1.heap v (mL v a) from I1.hok v _ hv)
 obtain ⟨z,lo,vs0,rel0,ob,es,ep,hg,rest⟩:=I1.hok a _ hd
 have I2:=I1.freeze hd hg
 obtain ⟨vs,rel,dat,lo2,ho⟩:=iT I2.hok ab
 have hlen : kvs.length = vs.length:=Paired.length rel
 refine wpAny_pyIter_items hview dat ?_
 refine ⟨s1.heap.objs.size,[s1.heap.objs.size],_,_,_,rfl,I2.kept (t' := s1.toks) fun b o e => Heap.get?_push_of_some _ e,An a _ ob kvs,⟨_,_,by rw [hlen]; exact Heap.get?_push_size _ rfl⟩,fun b hb => ?_,q ob⟩
 have e : b = s1.heap.objs.size:=by simpa using hb
 subst e
 exact I2.fpOk (Nat.le_refl _) (I2.hok.fresh (Nat.le_refl _))
end
theorem Br {a : Addr} {o : Obj} {kvs : List (Key × V)} {g : TG} {tb : TS} {D : Ends} {σ : St} {H : Hp} (Pv : Nat -> St -> Hp -> Prop) (h0 : Pv 0 σ H) (hl : ∀ i σ H,i <= kvs.length -> Pv i σ H -> H a = some (.frz o (.dK kvs)))
  (hs : ∀ i p σ H T,kvs[i]? = some p -> Pv i σ H -> H T = none -> g (.ref T) σ (upd H T (.tup [kV p.1,p.2])) fun σ2 H2 => tb { D with nx:=Pv (i + 1),ct:=Pv (i + 1),bk:=D.nx } σ2 H2) (hd : ∀ σ H,Pv kvs.length σ H -> D.nx σ H) :
  ∃ W : Nat -> Nat -> St -> Hp -> Prop,(∃ m,W 0 m σ H) /\ ∀ i m σ H,W i m σ H ->
   ((Iti a o kvs).stop i H /\ D.nx σ H) \/ ((Iti a o kvs).go i H /\ ∃ N : St -> Hp -> Prop,(∀ σ' H',N σ' H' -> ∃ m',m' < m /\ W (i + 1) m' σ' H') /\ ∀ x H',(Iti a o kvs).yld i H x H' -> g x σ H' fun σ2 H2 => tb { D with nx:=N,ct:=N,bk:=D.nx } σ2 H2):=by
 refine ⟨fun i m σ H => m = kvs.length - i /\ i <= kvs.length /\ Pv i σ H,⟨kvs.length,by simp,Nat.zero_le _,h0⟩,?_⟩
 rintro i m σ H ⟨rfl,hi,p⟩
 have q:=hl i σ H hi p
 by_cases hlt : i < kvs.length
 ·refine .inr ⟨⟨hlt,q⟩,Pv (i + 1),fun σ' H' p' => ⟨kvs.length - (i + 1),by omega,rfl,hlt,p'⟩,fun x H' y => ?_⟩
  obtain ⟨T,pr,rfl,hT,rfl,y⟩:=y
  exact hs i pr σ _ T y p hT
 ·have e : i = kvs.length:=by omega
  subst e
  exact .inl ⟨⟨Nat.le_refl _,q⟩,hd σ H p⟩
end L2
set_option Elab.async false
set_option linter.all false
set_option maxRecDepth 100000
namespace L2
open PySem PySem.Spec PyProof.Rows
section
variable {P : Program} {w : World} {A : Around} {E : Value -> Shared -> Prop} {s : Shared}
end
end L2
set_option Elab.async false
set_option linter.all false
set_option maxRecDepth 100000
namespace L2
open PySem PySem.Spec PyProof.Rows
section
variable {X : Cx}
end
end L2
set_option Elab.async false
set_option linter.all false
set_option maxRecDepth 100000
namespace PySem
open PyProof.Rows
section
variable {prog : Program} {w : World} {A : Around} {E : Value -> Shared -> Prop} {s : Shared}
end
end PySem
namespace L2
open PySem PySem.Spec PyProof.Rows
section
variable {X : Cx} {a : Expr} {ta : TA} {p p2 pos pos2 : Pos}
end
end L2
namespace L2
open PySem PySem.Spec PyProof.Rows
section
variable {X : Cx} {N : List Str} {scope : Scope} {ix : List (Option Nat)} {elt iter cond tg : Expr} {pos spos : Pos} {te : TE} {g : TG} {wi : TI} {tc : TT}
end
end L2
set_option Elab.async false
set_option linter.all false
set_option maxRecDepth 100000
namespace L2
open PySem PySem.Spec PyProof.Rows
section
variable {X : Cx} {tg : Expr}
end
section
variable {X : Cx} {a b c : Expr} {ta : TA} {p p2 pos pos2 : Pos}
end
end L2
set_option Elab.async false
set_option linter.all false
set_option maxRecDepth 100000
set_option maxHeartbeats 4000000
namespace L2
open PySem PySem.Spec PyProof.Rows
end L2
set_option Elab.async false
set_option linter.all false
set_option maxRecDepth 100000
set_option maxHeartbeats 4000000
namespace L2
open PySem PySem.Spec PyProof.Rows
theorem uy (l b : Addr) (items items2 : Array Value) (n n2 : Nat) (dc : Option Addr) (sl : Array (Option Value)) (h0 : ¬(!items.isEmpty && Builtin.List.listTooLong (items.size + items2.size)) = true) (h1 : items.size <= sizeLine) (h2 : items.size + items2.size <= sizeLine + 1) :
  Meets (Builtin.«list.extend» ⟨[.ref l,.ref b],[]⟩) (fun _ R s => s.heap.get? l = some { cls:=.type "list",dict:=none,data:=.seq items n,slots := #[] } /\ s.heap.get? b = some { cls:=.type "tuple",dict:=dc,data:=.seq items2 n2,slots:=sl } /\ R (.ok (.ret Value.none)) { s with heap:=s.heap.update l (Obj.mapSeq (· ++ items2)) }):=
 .of_wp fun prog w A R s h => by
  obtain ⟨hp,g,d,tk,os⟩:=s
  obtain ⟨hl,hb,h⟩:=h
  have f1:=AutoSeq1.idx_int
  have f2:=AutoSeq1.sub_tuple_tuple
  have f3:=AutoSeq1.sub_list_list
  have f4:=AutoSeq1.sub_tuple_list
  have f5:=AutoSeq1.sub_list_tuple
  have hz' : (items ++ items2).size <= sizeLine + 1:=by rw [Array.size_append]; exact h2
  wp_walk using (wpAny_updateSeq hl rfl (hz:=h1) (_hz' := hz')),wpAny_loadPart' hl,wpAny_loadPart' hb
  exact ⟨_,rfl,h⟩
section
variable {X : Cx}
def yz : V -> List V -> Hp -> VK -> Prop:=fun x vs H Q => ∃ l b xs zs,x = .ref l /\ vs = [.ref b] /\ H l = some (.lst xs) /\ H b = some (.tup zs) /\ xs.length + zs.length <= sizeLine /\ Q .non (upd H l (.lst (xs ++ zs)))
theorem zA : MtM X "list.extend" yz:=by
 intro pins s σ H x vs v us Q I rx rv h
 obtain ⟨l,b,xs,zs,rfl,rfl,hH,hB,hz,q⟩:=h
 cases rx
 obtain ⟨u,rfl,ru⟩:=rv.one
 cases ru
 obtain ⟨z,its,n,r,hl,e⟩:=I.lstM hH
 obtain ⟨its2,r2,ht,hz2⟩:=I.tuple (SqT.of (K:=X.K) hB)
 have hl2:=r2.length
 obtain ⟨⟨c,dc,da,sl⟩,e2,c2,n2,d2⟩:=ht
 cases c2
 cases d2
 have hsz : its.toArray.size + its2.toArray.size <= sizeLine:=by rw [List.size_toArray,List.size_toArray]; omega
 have hlong : ¬ (!its.toArray.isEmpty && Builtin.List.listTooLong (its.toArray.size + its2.toArray.size)) = true:=by
  rw [yk hsz,Bool.and_false]
  exact Bool.false_ne_true
 refine call_meets F.slot_list_extend ⟨_,e,rfl⟩ F.entry_list_extend (F.args_list_extend_2 _ _)
  (uy l b its.toArray its2.toArray n n2 dc sl hlong (by rw [List.size_toArray]; omega) (by omega)) ⟨e,e2,?_⟩
 refine ⟨.non,_,I.lset (its' := its ++ its2) hH e (by simp) (r.append r2) ?_,rfl,q⟩
 rw [List.length_append]
 omega
def D6 : V -> List V -> Hp -> VK -> Prop:=fun x vs H Q => AY x vs H Q \/ yz x vs H Q
theorem zz : MtM X "list.extend" D6:=by
 intro pins s σ H x vs v us Q I rx rv h
 rcases h with h | h
 ·exact BM pins s σ H x vs v us Q I rx rv h
 ·exact zA pins s σ H x vs v us Q I rx rv h
end
end L2
set_option Elab.async false
set_option linter.all false
set_option maxRecDepth 100000
set_option maxHeartbeats 4000000
namespace L2
open PySem PySem.Spec PyProof.Rows
theorem Bf {a : Addr} {o : Obj} {kvs : List (Key × V)} {ix : List (Option Nat)} {te : TE} {σ : St} {H : Hp} {Qd : Addr -> Hp -> Prop} (Pv : Addr -> Nat -> List V -> Hp -> Prop)
  (h0 : ∀ D,H D = none -> Pv D 0 [] (upd H D (.lst [])))
  (hl : ∀ D i ys H',i <= kvs.length -> Pv D i ys H' -> H' a = some (.frz o (.dK kvs)))
  (hs : ∀ D i p ys H' (Q' : VK),H D = none -> kvs[i]? = some p -> H' D = some (.lst ys) -> Pv D i ys H' -> (∀ y H4,H4 D = some (.lst ys) -> ys.length < sizeLine -> Pv D (i + 1) (ys ++ [y]) (upd H4 D (.lst (ys ++ [y]))) -> Q' y H4) ->
   te ((aO ix σ).set 0 (some (kV p.1))) H' Q')
  (hd : ∀ D ys H',H D = none -> H' D = some (.lst ys) -> Pv D kvs.length ys H' -> Qd D H') : mK (Itd a o kvs) ix (bt 0) te σ H Qd:=by
 intro D hD
 refine ⟨fun i m σ' H' => m = kvs.length - i /\ i <= kvs.length /\ (σ' = aO ix σ \/ ∃ t,σ' = (aO ix σ).set 0 t) /\ ∃ ys,H' D = some (.lst ys) /\ Pv D i ys H',⟨kvs.length,by simp,Nat.zero_le _,.inl rfl,[],ab,h0 D hD⟩,?_⟩
 rintro i m σ' H' ⟨rfl,hi,hσ,ys,hy,p⟩
 have q:=hl D i ys H' hi p
 by_cases hlt : i < kvs.length
 ·refine .inr ⟨⟨hlt,q⟩,fun x H2 y => ?_⟩
  obtain ⟨e1,e2⟩:=y
  subst e1
  have ex:=e2 kvs[i] (List.getElem?_eq_getElem hlt)
  subst ex
  have es : σ'.set 0 (some (kV (kvs[i]).1)) = (aO ix σ).set 0 (some (kV (kvs[i]).1)):=by
   rcases hσ with z | ⟨t,z⟩
   ·rw [z]
   ·rw [z,List.set_set]
  show te (σ'.set 0 (some (kV (kvs[i]).1))) _ _
  rw [es]
  refine hs D i kvs[i] ys _ _ hD (List.getElem?_eq_getElem hlt) hy p fun y H4 h4 hz p4 => ⟨ys,h4,hz,kvs.length - (i + 1),by omega,rfl,hlt,.inr ⟨_,rfl⟩,ys ++ [y],ab,p4⟩
 ·have e : i = kvs.length:=by omega
  subst e
  exact .inl ⟨⟨Nat.le_refl _,q⟩,hd D ys H' hD hy p⟩
end L2
set_option Elab.async false
set_option linter.all false
set_option maxRecDepth 100000
set_option maxHeartbeats 4000000
namespace PySem
open PyProof.Rows
section
variable {prog : Program} {w : World} {K : Type} [DecidableEq K] {knd : KeyKind prog w K} {A : Around} {E : Value -> Shared -> Prop} {s : Shared} {R : Result -> Shared -> Prop}
theorem IsTupleKey.there {h h' : Heap} {ks : List K} {a : Addr} (x : IsTupleKey knd h ks a) (k : ∀ o,h.get? a = some o -> h'.get? a = some o) : IsTupleKey knd h' ks a:=let ⟨o,it,n,ho,r⟩:=x; ⟨o,it,n,k _ ho,r⟩
def oz (knd : KeyKind prog w K) (h : Heap) (ts : List Addr) (ps : List (List K × Addr × Value)) : Prop := ∀ (j : Nat) (t : Addr) (p : List K × Addr × Value),ts[j]? = some t -> ps[j]? = some p -> IsTupleKey knd h p.1 p.2.1 /\ IsTup h t #[.ref p.2.1,p.2.2]
def rg (xs ps : List (List K × Addr × Value)) : List (List K × Addr × Value):=ps.foldl (fun acc p => storedH acc p.1 p.2.1 p.2.2) xs
theorem sh {h h' : Heap} {D : Addr} {xs : List (List K × Addr × Value)} (x : h.DictOfH (tupleKind knd) D xs) (hD : ∀ o,h.get? D = some o -> h'.get? D = some o) (hk : ∀ p ∈ xs,∀ o,h.get? p.2.1 = some o -> h'.get? p.2.1 = some o) : h'.DictOfH (tupleKind knd) D xs:=by
 obtain ⟨o,es,ep,ho,hc,hd,he,his,hn⟩:=x
 exact ⟨o,es,ep,hD _ ho,hc,hd,he,fun p hp => IsTupleKey.there (his p hp) (hk p hp),hn⟩
theorem yI (xs : List (List K × Addr × Value)) (k : List K) (a : Addr) (v : Value) : (storedH xs k a v).length <= xs.length + 1:=by
 unfold storedH
 split
 ·rw [List.length_map]; omega
 ·rw [List.length_append]; exact Nat.le_refl _
theorem jq {h : Heap} {ks : List K} {a I l : Addr} {i : Nat} (x : IsTupleKey knd h ks a) (y : h.IsListIter I l i) : a ≠ I:=by
 rintro rfl
 obtain ⟨o,_,_,ho,hc,_⟩:=x
 obtain ⟨o',ho',hc',_⟩:=y
 rw [ho] at ho'
 cases ho'
 rw [hc] at hc'
 exact absurd (Value.type.inj hc') (by decide)
theorem xB {D I l : Addr} {ts : List Addr} {ps : List (List K × Addr × Value)} (hu : A.units + 1 < cLine) (W : Walks prog w A.in1 I [I,l] [I] ts.length (fun i v => (ts.map Value.ref).toArray[i]? = some v) (fun i h => h.IsListIter I l i /\ h.IsList l (ts.map Value.ref).toArray))
  (hl : ts.length = ps.length) (hDI : D ≠ I) (hDl : D ≠ l) (hDt : ∀ t ∈ ts,t ≠ D /\ t ≠ I) (hz : ps.length <= sizeLine) :
  ∀ (k i : Nat) (s : Shared) (acc : List (List K × Addr × Value)),ts.length - i = k -> i <= ts.length -> (s.heap.IsListIter I l i /\ s.heap.IsList l (ts.map Value.ref).toArray) -> s.heap.DictOfH (tupleKind knd) D acc -> acc.length <= i -> oz knd s.heap ts ps ->
  (∀ h' tk,(∀ b o,b ≠ D -> b ≠ I -> s.heap.get? b = some o -> h'.get? b = some o) -> h'.DictOfH (tupleKind knd) D (rg acc (ps.drop i)) -> R (.ok (.ret .none)) { s with heap:=h',toks:=tk }) ->
  codeAny (model prog w) A (.builtin "dict.update.loop" ⟨[.ref D,.ref I,rawInt (i : Int),.none],[]⟩) R s:=by
 intro k
 induction k with
 | zero =>
  intro i s acc hk hi hst hD hacc hP hR
  have hin : i = ts.length:=by omega
  subst hin
  refine codeAny_builtin cH ?_
  rw [Around.under_plainId bc _]
  show wpAny _ A.in1 (pyNext (.ref I) >>= _) _ _ s
  refine wpAny_bind (W.done s _ _ hst fun h' tk hm => ?_)
  show wpAny _ _ (Builtin.Dict.addKeywords D [] >>= _) _ _ _
  refine wpAny_bind (wpAny_of_eq (a:=()) rfl ?_)
  have e : ps.drop ts.length = []:=by rw [hl,List.drop_length]
  refine wpAny_pure (hR h' tk (fun b o _ hb q => hm b o (by simpa using hb) q) ?_)
  rw [e]
  obtain ⟨_,_,_,_,_,_,_,his,_⟩:=id hD
  exact sh hD (fun o q => hm D o (by simpa using hDI) q) fun p hp o q => hm _ o (by simpa using jq (his p hp) hst.1) q
 | succ k ih =>
  intro i s acc hk hi hst hD hacc hP hR
  have hlt : i < ts.length:=by omega
  have hlt2 : i < ps.length:=by omega
  refine codeAny_builtin cH ?_
  rw [Around.under_plainId bc _]
  show wpAny _ A.in1 (pyNext (.ref I) >>= _) _ _ s
  refine wpAny_bind (W.item i s _ _ hlt hst fun v h' tk hv hst' hm => ?_)
  have ev : v = .ref ts[i]:=by
   have : (ts.map Value.ref).toArray[i]? = some (.ref ts[i]):=by simp [hlt]
   rw [this] at hv
   exact (Option.some.inj hv).symm
  subst ev
  have keep : ∀ b o,b ≠ I -> s.heap.get? b = some o -> h'.get? b = some o:=fun b o hb q => hm b o (by simpa using hb) q
  have keyN : ∀ {ks : List K} {a : Addr},IsTupleKey knd s.heap ks a -> IsTupleKey knd h' ks a:=fun x => x.there fun o q => keep _ o (jq x hst.1) q
  obtain ⟨hkey,ht⟩:=hP i ts[i] ps[i] (List.getElem?_eq_getElem hlt) (List.getElem?_eq_getElem hlt2)
  have tn:=hDt ts[i] (List.getElem_mem hlt)
  have ht' : IsTup h' ts[i] #[.ref (ps[i]).2.1,(ps[i]).2.2]:=ht.extBut (b:=I) keep tn.2
  have hD' : h'.DictOfH (tupleKind knd) D acc:=by
   obtain ⟨_,_,_,_,_,_,_,his,_⟩:=id hD
   exact sh hD (fun o q => keep D o hDI q) fun p hp o q => keep _ o (jq (his p hp) hst.1) q
  obtain ⟨ot,hot,hct,nt,hdt⟩:=id ht'
  try dsimp only
  refine wpAny_bind (wpAny_holding ?_)
  refine wpAny_bind (wpAny_tryCatch ?_)
  unfold Builtin.Dict.pairItems
  refine wpAny_bind (wpAny_typeOf (s:={ s with heap:=h',toks:=tk }) ht'.typeIs ?_)
  rw [if_pos (by decide)]
  refine wpAny_bind (wpAny_seqItems (s:={ s with heap:=h',toks:=tk }) hot hdt ?_)
  refine wpAny_pure ?_
  show wpAny _ _ (holding [.ref (ps[i]).2.1,(ps[i]).2.2] (dictSet D (.ref (ps[i]).2.1) (ps[i]).2.2)) _ _ _
  refine wpAny_holding (wpAny_dictSet_heap (knd:=tupleKind knd) (k:=(ps[i]).1) (s:={ s with heap:=h',toks:=tk }) hu (keyN hkey) hD' (fun h2 hD2 sb2 => ?_) (by omega))
  have keep2 : ∀ b o,b ≠ D -> h'.get? b = some o -> h2.get? b = some o:=fun b o hb q => sb2.extBut b o hb q
  refine wpAny_pure ⟨plainId_quiet bc _,?_⟩
  have ri : rawInt ((i : Int) + 1) = rawInt (((i + 1 : Nat)) : Int):=by push_cast; rfl
  rw [ri]
  have keyD : ∀ {ks : List K} {a : Addr},IsTupleKey knd s.heap ks a -> a ≠ D:=fun x z => by
   obtain ⟨o,_,_,ho,_,hd,_⟩:=x
   obtain ⟨o',_,_,ho',_,hd',_⟩:=hD
   rw [z,ho'] at ho
   cases ho
   rw [hd'] at hd
   cases hd
  refine ih (i + 1) { s with heap:=h2,toks:=_ } (storedH acc (ps[i]).1 (ps[i]).2.1 (ps[i]).2.2) (by omega) hlt ⟨hst'.1.at fun o q => keep2 I o (Ne.symm hDI) q,hst'.2.at fun o q => keep2 l o (Ne.symm hDl) q⟩ hD2 (by
   have:=yI acc (ps[i]).1 (ps[i]).2.1 (ps[i]).2.2
   omega) (fun j t p h1 h2' => ?_) (fun h3 tk3 kp3 hD3 => ?_)
  ·obtain ⟨hk',ht''⟩:=hP j t p h1 h2'
   have tn' := hDt t (List.mem_of_getElem? h1)
   exact ⟨(keyN hk').there fun o q => keep2 _ o (keyD hk') q,(ht''.extBut (b:=I) keep tn'.2).extBut (b:=D) keep2 tn'.1⟩
  ·refine hR h3 tk3 (fun b o hb hb2 q => kp3 b o hb hb2 (keep2 b o hb (keep b o hb2 q))) ?_
   rw [List.drop_eq_getElem_cons hlt2]
   exact hD3
theorem oN {l : Addr} {ts : List Addr} {ps : List (List K × Addr × Value)} {c : Nat} {Q : Value -> Shared -> Prop} (hu : A.units + 2 < cLine) (hh : A.handled = none) (hL : s.heap.get? l = some { cls:=.type "list",dict:=none,data:=.seq (ts.map Value.ref).toArray c,slots := #[] })
  (hl : ts.length = ps.length) (hP : oz knd s.heap ts ps) (hz : ps.length <= sizeLine)
  (hQ : ∀ h' tk,(∀ b o,s.heap.get? b = some o -> h'.get? b = some o) -> h'.DictOfH (tupleKind knd) s.heap.objs.size (rg [] ps) -> Q (.ref s.heap.objs.size) { s with heap:=h',toks:=tk }) :
  wpAny (model prog w) A (call (.type "dict") [.ref l]) Q E s:=by
 refine callType_codes (Q₁:=fun obj s₁ => obj = .ref s.heap.objs.size /\ s₁ = { s with heap:=s.heap.push { cls:=.type "dict",data:=.dict #[] } }) F.kt_called_dict (F.kt_typeCall_dict_1 _) F.entry_dict_init (kt_code_dict_new _ ⟨rfl,rfl⟩) ?_
 rintro obj s₁ ⟨rfl,rfl⟩
 have hnew : (s.heap.push { cls:=.type "dict",data:=.dict #[] }).DictOfH (tupleKind knd) s.heap.objs.size []:=Heap.DictOfH.new s.heap
 have hnewT : ({ s with heap:=s.heap.push { cls:=.type "dict",data:=.dict #[] } } : Shared).TypeIs (.ref s.heap.objs.size) "dict" := ⟨_,Heap.get?_push_size s.heap rfl,rfl⟩
 have hlt : l < s.heap.objs.size:=Heap.lt_size hL
 have hL' : (s.heap.push { cls:=.type "dict",data:=.dict #[] }).get? l = some { cls:=.type "list",dict:=none,data:=.seq (ts.map Value.ref).toArray c,slots := #[] }:=Heap.get?_push_of_some _ hL
 refine ⟨hnewT,F.args_dict_init_2 _ _,?_⟩
 unfold Builtin.«dict.__init__»
 refine wpAny_bind ?_
 unfold Builtin.Dict.selfAndRest
 refine wpAny_bind (wpAny_notOrdered_dict hnewT ?_)
 show wpAny _ _ (pure (s.heap.objs.size,[Value.ref l])) _ _ _
 refine wpAny_pure ?_
 show wpAny _ _ (Builtin.Dict.updateFrom "dict.__init__" s.heap.objs.size (.ref l) [] .none) _ _ _
 unfold Builtin.Dict.updateFrom
 refine wpAny_bind (wpAny_typeOf (T := "list") ⟨_,hL',rfl⟩ ?_)
 rw [if_pos (by decide)]
 refine wpAny_bind (kc hL' hh fun h1 tk1 kp1 => ?_)
 rw [if_pos (by rfl)]
 refine wpAny_bind (wpAny_rule ?_)
 have hL1:=kp1 _ _ hL'
 have il1 : Heap.IsList h1 l (ts.map Value.ref).toArray:=⟨_,hL1,rfl,c,rfl⟩
 refine wpAny_bind (wpAny_pyIter_list (s:={ s with heap:=h1,toks:=tk1 }) il1 ?_)
 refine wpAny_pure ⟨plainId_quiet bc _,?_⟩
 have oI : (h1.push { cls:=.type "list_iterator",data:=.fields #[.ref l,.int 0 0] }).get? h1.objs.size = some { cls:=.type "list_iterator",data:=.fields #[.ref l,.int 0 0] }:=Heap.get?_push_size _ rfl
 have l1 : l < h1.objs.size:=Heap.lt_size hL1
 have d1 : s.heap.objs.size < h1.objs.size:=Heap.lt_size (kp1 _ _ (Heap.get?_push_size s.heap rfl))
 have W:=Walks.list (prog:=prog) (w:=w) (A:=A.in1.in1) hh h1.objs.size l (Nat.ne_of_lt l1) (ts.map Value.ref).toArray
 have sz : (ts.map Value.ref).toArray.size = ts.length:=by simp
 rw [sz] at W
 have kp2 : ∀ b o,s.heap.get? b = some o -> (h1.push { cls:=.type "list_iterator",data:=.fields #[.ref l,.int 0 0] }).get? b = some o:=fun b o q => Heap.get?_push_of_some _ (kp1 _ _ (Heap.get?_push_of_some _ q))
 refine xB (A:=A.in1) (knd:=knd) (D:=s.heap.objs.size) (ps:=ps) (by show A.units + 1 + 1 < cLine; exact hu) W hl (Nat.ne_of_lt d1) (Nat.ne_of_gt hlt) (fun t ht => ?_) hz ts.length 0 { s with heap:=h1.push { cls:=.type "list_iterator",data:=.fields #[.ref l,.int 0 0] },toks:=tk1 } [] rfl (Nat.zero_le _) ⟨⟨_,oI,rfl,rfl⟩,il1.at fun o q => Heap.get?_push_of_some _ q⟩ ?_ (Nat.zero_le _) (fun j t p a1 a2 => ?_) fun h3 tk3 kp3 hD3 => ?_
 ·obtain ⟨j,hj⟩:=List.mem_iff_getElem?.mp ht
  have jl : j < ps.length:=by
   rw [<- hl]
   exact (List.getElem?_eq_some_iff.mp hj).1
  obtain ⟨_,o,ho,_⟩:=hP j t ps[j] hj (List.getElem?_eq_getElem jl)
  have tl:=Heap.lt_size ho
  exact ⟨Nat.ne_of_lt tl,Nat.ne_of_lt (Nat.lt_trans tl d1)⟩
 ·exact sh hnew (fun o q => Heap.get?_push_of_some _ (kp1 _ _ q)) fun p hp => by cases hp
 ·obtain ⟨hk,ht⟩:=hP j t p a1 a2
  exact ⟨hk.there fun o q => kp2 _ o q,ht.keeps kp2⟩
 ·exact ⟨rfl,hQ h3 tk3 (fun b o q => kp3 b o (Nat.ne_of_lt (Heap.lt_size q)) (Nat.ne_of_lt (Nat.lt_trans (Heap.lt_size q) d1)) (kp2 b o q)) hD3⟩
end
end PySem
namespace L2
open PySem PySem.Spec PyProof.Rows
section
variable {X : Cx}
def yL (H : Hp) : List Addr -> List (List Key × V) -> Prop:=Paired fun t p => ∃ b,H t = some (.tup [.ref b,p.2]) /\ H b = some (.tup (p.1.map kV))
theorem qf {P : Program} {w : World} : ∀ {kvs : List (List Key × V)} {ts : List Addr} {H : Hp} {h : Heap},yL H ts kvs -> HOk P w H h -> ∃ ps : List (List Key × Addr × Value),KT H kvs ps /\ ps.length = ts.length /\ oz (aP P w) h ts ps
 | [],[],_,_,.nil,_ => ⟨[],.nil,rfl,fun j t p h => by simp at h⟩
 | _,_,_,_,.cons (a:=a) (b:=p) (l₁:=ts) (l₂:=kvs) q t,ok => by
  obtain ⟨ps,r1,r2,r3⟩:=qf t ok
  obtain ⟨b,qa,qb⟩:=q
  obtain ⟨z,its,rv,ht⟩:=ok a _ qa
  obtain ⟨u,v,rfl,ru,rv'⟩:=Vals.two rv
  cases (show u = Value.ref b from ru)
  refine ⟨(p.1,b,v) :: ps,.cons ⟨rfl,qb,rv'⟩ r1,by simp [r2],fun j t' p' h1 h2 => ?_⟩
  cases j with
  | zero =>
   simp at h1 h2
   subst h1 h2
   exact ⟨jr ok qb,by simpa using ht⟩
  | succ j => exact r3 j t' p' (by simpa using h1) (by simpa using h2)
def fQ (acc kvs : List (List Key × V)) : List (List Key × V):=kvs.foldl (fun a p => putK a p.1 p.2) acc
theorem ik : ∀ (kvs acc : List (List Key × V)),(fQ acc kvs).length <= acc.length + kvs.length
 | [],acc => Nat.le_refl _
 | p :: kvs,acc => by
  have h1:=ik kvs (putK acc p.1 p.2)
  have h2:=fh acc p.1 p.2
  show (fQ (putK acc p.1 p.2) kvs).length <= _
  rw [List.length_cons]
  omega
theorem KT.merge {H : Hp} : ∀ {kvs : List (List Key × V)} {ps : List (List Key × Addr × Value)} {acc : List (List Key × V)} {xs : List (List Key × Addr × Value)},KT H kvs ps -> KT H acc xs -> KT H (fQ acc kvs) (rg xs ps)
 | [],[],_,_,.nil,r => r
 | p :: kvs,q :: ps,acc,xs,.cons h t,r => by
  obtain ⟨e,hb,rv⟩:=h
  have s:=r.put p.1 hb rv
  rw [e] at s
  have i:=KT.merge t s
  show KT H (fQ (putK acc p.1 p.2) kvs) (rg (storedH xs q.1 q.2.1 q.2.2) ps)
  rw [e]
  exact i
def D5 : List V -> Hp -> VK -> Prop:=fun xs H Q => ∃ l ts kvs,xs = [.ref l] /\ H l = some (.lst (ts.map V.ref)) /\ yL H ts kvs /\ ∀ D,H D = none -> Q (.ref D) (upd H D (.dT (fQ [] kvs)))
theorem vQ (hc : X.calm = true) (hu : X.A.units + 2 < cLine) : gX X (.type "dict") D5:=by
 intro pins s σ H xs us Q I r h
 obtain ⟨l,ts,kvs,rfl,hl,hp,q⟩:=h
 obtain ⟨u,rfl,rx⟩:=vals1 r
 cases rx
 obtain ⟨z,its,n,rv,hln,e⟩:=I.lstM hl
 have ei:=p3 rv
 subst ei
 obtain ⟨ps,r1,r2,r3⟩:=qf hp I.hok
 have hlen : kvs.length = ps.length:=Paired.length r1
 have zl : ps.length <= sizeLine:=by
  rw [r2]
  rw [List.length_map] at z
  exact z
 refine oN (knd:=aP X.prog X.w) hu (I.ok.hd hc) e r2.symm r3 zl fun h' tk kp dd => ?_
 have ob : ObjOk X.prog X.w (upd H s.heap.objs.size (.dT (fQ [] kvs))) h' s.heap.objs.size (.dT (fQ [] kvs)):=by
  obtain ⟨o,es,ep,h1,h2,h3,h4,_,h5⟩:=dd
  refine ⟨?_,beq_eq_false_iff_ne.mpr (Ne.symm (Nat.ne_of_lt I.big)),_,(KT.merge r1 .nil).keeps fun c ys ec => ?_,o,es,ep,h1,h2,h3,h4,h5⟩
  ·have:=ik kvs []
   simp only [List.length_nil] at this
   omega
  ·rw [ae (ao ec (I.hok.fresh (Nat.le_refl _)))]
   exact ec
 exact ⟨.ref _,_,I.laid (t' := tk) kp (Nat.le_refl _) ob,rfl,q _ (I.hok.fresh (Nat.le_refl _))⟩
end
theorem F9 {A : Around} {k : Nat} (hr : Room k A) : A.units + 2 < cLine:=by
 have:=hr.un
 omega
end L2
set_option Elab.async false
set_option linter.all false
set_option maxRecDepth 100000
set_option maxHeartbeats 4000000
namespace PySem
section
variable {prog : Program} {w : World} {A : Around} {E : Value -> Shared -> Prop} {s : Shared}
def RawD (h : Heap) (d : Addr) (es : Array DictEntry) (ep : Nat) : Prop := ∃ o,h.get? d = some o /\ o.ExactDict /\ o.data = .dict es ep
theorem RawD.ty {d : Addr} {es : Array DictEntry} {ep : Nat} (x : RawD s.heap d es ep) : s.TypeIs (.ref d) "dict" := let ⟨o,h1,h2,_⟩:=x; ⟨o,h1,h2.1⟩
theorem RawD.to {h h' : Heap} {d : Addr} {es : Array DictEntry} {ep : Nat} (x : RawD h d es ep) (k : ∀ o,h.get? d = some o -> h'.get? d = some o) : RawD h' d es ep:=let ⟨o,h1,r⟩:=x; ⟨o,k _ h1,r⟩
theorem xX {d : Addr} {es : Array DictEntry} {ep : Nat} {Q : Value -> Shared -> Prop} (lo : (d == sysModules) = false) (x : RawD s.heap d es ep)
  (q : Q (.ref s.heap.objs.size) { s with heap:=s.heap.push { cls:=.type "dict_keyiterator",data:=.fields #[.ref d,.int 0 0,.int es.size 0,.int ep 0] } }) : wpAny (model prog w) A (pyIter (.ref d)) Q E s:=by
 have ty:=x.ty
 obtain ⟨ob,g1,g2,g3⟩:=x
 refine wpAny_pyIter_slot ty F.slot_dict_iter (wpAny_call_entry F.slot_dict_iter ty F.entry_dict_iter ?_ (F.args_dict_iter_1 _))
 unfold Builtin.«dict.__iter__» Builtin.Dict.dictSlotNone
 refine wpAny_bind (wpAny_bind (wpAny_notOrdered_dict ty ?_))
 show wpAny _ _ (pure (Value.ref d)) _ _ s
 refine wpAny_pure ?_
 show wpAny _ _ (Builtin.Dict.showsAll d >>= _) _ _ s
 unfold Builtin.Dict.showsAll
 rw [if_neg (fun z => by rw [lo] at z; cases z)]
 refine wpAny_bind (wpAny_pure (wpAny_bind (wpAny_dictEntries g1 g3 (wpAny_bind (wpAny_dictEpoch g1 g3 ?_)))))
 refine wpAny_bind (wpAny_newObj_type (wpAny_pure ⟨_,rfl,"dict_keyiterator",_,⟨_,Heap.get?_push_size _ rfl,rfl⟩,F.slot_dict_keyiterator_next.lookup,?_⟩))
 simpa [rawInt] using q
theorem yi {it d : Addr} {i ep : Nat} {es : Array DictEntry} {Q : Option Value -> Shared -> Prop} (y : s.heap.IsKeyIter it d i es.size ep) (x : RawD s.heap d es ep) (hi : i < es.size)
  (q : ∀ h',h'.IsKeyIter it d (i + 1) es.size ep -> Heap.SameBut it s.heap h' -> Q (some es[i].key) { s with heap:=h' }) : wpAny (model prog w) A (pyNext (.ref it)) Q E s:=by
 have ty:=y.typeIs
 obtain ⟨oi,i1,i2,i3⟩:=id y
 obtain ⟨ob,g1,g2,g3⟩:=x
 unfold pyNext
 refine wpAny_bind (wpAny_attempt (wpAny_callSpecial?_slot (name:=Str.ofString "__next__") ty F.slot_dict_keyiterator_next (wpAny_call_entry F.slot_dict_keyiterator_next ty F.entry_dict_keyiterator_next ?_ (F.args_dict_keyiterator_next_1 _))))
 refine wpAny_bind (wpAny_pure (wpAny_bind (wpAny_bind ?_)))
 first | refine wpAny_bind (wpAny_typeNameOfWhole_keyiter ty (wpAny_pure ?_)) | refine wpAny_bind (wpAny_typeNameOf_keyiter ty (wpAny_pure ?_))
 refine wpAny_bind (wpAny_fieldsOf i1 i3 ?_)
 have own : Builtin.Dict_items.ownsTuple "dict_keyiterator" = false:=by decide
 simp only [own,Bool.false_eq_true,if_false]
 show wpAny _ _ (if (Value.ref d == Value.none) = true then _ else _) _ _ s
 rw [if_neg (by intro z; cases z)]
 refine wpAny_bind (wpAny_pure (wpAny_bind (wpAny_dictEntries g1 g3 ?_)))
 rw [if_neg (by simp)]
 refine wpAny_bind (wpAny_pure (wpAny_bind (wpAny_dictEpoch g1 g3 ?_)))
 rw [if_neg (by simp)]
 refine wpAny_pure ?_
 simp only [show ¬ ((i : Int) < 0) from by omega,if_false,Int.toNat_natCast,Array.getElem?_eq_getElem hi]
 refine wpAny_bind ?_
 first | refine wpAny_bind (wpAny_typeNameOfWhole_keyiter ty (wpAny_pure ?_)) | refine wpAny_bind (wpAny_typeNameOf_keyiter ty (wpAny_pure ?_))
 refine wpAny_bind (wpAny_isOneOf_keyiter ty ?_)
 show wpAny _ _ (setField (.ref it) 1 (rawInt ((i : Int) + 1)) >>= _) _ _ s
 refine wpAny_bind (wpAny_setField i1 i3 (by simp) ?_)
 have y2 : (s.heap.update it (Obj.mapFields (·.setIfInBounds 1 (rawInt ((i : Int) + 1))))).IsKeyIter it d (i + 1) es.size ep:=⟨_,Heap.get?_update_self _ i1 (Obj.isFreed_of_fields (Obj.data_mapFields i3 _)),(Obj.cls_mapFields ..).trans i2,by rw [Obj.data_mapFields i3]; simp [rawInt]⟩
 refine wpAny_bind (wpAny_holding (wpAny_bind (wpAny_isOneOf_keyiter (s:={ s with heap:=s.heap.update it (Obj.mapFields (·.setIfInBounds 1 (rawInt ((i : Int) + 1)))) }) y2.typeIs ?_)))
 show wpAny _ _ (pure es[i].key) _ _ _
 exact wpAny_pure (wpAny_pure ⟨_,rfl,wpAny_pure (q _ y2 (Heap.SameBut.update ..))⟩)
theorem AH {it d : Addr} {ep : Nat} {es : Array DictEntry} {Q : Option Value -> Shared -> Prop} (hh : A.handled = none) (y : s.heap.IsKeyIter it d es.size es.size ep) (x : RawD s.heap d es ep)
  (q : ∀ h',Heap.ExtBut it s.heap h' -> Q none { s with heap:=h' }) : wpAny (model prog w) A (pyNext (.ref it)) Q E s:=by
 have ty:=y.typeIs
 obtain ⟨oi,i1,i2,i3⟩:=id y
 obtain ⟨ob,g1,g2,g3⟩:=x
 unfold pyNext
 refine wpAny_bind (wpAny_attempt (wpAny_callSpecial?_slot (name:=Str.ofString "__next__") ty F.slot_dict_keyiterator_next (wpAny_call_entry F.slot_dict_keyiterator_next ty F.entry_dict_keyiterator_next ?_ (F.args_dict_keyiterator_next_1 _))))
 refine wpAny_bind (wpAny_pure (wpAny_bind (wpAny_bind ?_)))
 first | refine wpAny_bind (wpAny_typeNameOfWhole_keyiter ty (wpAny_pure ?_)) | refine wpAny_bind (wpAny_typeNameOf_keyiter ty (wpAny_pure ?_))
 refine wpAny_bind (wpAny_fieldsOf i1 i3 ?_)
 have own : Builtin.Dict_items.ownsTuple "dict_keyiterator" = false:=by decide
 simp only [own,Bool.false_eq_true,if_false]
 show wpAny _ _ (if (Value.ref d == Value.none) = true then _ else _) _ _ s
 rw [if_neg (by intro z; cases z)]
 refine wpAny_bind (wpAny_pure (wpAny_bind (wpAny_dictEntries g1 g3 ?_)))
 rw [if_neg (by simp)]
 refine wpAny_bind (wpAny_pure (wpAny_bind (wpAny_dictEpoch g1 g3 ?_)))
 rw [if_neg (by simp)]
 refine wpAny_pure ?_
 simp only [show ¬ ((es.size : Int) < 0) from by omega,if_false,Int.toNat_natCast,Array.getElem?_eq_none (Nat.le_refl es.size)]
 refine wpAny_bind ?_
 first | refine wpAny_bind (wpAny_typeNameOfWhole_keyiter ty (wpAny_pure ?_)) | refine wpAny_bind (wpAny_typeNameOf_keyiter ty (wpAny_pure ?_))
 show wpAny _ _ (setField (.ref it) 0 .none >>= _) _ _ s
 refine wpAny_bind (wpAny_setField i1 i3 (by simp) ?_)
 show wpAny _ _ (newExc (.type "StopIteration") [] >>= _) _ _ _
 refine wpAny_bind ?_
 simp only [newExc,newTuple]
 refine wpAny_bind (wpAny_newObj_type (wpAny_bind (m:=firstArgMember _ _) (wpAny_of_eq (a:=Value.none) (by first | rfl | (simp only [firstArgMember]; rfl)) (wpAny_newObj_type ?_ (by size_fits)))) (by size_fits))
 simp only [raiseNew]
 refine wpAny_bind (wpAny_handled ?_)
 rw [show A.in1.handled = none from hh]
 refine (wpAny_bind (wpAny_pure (wpAny_throw ?fin)))
 refine (wpAny_bind (wpAny_isInstance (T := "StopIteration") (b:=true) ⟨_,(Heap.get?_push_size _ rfl),rfl⟩ isSubtype_stop ?_))
 exact wpAny_pure (q _ (((Heap.SameBut.update ..).extBut.push _).push _))
theorem Cn (hh : A.handled = none) (I d : Addr) (ne : d ≠ I) (es : Array DictEntry) (ep : Nat) :
  Walks prog w A I [I,d] [I] es.size (fun i v => ∃ hi : i < es.size,v = es[i].key) (fun i h => h.IsKeyIter I d i es.size ep /\ RawD h d es ep) where
 sub:=fun b hb => by simp at hb; simp [hb]
 frame:=fun _ _ _ st hk => ⟨st.1.at fun o e => hk I (by simp) o e,st.2.to fun o e => hk d (by simp) o e⟩
 item:=fun i s Q E hi st hQ => yi st.1 st.2 hi fun h' y2 sb => hQ _ h' s.toks ⟨hi,rfl⟩ ⟨y2,st.2.to fun o e => sb.extBut d o ne e⟩ fun b o hb e => sb.extBut b o (fun h => hb (by simp [h])) e
 done:=fun s Q E st hQ => AH hh st.1 st.2 fun h' he => hQ h' s.toks fun b o hb e => he b o (fun h => hb (by simp [h])) e
 self:=fun _ _ _ _ st hQ => wpAny_pyIter_keyiter st.1 hQ
end
theorem PySem.W.kdl_raw {prog : Program} {w : World} {d : Addr} {es : Array DictEntry} {ep : Nat} (lo : (d == sysModules) = false) : PySem.W.KdlSrc prog w "dict" d d es.size (fun i v => ∃ hi : i < es.size,v = es[i].key) (fun h => RawD h d es ep) where
 type:=fun _ x => x.ty
 there:=fun _ x => let ⟨_,h1,_⟩:=x; ⟨Heap.lt_size h1,Heap.lt_size h1⟩
 keep:=fun _ _ x hk => x.to fun o e => hk d (.inl rfl) o e
 notList:=by decide
 notTuple:=by decide
 hint:=fun _ _ _ _ x hq => PySem.W.kdl_hint_dict x.ty hq
 iter:=fun _ s hh x => ⟨_,_,(fun _ _ q => xX lo x q),Cn hh _ d (let ⟨_,h1,_⟩:=x; Nat.ne_of_lt (Heap.lt_size h1)) es ep,⟨⟨_,Heap.get?_push_size _ rfl,rfl,rfl⟩,x.to fun o e => Heap.get?_push_of_some _ e⟩⟩
end PySem
namespace L2
open PySem PySem.Spec PyProof.Rows
section
variable {X : Cx}
def xG (H : Hp) : List Addr -> List (List Key × V) -> Prop:=Paired fun b p => H b = some (.tup (p.1.map kV))
theorem KT.keys {H : Hp} : ∀ {kvs : List (List Key × V)} {xs : List (List Key × Addr × Value)},KT H kvs xs -> xG H (xs.map fun q => q.2.1) kvs
 | [],[],.nil => .nil
 | _ :: _,_ :: _,.cons h t => .cons h.2.1 (KT.keys t)
def GD : List V -> Hp -> VK -> Prop:=fun xs H Q => ∃ p kvs,xs = [.ref p] /\ H p = some (.dT kvs) /\ ∀ l bs,H l = none -> xG H bs kvs -> Q (.ref l) (upd H l (.lst (bs.map V.ref)))
theorem yW (hc : X.calm = true) : gX X (.type "list") GD:=by
 intro pins s σ H xs us Q I r h
 obtain ⟨p,kvs,rfl,hp,q⟩:=h
 obtain ⟨u,rfl,rx⟩:=vals1 r
 cases rx
 obtain ⟨hz,lo,xs,kt,o,es,ep,h1,h2,h3,h4,h5⟩:=(show ObjOk X.prog X.w H s.heap p (.dT kvs) from I.hok p _ hp)
 have hlen : kvs.length = xs.length:=Paired.length kt
 have sz : es.size = xs.length:=by
  have:=congrArg List.length h4
  rw [List.length_map] at this
  simpa using this
 refine PySem.W.kdl_call (PySem.W.kdl_raw (es:=es) (ep:=ep) lo) (I.ok.hd hc) ⟨o,h1,h2,h3⟩ (by rw [sz,<- hlen]; exact hz) fun h' tk acc c' kp e hacc => ?_
 have ea : acc.toList = (xs.map fun q => q.2.1).map Value.ref:=by
  refine List.ext_getElem? fun j => ?_
  rcases Nat.lt_or_ge j es.size with hj | hj
  ·have hja : j < acc.size:=by rw [hacc.1]; exact hj
   obtain ⟨hi,ev⟩:=hacc.2 j acc[j] (Array.getElem?_eq_getElem hja)
   have ek : es[j] = entryOfKey (tupleKind (aP X.prog X.w)) (xs[j]'(by rw [<- sz]; exact hj)):=by
    have:=congrArg (fun l => l[j]?) h4
    simp only [Array.getElem?_toList,List.getElem?_map] at this
    rw [Array.getElem?_eq_getElem hj,List.getElem?_eq_getElem (by rw [<- sz]; exact hj)] at this
    exact Option.some.inj this
   rw [Array.getElem?_toList,Array.getElem?_eq_getElem hja,ev,ek,List.getElem?_map,List.getElem?_map,List.getElem?_eq_getElem (by rw [<- sz]; exact hj)]
   rfl
  ·rw [List.getElem?_eq_none (by rw [Array.length_toList,hacc.1]; exact hj),List.getElem?_eq_none (by rw [List.length_map,List.length_map,<- sz]; exact hj)]
 have rv : ∀ bs : List Addr,Vals (bs.map V.ref) (bs.map Value.ref):=fun bs => by
  induction bs with
  | nil => exact .nil
  | cons b bs ih => exact .cons rfl ih
 have ob : ObjOk X.prog X.w (upd H s.heap.objs.size (.lst ((xs.map fun q => q.2.1).map V.ref))) h' s.heap.objs.size (.lst ((xs.map fun q => q.2.1).map V.ref)):=by
  refine ⟨by rw [List.length_map,List.length_map,<- hlen]; exact hz,acc.toList,c',by rw [ea]; exact rv _,?_⟩
  rw [Array.toArray_toList]
  exact e
 exact ⟨.ref _,_,I.laid (t' := tk) kp (Nat.le_refl _) ob,rfl,q _ _ (I.hok.fresh (Nat.le_refl _)) (KT.keys kt)⟩
end
end L2
set_option Elab.async false
set_option linter.all false
set_option maxRecDepth 100000
set_option maxHeartbeats 4000000
namespace L2
open PySem PySem.Spec PyProof.Rows
theorem y3 {K : PySem.W.Frag} {a : Addr} {xs : List V} {ix : List (Option Nat)} {g : TG} {te : TE} {σ : St} {H : Hp} {Qd : Addr -> Hp -> Prop} (Pv : Addr -> Nat -> List V -> Hp -> Prop)
  (hg : ∀ (T : Addr) (σ : St) (H : Hp) (Q : St -> Hp -> Prop) (i : Int) (x : V),H T = some (.tup [.int i,x]) -> Q ((σ.set 0 (some (.int i))).set 1 (some x)) H -> g (.ref T) σ H Q)
  (h0 : ∀ D,H D = none -> Pv D 0 [] (upd H D (.lst [])))
  (hl : ∀ D i ys H',i <= xs.length -> Pv D i ys H' -> SqL K H' a xs)
  (hs : ∀ D i x ys H' T (Q' : VK),H D = none -> xs[i]? = some x -> H' D = some (.lst ys) -> Pv D i ys H' -> H' T = none -> (∀ y H4,H4 D = some (.lst ys) -> ys.length < sizeLine -> Pv D (i + 1) (ys ++ [y]) (upd H4 D (.lst (ys ++ [y]))) -> Q' y H4) ->
   te (((aO ix σ).set 0 (some (.int i))).set 1 (some x)) (upd H' T (.tup [.int i,x])) Q')
  (hd : ∀ D ys H',H D = none -> H' D = some (.lst ys) -> Pv D xs.length ys H' -> Qd D H') : mK (A9 K a) ix g te σ H Qd:=by
 refine y0 (n:=xs.length) (item:=fun i => xs.getD i .non) Pv hg h0 (fun D i ys H' hi p => ?_) (fun D ys H' p => ⟨xs,hl D _ ys H' (Nat.le_refl _) p,Nat.le_refl _⟩) (fun D i ys H' T Q' hD hi hy p hT k => ?_) hd
 ·have q:=hl D i ys H' (Nat.le_of_lt hi) p
  refine ⟨⟨xs,xs[i],q,List.getElem?_eq_getElem hi⟩,fun x H2 y => ?_⟩
  obtain ⟨T,x0,rfl,hT,rfl,y⟩:=y
  have e:=y xs q
  refine ⟨T,rfl,hT,?_⟩
  show _ = upd H' T (.tup [.int i,xs.getD i .non])
  rw [List.getD_eq_getElem?_getD,e]
  rfl
 ·have e : xs.getD i .non = xs[i]:=by rw [List.getD_eq_getElem?_getD,List.getElem?_eq_getElem hi]; rfl
  show te (((aO ix σ).set 0 (some (.int i))).set 1 (some (xs.getD i .non))) (upd H' T (.tup [.int i,xs.getD i .non])) Q'
  rw [e]
  exact hs D i xs[i] ys H' T Q' hD (List.getElem?_eq_getElem hi) hy p hT k
theorem FnOk.or {P : Program} {w : World} {K : PySem.W.Frag} {mg : Str -> Option Value} {base : Heap} {CX : CXT} {k : Nat} {f : Addr} {fd : FuncData} {ps : List Str} {sp sp' : Sp} (F : FnOk P w K mg base CX k f fd ps sp) (F' : FnOk P w K mg base CX k f fd ps sp') :
  FnOk P w K mg base CX k f fd ps (fun vs H Q E => sp vs H Q E \/ sp' vs H Q E):=
 ⟨fun vs H Q E q => q.elim (F.len vs H Q E) (F'.len vs H Q E),fun A outer s H args us vs Q E hr he hb hv hs => hs.elim (F.run A outer s H args us vs Q E hr he hb hv) (F'.run A outer s H args us vs Q E hr he hb hv)⟩
end L2
set_option Elab.async false
set_option linter.all false
set_option maxRecDepth 100000
set_option maxHeartbeats 4000000
namespace L2
open PySem PySem.Spec PyProof.Rows
def EqD (K : PySem.W.Frag) (H : Hp) : Nat -> V -> V -> Prop
 | 0,x,y => ∃ i : Int,x = .int i /\ y = .int i
 | n + 1,x,y => (∃ i : Int,x = .int i /\ y = .int i) \/ ∃ a b xs ys,x = .ref a /\ y = .ref b /\ SqT K H a xs /\ SqT K H b ys /\ Paired (EqD K H n) xs ys
theorem kC {α β : Type} {F : α -> β -> Prop} : ∀ {xs : List α} {ys : List β} {j : Nat} (h1 : j < xs.length) (h2 : j < ys.length),Paired F xs ys -> F xs[j] ys[j]
 | _,_,j,h1,_,.nil => absurd h1 (Nat.not_lt_zero _)
 | _,_,0,_,_,.cons a _ => a
 | _,_,j + 1,h1,h2,.cons _ t => kC (j:=j) (by simpa using h1) (by simpa using h2) t
section
variable {X : Cx} {pins : List (Addr × Obj)} {σ : St} {H : Hp} {s : Shared}
theorem AI {A : Around} {i : Int} {u v : Value} (ru : RelV (.int i) u) (rv : RelV (.int i) v) : SeqAt.EqAt A s u v true:=by
 obtain ⟨t,rfl⟩:=(show ∃ t,u = Value.int i t from ru)
 obtain ⟨t',rfl⟩:=(show ∃ t,v = Value.int i t from rv)
 have z:=SeqAt.EqAt.int_int (A:=A) (s:=s) i t i t'
 rw [beq_self_eq_true] at z
 exact z
theorem EF {n : Nat} (ih : ∀ {A : Around} {x y : V} {u v : Value},A.units + n < cLine -> EqD X.K H n x y -> RelV x u -> RelV y v -> SeqAt.EqAt A s u v true) {A : Around} {a b : Addr} {xs ys : List V} (I : Inv X pins σ H s) (hu : A.units + (n + 1) < cLine) (ha : SqT X.K H a xs) (hb : SqT X.K H b ys) (p : Paired (EqD X.K H n) xs ys) : SeqAt.RcAt A s (.ref a) (.ref b) true:=by
 obtain ⟨its,r1,p1,_⟩:=I.tuple ha
 obtain ⟨jts,r2,p2,_⟩:=I.tuple hb
 have l1:=r1.length
 have l2:=r2.length
 have l3:=p.length
 have q:=SeqAt.RcAt.tuples (A:=A) (e:=fun _ => true) p1 p2 (by omega) fun j h1 h2 => by
  have j1 : j < xs.length:=by simp at h1; omega
  have j2 : j < ys.length:=by omega
  obtain ⟨u1,e1,q1⟩:=r1.get (i:=j) (x:=xs[j]) (by simp [j1])
  obtain ⟨u2,e2,q2⟩:=r2.get (i:=j) (x:=ys[j]) (by simp [j2])
  have g1 : its.toArray[j] = u1:=by
   have:=(List.getElem?_eq_some_iff.mp e1).2
   simpa using this
  have g2 : jts.toArray[j] = u2:=by
   have:=(List.getElem?_eq_some_iff.mp e2).2
   simpa using this
  rw [g1,g2]
  exact ih (show A.units + 1 + n < cLine by omega) (kC j1 j2 p) q1 q2
 have e : ((List.range (min its.toArray.size jts.toArray.size)).all (fun _ => true) && its.toArray.size == jts.toArray.size) = true:=by
  simp
  omega
 rw [e] at q
 exact q
theorem EqD.at (I : Inv X pins σ H s) : ∀ (n : Nat) {A : Around} {x y : V} {u v : Value},A.units + n < cLine -> EqD X.K H n x y -> RelV x u -> RelV y v -> SeqAt.EqAt A s u v true
 | 0,A,x,y,u,v,_,h,ru,rv => by
  obtain ⟨i,rfl,rfl⟩:=h
  exact AI ru rv
 | n + 1,A,x,y,u,v,hu,h,ru,rv => by
  rcases h with ⟨i,rfl,rfl⟩ | ⟨a,b,xs,ys,rfl,rfl,ha,hb,p⟩
  ·exact AI ru rv
  ·cases ru
   cases rv
   by_cases e : a = b
   ·subst e; exact SeqAt.EqAt.same _
   ·exact SeqAt.EqAt.of_refs e (EF (fun {A x y u v} h1 h2 h3 h4 => EqD.at I n h1 h2 h3 h4) I hu ha hb p)
end
theorem Ga {A : Around} {k : Nat} (hr : Room k A) : A.units + 3 < cLine:=by
 have:=hr.un
 omega
end L2
set_option Elab.async false
set_option linter.all false
set_option maxRecDepth 100000
set_option maxHeartbeats 4000000
namespace L2
open PySem PySem.Spec PyProof.Rows
section
variable {X : Cx} {pins : List (Addr × Obj)} {σ : St} {H : Hp} {s : Shared}
open Classical in
noncomputable def isR (H : Hp) (ns : List Int) (u : Value) : Bool:=decide (∃ b,u = Value.ref b /\ H b = some (.tup (ns.map V.int)))
end
end L2
set_option Elab.async false
set_option linter.all false
set_option maxRecDepth 100000
set_option maxHeartbeats 4000000
namespace L2
open PySem PySem.Spec PyProof.Rows
section
variable {X : Cx}
theorem zP (n : Nat) (hu : X.A.units + (n + 1) < cLine) : OpR X (compareOp .NotEq) (fun x y H Q => ∃ a b xs ys,x = .ref a /\ y = .ref b /\ SqT X.K H a xs /\ SqT X.K H b ys /\ Paired (EqD X.K H n) xs ys /\ Q (.bl false) H):=by
 intro pins s σ H x y v u Q I r1 r2 h
 obtain ⟨a,b,xs,ys,rfl,rfl,ha,hb,p,q⟩:=h
 cases r1
 cases r2
 obtain ⟨its,r1,p1,_⟩:=I.tuple ha
 obtain ⟨jts,r2,p2,_⟩:=I.tuple hb
 have l1:=r1.length
 have l2:=r2.length
 have l3:=p.length
 refine SeqAt.RcNeAt.tuples (e:=fun _ => true) p1 p2 (by omega) (fun j h1 h2 => ?_) X.prog X.w X.xe _ ⟨.bl false,H,I,?_,q⟩
 ·have j1 : j < xs.length:=by simp at h1; omega
  have j2 : j < ys.length:=by omega
  obtain ⟨u1,e1,q1⟩:=r1.get (i:=j) (x:=xs[j]) (by simp [j1])
  obtain ⟨u2,e2,q2⟩:=r2.get (i:=j) (x:=ys[j]) (by simp [j2])
  have g1 : its.toArray[j] = u1:=by
   have:=(List.getElem?_eq_some_iff.mp e1).2
   simpa using this
  have g2 : jts.toArray[j] = u2:=by
   have:=(List.getElem?_eq_some_iff.mp e2).2
   simpa using this
  rw [g1,g2]
  exact EqD.at I n (by show X.A.units + 1 + n < cLine; omega) (kC j1 j2 p) q1 q2
 ·show Value.bool _ = Value.bool _
  simp
  omega
end
end L2
set_option Elab.async false
set_option linter.all false
set_option maxRecDepth 100000
set_option maxHeartbeats 4000000
namespace L2
open PySem PySem.Spec PyProof.Rows
section
variable {X : Cx} {pins : List (Addr × Obj)} {σ : St} {H : Hp} {s : Shared} {a : Addr} {o : Obj} {kvs : List (List Key × V)}
theorem Inv.freezeT (I : Inv X pins σ H s) (e : H a = some (.dT kvs)) (ho : s.heap.get? a = some o) : Inv X pins σ (upd H a (.frz o (.dT kvs))) s:=by
 have nt : ∀ b u,H b = some u -> (u = .dT kvs -> False) -> b ≠ a:=fun b u q d => aA q e d
 refine I.un (t' := s.toks) ⟨fun b u q _ _ _ => q,fun b u q _ _ _ => ⟨u.slots,q⟩,fun b u q n _ => ?_,fun b u q _ => ⟨u,q⟩,fun b xs q => ?_,fun b u xs q => ?_,fun b ps q => ⟨#[],?_⟩⟩ (fun b u q => ?_)
 ·rw [ae (fun z => by rw [z,e] at n; cases n)]; exact n
 ·rw [ae (nt b _ q (by intro z; cases z))]; exact q
 ·rw [ae (nt b _ q (by intro z; cases z))]; exact q
 ·rw [ae (nt b _ q (by intro z; cases z)),q]; simp
 ·by_cases hb : b = a
  ·subst hb
   rw [ab] at q
   cases q
   refine ⟨ho,?_⟩
   exact (I.hok b _ e).stay (fun c v _ z => z) (fun c z => by rw [ae (nt c _ z (by intro y; cases y))]; exact z) fun c xs z => by rw [ae (nt c _ z (by intro y; cases y))]; exact z
  ·rw [ae hb] at q
   exact (I.hok b u q).stay (fun c v _ z => z) (fun c z => by rw [ae (nt c _ z (by intro y; cases y))]; exact z) fun c xs z => by rw [ae (nt c _ z (by intro y; cases y))]; exact z
end
def FX (a : Addr) (o : Obj) (kvs : List (List Key × V)) : It:=
 ⟨fun i H => i < kvs.length /\ H a = some (.frz o (.dT kvs)),fun i H x H' => H' = H /\ ∃ b,x = .ref b /\ ∀ p,kvs[i]? = some p -> H b = some (.tup (p.1.map kV)),fun i H => i = kvs.length /\ H a = some (.frz o (.dT kvs))⟩
theorem pX {P : Program} {w : World} {H : Hp} {h : Heap} {a : Addr} {o : Obj} {kvs : List (List Key × V)} (ok : HOk P w H h) (e : H a = some (.frz o (.dT kvs))) : ∃ (bs : List Addr) (es : Array DictEntry),RawD h a es (fY o) /\ (a == sysModules) = false /\ h.get? a = some o /\ es.size = kvs.length /\ bs.length = kvs.length /\ xG H bs kvs /\ ∀ (j : Nat) (hj : j < es.size) (hb : j < bs.length),es[j].key = .ref bs[j]:=by
 obtain ⟨ho,z,lo,xs,kt,ob,es,ep,h1,h2,h3,h4,h5⟩:=ok a _ e
 rw [ho] at h1
 cases h1
 have ee : fY o = ep:=by unfold fY; rw [h3]
 have hlen : kvs.length = xs.length:=Paired.length kt
 have sz : es.size = xs.length:=by
  have:=congrArg List.length h4
  rw [List.length_map] at this
  simpa using this
 refine ⟨xs.map fun q => q.2.1,es,⟨o,ho,h2,by rw [ee]; exact h3⟩,lo,ho,by omega,by rw [List.length_map]; omega,KT.keys kt,fun j hj hb => ?_⟩
 have ek : es[j] = entryOfKey (tupleKind (aP P w)) (xs[j]'(by rw [<- sz]; exact hj)):=by
  have:=congrArg (fun l => l[j]?) h4
  simp only [Array.getElem?_toList,List.getElem?_map] at this
  rw [Array.getElem?_eq_getElem hj,List.getElem?_eq_getElem (by rw [<- sz]; exact hj)] at this
  exact Option.some.inj this
 rw [ek,List.getElem_map]
 rfl
theorem Ak {P : Program} {w : World} {K : PySem.W.Frag} {tg : Expr} (a it : Addr) (o : Obj) (kvs : List (List Key × V)) : Turn P w K tg (FX a o kvs) [it] it (fun i h => h.IsKeyIter it a i kvs.length (fY o)) where
 mem:=by simp
 obj:=fun i h st b hb => by
  have e : b = it:=by simpa using hb
  subst e
  obtain ⟨o,e,c,d⟩:=st
  exact ⟨o,e,fun v z => by rw [d] at z; cases z⟩
 keep:=fun i h h' st k => by
  obtain ⟨ob,e,r⟩:=st
  exact ⟨ob,k it (by simp) ob e,r⟩
 item:=by
  intro X hP hw hK hc i pins s σ H E I hf st hg
  subst hP hw hK
  obtain ⟨hi,hfz⟩:=hg
  obtain ⟨bs,es,dat,lo,ho,sz,lb,kt,hk⟩:=pX I.hok hfz
  obtain ⟨f0,f1,f2,f3,f4,f5⟩:=hf it (by simp)
  rw [<- sz] at st
  refine yi st dat (by omega) fun h' st' sb => ?_
  have I1 : Inv X pins σ H { s with heap:=h' }:=I.turned (t' := s.toks) (fun b o hb e => (sb.2 b hb).trans e) f0 f1 f3 f4 f5
  rw [sz] at st'
  obtain ⟨ob,e,c,d⟩:=id st'
  refine ⟨_,rfl,vg (s:={ s with heap:=h' }) e c d (by decide) ⟨.ref (bs[i]'(by omega)),H,I1,?_,⟨rfl,_,rfl,fun p' hp' => ?_⟩,st',fun b hb => (hf b hb).1⟩⟩
  ·rw [hk i (by omega) (by omega)]
   rfl
  ·have:=kC (j:=i) (by omega) hi kt
   rw [List.getElem?_eq_getElem hi] at hp'
   cases hp'
   exact this
 done:=by
  intro X hP hw hK hc i pins s σ H E I hf st hg
  subst hP hw hK
  obtain ⟨hi,hfz⟩:=hg
  obtain ⟨bs,es,dat,lo,ho,sz,lb,kt,hk⟩:=pX I.hok hfz
  obtain ⟨f0,f1,f2,f3,f4,f5⟩:=hf it (by simp)
  subst hi
  rw [<- sz] at st
  exact AH (I.ok.hd hc) st dat fun h' eb => ⟨rfl,I.turned (t' := s.toks) (fun b o hb e => eb b o hb e) f0 f1 f3 f4 f5⟩
 self:=fun A i s Q E st h => by
  refine wpAny_pyIter_slot st.typeIs PySem.F.slot_dict_keyiterator_iter (wpAny_call_entry PySem.F.slot_dict_keyiterator_iter st.typeIs PySem.F.entry_dict_keyiterator_iter ?_ (PySem.F.args_dict_keyiterator_iter_1 _))
  show wpAny _ _ (ret (.ref it)) _ _ s
  exact wpAny_pure ⟨_,rfl,"dict_keyiterator",_,st.typeIs,PySem.F.slot_dict_keyiterator_next.lookup,h⟩
section
variable {X : Cx} {tg : Expr}
def Gb (tl : TE) : TI:=fun σ H R => tl σ H fun x H1 => ∃ a kvs,x = .ref a /\ H1 a = some (.dT kvs) /\ ∀ o,R (FX a o kvs) (upd H1 a (.frz o (.dT kvs)))
theorem DM {l : Expr} {tl : TE} (hl : PE X l tl) : PI X tg l (Gb tl):=by
 intro pins s σ H R I h
 refine thn (hl pins s σ H _ I h) fun v s1 ⟨x,H1,I1,r1,q1⟩ => ?_
 obtain ⟨a,kvs,e,hd,q⟩:=q1
 subst e
 cases r1
 obtain ⟨z,lo0,xs,kt0,ob,es0,ep,hg,rest⟩:=I1.hok a _ hd
 have I2:=I1.freezeT hd hg
 obtain ⟨bs,es,dat,lo,ho,sz,lb,kt,hk⟩:=pX I2.hok ab
 refine xX lo dat ?_
 refine ⟨s1.heap.objs.size,[s1.heap.objs.size],_,_,_,rfl,I2.kept (t' := s1.toks) fun b o e => Heap.get?_push_of_some _ e,Ak a _ ob kvs,⟨_,Heap.get?_push_size _ rfl,rfl,by rw [sz]; rfl⟩,fun b hb => ?_,q ob⟩
 have e : b = s1.heap.objs.size:=by simpa using hb
 subst e
 exact I2.fpOk (Nat.le_refl _) (I2.hok.fresh (Nat.le_refl _))
end
theorem yZ {a : Addr} {o : Obj} {kvs : List (List Key × V)} {ix : List (Option Nat)} {te : TE} {σ : St} {H : Hp} {Qd : Addr -> Hp -> Prop} (Pv : Addr -> Nat -> List V -> Hp -> Prop)
  (h0 : ∀ D,H D = none -> Pv D 0 [] (upd H D (.lst [])))
  (hl : ∀ D i ys H',i <= kvs.length -> Pv D i ys H' -> H' a = some (.frz o (.dT kvs)))
  (hs : ∀ D i p b ys H' (Q' : VK),H D = none -> kvs[i]? = some p -> H' b = some (.tup (p.1.map kV)) -> H' D = some (.lst ys) -> Pv D i ys H' -> (∀ y H4,H4 D = some (.lst ys) -> ys.length < sizeLine -> Pv D (i + 1) (ys ++ [y]) (upd H4 D (.lst (ys ++ [y]))) -> Q' y H4) ->
   te ((aO ix σ).set 0 (some (.ref b))) H' Q')
  (hd : ∀ D ys H',H D = none -> H' D = some (.lst ys) -> Pv D kvs.length ys H' -> Qd D H') : mK (FX a o kvs) ix (bt 0) te σ H Qd:=by
 intro D hD
 refine ⟨fun i m σ' H' => m = kvs.length - i /\ i <= kvs.length /\ (σ' = aO ix σ \/ ∃ t,σ' = (aO ix σ).set 0 t) /\ ∃ ys,H' D = some (.lst ys) /\ Pv D i ys H',⟨kvs.length,by simp,Nat.zero_le _,.inl rfl,[],ab,h0 D hD⟩,?_⟩
 rintro i m σ' H' ⟨rfl,hi,hσ,ys,hy,p⟩
 have q:=hl D i ys H' hi p
 by_cases hlt : i < kvs.length
 ·refine .inr ⟨⟨hlt,q⟩,fun x H2 y => ?_⟩
  obtain ⟨e1,b,rfl,e2⟩:=y
  subst e1
  have ex:=e2 kvs[i] (List.getElem?_eq_getElem hlt)
  have es : σ'.set 0 (some (.ref b)) = (aO ix σ).set 0 (some (.ref b)):=by
   rcases hσ with z | ⟨t,z⟩
   ·rw [z]
   ·rw [z,List.set_set]
  show te (σ'.set 0 (some (.ref b))) _ _
  rw [es]
  refine hs D i kvs[i] b ys _ _ hD (List.getElem?_eq_getElem hlt) ex hy p fun y H4 h4 hz p4 => ⟨ys,h4,hz,kvs.length - (i + 1),by omega,rfl,hlt,.inr ⟨_,rfl⟩,ys ++ [y],ab,p4⟩
 ·have e : i = kvs.length:=by omega
  subst e
  exact .inl ⟨⟨rfl,q⟩,hd D ys H' hD hy p⟩
end L2
set_option Elab.async false
set_option linter.all false
set_option maxRecDepth 100000
set_option maxHeartbeats 4000000
namespace L2
open PySem PySem.Spec PyProof.Rows
def GN (trs : List (TE × TE)) : TE:=fun σ H Q => ∀ p,H p = none -> xx trs σ (upd H p (.dT [])) fun ps H2 => H2 p = some (.dT []) /\ ∃ b k y,ps = [(.ref b,y)] /\ H2 b = some (.tup (k.map kV)) /\ Q (.ref p) (upd H2 p (.dT [(k,y)]))
theorem Ce {prog : Program} {w : World} {A : Around} {E : Value -> Shared -> Prop} {s : Shared} {d : Addr} {u r : Value} {Q : PUnit -> Shared -> Prop} (h : wpAny (model prog w) A (dictSet d u r) (fun _ s' => Q PUnit.unit s') E s) : wpAny (model prog w) A (storeAll d [(u,r)]) Q E s:=by
 unfold storeAll
 simp only [List.forIn_cons,List.forIn_nil]
 exact wpAny_bind (wpAny_bind (wpAny_mono h (fun _ s' q => wpAny_pure (wpAny_pure q)) fun _ _ e => e))
theorem DD {X : Cx} {pos : Pos} {k v : Expr} {trs : List (TE × TE)} (hu : X.A.units + 1 < cLine) (h : PPs X pos [some k] [v] trs) : PE X (.Dict [some k] [v] pos) (GN trs):=by
 intro pins s σ H Q I q
 have hn:=I.hok.fresh (Nat.le_refl s.heap.objs.size)
 have I1:=I.laid (a:=s.heap.objs.size) (o:=.dT []) (h' := s.heap.push { cls:=.type "dict",data:=.dict #[] }) (t' := s.toks) (fun _ _ q => Heap.get?_push_of_some _ q) (Nat.le_refl _) (CI s.heap I.big)
 refine wpAny_Dict_any rfl rfl (by intro z; cases z) (by show 1 <= 15; decide) (thn (h pins _ σ _ _ I1 (q _ hn)) fun ws s2 ⟨ps,H2,I2,rel,e,b,kk,y,ep,hb,q2⟩ => ?_)
 subst ep
 obtain ⟨u,rr,hws,ru,ry⟩ : ∃ u rr,ws = [(u,rr)] /\ RelV (.ref b) u /\ RelV y rr:=by
  cases rel with
  | cons r t =>
   cases t
   exact ⟨_,_,rfl,r.1,r.2⟩
 subst hws
 have eu : u = Value.ref b:=ru
 subst eu
 obtain ⟨z,hd,xs,rl,dd⟩:=CJ I2.hok e
 cases rl
 refine Ce (wpAny_dictSet_heap (hsz:=by decide) (show X.A.units < cLine by omega) (jr I2.hok hb) dd fun h' dd' hs => ⟨.ref s.heap.objs.size,_,?_,rfl,q2⟩)
 obtain ⟨q',es,ep,hq,h2,h3,h4,_,h5⟩:=dd'
 refine kq I2 (by rw [e]; exact True.intro) hs ⟨q',hq⟩ ⟨by show 1 <= sizeLine; decide,hd,_,(KT.put (H:=H2) (kvs:=[]) (xs:=[]) .nil kk hb ry).keeps fun c ys ec => ?_,q',es,ep,hq,h2,h3,h4,h5⟩
 rw [ae (aA ec e (fun z => nomatch z))]
 exact ec
end L2
set_option Elab.async false
set_option linter.all false
set_option maxRecDepth 100000
namespace PySem
theorem uz {prog : Program} {w : World} (d : Addr) (n : Nat) (hd : (d == sysModules) = false) :
  MeetsIn prog w (Builtin.«dict.__len__» { pos:=[Value.ref d] }) fun _ R s => (∃ o es ep,s.heap.get? d = some o /\ o.data = Data.dict es ep /\ es.size = n) /\ R (.ok (.ret (Value.int (n : Int) s.toks))) { s with toks:=s.toks + 1 }:=
 MeetsIn.of_wp fun A R s ⟨⟨o,es,ep,h1,h2,h3⟩,h⟩ => by
  show wpAny (model prog w) A.in1 (do
   let n1 <- dictSize d
   let n2 <- Builtin.Dict.pendingCount d
   retInt ((n1 : Int) + (n2 : Int))) _ _ _
  refine wpAny_bind (wpAny_bind (wpAny_dictEntries h1 h2 (wpAny_pure (wpAny_bind (wpAny_pendingCount_other hd (wpAny_ret_mkInt ?_))))))
  rw [Nat.add_zero,h3]
  exact h
theorem ER {prog : Program} {w : World} {A : Around} {E : Value -> Shared -> Prop} {s : Shared} {d : Addr} {n : Nat} {Q : Value -> Shared -> Prop} (hd : (d == sysModules) = false) (ty : s.TypeIs (.ref d) "dict")
  (hx : ∃ o es ep,s.heap.get? d = some o /\ o.data = Data.dict es ep /\ es.size = n) (hfit : (n : Int) < 2 ^ 63) (h : Q (Value.int (n : Int) (s.toks + 1)) { s with toks:=s.toks + 1 + 1 }) :
  wpAny (model prog w) A (call (Value.builtin "len") [Value.ref d]) Q E s:=by
 refine Calls.call_function_entry kind_len plain_len entry_len (args_len1 (Value.ref d)) ?_
 show wpAny _ _ _ _ _ _
 refine wpAny_bind (wpAny_pure (wpAny_bind (wpAny_callSpecial?_slot ty F.slot_dict_len (call_meetsIn F.slot_dict_len ty F.entry_dict_len (F.args_dict_len_1 _) (uz d n hd) ⟨hx,?_⟩))))
 show wpAny _ _ _ _ _ _
 refine wpAny_bind (wpAny_holding (wpAny_pure (wpAny_bind (wpAny_letGo ?_))))
 show wpAny _ _ (if _ then _ else _) _ _ _
 rw [if_neg (by omega)]
 show wpAny _ _ (if _ then _ else _) _ _ _
 rw [if_neg (by omega)]
 exact wpAny_bind (wpAny_mkInt (wpAny_pure ⟨_,rfl,h⟩))
end PySem
namespace L2
open PySem PySem.Spec PyProof.Rows
theorem Be {X : Cx} : gX X (.builtin "len") (fun xs H Q => ∃ a kvs,xs = [.ref a] /\ H a = some (.dT kvs) /\ Q (.int kvs.length) H):=by
 intro pins s σ H xs us Q I r h
 obtain ⟨a,kvs,rfl,ha,q⟩:=h
 obtain ⟨u,rfl,rx⟩:=vals1 r
 cases rx
 obtain ⟨hz,lo,xs,kt,o,es,ep,h1,h2,h3,h4,h5⟩:=(show ObjOk X.prog X.w H s.heap a (.dT kvs) from I.hok a _ ha)
 have hlen : kvs.length = xs.length:=Paired.length kt
 have sz : es.size = xs.length:=by
  have:=congrArg List.length h4
  rw [List.length_map] at this
  simpa using this
 have dd:=(CJ I.hok ha).2.2
 obtain ⟨xs',_,dd⟩:=dd
 exact ER lo dd.typeIs ⟨o,es,ep,h1,h3,by rw [sz,<- hlen]⟩ (by rw [sizeLine_eq] at hz; omega) ⟨.int kvs.length,H,I.tok _,⟨_,rfl⟩,q⟩
end L2
set_option Elab.async false
set_option linter.all false
set_option maxRecDepth 100000
set_option maxHeartbeats 4000000
namespace L2
open PySem PySem.Spec PyProof.Rows
section
variable {X : Cx}
end
end L2
set_option Elab.async false
set_option linter.all false
set_option maxRecDepth 100000
set_option maxHeartbeats 8000000
namespace My
open PySem L2
abbrev LL:=List (List Int)
abbrev LI:=List Int
abbrev OV:=Option V
theorem gi_ {α : Type} {l : List α} {i : Nat} {a : α} (h : l[i]? = some a) : ∃ h : i < l.length,l[i] = a:=List.getElem?_eq_some_iff.mp h
theorem mq_ {α : Type} {l : List α} {i : Nat} {a : α} (h : l[i]? = some a) : a ∈ l:=List.mem_of_getElem? h
theorem ma_ {α : Type} {a : α} {s t : List α} : a ∈ s ++ t ↔ a ∈ s \/ a ∈ t:=List.mem_append
theorem lm_ {α β : Type} {f : α -> β} {l : List α} : (l.map f).length = l.length:=List.length_map f
theorem qT_ {K : PySem.W.Frag} {H : Hp} {a : Addr} {xs : List V} (h : H a = some (.tup xs)) : SqT K H a xs:=SqT.of h
theorem qL_ {K : PySem.W.Frag} {H : Hp} {a : Addr} {xs : List V} (h : H a = some (.lst xs)) : SqL K H a xs:=SqL.of h
def top (i : Nat) : Stmt:=PySem.Challenge.pw_figuretell_k32_whole_turned_twice.main.body.getD i (.Pass ⟨0,0,0,0⟩)
abbrev e7 : Stmt:=top 5
abbrev b4 : Stmt:=top 6
abbrev c9 : Stmt:=top 7
abbrev gw : Stmt:=top 8
abbrev iO : Stmt:=top 9
abbrev pM : Stmt:=top 11
abbrev pN : Stmt:=top 12
abbrev gx : Stmt:=top 13
abbrev dJ : Stmt:=top 14
abbrev b7 : Stmt:=top 15
abbrev hX : Stmt:=top 17
abbrev bD : Stmt:=top 18
abbrev cE : Stmt:=top 19
abbrev bg : Stmt:=top 20
abbrev gu : Stmt:=top 21
abbrev jD : Stmt:=top 25
abbrev iP : Stmt:=top 28
abbrev cZ : Stmt:=top 30
abbrev cc : Stmt:=top 31
abbrev dI : Stmt:=top 32
abbrev c8 : Stmt:=top 33
abbrev cD : Stmt:=top 34
abbrev bX : Stmt:=top 35
abbrev cu : Stmt:=top 36
abbrev bT : Stmt:=top 37
abbrev lD : Stmt:=top 38
abbrev aX : Stmt:=inClass (top 22) 0
abbrev bR : Stmt:=inClass (top 22) 1
abbrev bb : Stmt:=inClass (top 22) 2
abbrev bS : Stmt:=inClass (top 22) 3
abbrev bp : Stmt:=inClass (top 22) 4
abbrev bK : Stmt:=inClass (top 22) 5
abbrev bC : Stmt:=inClass (top 27) 0
abbrev bZ : Stmt:=inClass (top 27) 1
abbrev bW : Stmt:=inClass (top 27) 2
abbrev ck : Stmt:=inClass (top 27) 3
theorem um {c A B : Prop} [Decidable c] (h1 : c -> A) (h2 : ¬ c -> B) : if decide c = true then A else B:=Gg (fun h => h1 (of_decide_eq_true h)) fun h => h2 fun z => h (decide_eq_true z)
theorem CS {c A B : Prop} [Decidable c] (h1 : ¬ c -> A) (h2 : c -> B) : if (!decide c) = true then A else B:=Gg (fun h => h1 fun z => by rw [decide_eq_true z] at h; cases h) fun h => h2 (Decidable.byContradiction fun z => h (by rw [decide_eq_false z]; rfl))
theorem l6 {a b : Int} {A B : Prop} (h1 : a = b -> A) (h2 : a ≠ b -> B) : if decide (V.int a = V.int b) = true then A else B:=um (fun h => h1 (V.int.inj h)) fun h => h2 fun z => h (congrArg V.int z)
theorem wJ {a b m n : Int} (a0 : 0 <= a) (a1 : a <= m) (b0 : 0 <= b) (b1 : b <= n) : 0 <= a * b /\ a * b <= m * n:=⟨Int.mul_nonneg a0 b0,Int.mul_le_mul a1 b1 b0 (Int.le_trans a0 a1)⟩
theorem cj {a b : Int} (h : 0 < b) : 0 <= a % b /\ a % b < b:=⟨Int.emod_nonneg a (by omega),Int.emod_lt_of_pos a h⟩
theorem cG {t u : TS} {D : Ends} {σ : St} {H : Hp} (R : St -> Hp -> Prop) (h2 : ∀ σ' H',R σ' H' -> u D σ' H') (h1 : (∀ σ' H',R σ' H' -> u D σ' H') -> Cf t u D σ H) : Cf t u D σ H:=h1 h2
theorem dX {t u : TS} {D : Ends} {σ : St} {H : Hp} (R : St -> Hp -> Prop) (h1 : ∀ σ' H',R σ' H' -> u D σ' H') (h2 : ∀ D' : Ends,(∀ σ' H',R σ' H' -> D'.nx σ' H') -> t D' σ H) : Cf t u D σ H:=h2 { D with nx:=u D } h1
theorem av {H H' : Hp} {p : Addr} {o : HO} (h : Same H H') (hp : H p = none) : Same H (upd H' p o):=fun b u e => by rw [ae (ao e hp)]; exact h b u e
def IntsIn (lo hi : Int) (ys : List V) : Prop := ∀ y ∈ ys,∃ v : Int,y = .int v /\ lo <= v /\ v < hi
theorem IntsIn.nil {lo hi : Int} : IntsIn lo hi []:=fun y h => by cases h
theorem IntsIn.snoc {lo hi v : Int} {ys : List V} (h : IntsIn lo hi ys) (h0 : lo <= v) (h1 : v < hi) : IntsIn lo hi (ys ++ [.int v]):=fun y hy => by
 rcases ma_.mp hy with z | z
 ·exact h y z
 ·rw [List.mem_singleton.mp z]; exact ⟨v,rfl,h0,h1⟩
theorem IntsIn.ints {lo hi : Int} : ∀ {ys : List V},IntsIn lo hi ys -> ∃ ns : LI,ys = ns.map V.int /\ ∀ z ∈ ns,lo <= z /\ z < hi
 | [],_ => ⟨[],rfl,fun z h => by cases h⟩
 | y :: r,h => by
  obtain ⟨v,e,h0,h1⟩:=h y List.mem_cons_self
  obtain ⟨ns,e2,h2⟩:=IntsIn.ints (ys:=r) fun z hz => h z (List.mem_cons_of_mem _ hz)
  refine ⟨v :: ns,by rw [e,e2]; rfl,fun z hz => ?_⟩
  rcases List.mem_cons.mp hz with q | q
  ·rw [q]; exact ⟨h0,h1⟩
  ·exact h2 z q
theorem gU {x : Int} (h : 0 <= x) : ∃ n : Nat,x = (n : Int):=⟨x.toNat,by omega⟩
theorem getD_at {α : Type} {xs : List α} {i : Nat} {d : α} (h : i < xs.length) : xs.getD i d = xs[i]:=by simp [h]
theorem bU {ns : LI} {k : Int} (h0 : 0 <= k) (h : k < (ns.length : Int)) : atI (ns.map V.int) k = some (.int (ns.getD k.toNat 0)):=by
 have hk : k.toNat < ns.length:=by omega
 have ek : k = ((k.toNat : Nat) : Int):=by omega
 have q : atI (ns.map V.int) ((k.toNat : Nat) : Int) = some (.int ns[k.toNat]):=mQ (by rw [List.getElem?_map,List.getElem?_eq_getElem hk] <;> rfl)
 rw [<- ek] at q
 rw [q,getD_at hk]
theorem jQ {ras : List Addr} {k : Int} {ra : Addr} (h0 : 0 <= k) (h : ras[k.toNat]? = some ra) : atI (ras.map V.ref) k = some (.ref ra):=by
 have ek : k = ((k.toNat : Nat) : Int):=by omega
 have q : atI (ras.map V.ref) ((k.toNat : Nat) : Int) = some (.ref ra):=mQ (by rw [List.getElem?_map,h] <;> rfl)
 rw [<- ek] at q
 exact q
theorem br {ns : LI} {i : Nat} {y : V} (h : (ns.map V.int)[i]? = some y) : ∃ z,y = V.int z /\ ns[i]? = some z:=by
 rw [List.getElem?_map] at h
 cases e : ns[i]? with
 | none => rw [e] at h; cases h
 | some z => rw [e] at h; exact ⟨z,(Option.some.inj h).symm,rfl⟩
theorem vd {ns : LI} {c : Nat} : jY (ns.map V.int) none (some (c : Int)) = (ns.take c).map V.int:=by
 unfold jY
 rw [HT.sIx_none,HT.sIx_nat,lm_,List.drop_zero,Nat.sub_zero]
 rw [<- List.map_take]
 congr 1
 rcases Nat.le_total c ns.length with h | h
 ·rw [Nat.min_eq_left h]
 ·rw [Nat.min_eq_right h,List.take_length,List.take_of_length_le h]
def stepI (rows : LL) (h f : Int) : Int:=(rows.getD h.toNat []).getD f.toNat 0
def aG (rows : LL) (row : LI) (h : Int) : Int:=row.foldl (stepI rows) h
structure RowsOk (many wide : Nat) (rows : LL) : Prop where
 len : rows.length = many
 row : ∀ r ∈ rows,r.length = wide
 val : ∀ r ∈ rows,∀ v ∈ r,0 <= v /\ v < (many : Int)
theorem cR {many wide : Nat} {rows : LL} {h f : Int} (R : RowsOk many wide rows) (h0 : 0 <= h) (h1 : h < many) (f0 : 0 <= f) (f1 : f < wide) : 0 <= stepI rows h f /\ stepI rows h f < many:=by
 have l1 : h.toNat < rows.length:=by rw [R.len]; omega
 have l2 : f.toNat < rows[h.toNat].length:=by rw [R.row _ (List.getElem_mem l1)]; omega
 unfold stepI
 rw [getD_at l1,getD_at l2]
 exact R.val _ (List.getElem_mem l1) _ (List.getElem_mem l2)
theorem fq {many wide : Nat} {rows : LL} (R : RowsOk many wide rows) : ∀ {ns : LI} {h : Int},(∀ f ∈ ns,0 <= f /\ f < (wide : Int)) -> 0 <= h -> h < many -> 0 <= aG rows ns h /\ aG rows ns h < many
 | [],h,_,h0,h1 => ⟨h0,h1⟩
 | f :: r,h,hf,h0,h1 => by
  obtain ⟨a,b⟩:=cR R h0 h1 (hf f List.mem_cons_self).1 (hf f List.mem_cons_self).2
  exact fq (ns:=r) R (fun g hg => hf g (List.mem_cons_of_mem _ hg)) a b
theorem bE (rows : LL) (xs ys : LI) (h : Int) : aG rows (xs ++ ys) h = aG rows ys (aG rows xs h):=by
 unfold aG
 rw [List.foldl_append]
theorem Aq {rows : LL} {ns : LI} {h z : Int} {i : Nat} (e : ns[i]? = some z) : aG rows (ns.take (i + 1)) h = stepI rows (aG rows (ns.take i) h) z:=by
 rw [List.take_add_one,e,bE]
 rfl
def RowsAt (H : Hp) : List Addr -> LL -> Prop:=Paired fun a r => H a = some (.tup (r.map V.int))
theorem RowsAt.length {H : Hp} {ras : List Addr} {rows : LL} (h : RowsAt H ras rows) : ras.length = rows.length:=Paired.length h
theorem RowsAt.get : ∀ {H : Hp} {ras : List Addr} {rows : LL} {i : Nat},RowsAt H ras rows -> (h : i < rows.length) -> ∃ ra,ras[i]? = some ra /\ H ra = some (.tup (rows[i].map V.int))
 | _,_,_,_,.nil,h => by simp at h
 | _,_,_,0,.cons (a:=a) r _,_ => ⟨a,rfl,r⟩
 | _,_,_,i + 1,.cons _ t,h => by
  obtain ⟨ra,h1,h2⟩:=RowsAt.get (i:=i) t (by simpa using h)
  exact ⟨ra,by simpa using h1,by simpa using h2⟩
theorem RowsAt.same {H H' : Hp} {ras : List Addr} {rows : LL} (h : RowsAt H ras rows) (s : ∀ b xs,H b = some (.tup xs) -> H' b = some (.tup xs)) : RowsAt H' ras rows:=Paired.mapP h fun _ _ q => s _ _ q
theorem RowsAt.snoc : ∀ {H : Hp} {ras : List Addr} {rows : LL} {a : Addr} {r : LI},RowsAt H ras rows -> H a = some (.tup (r.map V.int)) -> RowsAt H (ras ++ [a]) (rows ++ [r])
 | _,_,_,_,_,.nil,h => .cons h .nil
 | _,_,_,_,_,.cons q t,h => .cons q (RowsAt.snoc t h)
structure MachAt (H : Hp) (m r g : Addr) (wide : Nat) (rows : LL) (signs : LI) : Prop where
 tup : H m = some (.tup [.int wide,.ref r,.ref g])
 rows : ∃ ras,H r = some (.tup (ras.map V.ref)) /\ RowsAt H ras rows
 sgn : H g = some (.tup (signs.map V.int))
theorem MachAt.same {H H' : Hp} {m r g : Addr} {wide : Nat} {rows : LL} {signs : LI} (M : MachAt H m r g wide rows signs) (s : ∀ b xs,H b = some (.tup xs) -> H' b = some (.tup xs)) : MachAt H' m r g wide rows signs:=by
 obtain ⟨h1,⟨ras,h2,h3⟩,h4⟩:=M
 exact ⟨s _ _ h1,⟨ras,s _ _ h2,h3.same s⟩,s _ _ h4⟩
theorem D9 {H : Hp} {ras : List Addr} {rows : LL} {many wide : Nat} {h f : Int} (A : RowsAt H ras rows) (R : RowsOk many wide rows) (h0 : 0 <= h) (h1 : h < many) (f0 : 0 <= f) (f1 : f < wide) :
  ∃ (ra : Addr) (r : LI),atI (ras.map V.ref) h = some (.ref ra) /\ H ra = some (.tup (r.map V.int)) /\ atI (r.map V.int) f = some (.int (stepI rows h f)):=by
 have l1 : h.toNat < rows.length:=by rw [R.len]; omega
 have l2 : rows[h.toNat].length = wide:=R.row _ (List.getElem_mem l1)
 obtain ⟨ra,e1,e2⟩:=A.get l1
 refine ⟨ra,rows[h.toNat],jQ h0 e1,e2,?_⟩
 rw [bU f0 (by rw [l2]; exact f1)]
 unfold stepI
 rw [getD_at l1]
end My
set_option Elab.async false
set_option linter.all false
set_option maxRecDepth 100000
set_option maxHeartbeats 8000000
namespace My
open PySem L2
def bu (rows : LL) (ρ : Int -> Int) (qs : LI) : LL:=qs.map fun q => (rows.getD q.toNat []).map ρ
def bz (signs qs : LI) : LI:=qs.map fun q => signs.getD q.toNat 0
def GU (H : Hp) (D : Addr) (many : Nat) (rows : LL) (qs : LI) (ρ : Int -> Int) : Prop := ∃ kvs,H D = some (.dK kvs) /\ ∀ q ∈ qs,∀ t ∈ rows.getD q.toNat [],di kvs (Sum.inl t) = some (.int (ρ t))
def GV (H : Hp) (D : Addr) (many : Nat) (rows : LL) (qs : LI) (ρ : Int -> Int) : Prop := ∃ ns : LI,H D = some (.lst (ns.map V.int)) /\ ∀ q ∈ qs,∀ t ∈ rows.getD q.toNat [],(0 <= t /\ t < (ns.length : Int)) /\ ρ t = ns.getD t.toNat 0
def rD (K : PySem.W.Frag) (Num : Hp -> Addr -> Nat -> LL -> LI -> (Int -> Int) -> Prop) : Sp:=fun vs H Q _ => ∃ (m kl D r g : Addr) (many wide : Nat) (rows : LL) (signs qs : LI) (ρ : Int -> Int),vs = [.ref m,.ref kl,.ref D] /\ MachAt H m r g wide rows signs /\ RowsOk many wide rows /\ signs.length = many /\ (many <= 1000 /\ wide <= 1000) /\
 H kl = some (.lst (qs.map V.int)) /\ qs.length <= 1000 /\ (∀ q ∈ qs,0 <= q /\ q < (many : Int)) /\ Num H D many rows qs ρ /\
 ∀ (m' r' g' : Addr) (H' : Hp),Same H H' -> MachAt H' m' r' g' wide (bu rows ρ qs) (bz signs qs) -> Q (.ref m') H'
theorem RowsAt.kept {H : Hp} {ras : List Addr} {rows : LL} {q : Int} {many wide : Nat} (A : RowsAt H ras rows) (R : RowsOk many wide rows) (h0 : 0 <= q) (h1 : q < (many : Int)) : ∃ ra,atI (ras.map V.ref) q = some (.ref ra) /\ H ra = some (.tup ((rows.getD q.toNat []).map V.int)) /\ (rows.getD q.toNat []).length = wide:=by
 have l : q.toNat < rows.length:=by rw [R.len]; omega
 obtain ⟨ra,e1,e2⟩:=A.get l
 refine ⟨ra,?_,by rw [getD_at l]; exact e2,by rw [getD_at l]; exact R.row _ (List.getElem_mem l)⟩
 have q' : atI (ras.map V.ref) ((q.toNat : Nat) : Int) = some (.ref ra):=mQ (by rw [List.getElem?_map,e1]; rfl)
 rw [Int.toNat_of_nonneg h0] at q'
 exact q'
section
variable {P : Program} {w : World} {K : PySem.W.Frag} {mg : Str -> Option Value} {base : Heap} {f : Addr} {fd : FuncData} {dV : Value}
theorem sc_with_rooms : FnScope ["machine","kept","numbers","rows","signs","kept_rows","here"] ["machine","kept","numbers"] (aj bD):=⟨rfl,rfl,rfl,by decide +kernel,rfl,by decide +kernel,by decide +kernel⟩
theorem bk_with_rooms_0 : BlkScope ["machine","kept","numbers","rows","signs","kept_rows","here"] (aj bD) ["there","numbers"] [none,some 2] { kind:=ScopeKind.function,names:=[(".0",NameKind.local),("there",NameKind.local),("numbers",NameKind.free)],isGenerator:=false,isCoroutine:=false,more:=[] }:=⟨rfl,by decide +kernel,by decide +kernel,by decide +kernel,by decide +kernel,rfl,by decide +kernel⟩
theorem bk_with_rooms_1 : BlkScope ["machine","kept","numbers","rows","signs","kept_rows","here"] (aj bD) ["here","signs"] [none,some 4] { kind:=ScopeKind.function,names:=[(".0",NameKind.local),("here",NameKind.local),("signs",NameKind.free)],isGenerator:=false,isCoroutine:=false,more:=[] }:=⟨rfl,by decide +kernel,by decide +kernel,by decide +kernel,by decide +kernel,rfl,by decide +kernel⟩
theorem B1 (F : FunD K "with_rooms" "with_rooms" bD dV f fd) (aI : mg "tuple" = none) : FnOk P w K mg base CX0 1 f fd ["machine","kept","numbers"] (rD K GU):=by
 refine F.ok sc_with_rooms (fun vs H Q E h => ?_) (fun cdv A outer s H vs Q E hr h => ?_)
 ·obtain ⟨m,kl,D,r,g,many,wide,rows,signs,qs,ρ,rfl,_⟩:=h
  rfl
 obtain ⟨m,kl,D,r,g,many,wide,rows,signs,qs,ρ,rfl,M,R,lsg,⟨n1,w1⟩,hkl,lq,hqs,⟨kvs,hD,hv⟩,k⟩:=h
 obtain ⟨hm,⟨ras,hr',hA⟩,hg⟩:=M
 have hu:=jI hr
 refine ⟨_,(ah (ax (i:=3) sc_with_rooms.nd rfl (Or.inl rfl) (aW bA (pv 0) aq (fun _ _ => rfl)))
   (ah (ax (i:=4) sc_with_rooms.nd rfl (Or.inr rfl) (aW bA (pv 0) aq (fun _ _ => rfl)))
   (ah (ax (i:=5) sc_with_rooms.nd rfl (Or.inl rfl) (bI af))
   (ah (bN PassesOwn.never rfl (cb (pv 1)) (ay (i:=6) sc_with_rooms.nd rfl (Or.inl rfl)) (au (a7 (eC PySem.F.plainAttrs_list PySem.F.slot_list_append PySem.F.type_list_append ba (pv 5) (aa (aL aF (by rfl) aI bG (aa (cB rfl bk_with_rooms_0 (mr (aW bA (pv 3) (pv 6) (fun _ _ => rfl))) (fun _ _ _ _ => (ay (i:=0) bk_with_rooms_0.nd rfl (Or.inl rfl))) (fun _ _ _ _ => (AU hu (pv 1) (pv 0) (fun _ _ => rfl)))) af)) af)))))
   (au (aM (eD (aa (aW bA (pv 0) aq (fun _ _ => rfl)) (aa (aL aF (by rfl) aI bG (aa (pv 5) af)) (aa (aL aF (by rfl) aI bG (aa (cB rfl bk_with_rooms_1 (cb (pv 1)) (fun _ _ _ _ => (ay (i:=0) bk_with_rooms_1.nd rfl (Or.inl rfl))) (fun _ _ _ _ => (aW (nk K) (pv 1) (pv 0) (fun _ _ => rfl)))) af)) af)))))))))),?_⟩
 refine ⟨_,rfl,m,_,_,_,rfl,rfl,qT_ hm,rfl,?_⟩
 refine ⟨_,rfl,m,_,_,_,rfl,rfl,qT_ hm,rfl,?_⟩
 refine ⟨(by show 0 <= sizeLine; decide),fun L hL => ?_⟩
 have sL:=ak hL (HO.lst [])
 try dsimp only [bt,eG]
 refine dX (t:=tN _ _ _) (fun σ' H' => ∃ (as : List Addr) (v : OV),σ' = [some (.ref m),some (.ref kl),some (.ref D),some (.ref r),some (.ref g),some (.ref L),v] /\ Same H H' /\ H' L = some (.lst (as.map V.ref)) /\ RowsAt H' as (bu rows ρ qs)) ?_ (fun D' nxt => ?_)
 rotate_left
 ·refine ⟨_,rfl,kl,rfl,⟨_,qL_ (sL _ _ hkl)⟩,?_⟩
  refine cP (K:=K) (xs:=qs.map V.int) (fun i σ' H' => ∃ (as : List Addr) (v : OV),σ' = [some (.ref m),some (.ref kl),some (.ref D),some (.ref r),some (.ref g),some (.ref L),v] /\ Same H H' /\ H' L = some (.lst (as.map V.ref)) /\ RowsAt H' as (bu rows ρ (qs.take i))) ⟨[],none,rfl,sL,ab,.nil⟩ (fun i σ' H' _ ⟨_,_,_,e,_⟩ => qL_ (e _ _ hkl)) ?_ ?_
  ·rintro i y σ' H3 hi ⟨as,v,rfl,s3,hL3,A3⟩
   obtain ⟨z,rfl,hz⟩:=br hi
   have zm:=mq_ hz
   have li:=(gi_ hz).1
   obtain ⟨z0,z1⟩:=hqs z zm
   obtain ⟨ra,e1,e2,e3⟩:=hA.kept R z0 z1
   have la : as.length = i:=by rw [A3.length]; unfold bu; rw [lm_,List.length_take]; omega
   refine ⟨_,rfl,.inl ⟨rfl,_,qL_ hL3⟩,_,rfl,_,rfl,r,_,_,_,rfl,rfl,qT_ (s3 _ _ hr'),e1,ra,rfl,⟨_,qT_ (s3 _ _ e2)⟩,?_⟩
   refine jX (K:=K) (xs:=(rows.getD z.toNat []).map V.int) (fun D j ys H' => Same H3 H' /\ ys = (((rows.getD z.toNat []).take j).map ρ).map V.int) (fun D hD => ⟨ak hD _,rfl⟩) (fun D j ys H' _ ⟨e,_⟩ => qT_ (e _ _ (s3 _ _ e2))) ?_ ?_
   ·rintro T j y ys H4 Q' hT hj hy ⟨s4,rfl⟩ k'
    obtain ⟨t,rfl,ht⟩:=br hj
    have tm:=mq_ ht
    have lj:=(gi_ ht).1
    have s34:=s3.trans s4
    have dg : DGet H4 D (.int t) (some (.int (ρ t))):=by
     rw [<- hv z zm t tm]
     exact DGet.k (k:=Sum.inl t) (s34 _ _ hD)
    refine ⟨_,rfl,_,rfl,D,_,rfl,dg,k' _ _ hy (aw (by rw [lm_,lm_,List.length_take]; omega)) ⟨av s4 hT,?_⟩⟩
    rw [List.take_add_one,ht,List.map_append,List.map_append]
    rfl
   ·rintro T ys H4 hT hy ⟨s4,rfl⟩
    rw [lm_,List.take_length] at hy
    refine ⟨T,_,rfl,.inl ⟨qL_ hy,fun t ht => ?_⟩⟩
    have hL4:=s4 _ _ hL3
    have nL : L ≠ t:=ao hL4 ht
    refine ⟨L,_,_,rfl,rfl,by rw [ae nL]; exact hL4,aw (by rw [lm_]; omega),?_⟩
    have sT : ∀ b xs,H3 b = some (.tup xs) -> (upd (upd H4 t (.tup (((rows.getD z.toNat []).map ρ).map V.int))) L (.lst (as.map V.ref ++ [V.ref t]))) b = some (.tup xs):=fun b xs e => by
     have e4:=s4 _ _ e
     rw [ae (aA e4 hL4 (by intro z; cases z)),ae (ao e4 ht)]
     exact e4
    refine ⟨as ++ [t],_,rfl,av (av (s3.trans s4) ((s3.trans s4).free ht)) hL,by rw [ab,List.map_append]; rfl,?_⟩
    have ek : bu rows ρ (qs.take (i + 1)) = bu rows ρ (qs.take i) ++ [(rows.getD z.toNat []).map ρ]:=by
     unfold bu
     rw [List.take_add_one,hz,List.map_append]
     rfl
    rw [ek]
    exact RowsAt.snoc (A3.same sT) (by rw [ae (Ne.symm nL),ab])
  ·rintro σ' H3 ⟨as,v,rfl,s3,hL3,A3⟩
   rw [lm_,List.take_length] at A3
   exact nxt _ _ ⟨as,v,rfl,s3,hL3,A3⟩
 rintro σ' H1 ⟨as,v,rfl,s1,hL1,A1⟩
 refine ⟨_,rfl,m,_,_,_,rfl,rfl,qT_ (s1 _ _ hm),rfl,_,rfl,L,_,rfl,.inl ⟨qL_ hL1,fun rt hrt => ?_⟩⟩
 have s2:=ak hrt (HO.tup (as.map V.ref))
 have s12:=s1.trans s2
 refine ⟨_,rfl,kl,rfl,⟨_,qL_ (s12 _ _ hkl)⟩,?_⟩
 refine gm (K:=K) (xs:=qs.map V.int) (fun D j ys H' => Same (upd H1 rt (HO.tup (as.map V.ref))) H' /\ ys = (bz signs (qs.take j)).map V.int) (fun D hD => ⟨ak hD _,rfl⟩) (fun D j ys H' _ ⟨e,_⟩ => qL_ (e _ _ (s12 _ _ hkl))) ?_ ?_
 ·rintro T j y ys H4 Q' hT hj hy ⟨s4,rfl⟩ k'
  obtain ⟨z,rfl,hz⟩:=br hj
  have li:=(gi_ hz).1
  obtain ⟨z0,z1⟩:=hqs z (mq_ hz)
  refine ⟨_,rfl,_,rfl,g,_,_,_,rfl,rfl,qT_ ((s12.trans s4) _ _ hg),bU z0 (by omega),k' _ _ hy (aw (by unfold bz; rw [lm_,lm_,List.length_take]; omega)) ⟨av s4 hT,?_⟩⟩
  unfold bz
  rw [List.take_add_one,hz,List.map_append,List.map_append]
  rfl
 rintro G ys H4 hG hy ⟨s4,rfl⟩
 rw [lm_,List.take_length] at hy
 refine ⟨G,_,rfl,.inl ⟨qL_ hy,fun gt hgt => ⟨(by show 3 <= sizeLine; decide),fun mm hmm => ?_⟩⟩⟩
 have s5:=ak hgt (HO.tup ((bz signs qs).map V.int))
 have s6:=ak hmm (HO.tup [V.int wide,V.ref rt,V.ref gt])
 have s56:=s5.trans s6
 exact k mm rt gt _ (s12.trans (s4.trans s56)) ⟨ab,⟨as,(s4.trans s56) _ _ ab,A1.same fun b zs e => (s2.trans (s4.trans s56)) _ _ e⟩,s6 _ _ ab⟩
theorem B3 (F : FunD K "with_rooms" "with_rooms" bD dV f fd) (aI : mg "tuple" = none) : FnOk P w K mg base CX0 1 f fd ["machine","kept","numbers"] (rD K GV):=by
 refine F.ok sc_with_rooms (fun vs H Q E h => ?_) (fun cdv A outer s H vs Q E hr h => ?_)
 ·obtain ⟨m,kl,D,r,g,many,wide,rows,signs,qs,ρ,rfl,_⟩:=h
  rfl
 obtain ⟨m,kl,D,r,g,many,wide,rows,signs,qs,ρ,rfl,M,R,lsg,⟨n1,w1⟩,hkl,lq,hqs,⟨nl,hD,hv⟩,k⟩:=h
 obtain ⟨hm,⟨ras,hr',hA⟩,hg⟩:=M
 have hu:=jI hr
 refine ⟨_,(ah (ax (i:=3) sc_with_rooms.nd rfl (Or.inl rfl) (aW bA (pv 0) aq (fun _ _ => rfl)))
   (ah (ax (i:=4) sc_with_rooms.nd rfl (Or.inr rfl) (aW bA (pv 0) aq (fun _ _ => rfl)))
   (ah (ax (i:=5) sc_with_rooms.nd rfl (Or.inl rfl) (bI af))
   (ah (bN PassesOwn.never rfl (cb (pv 1)) (ay (i:=6) sc_with_rooms.nd rfl (Or.inl rfl)) (au (a7 (eC PySem.F.plainAttrs_list PySem.F.slot_list_append PySem.F.type_list_append ba (pv 5) (aa (aL aF (by rfl) aI bG (aa (cB rfl bk_with_rooms_0 (mr (aW bA (pv 3) (pv 6) (fun _ _ => rfl))) (fun _ _ _ _ => (ay (i:=0) bk_with_rooms_0.nd rfl (Or.inl rfl))) (fun _ _ _ _ => (aW (CT K) (pv 1) (pv 0) (fun _ _ => rfl)))) af)) af)))))
   (au (aM (eD (aa (aW bA (pv 0) aq (fun _ _ => rfl)) (aa (aL aF (by rfl) aI bG (aa (pv 5) af)) (aa (aL aF (by rfl) aI bG (aa (cB rfl bk_with_rooms_1 (cb (pv 1)) (fun _ _ _ _ => (ay (i:=0) bk_with_rooms_1.nd rfl (Or.inl rfl))) (fun _ _ _ _ => (aW (nk K) (pv 1) (pv 0) (fun _ _ => rfl)))) af)) af)))))))))),?_⟩
 refine ⟨_,rfl,m,_,_,_,rfl,rfl,qT_ hm,rfl,?_⟩
 refine ⟨_,rfl,m,_,_,_,rfl,rfl,qT_ hm,rfl,?_⟩
 refine ⟨(by show 0 <= sizeLine; decide),fun L hL => ?_⟩
 have sL:=ak hL (HO.lst [])
 try dsimp only [bt,eG]
 refine dX (t:=tN _ _ _) (fun σ' H' => ∃ (as : List Addr) (v : OV),σ' = [some (.ref m),some (.ref kl),some (.ref D),some (.ref r),some (.ref g),some (.ref L),v] /\ Same H H' /\ H' L = some (.lst (as.map V.ref)) /\ RowsAt H' as (bu rows ρ qs)) ?_ (fun D' nxt => ?_)
 rotate_left
 ·refine ⟨_,rfl,kl,rfl,⟨_,qL_ (sL _ _ hkl)⟩,?_⟩
  refine cP (K:=K) (xs:=qs.map V.int) (fun i σ' H' => ∃ (as : List Addr) (v : OV),σ' = [some (.ref m),some (.ref kl),some (.ref D),some (.ref r),some (.ref g),some (.ref L),v] /\ Same H H' /\ H' L = some (.lst (as.map V.ref)) /\ RowsAt H' as (bu rows ρ (qs.take i))) ⟨[],none,rfl,sL,ab,.nil⟩ (fun i σ' H' _ ⟨_,_,_,e,_⟩ => qL_ (e _ _ hkl)) ?_ ?_
  ·rintro i y σ' H3 hi ⟨as,v,rfl,s3,hL3,A3⟩
   obtain ⟨z,rfl,hz⟩:=br hi
   have zm:=mq_ hz
   have li:=(gi_ hz).1
   obtain ⟨z0,z1⟩:=hqs z zm
   obtain ⟨ra,e1,e2,e3⟩:=hA.kept R z0 z1
   have la : as.length = i:=by rw [A3.length]; unfold bu; rw [lm_,List.length_take]; omega
   refine ⟨_,rfl,.inl ⟨rfl,_,qL_ hL3⟩,_,rfl,_,rfl,r,_,_,_,rfl,rfl,qT_ (s3 _ _ hr'),e1,ra,rfl,⟨_,qT_ (s3 _ _ e2)⟩,?_⟩
   refine jX (K:=K) (xs:=(rows.getD z.toNat []).map V.int) (fun D j ys H' => Same H3 H' /\ ys = (((rows.getD z.toNat []).take j).map ρ).map V.int) (fun D hD => ⟨ak hD _,rfl⟩) (fun D j ys H' _ ⟨e,_⟩ => qT_ (e _ _ (s3 _ _ e2))) ?_ ?_
   ·rintro T j y ys H4 Q' hT hj hy ⟨s4,rfl⟩ k'
    obtain ⟨t,rfl,ht⟩:=br hj
    have tm:=mq_ ht
    have lj:=(gi_ ht).1
    have s34:=s3.trans s4
    obtain ⟨⟨t0,t1⟩,et⟩:=hv z zm t tm
    have at' : atI (nl.map V.int) t = some (.int (ρ t)):=by rw [et]; exact bU t0 t1
    refine ⟨_,rfl,_,rfl,D,_,_,_,rfl,rfl,qL_ (s34 _ _ hD),at',k' _ _ hy (aw (by rw [lm_,lm_,List.length_take]; omega)) ⟨av s4 hT,?_⟩⟩
    rw [List.take_add_one,ht,List.map_append,List.map_append]
    rfl
   ·rintro T ys H4 hT hy ⟨s4,rfl⟩
    rw [lm_,List.take_length] at hy
    refine ⟨T,_,rfl,.inl ⟨qL_ hy,fun t ht => ?_⟩⟩
    have hL4:=s4 _ _ hL3
    have nL : L ≠ t:=ao hL4 ht
    refine ⟨L,_,_,rfl,rfl,by rw [ae nL]; exact hL4,aw (by rw [lm_]; omega),?_⟩
    have sT : ∀ b xs,H3 b = some (.tup xs) -> (upd (upd H4 t (.tup (((rows.getD z.toNat []).map ρ).map V.int))) L (.lst (as.map V.ref ++ [V.ref t]))) b = some (.tup xs):=fun b xs e => by
     have e4:=s4 _ _ e
     rw [ae (aA e4 hL4 (by intro z; cases z)),ae (ao e4 ht)]
     exact e4
    refine ⟨as ++ [t],_,rfl,av (av (s3.trans s4) ((s3.trans s4).free ht)) hL,by rw [ab,List.map_append]; rfl,?_⟩
    have ek : bu rows ρ (qs.take (i + 1)) = bu rows ρ (qs.take i) ++ [(rows.getD z.toNat []).map ρ]:=by
     unfold bu
     rw [List.take_add_one,hz,List.map_append]
     rfl
    rw [ek]
    exact RowsAt.snoc (A3.same sT) (by rw [ae (Ne.symm nL),ab])
  ·rintro σ' H3 ⟨as,v,rfl,s3,hL3,A3⟩
   rw [lm_,List.take_length] at A3
   exact nxt _ _ ⟨as,v,rfl,s3,hL3,A3⟩
 rintro σ' H1 ⟨as,v,rfl,s1,hL1,A1⟩
 refine ⟨_,rfl,m,_,_,_,rfl,rfl,qT_ (s1 _ _ hm),rfl,_,rfl,L,_,rfl,.inl ⟨qL_ hL1,fun rt hrt => ?_⟩⟩
 have s2:=ak hrt (HO.tup (as.map V.ref))
 have s12:=s1.trans s2
 refine ⟨_,rfl,kl,rfl,⟨_,qL_ (s12 _ _ hkl)⟩,?_⟩
 refine gm (K:=K) (xs:=qs.map V.int) (fun D j ys H' => Same (upd H1 rt (HO.tup (as.map V.ref))) H' /\ ys = (bz signs (qs.take j)).map V.int) (fun D hD => ⟨ak hD _,rfl⟩) (fun D j ys H' _ ⟨e,_⟩ => qL_ (e _ _ (s12 _ _ hkl))) ?_ ?_
 ·rintro T j y ys H4 Q' hT hj hy ⟨s4,rfl⟩ k'
  obtain ⟨z,rfl,hz⟩:=br hj
  have li:=(gi_ hz).1
  obtain ⟨z0,z1⟩:=hqs z (mq_ hz)
  refine ⟨_,rfl,_,rfl,g,_,_,_,rfl,rfl,qT_ ((s12.trans s4) _ _ hg),bU z0 (by omega),k' _ _ hy (aw (by unfold bz; rw [lm_,lm_,List.length_take]; omega)) ⟨av s4 hT,?_⟩⟩
  unfold bz
  rw [List.take_add_one,hz,List.map_append,List.map_append]
  rfl
 rintro G ys H4 hG hy ⟨s4,rfl⟩
 rw [lm_,List.take_length] at hy
 refine ⟨G,_,rfl,.inl ⟨qL_ hy,fun gt hgt => ⟨(by show 3 <= sizeLine; decide),fun mm hmm => ?_⟩⟩⟩
 have s5:=ak hgt (HO.tup ((bz signs qs).map V.int))
 have s6:=ak hmm (HO.tup [V.int wide,V.ref rt,V.ref gt])
 have s56:=s5.trans s6
 exact k mm rt gt _ (s12.trans (s4.trans s56)) ⟨ab,⟨as,(s4.trans s56) _ _ ab,A1.same fun b zs e => (s2.trans (s4.trans s56)) _ _ e⟩,s6 _ _ ab⟩
end
theorem vt {α : Type} (p : α -> Bool) : ∀ l : List α,l.length = (l.filter p).length + (l.filter fun x => !p x).length
 | [] => rfl
 | x :: l => by
  have ih:=vt p l
  cases e : p x
  ·rw [List.filter_cons_of_neg (by rw [e]; decide),List.filter_cons_of_pos (by rw [e]; rfl),List.length_cons,List.length_cons]
   omega
  ·rw [List.filter_cons_of_pos e,List.filter_cons_of_neg (by rw [e]; decide),List.length_cons,List.length_cons]
   omega
theorem bP : ∀ (many : Nat) {ks : LI},ks.Nodup -> (∀ q ∈ ks,0 <= q /\ q < (many : Int)) -> ks.length <= many
 | 0,ks,_,h => by
  cases ks with
  | nil => exact Nat.le_refl _
  | cons q r => have:=h q List.mem_cons_self; omega
 | many + 1,ks,nd,h => by
  have e : (ks.filter fun q => decide (q ≠ (many : Int))).length <= many:=bP many (nd.filter _) fun q hq => by
   have h1:=h q (List.mem_filter.mp hq).1
   have h2 : q ≠ (many : Int):=of_decide_eq_true (List.mem_filter.mp hq).2
   omega
  have c : (ks.filter fun q => !decide (q ≠ (many : Int))).length <= 1:=by
   have nd2:=nd.filter fun q => !decide (q ≠ (many : Int))
   have al : ∀ q ∈ ks.filter (fun q => !decide (q ≠ (many : Int))),q = (many : Int):=fun q hq => by
    have:=(List.mem_filter.mp hq).2
    simpa using this
   match hm : ks.filter (fun q => !decide (q ≠ (many : Int))),nd2,al with
   | [],_,_ => exact Nat.zero_le _
   | [x],_,_ => exact Nat.le_refl _
   | x :: y :: r,nd2,al =>
    have h1:=al x List.mem_cons_self
    have h2:=al y (List.mem_cons_of_mem _ List.mem_cons_self)
    rw [h1,h2] at nd2
    exact absurd List.mem_cons_self (List.nodup_cons.mp nd2).1
  have t:=vt (fun q => decide (q ≠ (many : Int))) ks
  omega
def kvT (ks : LI) : List (Key × V):=ks.map fun q => (Sum.inl q,V.bl true)
theorem rf (ks : LI) (q : Int) : (di (kvT ks) (Sum.inl q)).isSome = decide (q ∈ ks):=by
 induction ks with
 | nil => rfl
 | cons k r ih =>
  by_cases e : k = q
  ·subst e
   rw [show kvT (k :: r) = (Sum.inl k,V.bl true) :: kvT r from rfl,gW rfl]
   simp
  ·rw [show kvT (k :: r) = (Sum.inl k,V.bl true) :: kvT r from rfl,eF (fun z => e (Sum.inl.inj z)),ih]
   simp [Ne.symm e]
theorem rb {ks : LI} {q : Int} (h : q ∉ ks) : putK (kvT ks) (Sum.inl q) (V.bl true) = kvT (ks ++ [q]):=by
 unfold putK
 rw [if_neg (by
  intro z
  obtain ⟨p,hp,e⟩:=List.any_eq_true.mp z
  obtain ⟨k,hk,rfl⟩:=List.mem_map.mp hp
  have:=Sum.inl.inj (of_decide_eq_true e)
  exact h (this ▸ hk))]
 unfold kvT
 rw [List.map_append]
 rfl
def kvL (es : List (Int × Addr)) : List (Key × V):=es.map fun e => (Sum.inl e.1,V.ref e.2)
theorem x6 : ∀ {es : List (Int × Addr)} {q : Int},q ∉ es.map Prod.fst -> di (kvL es) (Sum.inl q) = none
 | [],_,_ => rfl
 | e :: es,q,h => by
  rw [show kvL (e :: es) = (Sum.inl e.1,V.ref e.2) :: kvL es from rfl,eF (fun z => h (by rw [<- Sum.inl.inj z]; exact List.mem_cons_self))]
  exact x6 fun z => h (List.mem_cons_of_mem _ z)
theorem sC : ∀ {es : List (Int × Addr)} {q : Int} {a : Addr} {j : Nat},(es.map Prod.fst).Nodup -> es[j]? = some (q,a) -> di (kvL es) (Sum.inl q) = some (V.ref a)
 | [],_,_,_,_,h => by cases h
 | e :: es,q,a,0,_,h => by
  cases h
  exact gW rfl
 | e :: es,q,a,j + 1,nd,h => by
  have nd' := List.nodup_cons.mp (show (e.1 :: es.map Prod.fst).Nodup from nd)
  have h' : es[j]? = some (q,a):=h
  rw [show kvL (e :: es) = (Sum.inl e.1,V.ref e.2) :: kvL es from rfl,eF (fun z => nd'.1 (by
   have : e.1 = q:=Sum.inl.inj z
   rw [this]
   exact List.mem_map.mpr ⟨(q,a),mq_ h',rfl⟩))]
  exact sC nd'.2 h'
theorem EM {es : List (Int × Addr)} {q : Int} {a : Addr} (h : q ∉ es.map Prod.fst) : putK (kvL es) (Sum.inl q) (V.ref a) = kvL (es ++ [(q,a)]):=by
 unfold putK
 rw [if_neg (by
  intro z
  obtain ⟨p,hp,e⟩:=List.any_eq_true.mp z
  obtain ⟨k,hk,rfl⟩:=List.mem_map.mp hp
  have:=Sum.inl.inj (of_decide_eq_true e)
  exact h (this ▸ List.mem_map.mpr ⟨k,hk,rfl⟩))]
 unfold kvL
 rw [List.map_append]
 rfl
theorem snoc_cases {α : Type} {xs : List α} {y z : α} {j : Nat} (h : (xs ++ [y])[j]? = some z) : xs[j]? = some z \/ (j = xs.length /\ z = y):=by
 rcases Nat.lt_or_ge j xs.length with q | q
 ·rw [List.getElem?_append_left q] at h
  exact .inl h
 ·rw [List.getElem?_append_right q] at h
  rcases Nat.lt_or_ge (j - xs.length) 1 with p | p
  ·have e : j = xs.length:=by omega
   subst e
   rw [Nat.sub_self] at h
   exact .inr ⟨rfl,(Option.some.inj h).symm⟩
  ·rw [List.getElem?_eq_none (by simpa using p)] at h
   cases h
theorem PairsV.same {H H' : Hp} {ts : List Addr} {kvs : List (Key × V)} (h : PairsV H ts kvs) (s : ∀ b xs,H b = some (.tup xs) -> H' b = some (.tup xs)) : PairsV H' ts kvs:=Paired.mapP h fun _ _ q => s _ _ q
theorem yf : ∀ {gs ks : LI},(ks ++ gs).Nodup -> cQ (kvT ks) (kvT gs) = kvT (ks ++ gs)
 | [],ks,_ => by rw [List.append_nil]; rfl
 | g :: gs,ks,nd => by
  have hg : g ∉ ks:=fun z => (List.nodup_append.mp nd).2.2 g z g List.mem_cons_self rfl
  show cQ (putK (kvT ks) (Sum.inl g) (V.bl true)) (kvT gs) = _
  rw [rb hg,yf (by rw [List.append_assoc]; exact nd),List.append_assoc]
  rfl
theorem vy {gs : LI} (nd : gs.Nodup) : cQ [] (kvT gs) = kvT gs:=yf (ks:=[]) nd
structure BackOk (H0 H : Hp) (B : Addr) (es : List (Int × Addr)) (P : Int -> LI -> Prop) : Prop where
 at_ : H B = some (.dK (kvL es))
 nd : (es.map Prod.fst).Nodup
 nd2 : (es.map Prod.snd).Nodup
 fresh : ∀ e ∈ es,H0 e.2 = none
 lst : ∀ e ∈ es,∃ ls : LI,H e.2 = some (.lst (ls.map V.int)) /\ P e.1 ls
 non : ∀ q,q ∉ es.map Prod.fst -> P q []
theorem BackOk.get {H0 H : Hp} {B : Addr} {es : List (Int × Addr)} {P : Int -> LI -> Prop} (b : BackOk H0 H B es P) {q : Int} {v : V} (h : di (kvL es) (Sum.inl q) = some v) : ∃ la ls,v = .ref la /\ (q,la) ∈ es /\ H la = some (.lst (ls.map V.int)) /\ P q ls:=by
 have hm : q ∈ es.map Prod.fst:=Classical.byContradiction fun z => by rw [x6 z] at h; cases h
 obtain ⟨e,he,rfl⟩:=List.mem_map.mp hm
 obtain ⟨j,hj⟩:=List.mem_iff_getElem?.mp he
 have:=sC b.nd (q:=e.1) (a:=e.2) hj
 rw [this] at h
 obtain ⟨ls,h1,h2⟩:=b.lst e he
 exact ⟨e.2,ls,(Option.some.inj h).symm,he,h1,h2⟩
theorem EH {es : List (Int × Addr)} (nd : (es.map Prod.fst).Nodup) {e e' : Int × Addr} (h : e ∈ es) (h' : e' ∈ es) (q : e.1 = e'.1) : e = e' := by
 obtain ⟨i,hi,ei⟩:=List.getElem_of_mem h
 obtain ⟨j,hj,ej⟩:=List.getElem_of_mem h'
 have : (es.map Prod.fst)[i]'(by simpa using hi) = (es.map Prod.fst)[j]'(by simpa using hj):=by simp [ei,ej,q]
 have:=(List.getElem_inj nd).mp this
 subst this
 rw [<- ei,<- ej]
theorem Fx {es : List (Int × Addr)} (nd : (es.map Prod.snd).Nodup) {e e' : Int × Addr} (h : e ∈ es) (h' : e' ∈ es) (q : e.2 = e'.2) : e = e' := by
 obtain ⟨i,hi,ei⟩:=List.getElem_of_mem h
 obtain ⟨j,hj,ej⟩:=List.getElem_of_mem h'
 have : (es.map Prod.snd)[i]'(by simpa using hi) = (es.map Prod.snd)[j]'(by simpa using hj):=by simp [ei,ej,q]
 have:=(List.getElem_inj nd).mp this
 subst this
 rw [<- ei,<- ej]
theorem BackOk.old {H0 H : Hp} {B la : Addr} {es : List (Int × Addr)} {P P' : Int -> LI -> Prop} {q h : Int} {ls : LI} (b : BackOk H0 H B es P) (hm : (q,la) ∈ es) (hla : H la = some (.lst (ls.map V.int))) (hp : P' q (ls ++ [h])) (ho : ∀ p ls,p ≠ q -> P p ls -> P' p ls) :
  BackOk H0 (upd H la (.lst (ls.map V.int ++ [.int h]))) B es P' where
 at_:=by rw [ae (aA b.at_ hla (by intro z; cases z))]; exact b.at_
 nd:=b.nd
 nd2:=b.nd2
 fresh:=b.fresh
 lst:=fun e he => by
  by_cases c : e.2 = la
  ·have:=Fx b.nd2 he hm c
   subst this
   exact ⟨ls ++ [h],by rw [ab,List.map_append]; rfl,hp⟩
  ·obtain ⟨ms,h1,h2⟩:=b.lst e he
   refine ⟨ms,by rw [ae c]; exact h1,ho _ _ (fun z => c ?_) h2⟩
   have:=EH b.nd he hm z
   rw [this]
 non:=fun p hp' => ho p [] (fun z => hp' (by rw [z]; exact List.mem_map.mpr ⟨_,hm,rfl⟩)) (b.non p hp')
theorem BackOk.new {H0 H : Hp} {B L : Addr} {es : List (Int × Addr)} {P P' : Int -> LI -> Prop} {q h : Int} (b : BackOk H0 H B es P) (hq : q ∉ es.map Prod.fst) (hL : H L = some (.lst [])) (fL : H0 L = none) (nL : ∀ e ∈ es,e.2 ≠ L) (hp : P' q [h]) (ho : ∀ p ls,p ≠ q -> P p ls -> P' p ls) :
  BackOk H0 (upd (upd H B (.dK (putK (kvL es) (Sum.inl q) (.ref L)))) L (.lst [.int h])) B (es ++ [(q,L)]) P' where
 at_:=by rw [ae (aA b.at_ hL (by intro z; cases z)),ab,EM hq]
 nd:=by rw [List.map_append]; exact nF b.nd hq
 nd2:=by
  rw [List.map_append]
  refine nF b.nd2 fun z => ?_
  obtain ⟨e,he,e2⟩:=List.mem_map.mp z
  exact nL e he e2
 fresh:=fun e he => by
  rcases ma_.mp he with z | z
  ·exact b.fresh e z
  ·rw [List.mem_singleton.mp z]; exact fL
 lst:=fun e he => by
  rcases ma_.mp he with z | z
  ·obtain ⟨ms,h1,h2⟩:=b.lst e z
   refine ⟨ms,by rw [ae (nL e z),ae (aA h1 b.at_ (by intro z; cases z))]; exact h1,ho _ _ (fun y => hq ?_) h2⟩
   rw [<- y]
   exact List.mem_map.mpr ⟨e,z,rfl⟩
  ·rw [List.mem_singleton.mp z]
   exact ⟨[h],by rw [ab]; rfl,hp⟩
 non:=fun p hp' => by
  rw [List.map_append] at hp'
  exact ho p [] (fun z => hp' (by rw [z]; exact List.mem_append_right _ List.mem_cons_self)) (b.non p fun z => hp' (List.mem_append_left _ z))
theorem BackOk.keep {H0 H H' : Hp} {B : Addr} {es : List (Int × Addr)} {P : Int -> LI -> Prop} (b : BackOk H0 H B es P) (hB : H' B = H B) (hl : ∀ e ∈ es,H' e.2 = H e.2) : BackOk H0 H' B es P where
 at_:=by rw [hB]; exact b.at_
 nd:=b.nd
 nd2:=b.nd2
 fresh:=b.fresh
 lst:=fun e he => by rw [hl e he]; exact b.lst e he
 non:=b.non
theorem BackOk.same {H0 H H' : Hp} {B : Addr} {es : List (Int × Addr)} {P : Int -> LI -> Prop} (b : BackOk H0 H B es P) (s : Same H H') : BackOk H0 H' B es P where
 at_:=s _ _ b.at_
 nd:=b.nd
 nd2:=b.nd2
 fresh:=b.fresh
 lst:=fun e he => by
  obtain ⟨ls,h1,h2⟩:=b.lst e he
  exact ⟨ls,s _ _ h1,h2⟩
 non:=b.non
def g6 (rows : LL) (wide : Nat) : LL:=(List.range wide).map fun f => rows.map fun r => r.getD f 0
def xk (K : PySem.W.Frag) : Sp:=fun vs H Q _ => ∃ (m r g : Addr) (many wide : Nat) (rows : LL) (signs : LI),vs = [.ref m] /\ MachAt H m r g wide rows signs /\ RowsOk many wide rows /\ (many <= 1000 /\ wide <= 1000) /\
 ∀ (l : Addr) (cs : List Addr) (H' : Hp),Same H H' -> H' l = some (.lst (cs.map V.ref)) -> RowsAt H' cs (g6 rows wide) -> Q (.ref l) H'
def cf (col : LI) (q : Int) : LI:=((List.range col.length).filter fun i => decide (col.getD i 0 = q)).map fun i : Nat => (i : Int)
theorem yw (col : LI) (q : Int) : (cf col q).length <= col.length:=by
 unfold cf
 rw [lm_]
 exact Nat.le_trans (List.length_filter_le _ _) (by simp)
theorem pK (col : LI) (t q : Int) : cf (col ++ [t]) q = cf col q ++ (if t = q then [(col.length : Int)] else []):=by
 unfold cf
 rw [List.length_append,List.length_singleton,List.range_succ,List.filter_append,List.map_append]
 congr 1
 ·congr 1
  refine List.filter_congr fun i hi => ?_
  have l:=List.mem_range.mp hi
  rw [List.getD_eq_getElem?_getD,List.getD_eq_getElem?_getD,List.getElem?_append_left l]
 ·have e : (col ++ [t]).getD col.length 0 = t:=by rw [List.getD_eq_getElem?_getD,List.getElem?_append_right (Nat.le_refl _),Nat.sub_self]; rfl
  by_cases c : t = q
  ·rw [if_pos c,List.filter_cons_of_pos (by rw [e]; exact decide_eq_true c)]; rfl
  ·rw [if_neg c,List.filter_cons_of_neg (by rw [e,decide_eq_false c]; decide)]; rfl
theorem preI_mem {col : LI} {q x : Int} : x ∈ cf col q ↔ (0 <= x /\ x < (col.length : Int)) /\ col.getD x.toNat 0 = q:=by
 unfold cf
 rw [List.mem_map]
 constructor
 ·rintro ⟨i,hi,rfl⟩
  have h:=List.mem_filter.mp hi
  have h1:=List.mem_range.mp h.1
  exact ⟨⟨by omega,by omega⟩,by rw [Int.toNat_natCast]; exact of_decide_eq_true h.2⟩
 ·rintro ⟨⟨h0,h1⟩,h2⟩
  exact ⟨x.toNat,List.mem_filter.mpr ⟨List.mem_range.mpr (by omega),decide_eq_true h2⟩,by omega⟩
def xi (K : PySem.W.Frag) : Sp:=fun vs H Q _ => ∃ (c : Addr) (many : Nat) (col : LI),vs = [.ref c] /\ H c = some (.tup (col.map V.int)) /\ col.length <= 1000 /\ many <= 1000 /\ (∀ t ∈ col,0 <= t /\ t < (many : Int)) /\
 ∀ (B : Addr) (es : List (Int × Addr)) (H' : Hp),Same H H' -> H B = none -> BackOk H H' B es (fun q ls => ls = cf col q) -> Q (.ref B) H'
section
variable {P : Program} {w : World} {K : PySem.W.Frag} {mg : Str -> Option Value} {base : Heap} {f : Addr} {fd : FuncData} {dV : Value}
theorem sc_columns_of : FnScope ["machine","rows","columns","figure"] ["machine"] (aj cE):=⟨rfl,rfl,rfl,by decide +kernel,rfl,by decide +kernel,by decide +kernel⟩
theorem bk_columns_of_0 : BlkScope ["machine","rows","columns","figure"] (aj cE) ["row","figure"] [none,some 3] { kind:=ScopeKind.function,names:=[(".0",NameKind.local),("row",NameKind.local),("figure",NameKind.free)],isGenerator:=false,isCoroutine:=false,more:=[] }:=⟨rfl,by decide +kernel,by decide +kernel,by decide +kernel,by decide +kernel,rfl,by decide +kernel⟩
theorem sc_back_of : FnScope ["column","back","here","there"] ["column"] (aj gu):=⟨rfl,rfl,rfl,by decide +kernel,rfl,by decide +kernel,by decide +kernel⟩
theorem EZ (F : FunD K "columns_of" "columns_of" cE dV f fd) (aS : mg "range" = none) (aI : mg "tuple" = none) : FnOk P w K mg base CX0 1 f fd ["machine"] (xk K):=by
 refine F.ok sc_columns_of (fun vs H Q E h => ?_) (fun cdv A outer s H vs Q E hr h => ?_)
 ·obtain ⟨m,r,g,many,wide,rows,signs,rfl,_⟩:=h
  rfl
 obtain ⟨m,r,g,many,wide,rows,signs,rfl,M,R,⟨n1,w1⟩,k⟩:=h
 obtain ⟨hm,⟨ras,hr',hA⟩,hg⟩:=M
 refine ⟨_,(ah (ax (i:=1) sc_columns_of.nd rfl (Or.inl rfl) (aW bA (pv 0) aq (fun _ _ => rfl)))
   (ah (ax (i:=2) sc_columns_of.nd rfl (Or.inl rfl) (bI af))
   (ah (bN PassesOwn.never rfl (bQ rfl aS (aa (aW bA (pv 0) aq (fun _ _ => rfl)) af)) (ay (i:=3) sc_columns_of.nd rfl (Or.inr rfl)) (au (a7 (eC PySem.F.plainAttrs_list PySem.F.slot_list_append PySem.F.type_list_append ba (pv 2) (aa (aL aF (by rfl) aI bG (aa (cB rfl bk_columns_of_0 (mr (pv 1)) (fun _ _ _ _ => (ay (i:=0) bk_columns_of_0.nd rfl (Or.inl rfl))) (fun _ _ _ _ => (aW (nk K) (pv 0) (pv 1) (fun _ _ => rfl)))) af)) af)))))
   (au (aM (pv 2)))))),?_⟩
 refine ⟨_,rfl,m,_,_,_,rfl,rfl,qT_ hm,rfl,?_⟩
 refine ⟨(by show 0 <= sizeLine; decide),fun L hL => ?_⟩
 have sL:=ak hL (HO.lst [])
 refine ⟨_,rfl,m,_,_,_,rfl,rfl,qT_ (sL _ _ hm),rfl,_,rfl,by omega,by omega,?_⟩
 refine gn (fun i σ' H' => ∃ (as : List Addr) (v : OV),σ' = [some (.ref m),some (.ref r),some (.ref L),v] /\ Same H H' /\ H' L = some (.lst (as.map V.ref)) /\ RowsAt H' as ((List.range i).map fun f => rows.map fun r => r.getD f 0)) ⟨[],none,rfl,sL,ab,.nil⟩ ?_ ?_
 ·rintro i σ' H3 hi ⟨as,v,rfl,s3,hL3,A3⟩
  rw [Int.toNat_natCast] at hi
  have la : as.length = i:=by rw [A3.length,lm_,List.length_range]
  have z0 : (0 : Int) + (i : Int) = (i : Int):=Int.zero_add _
  refine ⟨_,rfl,.inl ⟨rfl,_,qL_ hL3⟩,_,rfl,r,rfl,⟨_,qT_ (s3 _ _ hr')⟩,?_⟩
  refine jX (K:=K) (xs:=ras.map V.ref) (fun D j ys H' => Same H3 H' /\ ys = ((rows.take j).map fun r => r.getD i 0).map V.int) (fun D hD => ⟨ak hD _,rfl⟩) (fun D j ys H' _ ⟨e,_⟩ => qT_ (e _ _ (s3 _ _ hr'))) ?_ ?_
  ·rintro T j y ys H4 Q' hT hj hy ⟨s4,rfl⟩ k'
   have jl : j < rows.length:=by
    have:=(gi_ hj).1
    rw [lm_,hA.length] at this
    exact this
   obtain ⟨ra,e1,e2⟩:=hA.get jl
   have ey : y = .ref ra:=by rw [List.getElem?_map,e1] at hj; exact (Option.some.inj hj).symm
   subst ey
   have lr:=R.len
   have lrow : rows[j].length = wide:=R.row _ (List.getElem_mem jl)
   have at1 : atI (rows[j].map V.int) (0 + (i : Int)) = some (.int (rows[j].getD i 0)):=by
    rw [z0,bU (by omega) (by omega),Int.toNat_natCast]
   refine ⟨_,rfl,_,rfl,ra,_,_,_,rfl,rfl,qT_ ((s3.trans s4) _ _ e2),at1,k' _ _ hy (aw (by rw [lm_,lm_,List.length_take]; omega)) ⟨av s4 hT,?_⟩⟩
   rw [List.take_add_one,List.getElem?_eq_getElem jl,List.map_append,List.map_append]
   rfl
  ·rintro T ys H4 hT hy ⟨s4,rfl⟩
   rw [lm_,hA.length,List.take_length] at hy
   refine ⟨T,_,rfl,.inl ⟨qL_ hy,fun t ht => ?_⟩⟩
   have hL4:=s4 _ _ hL3
   have nL : L ≠ t:=ao hL4 ht
   refine ⟨L,_,_,rfl,rfl,by rw [ae nL]; exact hL4,aw (by rw [lm_]; omega),?_⟩
   have sT : ∀ b xs,H3 b = some (.tup xs) -> (upd (upd H4 t (.tup ((rows.map fun r => r.getD i 0).map V.int))) L (.lst (as.map V.ref ++ [V.ref t]))) b = some (.tup xs):=fun b xs e => by
    have e4:=s4 _ _ e
    rw [ae (aA e4 hL4 (by intro z; cases z)),ae (ao e4 ht)]
    exact e4
   refine ⟨as ++ [t],_,rfl,av (av (s3.trans s4) ((s3.trans s4).free ht)) hL,by rw [ab,List.map_append]; rfl,?_⟩
   rw [List.range_succ,List.map_append]
   exact RowsAt.snoc (A3.same sT) (by rw [ae (Ne.symm nL),ab])
 ·rintro σ' H3 ⟨as,v,rfl,s3,hL3,A3⟩
  rw [Int.toNat_natCast] at A3
  exact ⟨_,rfl,k L as _ s3 hL3 A3⟩
theorem Dj (F : FunD K "back_of" "back_of" gu dV f fd) (bO : mg "enumerate" = none) : FnOk P w K mg base CX0 1 f fd ["column"] (xi K):=by
 refine F.ok sc_back_of (fun vs H Q E h => ?_) (fun cdv A outer s H vs Q E hr h => ?_)
 ·obtain ⟨c,many,col,rfl,_⟩:=h
  rfl
 obtain ⟨c,many,col,rfl,hc,lc,n1,hcol,k⟩:=h
 have hu:=jI hr
 refine ⟨_,(ah (ax (i:=1) sc_back_of.nd rfl (Or.inl rfl) ki)
   (ah (bN PassesOwn.never rfl (DN rfl bO (aa (pv 0) af)) (pG rfl (bJ (ay (i:=2) sc_back_of.nd rfl (Or.inl rfl)) (bJ (ay (i:=3) sc_back_of.nd rfl (Or.inl rfl)) jB))) (au (a7 (eC PySem.F.plainAttrs_list PySem.F.slot_list_append PySem.F.type_list_append ba (wU (pv 1) (pv 3) (bI af) ⟨rfl,rfl,rfl,rfl⟩) (aa (pv 2) af)))))
   (au (aM (pv 1))))),?_⟩
 refine fun B hB => ?_
 have s0:=ak hB (HO.dK [])
 have b0 : BackOk H (upd H B (.dK [])) B [] (fun q ls => ls = cf (col.take 0) q):=⟨ab,List.Pairwise.nil,List.Pairwise.nil,(fun e h => by cases h),(fun e h => by cases h),fun q _ => rfl⟩
 refine ⟨_,rfl,c,rfl,⟨_,qT_ (s0 _ _ hc)⟩,Bq (K:=K) (xs:=col.map V.int) (fun i σ' H' => ∃ (es : List (Int × Addr)) (v1 v2 : OV),σ' = [some (.ref c),some (.ref B),v1,v2] /\ Same H H' /\ (∀ e ∈ es,0 <= e.1 /\ e.1 < (many : Int)) /\ BackOk H H' B es (fun q ls => ls = cf (col.take i) q))
  ⟨[],none,none,rfl,s0,(fun e h => by cases h),b0⟩ (fun i σ' H' _ ⟨_,_,_,_,e,_⟩ => qT_ (e _ _ hc)) ?_ ?_⟩
 ·rintro i y σ' H1 T hi ⟨es,v1,v2,rfl,s1,kr,b1⟩ hT
  obtain ⟨t,rfl,ht⟩:=br hi
  have il:=(gi_ ht).1
  have stq:=hcol t (mq_ ht)
  have sT:=ak hT (HO.tup [V.int i,V.int t])
  obtain ⟨H2,eH2⟩ : ∃ H2,upd H1 T (HO.tup [V.int i,V.int t]) = H2:=⟨_,rfl⟩
  have hT2 : H2 T = some (.tup [V.int i,V.int t]):=by rw [<- eH2]; exact ab
  rw [eH2] at sT ⊢
  have s2:=s1.trans sT
  have b2:=b1.same sT
  refine ⟨T,_,rfl,qT_ hT2,rfl,_,_,rfl,_,_,rfl,rfl,?_⟩
  refine ⟨_,rfl,B,rfl,.inl ⟨_,.inl b2.at_⟩,_,rfl,(by show 0 <= sizeLine; decide),fun L hL => ?_⟩
  have sL:=ak hL (HO.lst [])
  have b3:=b2.same sL
  have nL : ∀ e ∈ es,e.2 ≠ L:=fun e he z => by
   obtain ⟨ls,h1,_⟩:=b2.lst e he
   rw [z,hL] at h1
   cases h1
  have nLB : B ≠ L:=ao b2.at_ hL
  have fL : H L = none:=s2.free hL
  have few:=bP many b3.nd (fun q hq => by
   obtain ⟨e,he,rfl⟩:=List.mem_map.mp hq
   exact kr e he)
  rw [lm_] at few
  have len : (kvL es).length < sizeLine:=aw (by unfold kvL; rw [lm_]; omega)
  have et : col.take (i + 1) = col.take i ++ [t]:=by rw [List.take_add_one,ht]; rfl
  have ln : (col.take i).length = i:=by rw [List.length_take]; omega
  have oth : ∀ (p : Int) (ls : LI),p ≠ t -> ls = cf (col.take i) p -> ls = cf (col.take (i + 1)) p:=fun p ls np z => by
   rw [et,pK,if_neg (Ne.symm np),List.append_nil]
   exact z
  have grow : ∀ ls : LI,ls = cf (col.take i) t -> ls ++ [(i : Int)] = cf (col.take (i + 1)) t:=fun ls z => by
   rw [et,pK,if_pos rfl,ln,z]
  refine ⟨_,Sum.inl t,b3.at_,rfl,len,fun v hv => ?_,fun hn => ?_⟩
  ·obtain ⟨la,ls,rfl,hm,hla,hp⟩:=b3.get hv
   have pl:=yw (col.take i) t
   have lz : (ls.map V.int).length < sizeLine:=aw (by rw [lm_,hp]; omega)
   refine ⟨.inl ⟨rfl,_,qL_ hla⟩,_,rfl,la,_,_,rfl,rfl,hla,lz,?_⟩
   exact ⟨es,_,_,rfl,av (s2.trans sL) (b2.fresh _ hm),kr,b3.old hm hla (grow ls hp) oth⟩
  ·have hq : t ∉ es.map Prod.fst:=fun z => by
    obtain ⟨e,he,ee⟩:=List.mem_map.mp z
    obtain ⟨jj,hjj⟩:=List.mem_iff_getElem?.mp he
    have:=sC b3.nd (q:=e.1) (a:=e.2) hjj
    rw [ee,hn] at this
    cases this
   have hL3 : (upd (upd H2 L (HO.lst [])) B (HO.dK (putK (kvL es) (Sum.inl t) (V.ref L)))) L = some (.lst []):=by rw [ae (Ne.symm nLB),ab]
   refine ⟨.inl ⟨rfl,_,qL_ hL3⟩,_,rfl,L,_,_,rfl,rfl,hL3,(by show 0 < sizeLine; decide),?_⟩
   refine ⟨es ++ [(t,L)],_,_,rfl,av (av (s2.trans sL) hB) fL,fun e he => ?_,b3.new hq ab fL nL (grow [] (b3.non _ hq)) oth⟩
   rcases ma_.mp he with z | z
   ·exact kr e z
   ·rw [List.mem_singleton.mp z]; exact stq
 ·rintro σ' H1 ⟨es,v1,v2,rfl,s1,kr,b1⟩
  rw [lm_,List.take_length] at b1
  exact ⟨_,rfl,k B es _ s1 hB b1⟩
end
structure PCls (K : PySem.W.Frag) (C : Addr) : Prop where
 cl : Cls K C
 ng : NoAttr K C "group_of"
 nm : NoAttr K C "members"
 nw : NoAttr K C "waiting"
 ni : NoAttr K C "is_waiting"
structure PtAt (H : Hp) (C x go ms wt iw : Addr) : Prop where
 ob : ∃ dx : Addr,H x = some (.ins C dx [("group_of",.ref go),("members",.ref ms),("waiting",.ref wt),("is_waiting",.ref iw)])
theorem PtAt.same {H H' : Hp} {C x go ms wt iw : Addr} (h : PtAt H C x go ms wt iw) (s : Same H H') : PtAt H' C x go ms wt iw:=by
 obtain ⟨dx,h1⟩:=h.ob
 exact ⟨dx,s _ _ h1⟩
def tG (K : PySem.W.Frag) (C : Addr) : Sp:=fun vs H Q _ => ∃ (x go ms wt iw : Addr) (gs : LI) (ds : List Addr),vs = [.ref x] /\ PtAt H C x go ms wt iw /\ H go = some (.lst (gs.map V.int)) /\ H ms = some (.lst (ds.map V.ref)) /\ Q (.bl (decide (ds.length = gs.length))) H
def Ai (C : Addr) : Sp:=fun vs H Q _ => ∃ (x go ms wt iw : Addr) (n : Int) (ws ks : LI),vs = [.ref x,.int n] /\ PtAt H C x go ms wt iw /\ H wt = some (.lst (ws.map V.int)) /\ H iw = some (.dK (kvT ks)) /\ ks.Nodup /\ ws.length <= 1000 /\ ks.length <= 1000 /\
 Q .non (upd (upd H wt (.lst ((ws ++ [n]).map V.int))) iw (.dK (kvT (if n ∈ ks then ks else ks ++ [n]))))
theorem x8 (ks : LI) (g : Int) : sj (kvT ks) (Sum.inl g) = kvT (ks.filter fun k => decide (k ≠ g)):=by
 unfold sj kvT
 rw [List.filter_map]
 congr 1
 refine List.filter_congr fun k _ => ?_
 by_cases c : k = g
 ·subst c
  simp
 ·have : (Sum.inl k : Key) ≠ Sum.inl g:=fun z => c (Sum.inl.inj z)
  simp [c,this]
theorem C0 (ks : LI) : (kvT ks).map (fun kv => kV kv.1) = ks.map V.int:=by
 unfold kvT
 rw [List.map_map]
 rfl
def xn (C : Addr) : Sp:=fun vs H Q _ => ∃ (x go ms wt iw da : Addr) (g : Int) (ws ks mem : LI) (ds : List Addr),vs = [.ref x] /\ PtAt H C x go ms wt iw /\ H wt = some (.lst ((ws ++ [g]).map V.int)) /\ H iw = some (.dK (kvT ks)) /\ g ∈ ks /\ H ms = some (.lst (ds.map V.ref)) /\ 0 <= g /\ ds[g.toNat]? = some da /\ ms ≠ wt /\ H da = some (.dK (kvT mem)) /\ da ≠ iw /\ mem.length <= 1000 /\
 ∀ l,H l = none -> Q (.ref l) (upd (upd (upd H wt (.lst (ws.map V.int))) iw (.dK (kvT (ks.filter fun k => decide (k ≠ g))))) l (.lst (mem.map V.int)))
section
variable {P : Program} {w : World} {K : PySem.W.Frag} {mg : Str -> Option Value} {base : Heap} {f : Addr} {fd : FuncData} {dV : Value} {C : Addr}
theorem oe : FnScope ["self"] ["self"] (aj bR):=⟨rfl,rfl,rfl,by decide +kernel,rfl,by decide +kernel,by decide +kernel⟩
theorem mz : FnScope ["self","group"] ["self","group"] (aj bK):=⟨rfl,rfl,rfl,by decide +kernel,rfl,by decide +kernel,by decide +kernel⟩
theorem sc_Parted_next_splitter : FnScope ["self","group"] ["self"] (aj bb):=⟨rfl,rfl,rfl,by decide +kernel,rfl,by decide +kernel,by decide +kernel⟩
theorem BV (F : FunD K "is_done" "Parted.is_done" bR dV f fd) (pc : PCls K C) (bB : mg "len" = none) : FnOk P w K mg base CX0 1 f fd ["self"] (tG K C):=by
 refine F.ok oe (fun vs H Q E h => ?_) (fun cdv A outer s H vs Q E hr h => ?_)
 ·obtain ⟨x,go,ms,wt,iw,gs,ds,rfl,_⟩:=h
  rfl
 obtain ⟨x,go,ms,wt,iw,gs,ds,rfl,⟨dx,hx⟩,hgo,hms,q⟩:=h
 refine ⟨_,(au (aM (rj fj (aR aU (by rfl) bB cw (aa (cF (pv 0) rfl) af)) (aR aU (by rfl) bB cw (aa (cF (pv 0) rfl) af)) (bh _)))),?_⟩
 refine ⟨_,rfl,x,C,dx,_,_,rfl,hx,pc.cl,pc.nm,rfl,ms,_,rfl,.inl (qL_ hms),_,rfl,x,C,dx,_,_,rfl,hx,pc.cl,pc.ng,rfl,go,_,rfl,.inl (qL_ hgo),rfl,?_⟩
 rw [lm_,lm_]
 have e : decide (V.int (ds.length : Int) = V.int (gs.length : Int)) = decide (ds.length = gs.length):=decide_eq_decide.mpr ⟨fun h => by have:=V.int.inj h; omega,fun h => by rw [h]⟩
 rw [e]
 exact q
theorem zN (F : FunD K "wait_for" "Parted.wait_for" bK dV f fd) (pc : PCls K C) : FnOk P w K mg base CX0 1 f fd ["self","group"] (Ai C):=by
 refine F.ok mz (fun vs H Q E h => ?_) (fun cdv A outer s H vs Q E hr h => ?_)
 ·obtain ⟨x,go,ms,wt,iw,n,ws,ks,rfl,_⟩:=h
  rfl
 obtain ⟨x,go,ms,wt,iw,n,ws,ks,rfl,⟨dx,hx⟩,hwt,hiw,nd,l1,l2,q⟩:=h
 have hu:=jI hr
 refine ⟨_,(ah (a7 (eC PySem.F.plainAttrs_list PySem.F.slot_list_append PySem.F.type_list_append ba (cF (pv 0) rfl) (aa (pv 1) af)))
   (au (nX hu (cF (pv 0) rfl) (pv 1) jJ rfl))),?_⟩
 have nx : x ≠ wt:=aA hx hwt (by intro z; cases z)
 have ni : iw ≠ wt:=aA hiw hwt (by intro z; cases z)
 refine ⟨_,rfl,x,C,dx,_,_,rfl,hx,pc.cl,pc.nw,rfl,.inl ⟨rfl,_,qL_ hwt⟩,_,rfl,wt,_,_,rfl,rfl,hwt,aw (by rw [lm_]; exact l1),?_⟩
 refine ⟨_,rfl,x,C,dx,_,_,rfl,by rw [ae nx]; exact hx,pc.cl,pc.ni,rfl,_,rfl,iw,_,rfl,DPut.k (k:=Sum.inl n) (by rw [ae ni]; exact hiw) (aw (by unfold kvT; rw [lm_]; exact l2)),?_⟩
 have e : putK (kvT ks) (Sum.inl n) (V.bl true) = kvT (if n ∈ ks then ks else ks ++ [n]):=by
  by_cases c : n ∈ ks
  ·rw [if_pos c]
   unfold putK
   rw [if_pos (show ((kvT ks).any fun kv => decide (kv.fst = Sum.inl n)) = true from List.any_eq_true.mpr ⟨(Sum.inl n,V.bl true),List.mem_map.mpr ⟨n,c,rfl⟩,by simp⟩)]
   refine (List.map_congr_left fun kv hk => ?_).trans (List.map_id _)
   obtain ⟨k,_,rfl⟩:=List.mem_map.mp hk
   show (if (Sum.inl k : Key) = Sum.inl n then ((Sum.inl k : Key),V.bl true) else (Sum.inl k,V.bl true)) = (Sum.inl k,V.bl true)
   split <;> rfl
  ·rw [if_neg c]
   exact rb c
 rw [e]
 rw [List.map_append] at q
 exact q
theorem Dp (F : FunD K "next_splitter" "Parted.next_splitter" bb dV f fd) (pc : PCls K C) (dF : mg "list" = none) : FnOk P w K mg base CX0 1 f fd ["self"] (xn C):=by
 refine F.ok sc_Parted_next_splitter (fun vs H Q E h => ?_) (fun cdv A outer s H vs Q E hr h => ?_)
 ·obtain ⟨x,go,ms,wt,iw,da,g,ws,ks,mem,ds,rfl,_⟩:=h
  rfl
 obtain ⟨x,go,ms,wt,iw,da,g,ws,ks,mem,ds,rfl,⟨dx,hx⟩,hwt,hiw,gk,hms,g0,hda0,nmw,hda,ndi,lm,q⟩:=h
 have hu:=jI hr
 refine ⟨_,(ah (ax (i:=1) sc_Parted_next_splitter.nd rfl (Or.inl rfl) (zR PySem.F.plainAttrs_list PySem.F.slot_list_pop PySem.F.type_list_pop Dd (cF (pv 0) rfl)))
   (ah (a7 (yq (cF (pv 0) rfl) (pv 1) ⟨rfl,rfl,rfl,rfl⟩))
   (au (aM (aL (rV rfl) (by rfl) dF mT (aa (aW b9 (cF (pv 0) rfl) (pv 1) (fun _ _ => rfl)) af)))))),?_⟩
 have nx : x ≠ wt:=aA hx hwt (by intro z; cases z)
 have nxi : x ≠ iw:=aA hx hiw (by intro z; cases z)
 have ni : iw ≠ wt:=aA hiw hwt (by intro z; cases z)
 have nmi : ms ≠ iw:=aA hms hiw (by intro z; cases z)
 have ndw : da ≠ wt:=aA hda hwt (by intro z; cases z)
 have last : ((ws ++ [g]).map V.int)[((ws ++ [g]).map V.int).length - 1]? = some (.int g):=by
  rw [lm_,List.length_append,List.length_singleton,Nat.add_sub_cancel,List.getElem?_map,List.getElem?_append_right (Nat.le_refl _),Nat.sub_self]
  rfl
 have dl : ((ws ++ [g]).map V.int).dropLast = ws.map V.int:=by rw [List.map_append]; exact List.dropLast_concat
 obtain ⟨v,hv⟩ : ∃ v,di (kvT ks) (Sum.inl g) = some v:=by
  have h:=rf ks g
  rw [decide_eq_true gk] at h
  exact Option.isSome_iff_exists.mp h
 have at' : atI (ds.map V.ref) g = some (.ref da):=by
  have q' : atI (ds.map V.ref) ((g.toNat : Nat) : Int) = some (.ref da):=mQ (by rw [List.getElem?_map,hda0]; rfl)
  rw [Int.toNat_of_nonneg g0] at q'
  exact q'
 refine ⟨_,rfl,x,C,dx,_,_,rfl,hx,pc.cl,pc.nw,rfl,.inl ⟨rfl,_,qL_ hwt⟩,wt,_,_,rfl,rfl,hwt,last,?_⟩
 rw [dl]
 have hx1 : (upd H wt (HO.lst (ws.map V.int))) x = _:=(ae nx).trans hx
 have hiw1 : (upd H wt (HO.lst (ws.map V.int))) iw = _:=(ae ni).trans hiw
 refine ⟨_,rfl,x,C,dx,_,_,rfl,hx1,pc.cl,pc.ni,rfl,iw,rfl,.inl ⟨_,.inl hiw1⟩,_,rfl,kvT ks,Sum.inl g,v,hiw1,rfl,hv,?_⟩
 rw [x8]
 refine ⟨_,rfl,x,C,dx,_,_,rfl,(ae nxi).trans hx1,pc.cl,pc.nm,rfl,_,rfl,ms,_,_,_,rfl,rfl,qL_ ((ae nmi).trans ((ae nmw).trans hms)),at',da,_,rfl,(ae ndi).trans ((ae ndw).trans hda),fun l hl => ?_⟩
 rw [C0]
 refine q l ?_
 by_cases c1 : l = iw
 ·rw [c1,ab] at hl
  cases hl
 ·rw [ae c1] at hl
  by_cases c2 : l = wt
  ·rw [c2,ab] at hl
   cases hl
  ·rw [ae c2] at hl
   exact hl
end
def setG (gs done : LI) (n : Int) : LI:=done.foldl (fun g q => g.set q.toNat n) gs
def outF (mem done : LI) : LI:=mem.filter fun q => decide (q ∉ done)
theorem yE (gs : LI) (n : Int) : ∀ done : LI,(setG gs done n).length = gs.length:=fun done => by
 unfold setG
 induction done generalizing gs with
 | nil => rfl
 | cons q r ih => rw [List.foldl_cons,ih,List.length_set]
theorem Cb (gs done : LI) (q n : Int) : setG gs (done ++ [q]) n = (setG gs done n).set q.toNat n:=by
 unfold setG
 rw [List.foldl_append]
 rfl
theorem B4 (mem done : LI) (q : Int) : (outF mem done).filter (fun k => decide (k ≠ q)) = outF mem (done ++ [q]):=by
 unfold outF
 rw [List.filter_filter]
 refine List.filter_congr fun k _ => ?_
 by_cases c : k = q
 ·subst c
  simp
 ·simp [c]
def xp (K : PySem.W.Frag) (C : Addr) : Sp:=fun vs H Q _ => ∃ (x go ms wt iw da il : Addr) (g : Int) (gs ws ks mem ins : LI) (ds : List Addr),vs = [.ref x,.int g,.ref il] /\ PtAt H C x go ms wt iw /\ H go = some (.lst (gs.map V.int)) /\ H ms = some (.lst (ds.map V.ref)) /\ H wt = some (.lst (ws.map V.int)) /\ H iw = some (.dK (kvT ks)) /\ ks.Nodup /\ (ws.length <= 1000 /\ ks.length <= 1000 /\ ds.length < 1000 /\ ins.length <= 1000) /\
 0 <= g /\ ds[g.toNat]? = some da /\ H da = some (.dK (kvT mem)) /\ H il = some (.lst (ins.map V.int)) /\ ins.Nodup /\ (∀ q ∈ ins,q ∈ mem /\ 0 <= q /\ q < (gs.length : Int)) /\ (go ≠ ms /\ go ≠ wt /\ go ≠ il /\ ms ≠ wt /\ ms ≠ il /\ wt ≠ il /\ da ≠ iw) /\
 ∀ (E : Addr) (nw : Int) (H' : Hp),H E = none -> H' E = some (.dK (kvT ins)) -> H' ms = some (.lst ((ds ++ [E]).map V.ref)) -> H' da = some (.dK (kvT (outF mem ins))) -> H' go = some (.lst ((setG gs ins (ds.length : Int)).map V.int)) -> H' wt = some (.lst ((ws ++ [nw]).map V.int)) -> H' iw = some (.dK (kvT (if nw ∈ ks then ks else ks ++ [nw]))) ->
  ((g ∈ ks \/ ins.length <= (outF mem ins).length) -> nw = (ds.length : Int)) -> (¬ (g ∈ ks \/ ins.length <= (outF mem ins).length) -> nw = g) -> (∀ c u,c ≠ go -> c ≠ ms -> c ≠ da -> c ≠ wt -> c ≠ iw -> H c = some u -> H' c = some u) -> Q .non H'
theorem EJ {n z : Nat} (h : z < n) : ixN n (z : Int) = some z:=by
 unfold ixN
 rw [if_pos (by omega),if_pos (by omega),Int.toNat_natCast]
section
variable {P : Program} {w : World} {K : PySem.W.Frag} {mg : Str -> Option Value} {base : Heap} {f : Addr} {fd : FuncData} {dV : Value} {C : Addr}
theorem sc_Parted_split_off : FnScope ["self","group","inside","fresh","outside","here"] ["self","group","inside"] (aj bp):=⟨rfl,rfl,rfl,by decide +kernel,rfl,by decide +kernel,by decide +kernel⟩
theorem bk_Parted_split_off_0 : BlkScope ["self","group","inside","fresh","outside","here"] (aj bp) ["here"] [none] { kind:=ScopeKind.function,names:=[(".0",NameKind.local),("here",NameKind.local)],isGenerator:=false,isCoroutine:=false,more:=[] }:=⟨rfl,by decide +kernel,by decide +kernel,by decide +kernel,by decide +kernel,rfl,by decide +kernel⟩
theorem Dr (F : FunD K "split_off" "Parted.split_off" bp dV f fd) (pc : PCls K C) (gY : DefMe P w K mg base C "wait_for" 1 ["self","group"] (Ai C)) (bB : mg "len" = none) (fS : mg "dict" = none) : FnOk P w K mg base CX0 2 f fd ["self","group","inside"] (xp K C):=by
 refine F.ok sc_Parted_split_off (fun vs H Q E h => ?_) (fun cdv A outer s H vs Q E hr h => ?_)
 ·obtain ⟨x,go,ms,wt,iw,da,il,g,gs,ws,ks,mem,ins,ds,rfl,_⟩:=h
  rfl
 obtain ⟨x,go,ms,wt,iw,da,il,g,gs,ws,ks,mem,ins,ds,rfl,⟨dx,hx⟩,hgo,hms,hwt,hiw,ndk,⟨lw,lk,ld,li⟩,g0,hda0,hda,hil,ndi,hins,⟨n1,n2,n3,n4,n5,n6,n7⟩,k⟩:=h
 have hu:=jI hr
 refine ⟨_,(ah (ax (i:=3) sc_Parted_split_off.nd rfl (Or.inl rfl) (aR aU (by rfl) bB cw (aa (cF (pv 0) rfl) af)))
   (ah (ax (i:=4) sc_Parted_split_off.nd rfl (Or.inl rfl) (aW b9 (cF (pv 0) rfl) (pv 1) (fun _ _ => rfl)))
   (ah (bN PassesOwn.never rfl (cb (pv 2)) (ay (i:=5) sc_Parted_split_off.nd rfl (Or.inl rfl)) (ah (a7 (yq (pv 4) (pv 5) ⟨rfl,rfl,rfl,rfl⟩))
   (au (zZ (pv 3) (DI (cF (pv 0) rfl) (pv 5) set_list)))))
   (ah (a7 (eC PySem.F.plainAttrs_list PySem.F.slot_list_append PySem.F.type_list_append ba (cF (pv 0) rfl) (aa (aL (jU rfl) (by rfl) fS qY (aa (cB rfl bk_Parted_split_off_0 (cb (pv 2)) (fun _ _ _ _ => (ay (i:=0) bk_Parted_split_off_0.nd rfl (Or.inl rfl))) (fun _ _ _ _ => (eD (aa (pv 0) (aa jJ af))))) af)) af)))
   (au (cL (PW.pt (AX (z4 (Gv hu (pv 1) (cF (pv 0) rfl)) (by with_unfolding_all rfl)) (z5 (a8 FL (aR aU (by rfl) bB cw (aa (pv 2) af)) (aR ko (by rfl) bB cw (aa (pv 4) af)) (bh _))))) (au (a7 (vA gY hr (pv 0) (aa (pv 3) af)))) (au (a7 (vA gY hr (pv 0) (aa (pv 1) af)))))))))),?_⟩
 have o0 : outF mem [] = mem:=List.filter_eq_self.mpr fun _ _ => by simp
 have nxg : x ≠ go:=aA hx hgo (by intro z; cases z)
 have nxd : x ≠ da:=aA hx hda (by intro z; cases z)
 have ngd : go ≠ da:=aA hgo hda (by intro z; cases z)
 have at' : atI (ds.map V.ref) g = some (.ref da):=by
  have q' : atI (ds.map V.ref) ((g.toNat : Nat) : Int) = some (.ref da):=mQ (by rw [List.getElem?_map,hda0]; rfl)
  rw [Int.toNat_of_nonneg g0] at q'
  exact q'
 refine ⟨_,rfl,x,C,dx,_,_,rfl,hx,pc.cl,pc.nm,rfl,ms,_,rfl,.inl (qL_ hms),?_⟩
 rw [lm_]
 refine ⟨_,rfl,x,C,dx,_,_,rfl,hx,pc.cl,pc.nm,rfl,_,rfl,ms,_,_,_,rfl,rfl,qL_ hms,at',?_⟩
 try dsimp only [bt,eG]
 refine dX (t:=tN _ _ _) (fun σ' H' => ∃ v : OV,σ' = [some (.ref x),some (.int g),some (.ref il),some (.int (ds.length : Int)),some (.ref da),v] /\ H' da = some (.dK (kvT (outF mem ins))) /\ H' go = some (.lst ((setG gs ins (ds.length : Int)).map V.int)) /\ ∀ c u,c ≠ go -> c ≠ da -> H c = some u -> H' c = some u) ?_ (fun D' nxt => ?_)
 rotate_left
 ·refine ⟨_,rfl,il,rfl,⟨_,qL_ hil⟩,?_⟩
  refine cP (K:=K) (xs:=ins.map V.int) (fun i σ' H' => ∃ v : OV,σ' = [some (.ref x),some (.int g),some (.ref il),some (.int (ds.length : Int)),some (.ref da),v] /\ H' da = some (.dK (kvT (outF mem (ins.take i)))) /\ H' go = some (.lst ((setG gs (ins.take i) (ds.length : Int)).map V.int)) /\ ∀ c u,c ≠ go -> c ≠ da -> H c = some u -> H' c = some u) ⟨none,rfl,by rw [List.take_zero,o0]; exact hda,hgo,fun _ _ _ _ e => e⟩ (fun i σ' H' _ ⟨_,_,_,_,e⟩ => qL_ (e _ _ (Ne.symm n3) (aA hil hda (by intro z; cases z)) hil)) ?_ ?_
  ·rintro i y σ' H3 hi ⟨v,rfl,hd3,hg3,kp3⟩
   obtain ⟨q,rfl,hq⟩:=br hi
   have qm:=hins q (mq_ hq)
   have qo : q ∈ outF mem (ins.take i):=by
    refine List.mem_filter.mpr ⟨qm.1,decide_eq_true fun z => ?_⟩
    obtain ⟨j,hj,ej⟩:=List.getElem_of_mem z
    rw [List.length_take] at hj
    rw [List.getElem_take] at ej
    have ql:=gi_ hq
    have:=(List.getElem_inj ndi).mp (ej.trans ql.2.symm)
    omega
   obtain ⟨vv,hvv⟩ : ∃ v,di (kvT (outF mem (ins.take i))) (Sum.inl q) = some v:=by
    have h:=rf (outF mem (ins.take i)) q
    rw [decide_eq_true qo] at h
    exact Option.isSome_iff_exists.mp h
   have et : ins.take (i + 1) = ins.take i ++ [q]:=by rw [List.take_add_one,hq]; rfl
   refine ⟨_,rfl,da,rfl,.inl ⟨_,.inl hd3⟩,_,rfl,_,Sum.inl q,vv,hd3,rfl,hvv,?_⟩
   rw [x8,B4,<- et]
   have hx3:=kp3 _ _ nxg nxd hx
   refine ⟨_,rfl,_,rfl,x,C,dx,_,_,rfl,(ae nxd).trans hx3,pc.cl,pc.ng,rfl,_,rfl,go,_,q,q.toNat,rfl,rfl,(ae ngd).trans hg3,?_,?_⟩
   ·rw [lm_,yE]
    have:=EJ (n:=gs.length) (z:=q.toNat) (by omega)
    rw [Int.toNat_of_nonneg qm.2.1] at this
    exact this
   ·refine ⟨_,rfl,by rw [ae (Ne.symm ngd),ab],?_,fun c u c1 c2 e => by rw [ae c1,ae c2]; exact kp3 c u c1 c2 e⟩
    rw [ab,et,Cb,List.map_set]
  ·rintro σ' H3 ⟨v,rfl,hd3,hg3,kp3⟩
   rw [lm_,List.take_length] at hd3 hg3
   exact nxt _ _ ⟨v,rfl,hd3,hg3,kp3⟩
 rintro σ' H1 ⟨v,rfl,hd1,hg1,kp1⟩
 have hx1:=kp1 _ _ nxg nxd hx
 have hms1:=kp1 _ _ (Ne.symm n1) (aA hms hda (by intro z; cases z)) hms
 have hil1:=kp1 _ _ (Ne.symm n3) (aA hil hda (by intro z; cases z)) hil
 refine ⟨_,rfl,x,C,dx,_,_,rfl,hx1,pc.cl,pc.nm,rfl,.inl ⟨rfl,_,qL_ hms1⟩,_,rfl,il,rfl,⟨_,qL_ hil1⟩,?_⟩
 refine gm (K:=K) (xs:=ins.map V.int) (fun D i ys H' => Same H1 H' /\ ∃ ts,ys = ts.map V.ref /\ PairsV H' ts (kvT (ins.take i))) (fun D hD => ⟨ak hD _,[],rfl,.nil⟩) (fun D i ys H' _ ⟨e,_⟩ => qL_ (e _ _ hil1)) ?_ ?_
 ·rintro D i y ys H' Q' hD hi hy ⟨hs,ts,rfl,pv⟩ k'
  obtain ⟨q,rfl,hq⟩:=br hi
  have il' : i < ins.length:=(gi_ hq).1
  refine ⟨_,rfl,(by show 2 <= sizeLine; decide),fun T hT => ?_⟩
  have sT:=ak hT (HO.tup [V.int q,V.bl true])
  have nD : D ≠ T:=ao hy hT
  have lts : ts.length = i:=by
   rw [Paired.length pv]
   unfold kvT
   rw [lm_,List.length_take]
   omega
  have hyT : (upd H' T (HO.tup [V.int q,V.bl true])) D = some (.lst (ts.map V.ref)):=by rw [ae nD]; exact hy
  refine k' _ _ hyT (aw (by rw [lm_]; omega)) ⟨av (av hs (hs.free hT)) hD,ts ++ [T],by rw [List.map_append]; rfl,?_⟩
  rw [List.take_add_one,hq]
  have up : ∀ b xs,(upd H' T (HO.tup [V.int q,V.bl true])) b = some (.tup xs) -> (upd (upd H' T (HO.tup [V.int q,V.bl true])) D (.lst (ts.map V.ref ++ [V.ref T]))) b = some (.tup xs):=fun b xs e => by
   rw [ae (aA e hyT (by intro z; cases z))]; exact e
  show PairsV _ _ (kvT (ins.take i ++ [q]))
  unfold kvT
  rw [List.map_append]
  exact Paired.snoc (PairsV.same pv fun b xs e => up b xs (sT _ _ e)) (up _ _ ab)
 rintro L ys H2 fL hL ⟨s2,ts,rfl,pv⟩
 rw [lm_,List.take_length] at pv
 refine ⟨L,ts,_,rfl,hL,pv,fun N hN => ?_⟩
 rw [vy ndi]
 have s3:=s2.trans (ak hN (HO.dK (kvT ins)))
 obtain ⟨H3,eH3⟩ : ∃ H3,upd H2 N (HO.dK (kvT ins)) = H3:=⟨_,rfl⟩
 have hN3 : H3 N = some (.dK (kvT ins)):=by rw [<- eH3]; exact ab
 rw [eH3] at s3 ⊢
 have fN : H1 N = none:=s2.free hN
 have hms3:=s3 _ _ hms1
 have nxm : x ≠ ms:=aA hx hms (by intro z; cases z)
 refine ⟨ms,_,_,rfl,rfl,hms3,aw (by rw [lm_]; omega),?_⟩
 have nNm : N ≠ ms:=aA hN3 hms3 (by intro z; cases z)
 have nxi : x ≠ iw:=aA hx hiw (by intro z; cases z)
 have nim : iw ≠ ms:=aA hiw hms (by intro z; cases z)
 have ndm : da ≠ ms:=aA hda hms (by intro z; cases z)
 obtain ⟨H4,eH4⟩ : ∃ H4,upd H3 ms (HO.lst (ds.map V.ref ++ [V.ref N])) = H4:=⟨_,rfl⟩
 have kp4 : ∀ c u,c ≠ ms -> H1 c = some u -> H4 c = some u:=fun c u c1 e => by rw [<- eH4,ae c1]; exact s3 _ _ e
 have hms4 : H4 ms = some (.lst ((ds ++ [N]).map V.ref)):=by rw [<- eH4,ab,List.map_append]; rfl
 have hN4 : H4 N = some (.dK (kvT ins)):=by rw [<- eH4,ae nNm]; exact hN3
 have hx4:=kp4 _ _ nxm hx1
 have hiw4:=kp4 _ _ nim (kp1 _ _ (aA hiw hgo (by intro z; cases z)) (Ne.symm n7) hiw)
 have hwt4:=kp4 _ _ (Ne.symm n4) (kp1 _ _ (Ne.symm n2) (aA hwt hda (by intro z; cases z)) hwt)
 have hda4:=kp4 _ _ ndm hd1
 have hgo4:=kp4 _ _ n1 hg1
 have hil4:=kp4 _ _ (Ne.symm n5) hil1
 rw [eH4]
 have niw : iw ≠ wt:=aA hiw hwt (by intro z; cases z)
 have lo : (kvT (outF mem ins)).length = (outF mem ins).length:=by unfold kvT; rw [lm_]
 have fN0 : H N = none:=by
  cases e : H N with
  | none => rfl
  | some u =>
   have z1 : N = go \/ N = da:=Classical.byContradiction fun z => by
    have:=kp1 N u (fun a => z (.inl a)) (fun a => z (.inr a)) e
    rw [fN] at this
    cases this
   rcases z1 with z | z
   ·rw [z,hg1] at fN; cases fN
   ·rw [z,hd1] at fN; cases fN
 have fin : ∀ nw : Int,((g ∈ ks \/ ins.length <= (outF mem ins).length) -> nw = (ds.length : Int)) -> (¬ (g ∈ ks \/ ins.length <= (outF mem ins).length) -> nw = g) -> Q .non (upd (upd H4 wt (.lst ((ws ++ [nw]).map V.int))) iw (.dK (kvT (if nw ∈ ks then ks else ks ++ [nw])))):=fun nw h1 h2 => by
  have nNw : N ≠ wt:=aA hN4 hwt4 (by intro z; cases z)
  have nNi : N ≠ iw:=fun z => by rw [z,hiw] at fN0; cases fN0
  refine k N nw _ fN0 ?_ ?_ ?_ ?_ ?_ ab h1 h2 fun c u c1 c2 c3 c4 c5 e => ?_
  ·rw [ae nNi,ae nNw]; exact hN4
  ·rw [ae (Ne.symm nim),ae n4]; exact hms4
  ·rw [ae n7,ae (aA hda hwt (by intro z; cases z))]; exact hda4
  ·rw [ae (aA hgo hiw (by intro z; cases z)),ae n2]; exact hgo4
  ·rw [ae (Ne.symm niw),ab]
  ·rw [ae c5,ae c4]; exact kp4 _ _ c2 (kp1 c u c1 c3 e)
 refine ⟨_,rfl,_,rfl,x,C,dx,_,_,rfl,hx4,pc.cl,pc.ni,rfl,iw,_,rfl,DGet.k (k:=Sum.inl g) hiw4,_,rfl,?_⟩
 rw [rf]
 have yes : (g ∈ ks \/ ins.length <= (outF mem ins).length) -> Q .non (upd (upd H4 wt (.lst ((ws ++ [(ds.length : Int)]).map V.int))) iw (.dK (kvT (if (ds.length : Int) ∈ ks then ks else ks ++ [(ds.length : Int)])))):=fun h => fin _ (fun _ => rfl) (fun n => absurd h n)
 refine um (fun c => ?_) (fun c => ?_)
 ·exact wj ⟨_,rfl,x,dx,_,rfl,hx4,rfl,_,rfl,x,go,ms,wt,iw,(ds.length : Int),ws,ks,rfl,⟨dx,hx4⟩,hwt4,hiw4,ndk,lw,lk,yes (.inl c)⟩
 ·refine ⟨_,rfl,il,_,rfl,.inl (qL_ hil4),_,rfl,da,_,rfl,hda4,_,_,rfl,rfl,_,rfl,um (fun c2 => ?_) (fun c2 => ?_)⟩
  ·rw [lm_,lo] at c2
   exact ⟨_,rfl,x,dx,_,rfl,hx4,rfl,_,rfl,x,go,ms,wt,iw,(ds.length : Int),ws,ks,rfl,⟨dx,hx4⟩,hwt4,hiw4,ndk,lw,lk,yes (.inr (by omega))⟩
  ·rw [lm_,lo] at c2
   exact ⟨_,rfl,x,dx,_,rfl,hx4,rfl,_,rfl,x,go,ms,wt,iw,g,ws,ks,rfl,⟨dx,hx4⟩,hwt4,hiw4,ndk,lw,lk,fin g (fun h => absurd h (fun z => by
    rcases z with z | z
    ·exact c z
    ·exact c2 (by omega))) (fun _ => rfl)⟩
end
def ar (many : Nat) (q : Int) : Prop:=0 <= q /\ q < (many : Int)
structure Likes (many : Nat) (cols : List (Int -> Int)) (sg : Int -> Int) (R : Int -> Int -> Prop) : Prop where
 sgn : ∀ x y,R x y -> sg x = sg y
 led : ∀ x y,R x y -> ∀ c ∈ cols,R (c x) (c y)
structure Hop (many : Nat) (cols : List (Int -> Int)) (sg : Int -> Int) (R : Int -> Int -> Prop) (grp : Int -> Int) (W : Int -> Prop) : Prop where
 coarse : ∀ x y,ar many x -> ar many y -> R x y -> grp x = grp y
 signs : ∀ x y,ar many x -> ar many y -> grp x = grp y -> sg x = sg y
 cong : ∀ x y,ar many x -> ar many y -> grp x = grp y -> ∀ c ∈ cols,grp (c x) = grp (c y) \/ W (grp (c x)) \/ W (grp (c y))
structure HopS (many : Nat) (cols : List (Int -> Int)) (sg : Int -> Int) (R : Int -> Int -> Prop) (grp : Int -> Int) (W : Int -> Prop) (S : Int -> Prop) (k : Nat) : Prop where
 coarse : ∀ x y,ar many x -> ar many y -> R x y -> grp x = grp y
 signs : ∀ x y,ar many x -> ar many y -> grp x = grp y -> sg x = sg y
 whole : ∀ x y,ar many x -> ar many y -> R x y -> S x -> S y
 cong : ∀ x y,ar many x -> ar many y -> grp x = grp y -> ∀ (j : Nat) (c : Int -> Int),cols[j]? = some c ->
  grp (c x) = grp (c y) \/ W (grp (c x)) \/ W (grp (c y)) \/ (k <= j /\ ((S (c x) /\ ¬ S (c y)) \/ (S (c y) /\ ¬ S (c x))))
section
variable {many : Nat} {cols : List (Int -> Int)} {sg : Int -> Int} {R : Int -> Int -> Prop} {grp : Int -> Int} {W S : Int -> Prop} {k : Nat}
theorem Hop.pop (h : Hop many cols sg R grp W) (hc : ∀ x,ar many x -> ∀ c ∈ cols,ar many (c x)) (s : Int) : HopS many cols sg R grp (fun g => W g /\ g ≠ s) (fun q => grp q = s) 0 where
 coarse:=h.coarse
 signs:=h.signs
 whole:=fun x y hx hy r e => (h.coarse x y hx hy r).symm.trans e
 cong:=fun x y hx hy e j c hj => by
  have cm:=mq_ hj
  rcases Classical.em (grp (c x) = grp (c y)) with q | q
  ·exact .inl q
  rcases Classical.em (grp (c x) = s) with a | a
  ·exact .inr (.inr (.inr ⟨Nat.zero_le _,.inl ⟨a,fun b => q (a.trans b.symm)⟩⟩))
  rcases Classical.em (grp (c y) = s) with b | b
  ·exact .inr (.inr (.inr ⟨Nat.zero_le _,.inr ⟨b,a⟩⟩))
  rcases h.cong x y hx hy e c cm with z | z | z
  ·exact .inl z
  ·exact .inr (.inl ⟨z,a⟩)
  ·exact .inr (.inr (.inl ⟨z,b⟩))
theorem HopS.done (h : HopS many cols sg R grp W S cols.length) : Hop many cols sg R grp W where
 coarse:=h.coarse
 signs:=h.signs
 cong:=fun x y hx hy e c cm => by
  obtain ⟨j,hj⟩:=List.mem_iff_getElem?.mp cm
  rcases h.cong x y hx hy e j c hj with z | z | z | ⟨z,_⟩
  ·exact .inl z
  ·exact .inr (.inl z)
  ·exact .inr (.inr z)
  ·have:=(gi_ hj).1
   omega
theorem HopS.split (h : HopS many cols sg R grp W S k) (sym : ∀ x y,R x y -> R y x) (hc : ∀ x,ar many x -> ∀ c ∈ cols,ar many (c x)) {L : Int -> Prop} {b n : Int} {W' : Int -> Prop}
  (hL : ∀ x y,ar many x -> ar many y -> R x y -> L x -> L y) (nn : ∀ x,ar many x -> grp x ≠ n)
  (w1 : ∀ g,W g -> W' g) (w2 : W b -> W' n) (w3 : W' n \/ W' b) {grp' : Int -> Int} (g1 : ∀ x,ar many x -> grp x = b -> L x -> grp' x = n) (g2 : ∀ x,ar many x -> ¬ (grp x = b /\ L x) -> grp' x = grp x) :
  HopS many cols sg R grp' W' S k:=by
 have back : ∀ x y,ar many x -> ar many y -> grp' x = grp' y -> grp x = grp y /\ (grp x = b -> (L x ↔ L y)):=fun x y hx hy e => by
  rcases Classical.em (grp x = b /\ L x) with q | q
  ·rcases Classical.em (grp y = b /\ L y) with p | p
   ·exact ⟨q.1.trans p.1.symm,fun _ => ⟨fun _ => p.2,fun _ => q.2⟩⟩
   ·rw [g1 x hx q.1 q.2,g2 y hy p] at e
    exact absurd e.symm (nn y hy)
  ·rcases Classical.em (grp y = b /\ L y) with p | p
   ·rw [g2 x hx q,g1 y hy p.1 p.2] at e
    exact absurd e (nn x hx)
   ·rw [g2 x hx q,g2 y hy p] at e
    exact ⟨e,fun eb => ⟨fun lx => absurd ⟨eb,lx⟩ q,fun ly => absurd ⟨e.symm.trans eb,ly⟩ p⟩⟩
 have wait : ∀ x,ar many x -> W (grp x) -> W' (grp' x):=fun x hx w => by
  rcases Classical.em (grp x = b /\ L x) with q | q
  ·rw [g1 x hx q.1 q.2]
   exact w2 (q.1 ▸ w)
  ·rw [g2 x hx q]
   exact w1 _ w
 refine ⟨fun x y hx hy r => ?_,fun x y hx hy e => h.signs x y hx hy (back x y hx hy e).1,h.whole,fun x y hx hy e j c hj => ?_⟩
 ·have e:=h.coarse x y hx hy r
  rcases Classical.em (grp x = b /\ L x) with q | q
  ·rw [g1 x hx q.1 q.2,g1 y hy (e.symm.trans q.1) (hL x y hx hy r q.2)]
  ·have p : ¬ (grp y = b /\ L y):=fun p => q ⟨e.trans p.1,hL y x hy hx (sym x y r) p.2⟩
   rw [g2 x hx q,g2 y hy p,e]
 ·have cm:=mq_ hj
  have hcx:=hc x hx c cm
  have hcy:=hc y hy c cm
  rcases h.cong x y hx hy (back x y hx hy e).1 j c hj with z | z | z | z
  ·rcases Classical.em (grp (c x) = b /\ L (c x)) with q | q
   ·rcases Classical.em (grp (c y) = b /\ L (c y)) with p | p
    ·exact .inl (by rw [g1 _ hcx q.1 q.2,g1 _ hcy p.1 p.2])
    ·have ex:=g1 _ hcx q.1 q.2
     have ey:=g2 _ hcy p
     rcases w3 with a | a
     ·exact .inr (.inl (by rw [ex]; exact a))
     ·exact .inr (.inr (.inl (by rw [ey,<- z,q.1]; exact a)))
   ·rcases Classical.em (grp (c y) = b /\ L (c y)) with p | p
    ·have ex:=g2 _ hcx q
     have ey:=g1 _ hcy p.1 p.2
     rcases w3 with a | a
     ·exact .inr (.inr (.inl (by rw [ey]; exact a)))
     ·exact .inr (.inl (by rw [ex,z,p.1]; exact a))
    ·exact .inl (by rw [g2 _ hcx q,g2 _ hcy p,z])
  ·exact .inr (.inl (wait _ hcx z))
  ·exact .inr (.inr (.inl (wait _ hcy z)))
  ·exact .inr (.inr (.inr z))
theorem HopS.next (h : HopS many cols sg R grp W S k) {c : Int -> Int} (hk : cols[k]? = some c) (hn : ∀ x y,ar many x -> ar many y -> grp x = grp y -> S (c x) -> S (c y)) : HopS many cols sg R grp W S (k + 1) where
 coarse:=h.coarse
 signs:=h.signs
 whole:=h.whole
 cong:=fun x y hx hy e j c' hj => by
  rcases h.cong x y hx hy e j c' hj with z | z | z | ⟨kj,z⟩
  ·exact .inl z
  ·exact .inr (.inl z)
  ·exact .inr (.inr (.inl z))
  ·rcases Nat.lt_or_ge k j with l | l
   ·exact .inr (.inr (.inr ⟨l,z⟩))
   ·have ej : j = k:=by omega
    subst ej
    rw [hk] at hj
    cases hj
    rcases z with ⟨a,b⟩ | ⟨a,b⟩
    ·exact absurd (hn x y hx hy e a) b
    ·exact absurd (hn y x hy hx e.symm a) b
theorem Hop.stable (h : Hop many cols sg R grp W) (hw : ∀ x,ar many x -> ¬ W (grp x)) (hc : ∀ x,ar many x -> ∀ c ∈ cols,ar many (c x)) : ∀ x y,ar many x -> ar many y -> grp x = grp y -> ∀ c ∈ cols,grp (c x) = grp (c y):=fun x y hx hy e c cm => by
 rcases h.cong x y hx hy e c cm with z | z | z
 ·exact z
 ·exact absurd z (hw _ (hc x hx c cm))
 ·exact absurd z (hw _ (hc y hy c cm))
theorem Hop.single (inj : ∀ x y,ar many x -> ar many y -> grp x = grp y -> x = y) : ∀ x y,ar many x -> ar many y -> grp x = grp y -> ∀ c ∈ cols,grp (c x) = grp (c y):=fun x y hx hy e c _ => by rw [inj x y hx hy e]
end
theorem Hop.start {many : Nat} {cols : List (Int -> Int)} {sg : Int -> Int} {R : Int -> Int -> Prop} (l : Likes many cols sg R) {grp : Int -> Int} {W : Int -> Prop} (hg : ∀ x y,ar many x -> ar many y -> (grp x = grp y ↔ sg x = sg y)) (hw : ∀ x,ar many x -> W (grp x)) (hc : ∀ x,ar many x -> ∀ c ∈ cols,ar many (c x)) : Hop many cols sg R grp W where
 coarse:=fun x y hx hy r => (hg x y hx hy).mpr (l.sgn x y r)
 signs:=fun x y hx hy e => (hg x y hx hy).mp e
 cong:=fun x y hx hy _ c cm => .inr (.inl (hw _ (hc x hx c cm)))
theorem eY : ∀ {xs ys : LI},xs.Nodup -> (∀ x ∈ xs,x ∈ ys) -> xs.length <= ys.length
 | [],_,_,_ => Nat.zero_le _
 | x :: xs,ys,nd,h => by
  have n:=List.nodup_cons.mp nd
  have m:=h x List.mem_cons_self
  have i:=eY (xs:=xs) (ys:=ys.erase x) n.2 fun y hy => by
   have e : y ≠ x:=fun z => n.1 (z ▸ hy)
   exact (List.mem_erase_of_ne e).mpr (h y (List.mem_cons_of_mem _ hy))
  rw [List.length_erase_of_mem m] at i
  have:=List.length_pos_of_mem m
  rw [List.length_cons]
  omega
theorem zB {xs ys : LI} (nd : xs.Nodup) (h : ∀ x ∈ xs,x ∈ ys) (l : ys.length <= xs.length) : ∀ y ∈ ys,y ∈ xs:=fun y hy => Classical.byContradiction fun z => by
 have:=eY (xs:=y :: xs) (ys:=ys) (List.nodup_cons.mpr ⟨z,nd⟩) fun q hq => by
  rcases List.mem_cons.mp hq with r | r
  ·rw [r]; exact hy
  ·exact h q r
 rw [List.length_cons] at this
 omega
theorem yC {n : Int} : ∀ {done gs : LI} {x : Nat},x < gs.length -> (∀ q ∈ done,0 <= q) -> (setG gs done n).getD x 0 = if (x : Int) ∈ done then n else gs.getD x 0
 | [],gs,x,_,_ => by rw [if_neg (by simp)]; rfl
 | q :: r,gs,x,hx,h => by
  have ih:=yC (gs:=gs.set q.toNat n) (n:=n) (done:=r) (x:=x) (by rw [List.length_set]; exact hx) fun p hp => h p (List.mem_cons_of_mem _ hp)
  show (setG (gs.set q.toNat n) r n).getD x 0 = _
  rw [ih]
  have q0:=h q List.mem_cons_self
  by_cases c : (x : Int) ∈ r
  ·rw [if_pos c,if_pos (List.mem_cons_of_mem _ c)]
  ·rw [if_neg c]
   by_cases d : (x : Int) = q
   ·rw [if_pos (by rw [d]; exact List.mem_cons_self)]
    have e : q.toNat = x:=by omega
    rw [e,List.getD_eq_getElem?_getD,List.getElem?_set_self hx]
    rfl
   ·rw [if_neg (fun z => (List.mem_cons.mp z).elim d c)]
    have e : q.toNat ≠ x:=by omega
    rw [List.getD_eq_getElem?_getD,List.getElem?_set_ne e,List.getD_eq_getElem?_getD]
def aQ (gs : LI) (q : Int) : Int:=gs.getD q.toNat 0
theorem yD {gs ins : LI} {n q : Int} (h0 : 0 <= q) (h1 : q < (gs.length : Int)) (hi : ∀ p ∈ ins,0 <= p) : aQ (setG gs ins n) q = if q ∈ ins then n else aQ gs q:=by
 have h:=yC (n:=n) (done:=ins) (gs:=gs) (x:=q.toNat) (by omega) hi
 rw [Int.toNat_of_nonneg h0] at h
 exact h
structure PtS (H : Hp) (C x go ms wt iw : Addr) (many : Nat) (gs : LI) (ds : List Addr) (ws : LI) : Prop where
 pt : PtAt H C x go ms wt iw
 go_ : H go = some (.lst (gs.map V.int))
 ms_ : H ms = some (.lst (ds.map V.ref))
 wt_ : H wt = some (.lst (ws.map V.int))
 iw_ : H iw = some (.dK (kvT ws))
 lg : gs.length = many
 val : ∀ q,ar many q -> 0 <= aQ gs q /\ aQ gs q < (ds.length : Int)
 mem : ∀ (i : Nat) (da : Addr),ds[i]? = some da -> ∃ mem : LI,H da = some (.dK (kvT mem)) /\ mem.Nodup /\ mem ≠ [] /\ ∀ q,q ∈ mem ↔ ar many q /\ aQ gs q = (i : Int)
 dn : ds.Nodup
 ndi : iw ∉ ds
 n1 : go ≠ ms
 n2 : go ≠ wt
 n3 : ms ≠ wt
 wn : ws.Nodup
 wv : ∀ g ∈ ws,0 <= g /\ g < (ds.length : Int)
section
variable {H H' : Hp} {C x go ms wt iw : Addr} {many : Nat} {gs ws : LI} {ds : List Addr}
theorem PtS.at_ (h : PtS H C x go ms wt iw many gs ds ws) {d : Addr} (hd : d ∈ ds) : ∃ mem : LI,H d = some (.dK (kvT mem)):=by
 obtain ⟨i,hi⟩:=List.mem_iff_getElem?.mp hd
 obtain ⟨mem,h1,_⟩:=h.mem i d hi
 exact ⟨mem,h1⟩
theorem PtS.same (h : PtS H C x go ms wt iw many gs ds ws) (s : Same H H') : PtS H' C x go ms wt iw many gs ds ws:=
 ⟨h.pt.same s,s _ _ h.go_,s _ _ h.ms_,s _ _ h.wt_,s _ _ h.iw_,h.lg,h.val,fun i da hi => by
  obtain ⟨mem,h1,h2⟩:=h.mem i da hi
  exact ⟨mem,s _ _ h1,h2⟩,h.dn,h.ndi,h.n1,h.n2,h.n3,h.wn,h.wv⟩
theorem PtS.few (h : PtS H C x go ms wt iw many gs ds ws) : ds.length <= many:=by
 have t:=eY (xs:=(List.range ds.length).map fun i : Nat => (i : Int)) (ys:=gs) (List.pairwise_map.mpr (List.nodup_range.imp fun {a b} n z => n (by
  have z' : (a : Int) = (b : Int):=z
  omega))) (fun g hg => by
  obtain ⟨i,hi,rfl⟩:=List.mem_map.mp hg
  have il:=List.mem_range.mp hi
  obtain ⟨mem,_,_,ne,iff⟩:=h.mem i _ (List.getElem?_eq_getElem il)
  obtain ⟨q,r,rfl⟩:=List.exists_cons_of_ne_nil ne
  obtain ⟨⟨q0,q1⟩,e⟩:=(iff q).mp List.mem_cons_self
  have l : q.toNat < gs.length:=by rw [h.lg]; omega
  unfold aQ at e
  rw [getD_at l] at e
  rw [<- e]
  exact List.getElem_mem l)
 rw [lm_,List.length_range,h.lg] at t
 exact t
theorem PtS.wfew (h : PtS H C x go ms wt iw many gs ds ws) : ws.length <= ds.length:=bP ds.length h.wn h.wv
theorem PtS.split {da E : Addr} {mem ins : LI} {g nw : Int} (h : PtS H C x go ms wt iw many gs ds ws) (g0 : 0 <= g) (hda0 : ds[g.toNat]? = some da) (hda : H da = some (.dK (kvT mem))) (hm : ∀ q,q ∈ mem ↔ ar many q /\ aQ gs q = g) (nm : mem.Nodup)
  (ndi : ins.Nodup) (hin : ∀ q ∈ ins,q ∈ mem) (hne : ins ≠ []) (lt : ins.length < mem.length) (fE : H E = none) (hE : H' E = some (.dK (kvT ins))) (hms : H' ms = some (.lst ((ds ++ [E]).map V.ref))) (hd' : H' da = some (.dK (kvT (outF mem ins))))
  (hgo : H' go = some (.lst ((setG gs ins (ds.length : Int)).map V.int))) (hwt : H' wt = some (.lst ((ws ++ [nw]).map V.int))) (hiw : H' iw = some (.dK (kvT (if nw ∈ ws then ws else ws ++ [nw])))) (hnw : nw ∉ ws) (nwv : nw = (ds.length : Int) \/ nw = g)
  (kp : ∀ c u,c ≠ go -> c ≠ ms -> c ≠ da -> c ≠ wt -> c ≠ iw -> H c = some u -> H' c = some u) : PtS H' C x go ms wt iw many (setG gs ins (ds.length : Int)) (ds ++ [E]) (ws ++ [nw]):=by
 have gl : g.toNat < ds.length:=(gi_ hda0).1
 have ip : ∀ p ∈ ins,0 <= p:=fun p hp => ((hm p).mp (hin p hp)).1.1
 have gr : ∀ q,ar many q -> aQ (setG gs ins (ds.length : Int)) q = if q ∈ ins then (ds.length : Int) else aQ gs q:=fun q hq => yD hq.1 (by rw [h.lg]; exact hq.2) ip
 have eE : E ∉ ds:=fun z => by
  obtain ⟨m,hm⟩:=h.at_ z
  rw [fE] at hm
  cases hm
 obtain ⟨dx,hx⟩:=h.pt.ob
 refine ⟨⟨dx,kp _ _ (aA hx h.go_ (by intro z; cases z)) (aA hx h.ms_ (by intro z; cases z)) (aA hx hda (by intro z; cases z)) (aA hx h.wt_ (by intro z; cases z)) (aA hx h.iw_ (by intro z; cases z)) hx⟩,hgo,hms,hwt,by rw [if_neg hnw] at hiw; exact hiw,by rw [yE]; exact h.lg,fun q hq => ?_,fun i d hi => ?_,?_,?_,h.n1,h.n2,h.n3,nF h.wn hnw,fun p hp => ?_⟩
 ·rw [gr q hq,List.length_append,List.length_singleton]
  have v:=h.val q hq
  split <;> omega
 ·rcases snoc_cases hi with hi | ⟨rfl,rfl⟩
  ·have il:=(gi_ hi).1
   by_cases c : d = da
   ·subst c
    have ei : i = g.toNat:=by
     have e1:=(gi_ hi).2
     have e2:=(gi_ hda0).2
     exact (List.getElem_inj h.dn).mp (e1.trans e2.symm)
    refine ⟨outF mem ins,hd',nm.filter _,fun z => ?_,fun q => ?_⟩
    ·have all : ∀ q ∈ mem,q ∈ ins:=fun q hq => Classical.byContradiction fun n => by
      have : q ∈ outF mem ins:=List.mem_filter.mpr ⟨hq,decide_eq_true n⟩
      rw [z] at this
      cases this
     have:=eY nm all
     omega
    ·unfold outF
     rw [List.mem_filter,hm,ei,Int.toNat_of_nonneg g0]
     constructor
     ·rintro ⟨⟨h1,h2⟩,h3⟩
      exact ⟨h1,by rw [gr q h1,if_neg (of_decide_eq_true h3)]; exact h2⟩
     ·rintro ⟨h1,h2⟩
      rw [gr q h1] at h2
      by_cases n : q ∈ ins
      ·rw [if_pos n] at h2
       omega
      ·rw [if_neg n] at h2
       exact ⟨⟨h1,h2⟩,decide_eq_true n⟩
   ·obtain ⟨m2,h1,h2,h3,h4⟩:=h.mem i d hi
    refine ⟨m2,kp _ _ (aA h1 h.go_ (by intro z; cases z)) (aA h1 h.ms_ (by intro z; cases z)) c (aA h1 h.wt_ (by intro z; cases z)) (fun z => h.ndi (z ▸ mq_ hi)) h1,h2,h3,fun q => ?_⟩
    have ni : (i : Int) ≠ g:=fun z => by
     have e : i = g.toNat:=by omega
     rw [e,hda0] at hi
     exact c (Option.some.inj hi).symm
    rw [h4]
    refine and_congr_right fun hq => ?_
    rw [gr q hq]
    by_cases n : q ∈ ins
    ·have e:=((hm q).mp (hin q n)).2
     rw [if_pos n,e]
     constructor <;> intro z <;> omega
    ·rw [if_neg n]
  ·refine ⟨ins,hE,ndi,hne,fun q => ?_⟩
   constructor
   ·intro hq
    have r:=((hm q).mp (hin q hq)).1
    exact ⟨r,by rw [gr q r,if_pos hq]⟩
   ·rintro ⟨hq,e⟩
    rw [gr q hq] at e
    by_cases n : q ∈ ins
    ·exact n
    ·rw [if_neg n] at e
     have:=h.val q hq
     omega
 ·refine List.nodup_append.mpr ⟨h.dn,List.nodup_cons.mpr ⟨by simp,List.nodup_nil⟩,fun a ha b hb => ?_⟩
  rw [List.mem_singleton.mp hb]
  exact fun z => eE (z ▸ ha)
 ·intro z
  rcases ma_.mp z with z | z
  ·exact h.ndi z
  ·have e:=List.mem_singleton.mp z
   rw [<- e,h.iw_] at fE
   cases fE
 ·rw [List.length_append,List.length_singleton]
  rcases ma_.mp hp with z | z
  ·have:=h.wv p z
   omega
  ·rw [List.mem_singleton.mp z]
   rcases nwv with e | e <;> omega
end
def Es (many : Nat) (L gs : LI) (n : Nat) (ws gs' ws' : LI) : Prop := ∃ b nw : Int,ws' = ws ++ [nw] /\ (nw = (n : Int) \/ nw = b) /\ (b ∈ ws -> nw = (n : Int)) /\ (∀ q,ar many q -> aQ gs q = b -> q ∈ L -> aQ gs' q = (n : Int)) /\ (∀ q,ar many q -> ¬ (aQ gs q = b /\ q ∈ L) -> aQ gs' q = aQ gs q)
def tH (C : Addr) : Sp:=fun vs H Q _ => ∃ (x go ms wt iw ll : Addr) (many : Nat) (gs ws L : LI) (ds : List Addr) (J : LI -> Nat -> LI -> Prop),vs = [.ref x,.ref ll] /\ PtS H C x go ms wt iw many gs ds ws /\ many < 1000 /\ H ll = some (.lst (L.map V.int)) /\ (ll ≠ go /\ ll ≠ ms /\ ll ≠ wt) /\ L.Nodup /\ (∀ q ∈ L,ar many q) /\ J gs ds.length ws /\
 (∀ gs n ws gs' ws',J gs n ws -> (∀ q,ar many q -> 0 <= aQ gs q /\ aQ gs q < (n : Int)) -> Es many L gs n ws gs' ws' -> J gs' (n + 1) ws') /\
 ∀ (H' : Hp) (gs' ws' : LI) (more : List Addr),PtS H' C x go ms wt iw many gs' (ds ++ more) ws' -> J gs' (ds ++ more).length ws' -> (∀ a b,ar many a -> ar many b -> aQ gs' a = aQ gs' b -> a ∈ L -> b ∈ L) -> (∀ d ∈ more,H d = none) -> (∀ c u,c ≠ go -> c ≠ ms -> c ≠ wt -> c ≠ iw -> c ∉ ds -> H c = some u -> H' c = some u) -> Q .non H'
section
variable {P : Program} {w : World} {K : PySem.W.Frag} {mg : Str -> Option Value} {base : Heap} {f : Addr} {fd : FuncData} {dV : Value} {C : Addr}
theorem sc_Parted_part_by : FnScope ["self","leading","touched","here","group","inside"] ["self","leading"] (aj bS):=⟨rfl,rfl,rfl,by decide +kernel,rfl,by decide +kernel,by decide +kernel⟩
theorem BW (F : FunD K "part_by" "Parted.part_by" bS dV f fd) (pc : PCls K C) (iU : DefMe P w K mg base C "split_off" 2 ["self","group","inside"] (xp K C)) (bB : mg "len" = none) : FnOk P w K mg base CX0 3 f fd ["self","leading"] (tH C):=by
 refine F.ok sc_Parted_part_by (fun vs H Q E h => ?_) (fun cdv A outer s H vs Q E hr h => ?_)
 ·obtain ⟨x,go,ms,wt,iw,ll,many,gs,ws,L,ds,J,rfl,_⟩:=h
  rfl
 obtain ⟨x,go,ms,wt,iw,ll,many,gs,ws,L,ds,J,rfl,S,n1000,hll,⟨l1,l2,l3⟩,ndL,hL,j0,jst,k⟩:=h
 have hu:=jI hr
 obtain ⟨dx,hx⟩:=S.pt.ob
 have fewL : L.length <= many:=bP many ndL hL
 have fewD:=S.few
 refine ⟨_,(ah (ax (i:=2) sc_Parted_part_by.nd rfl (Or.inl rfl) ki)
   (ah (bN PassesOwn.never rfl (cb (pv 1)) (ay (i:=3) sc_Parted_part_by.nd rfl (Or.inl rfl)) (au (a7 (eC PySem.F.plainAttrs_list PySem.F.slot_list_append PySem.F.type_list_append ba (wU (pv 2) (aW b9 (cF (pv 0) rfl) (pv 3) (fun _ _ => rfl)) (bI af) ⟨rfl,rfl,rfl,rfl⟩) (aa (pv 3) af)))))
   (au (bN PassesOwn.never rfl (DP (zR PySem.F.plainAttrs_dict PySem.F.slot_dict_items PySem.F.type_dict_items Dc (pv 2))) (pG rfl (bJ (ay (i:=4) sc_Parted_part_by.nd rfl (Or.inl rfl)) (bJ (ay (i:=5) sc_Parted_part_by.nd rfl (Or.inl rfl)) jB))) (au (cL (a8 AR (aR aU (by rfl) bB cw (aa (pv 5) af)) (aR ko (by rfl) bB cw (aa (aW b9 (cF (pv 0) rfl) (pv 4) (fun _ _ => rfl)) af)) (bh _)) (au (a7 (vA iU hr (pv 0) (aa (pv 4) (aa (pv 5) af))))) bx)))))),?_⟩
 refine fun B hB => ?_
 have s0:=ak hB (HO.dK [])
 try dsimp only [bt,eG]
 refine dX (t:=tN _ _ _) (fun σ' H' => ∃ (es : List (Int × Addr)) (v : OV),σ' = [some (.ref x),some (.ref ll),some (.ref B),v,none,none] /\ Same H H' /\ BackOk H H' B es (fun q ls => ls = L.filter fun h => decide (aQ gs h = q)) /\ ∀ e ∈ es,∃ h ∈ L,aQ gs h = e.1) ?_ (fun D' nxt => ?_)
 rotate_left
 ·have b0 : BackOk H (upd H B (.dK [])) B [] (fun q ls => ls = (L.take 0).filter fun h => decide (aQ gs h = q)):=⟨ab,List.Pairwise.nil,List.Pairwise.nil,(fun e h => by cases h),(fun e h => by cases h),fun q _ => rfl⟩
  refine ⟨_,rfl,ll,rfl,⟨_,qL_ (s0 _ _ hll)⟩,?_⟩
  refine cP (K:=K) (xs:=L.map V.int) (fun i σ' H' => ∃ (es : List (Int × Addr)) (v : OV),σ' = [some (.ref x),some (.ref ll),some (.ref B),v,none,none] /\ Same H H' /\ BackOk H H' B es (fun q ls => ls = (L.take i).filter fun h => decide (aQ gs h = q)) /\ ∀ e ∈ es,∃ h ∈ L,aQ gs h = e.1) ⟨[],none,rfl,s0,b0,fun e h => by cases h⟩ (fun i σ' H' _ ⟨_,_,_,e,_⟩ => qL_ (e _ _ hll)) ?_ ?_
  ·rintro i y σ' H2 hi ⟨es,v,rfl,s2,b2,kr⟩
   obtain ⟨h,rfl,hh⟩:=br hi
   have hm:=mq_ hh
   have il:=(gi_ hh).1
   have hin:=hL h hm
   have gv:=S.val h hin
   have at' : atI (gs.map V.int) h = some (.int (aQ gs h)):=bU hin.1 (by rw [S.lg]; exact hin.2)
   refine ⟨_,rfl,B,rfl,.inl ⟨_,.inl b2.at_⟩,_,rfl,x,C,dx,_,_,rfl,s2 _ _ hx,pc.cl,pc.ng,rfl,_,rfl,go,_,_,_,rfl,rfl,qL_ (s2 _ _ S.go_),at',(by show 0 <= sizeLine; decide),fun La hLa => ?_⟩
   have sL:=ak hLa (HO.lst [])
   have b3:=b2.same sL
   have nL : ∀ e ∈ es,e.2 ≠ La:=fun e he z => by
    obtain ⟨ls,h1,_⟩:=b2.lst e he
    rw [z,hLa] at h1
    cases h1
   have nLB : B ≠ La:=ao b2.at_ hLa
   have fL : H La = none:=s2.free hLa
   have few:=bP ds.length b3.nd (fun q hq => by
    obtain ⟨e,he,rfl⟩:=List.mem_map.mp hq
    obtain ⟨p,hp,ep⟩:=kr e he
    rw [<- ep]
    exact S.val p (hL p hp))
   rw [lm_] at few
   have len : (kvL es).length < sizeLine:=aw (by unfold kvL; rw [lm_]; omega)
   have et : L.take (i + 1) = L.take i ++ [h]:=by rw [List.take_add_one,hh]; rfl
   have oth : ∀ (p : Int) (ls : LI),p ≠ aQ gs h -> (ls = (L.take i).filter fun h => decide (aQ gs h = p)) -> ls = (L.take (i + 1)).filter fun h => decide (aQ gs h = p):=fun p ls np z => by
    rw [et,List.filter_append,List.filter_cons_of_neg (by rw [decide_eq_false (Ne.symm np)]; decide),List.filter_nil,List.append_nil]
    exact z
   have grow : ∀ ls : LI,(ls = (L.take i).filter fun q => decide (aQ gs q = aQ gs h)) -> ls ++ [h] = (L.take (i + 1)).filter fun q => decide (aQ gs q = aQ gs h):=fun ls z => by
    have e1 : [h].filter (fun q => decide (aQ gs q = aQ gs h)) = [h]:=by simp
    rw [et,List.filter_append,e1,z]
   refine ⟨_,Sum.inl (aQ gs h),b3.at_,rfl,len,fun v hv => ?_,fun hn => ?_⟩
   ·obtain ⟨la,ls,rfl,hme,hla,hp⟩:=b3.get hv
    have pl : ls.length <= i:=by
     rw [hp]
     exact Nat.le_trans (List.length_filter_le _ _) (by rw [List.length_take]; omega)
    have lz : (ls.map V.int).length < sizeLine:=aw (by rw [lm_]; omega)
    refine ⟨.inl ⟨rfl,_,qL_ hla⟩,_,rfl,la,_,_,rfl,rfl,hla,lz,?_⟩
    exact ⟨es,_,rfl,av (s2.trans sL) (b2.fresh _ hme),b3.old hme hla (grow ls hp) oth,kr⟩
   ·have hq : aQ gs h ∉ es.map Prod.fst:=fun z => by
     obtain ⟨e,he,ee⟩:=List.mem_map.mp z
     obtain ⟨jj,hjj⟩:=List.mem_iff_getElem?.mp he
     have:=sC b3.nd (q:=e.1) (a:=e.2) hjj
     rw [ee,hn] at this
     cases this
    have hL3 : (upd (upd H2 La (HO.lst [])) B (HO.dK (putK (kvL es) (Sum.inl (aQ gs h)) (V.ref La)))) La = some (.lst []):=by rw [ae (Ne.symm nLB),ab]
    refine ⟨.inl ⟨rfl,_,qL_ hL3⟩,_,rfl,La,_,_,rfl,rfl,hL3,(by show 0 < sizeLine; decide),?_⟩
    refine ⟨es ++ [(aQ gs h,La)],_,rfl,av (av (s2.trans sL) hB) fL,b3.new hq ab fL nL (grow [] (b3.non _ hq)) oth,fun e he => ?_⟩
    rcases ma_.mp he with z | z
    ·exact kr e z
    ·rw [List.mem_singleton.mp z]
     exact ⟨h,hm,rfl⟩
  ·rintro σ' H1 ⟨es,v,rfl,s1,b1,kr⟩
   rw [lm_,List.take_length] at b1
   exact nxt _ _ ⟨es,v,rfl,s1,b1,kr⟩
 rintro σ' H1 ⟨es,v,rfl,s1,b1,kr⟩
 refine ⟨_,rfl,.inr (.inr (.inl ⟨rfl,.inl ⟨_,b1.at_⟩⟩)),B,_,rfl,rfl,b1.at_,fun vw hvw => ?_⟩
 have nBv : B ≠ vw:=ao b1.at_ hvw
 refine ⟨vw,B,kvL es,rfl,ab,by rw [ae nBv]; exact b1.at_,fun o => ?_⟩
 have fvw : H vw = none:=s1.free hvw
 obtain ⟨H2,eH2⟩ : ∃ H2,upd (upd H1 vw (mL vw B)) B (.frz o (.dK (kvL es))) = H2:=⟨_,rfl⟩
 have s2 : Same H H2:=by rw [<- eH2]; exact av (av s1 fvw) hB
 have hB2 : H2 B = some (.frz o (.dK (kvL es))):=by rw [<- eH2,ab]
 have ls2 : ∀ e ∈ es,H2 e.2 = some (.lst ((L.filter fun h => decide (aQ gs h = e.1)).map V.int)):=fun e he => by
  obtain ⟨ls,h1,h2⟩:=b1.lst e he
  rw [<- eH2,ae (aA h1 b1.at_ (by intro z; cases z)),ae (ao h1 hvw),h1,h2]
 rw [eH2]
 have ndk:=b1.nd
 have lk : (kvL es).length = es.length:=by unfold kvL; rw [lm_]
 refine Br (o:=o) (kvs:=kvL es) (fun i σ' H' => ∃ (gs' ws' : LI) (more : List Addr) (v1 v2 v3 : OV),σ' = [some (.ref x),some (.ref ll),some (.ref B),v1,v2,v3] /\ PtS H' C x go ms wt iw many gs' (ds ++ more) ws' /\ J gs' (ds ++ more).length ws' /\ (∀ d ∈ more,H d = none) /\ H' B = some (.frz o (.dK (kvL es))) /\
   (∀ e ∈ es,H' e.2 = some (.lst ((L.filter fun h => decide (aQ gs h = e.1)).map V.int))) /\ (∀ c u,c ≠ go -> c ≠ ms -> c ≠ wt -> c ≠ iw -> c ∉ ds -> H c = some u -> H' c = some u) /\ (∀ q,ar many q -> aQ gs q ∉ (es.take i).map Prod.fst -> aQ gs' q = aQ gs q) /\
   (∀ a b,ar many a -> ar many b -> aQ gs' a = aQ gs' b -> aQ gs a = aQ gs b /\ (aQ gs a ∈ (es.take i).map Prod.fst -> (a ∈ L ↔ b ∈ L))))
  ⟨gs,ws,[],v,none,none,rfl,by rw [List.append_nil]; exact S.same s2,by rw [List.append_nil]; exact j0,(fun d hd => by cases hd),hB2,ls2,(fun c u _ _ _ _ _ e => s2 _ _ e),(fun _ _ _ => rfl),fun a b _ _ e => ⟨e,fun z => by rw [List.take_zero] at z; cases z⟩⟩
  (fun i σ' H' _ ⟨_,_,_,_,_,_,_,_,_,_,e,_⟩ => e) ?_ ?_
 ·rintro i p σ' H3 T hi ⟨gs',ws',more,v1,v2,v3,rfl,S3,j3,fm,hB3,ls3,kp3,ga,gb⟩ hT
  obtain ⟨e,he,rfl⟩ : ∃ e,es[i]? = some e /\ p = (Sum.inl e.1,V.ref e.2):=by
   unfold kvL at hi
   rw [List.getElem?_map] at hi
   obtain ⟨e,h1,h2⟩:=Option.map_eq_some_iff.mp hi
   exact ⟨e,h1,h2.symm⟩
  obtain ⟨b,il⟩:=e
  have hme:=mq_ he
  have ilt : i < es.length:=(gi_ he).1
  have sT:=ak hT (HO.tup [V.int b,V.ref il])
  refine ⟨T,_,rfl,qT_ ab,rfl,_,_,rfl,_,_,rfl,rfl,?_⟩
  obtain ⟨H4,eH4⟩ : ∃ H4,upd H3 T (HO.tup [V.int b,V.ref il]) = H4:=⟨_,rfl⟩
  have sT' : Same H3 H4:=by rw [<- eH4]; exact sT
  have eH4' : upd H3 T (HO.tup [kV (Sum.inl b),V.ref il]) = H4:=eH4
  try rw [eH4]
  try rw [eH4']
  have S4:=S3.same sT'
  obtain ⟨dx4,hx4⟩:=S4.pt.ob
  obtain ⟨h0,h0m,e0⟩:=kr _ hme
  have bv:=S.val h0 (hL h0 h0m)
  rw [e0] at bv
  have bl : b.toNat < ds.length:=by omega
  have hda0 : (ds ++ more)[b.toNat]? = some ds[b.toNat]:=by rw [List.getElem?_append_left bl,List.getElem?_eq_getElem bl]
  obtain ⟨da,eda⟩ : ∃ da,ds[b.toNat] = da:=⟨_,rfl⟩
  rw [eda] at hda0
  obtain ⟨mem,hda,ndm,nem,hm⟩:=S4.mem b.toNat da hda0
  rw [Int.toNat_of_nonneg bv.1] at hm
  have at' : atI ((ds ++ more).map V.ref) b = some (.ref da):=jQ bv.1 hda0
  have hil4:=sT' _ _ (ls3 _ hme)
  obtain ⟨ins,eins⟩ : ∃ ins,(L.filter fun h => decide (aQ gs h = b)) = ins:=⟨_,rfl⟩
  have hil : H4 il = some (.lst (ins.map V.int)):=by rw [<- eins]; exact hil4
  have insm : ∀ q,q ∈ ins ↔ q ∈ L /\ aQ gs q = b:=fun q => by
   rw [<- eins,List.mem_filter]
   exact and_congr_right fun _ => ⟨of_decide_eq_true,decide_eq_true⟩
  have notyet : b ∉ (es.take i).map Prod.fst:=fun z => by
   obtain ⟨e,h1,h2⟩:=List.mem_map.mp z
   obtain ⟨j,hj,ej⟩:=List.getElem_of_mem h1
   rw [List.length_take] at hj
   rw [List.getElem_take] at ej
   have e2:=(gi_ he).2
   have : (es.map Prod.fst)[j]'(by rw [lm_]; omega) = (es.map Prod.fst)[i]'(by rw [lm_]; omega):=by
    rw [List.getElem_map,List.getElem_map,ej,e2]
    exact h2
   have:=(List.getElem_inj ndk).mp this
   omega
  have insub : ∀ q ∈ ins,q ∈ mem:=fun q hq => by
   have h1:=(insm q).mp hq
   refine (hm q).mpr ⟨hL q h1.1,?_⟩
   rw [ga q (hL q h1.1) (by rw [h1.2]; exact notyet),h1.2]
  have ndins : ins.Nodup:=by rw [<- eins]; exact ndL.filter _
  have neins : ins ≠ []:=fun z => by
   have:=(insm h0).mpr ⟨h0m,e0⟩
   rw [z] at this
   cases this
  have etk : (es.take (i + 1)).map Prod.fst = (es.take i).map Prod.fst ++ [b]:=by rw [List.take_add_one,he,List.map_append]; rfl
  have lkm : (kvT mem).length = mem.length:=by unfold kvT; rw [lm_]
  have ngo:=S4.go_
  have nms:=S4.ms_
  have nwt:=S4.wt_
  have fil : H il = none:=b1.fresh _ hme
  have g1 : go ≠ il:=fun z => by rw [<- z,S.go_] at fil; cases fil
  have g2 : ms ≠ il:=fun z => by rw [<- z,S.ms_] at fil; cases fil
  have g3 : wt ≠ il:=fun z => by rw [<- z,S.wt_] at fil; cases fil
  have fewN:=S4.few
  have fewW:=S4.wfew
  have fewM : mem.length <= many:=bP many ndm fun q hq => ((hm q).mp hq).1
  have fewI : ins.length <= mem.length:=eY ndins insub
  refine ⟨_,rfl,il,_,rfl,.inl (qL_ hil),_,rfl,x,C,dx4,_,_,rfl,hx4,pc.cl,pc.nm,rfl,_,rfl,ms,_,_,_,rfl,rfl,qL_ nms,at',da,_,rfl,hda,_,_,rfl,rfl,_,rfl,um (fun c => ?_) (fun c => ?_)⟩
  ·rw [lm_,lkm] at c
   have lt : ins.length < mem.length:=by omega
   have dsn : (ds ++ more).length < 1000:=by omega
   refine ⟨_,rfl,x,dx4,_,rfl,hx4,rfl,_,rfl,_,rfl,x,go,ms,wt,iw,da,il,b,gs',ws',ws',mem,ins,ds ++ more,rfl,⟨dx4,hx4⟩,ngo,nms,nwt,S4.iw_,S4.wn,⟨by omega,by omega,dsn,by omega⟩,bv.1,hda0,hda,hil,ndins,fun q hq => ?_,⟨S4.n1,S4.n2,g1,S4.n3,g2,g3,fun z => S4.ndi (z ▸ mq_ hda0)⟩,fun E nw H5 fE hE hms5 hda5 hgo5 hwt5 hiw5 hy hn kp5 => ?_⟩
   ·have h1:=(hm q).mp (insub q hq)
    exact ⟨insub q hq,h1.1.1,by rw [S4.lg]; exact h1.1.2⟩
   ·have nwv : nw = ((ds ++ more).length : Int) \/ nw = b:=by
     by_cases z : b ∈ ws' \/ ins.length <= (outF mem ins).length
     ·exact .inl (hy z)
     ·exact .inr (hn z)
    have nww : nw ∉ ws' := fun z => by
     by_cases y : b ∈ ws' \/ ins.length <= (outF mem ins).length
     ·have:=S4.wv nw z
      rw [hy y] at this
      omega
     ·rw [hn y] at z
      exact y (.inl z)
    have S5:=S4.split bv.1 hda0 hda hm ndm ndins insub neins lt fE hE hms5 hda5 hgo5 hwt5 hiw5 nww nwv kp5
    have ip : ∀ p ∈ ins,0 <= p:=fun p hp => ((hm p).mp (insub p hp)).1.1
    have gr : ∀ q,ar many q -> aQ (setG gs' ins ((ds ++ more).length : Int)) q = if q ∈ ins then ((ds ++ more).length : Int) else aQ gs' q:=fun q hq => yD hq.1 (by rw [S4.lg]; exact hq.2) ip
    have gh0 : aQ gs' h0 = b:=by rw [ga h0 (hL h0 h0m) (by rw [e0]; exact notyet),e0]
    have inb : ∀ q,ar many q -> (q ∈ ins ↔ aQ gs' q = b /\ q ∈ L):=fun q hq =>
     ⟨fun z => ⟨((hm q).mp (insub q z)).2,((insm q).mp z).1⟩,fun z => (insm q).mpr ⟨z.2,by
      rw [(gb q h0 hq (hL h0 h0m) (z.1.trans gh0.symm)).1]
      exact e0⟩⟩
    have fE0 : H E = none:=by
     cases e : H E with
     | none => rfl
     | some u =>
      have:=sT' _ _ (kp3 E u (fun z => by rw [z,ngo] at fE; cases fE) (fun z => by rw [z,nms] at fE; cases fE) (fun z => by rw [z,nwt] at fE; cases fE) (fun z => by rw [z,S4.iw_] at fE; cases fE) (fun z => by
       obtain ⟨m,hm⟩:=S4.at_ (List.mem_append_left _ z)
       rw [fE] at hm
       cases hm) e)
      rw [fE] at this
      cases this
    have hB4:=sT' _ _ hB3
    have dam : da ∈ ds:=eda ▸ List.getElem_mem bl
    refine ⟨setG gs' ins ((ds ++ more).length : Int),ws' ++ [nw],more ++ [E],_,_,_,rfl,by rw [<- List.append_assoc]; exact S5,?_,fun d hd => ?_,kp5 _ _ (aA hB4 ngo (by intro z; cases z)) (aA hB4 nms (by intro z; cases z)) (aA hB4 hda (by intro z; cases z)) (aA hB4 nwt (by intro z; cases z)) (aA hB4 S4.iw_ (by intro z; cases z)) hB4,fun e he => ?_,fun c u c1 c2 c3 c4 c5 e => kp5 c u c1 c2 (fun z => c5 (z ▸ dam)) c3 c4 (sT' _ _ (kp3 c u c1 c2 c3 c4 c5 e)),fun q hq nq => ?_,fun a c ha hc e => ?_⟩
    ·have el : (ds ++ (more ++ [E])).length = (ds ++ more).length + 1:=by simp only [List.length_append,List.length_singleton]; omega
     rw [el]
     exact jst gs' _ ws' _ _ j3 S4.val ⟨b,nw,rfl,nwv,fun z => hy (.inl z),fun q hq e hl => by rw [gr q hq,if_pos ((inb q hq).mpr ⟨e,hl⟩)],fun q hq n => by rw [gr q hq,if_neg fun z => n ((inb q hq).mp z)]⟩
    ·rcases ma_.mp hd with z | z
     ·exact fm d z
     ·rw [List.mem_singleton.mp z]; exact fE0
    ·have fe:=b1.fresh e he
     have he4:=sT' _ _ (ls3 e he)
     exact kp5 _ _ (fun z => by rw [z,S.go_] at fe; cases fe) (fun z => by rw [z,S.ms_] at fe; cases fe) (aA he4 hda (by intro z; cases z)) (fun z => by rw [z,S.wt_] at fe; cases fe) (aA he4 S4.iw_ (by intro z; cases z)) he4
    ·rw [etk] at nq
     rw [gr q hq,if_neg fun z => nq (List.mem_append_right _ (by rw [((insm q).mp z).2]; exact List.mem_cons_self))]
     exact ga q hq fun z => nq (List.mem_append_left _ z)
    ·rw [gr a ha,gr c hc] at e
     by_cases ai : a ∈ ins
     ·by_cases ci : c ∈ ins
      ·have h1:=(insm a).mp ai
       have h2:=(insm c).mp ci
       exact ⟨h1.2.trans h2.2.symm,fun _ => ⟨fun _ => h2.1,fun _ => h1.1⟩⟩
      ·rw [if_pos ai,if_neg ci] at e
       have:=S4.val c hc
       omega
     ·by_cases ci : c ∈ ins
      ·rw [if_neg ai,if_pos ci] at e
       have:=S4.val a ha
       omega
      ·rw [if_neg ai,if_neg ci] at e
       have g:=gb a c ha hc e
       refine ⟨g.1,fun z => ?_⟩
       rw [etk] at z
       rcases ma_.mp z with z | z
       ·exact g.2 z
       ·have za:=List.mem_singleton.mp z
        exact ⟨fun h => absurd ((insm a).mpr ⟨h,za⟩) ai,fun h => absurd ((insm c).mpr ⟨h,g.1.symm.trans za⟩) ci⟩
  ·rw [lm_,lkm] at c
   have all:=zB ndins insub (by omega)
   refine ⟨gs',ws',more,_,_,_,rfl,S4,j3,fm,sT' _ _ hB3,(fun e he => sT' _ _ (ls3 e he)),(fun c u c1 c2 c3 c4 c5 e => sT' _ _ (kp3 c u c1 c2 c3 c4 c5 e)),fun q hq nq => ?_,fun a c ha hc e => ?_⟩
   ·rw [etk] at nq
    exact ga q hq fun z => nq (List.mem_append_left _ z)
   ·have g:=gb a c ha hc e
    refine ⟨g.1,fun z => ?_⟩
    rw [etk] at z
    rcases ma_.mp z with z | z
    ·exact g.2 z
    ·have za:=List.mem_singleton.mp z
     have inL : ∀ q,ar many q -> aQ gs q = b -> q ∈ L:=fun q hq eq => ((insm q).mp (all q ((hm q).mpr ⟨hq,by rw [ga q hq (by rw [eq]; exact notyet),eq]⟩))).1
     exact ⟨fun _ => inL c hc (g.1.symm.trans za),fun _ => inL a ha za⟩
 ·rintro σ' H' ⟨gs',ws',more,v1,v2,v3,rfl,S3,j3,fm,hB3,ls3,kp3,ga,gb⟩
  rw [lk,List.take_length] at gb
  refine k H' gs' ws' more S3 j3 (fun a b ha hb e hm => ?_) fm kp3
  have g:=gb a b ha hb e
  refine (g.2 (Classical.byContradiction fun z => ?_)).mp hm
  have:=b1.non _ z
  have h2 : a ∈ L.filter fun h => decide (aQ gs h = aQ gs a):=List.mem_filter.mpr ⟨hm,decide_eq_true rfl⟩
  rw [<- this] at h2
  cases h2
end
def Reach (wide : Nat) (rows : LL) (q : Int) : Prop := ∃ row : LI,(∀ f ∈ row,0 <= f /\ f < (wide : Int)) /\ aG rows row 0 = q
theorem Reach.zero {wide : Nat} {rows : LL} : Reach wide rows 0:=⟨[],(fun f h => by cases h),rfl⟩
theorem Reach.step {wide : Nat} {rows : LL} {q f : Int} (h : Reach wide rows q) (f0 : 0 <= f) (f1 : f < (wide : Int)) : Reach wide rows (stepI rows q f):=by
 obtain ⟨row,hr,rfl⟩:=h
 refine ⟨row ++ [f],fun g hg => ?_,by rw [bE]; rfl⟩
 rcases ma_.mp hg with z | z
 ·exact hr g z
 ·rw [List.mem_singleton.mp z]; exact ⟨f0,f1⟩
theorem Reach.of {wide : Nat} {rows : LL} {S : Int -> Prop} (h0 : S 0) (hs : ∀ q,S q -> ∀ f,0 <= f -> f < (wide : Int) -> S (stepI rows q f)) {q : Int} (h : Reach wide rows q) : S q:=by
 obtain ⟨row,hr,rfl⟩:=h
 have go : ∀ (row : LI) (p : Int),(∀ f ∈ row,0 <= f /\ f < (wide : Int)) -> S p -> S (aG rows row p):=by
  intro row
  induction row with
  | nil => intro p _ hp; exact hp
  | cons f r ih => intro p hr hp; exact ih (stepI rows p f) (fun g hg => hr g (List.mem_cons_of_mem _ hg)) (hs p hp f (hr f List.mem_cons_self).1 (hr f List.mem_cons_self).2)
 exact go row 0 hr h0
def cq (s : LI) (x : Int) : LI:=if x ∈ s then s else s ++ [x]
def de (rows : LL) (s : LI) (q : Int) : LI:=(rows.getD q.toNat []).foldl cq s
theorem DW {s : LI} {x y : Int} (h : y ∈ s) : y ∈ cq s x:=by
 unfold cq
 split
 ·exact h
 ·exact List.mem_append_left _ h
theorem DV (s : LI) (x : Int) : x ∈ cq s x:=by
 unfold cq
 split
 ·assumption
 ·exact List.mem_append_right _ List.mem_cons_self
theorem my : ∀ (xs : LI) {s : LI} {y : Int},y ∈ s -> y ∈ xs.foldl cq s
 | [],_,_,h => h
 | x :: xs,_,_,h => my xs (DW h)
theorem sX : ∀ (xs : LI) {s : LI} {y : Int},y ∈ xs -> y ∈ xs.foldl cq s
 | [],_,_,h => by cases h
 | x :: xs,s,y,h => by
  rcases List.mem_cons.mp h with rfl | h
  ·exact my xs (DV s y)
  ·exact sX xs h
theorem ku (rows : LL) : ∀ (qs : LI) {s : LI} {y : Int},y ∈ s -> y ∈ qs.foldl (de rows) s
 | [],_,_,h => h
 | q :: qs,_,_,h => ku rows qs (my _ h)
theorem iE (rows : LL) : ∀ (qs : LI) {s : LI} {q y : Int},q ∈ qs -> y ∈ rows.getD q.toNat [] -> y ∈ qs.foldl (de rows) s
 | [],_,_,_,h,_ => by cases h
 | p :: qs,s,q,y,h,hy => by
  rcases List.mem_cons.mp h with rfl | h
  ·exact ku rows qs (sX _ hy)
  ·exact iE rows qs h hy
structure Bfs (many wide : Nat) (rows : LL) (qs : LI) : Prop where
 eq : qs = qs.foldl (de rows) [0]
 nd : qs.Nodup
 inr : ∀ q ∈ qs,0 <= q /\ q < (many : Int)
 re : ∀ q,q ∈ qs ↔ Reach wide rows q
def pV (K : PySem.W.Frag) : Sp:=fun vs H Q _ => ∃ (m r g : Addr) (many wide : Nat) (rows : LL) (signs : LI),vs = [.ref m,.int 0] /\ MachAt H m r g wide rows signs /\ RowsOk many wide rows /\ (1 <= many /\ many <= 1000) /\
 ∀ (l : Addr) (H' : Hp) (qs : LI),Same H H' -> H' l = some (.lst (qs.map V.int)) -> Bfs many wide rows qs -> Q (.ref l) H'
structure Found (many wide : Nat) (rows : LL) (dn ks : LI) : Prop where
 eq : ks = dn.foldl (de rows) [0]
 nd : ks.Nodup
 inr : ∀ q ∈ ks,0 <= q /\ q < (many : Int)
 re : ∀ q ∈ ks,Reach wide rows q
structure Part (many wide : Nat) (rows : LL) (dn : LI) (xs : LI) (ks : LI) : Prop where
 eq : ks = xs.foldl cq (dn.foldl (de rows) [0])
 nd : ks.Nodup
 inr : ∀ q ∈ ks,0 <= q /\ q < (many : Int)
 re : ∀ q ∈ ks,Reach wide rows q
theorem Part.put {many wide : Nat} {rows : LL} {dn xs ks : LI} {q : Int} (F : Part many wide rows dn xs ks) (h : q ∉ ks) (q0 : 0 <= q) (q1 : q < (many : Int)) (r : Reach wide rows q) : Part many wide rows dn (xs ++ [q]) (ks ++ [q]) where
 eq:=by
  rw [List.foldl_append,<- F.eq]
  show _ = cq ks q
  unfold cq
  rw [if_neg h]
 nd:=List.nodup_append.mpr ⟨F.nd,by simp,fun a ha b hb e => h (by rw [<- List.mem_singleton.mp hb,<- e]; exact ha)⟩
 inr:=fun p hp => by
  rcases ma_.mp hp with z | z
  ·exact F.inr p z
  ·rw [List.mem_singleton.mp z]; exact ⟨q0,q1⟩
 re:=fun p hp => by
  rcases ma_.mp hp with z | z
  ·exact F.re p z
  ·rw [List.mem_singleton.mp z]; exact r
theorem Part.old {many wide : Nat} {rows : LL} {dn xs ks : LI} {q : Int} (F : Part many wide rows dn xs ks) (h : q ∈ ks) : Part many wide rows dn (xs ++ [q]) ks where
 eq:=by
  rw [List.foldl_append,<- F.eq]
  show _ = cq ks q
  unfold cq
  rw [if_pos h]
 nd:=F.nd
 inr:=F.inr
 re:=F.re
section
variable {P : Program} {w : World} {K : PySem.W.Frag} {mg : Str -> Option Value} {base : Heap} {f : Addr} {fd : FuncData} {dV : Value}
theorem sc_reached_rooms : FnScope ["machine","start","rows","reached","level","fresh","here","there"] ["machine","start"] (aj b7):=⟨rfl,rfl,rfl,by decide +kernel,rfl,by decide +kernel,by decide +kernel⟩
theorem zL (F : FunD K "reached_rooms" "reached_rooms" b7 dV f fd) (dF : mg "list" = none) : FnOk P w K mg base CX0 1 f fd ["machine","start"] (pV K):=by
 refine F.ok sc_reached_rooms (fun vs H Q E h => ?_) (fun cdv A outer s H vs Q E hr h => ?_)
 ·obtain ⟨m,r,g,many,wide,rows,signs,rfl,_⟩:=h
  rfl
 obtain ⟨m,r,g,many,wide,rows,signs,rfl,M,R,⟨n0,n1⟩,k⟩:=h
 obtain ⟨ras,hr',hA⟩:=M.rows
 have hu:=jI hr
 refine ⟨_,(ah (ax (i:=2) sc_reached_rooms.nd rfl (Or.inl rfl) (aW bA (pv 0) aq (fun _ _ => rfl)))
   (ah (ax (i:=3) sc_reached_rooms.nd rfl (Or.inl rfl) (Fc (yt (pv 1) jJ AV) rfl rfl (by intro z; cases z) (by decide)))
   (ah (ax (i:=4) sc_reached_rooms.nd rfl (Or.inl rfl) (bI (aa (pv 1) af)))
   (ah (iL PassesOwn.never (nY (pv 4) (fun _ => rfl)) (ah (ax (i:=5) sc_reached_rooms.nd rfl (Or.inl rfl) (bI af))
   (ah (bN PassesOwn.never rfl (cb (pv 4)) (ay (i:=6) sc_reached_rooms.nd rfl (Or.inl rfl)) (au (bN PassesOwn.never rfl (mr (aW bA (pv 2) (pv 6) (fun _ _ => rfl))) (ay (i:=7) sc_reached_rooms.nd rfl (Or.inl rfl)) (au (cL (z4 (vz hu (pv 7) (pv 3)) (by with_unfolding_all rfl)) (ah (nX hu (pv 3) (pv 7) jJ rfl)
   (au (a7 (eC PySem.F.plainAttrs_list PySem.F.slot_list_append PySem.F.type_list_append ba (pv 5) (aa (pv 7) af))))) bx)))))
   (au (ax (i:=4) sc_reached_rooms.nd rfl (Or.inl rfl) (pv 5))))))
   (au (aM (aL (rV rfl) (by rfl) dF mT (aa (pv 3) af)))))))),?_⟩
 refine ⟨_,rfl,m,_,_,_,rfl,rfl,qT_ M.tup,rfl,?_⟩
 refine fun D hD => ⟨_,rfl,ab,[(Sum.inl 0,V.bl true)],rfl,by show 1 <= 15; decide,?_⟩
 rw [A4]
 have sD:=ak hD (HO.dK (kvT [0]))
 refine ⟨_,rfl,(by show 1 <= sizeLine; decide),fun W hW => ?_⟩
 have hWD : W ≠ D:=fun z => by rw [z,ab] at hW; cases hW
 have hW0 : H W = none:=by rw [ae hWD] at hW; exact hW
 try dsimp only [bt]
 refine cG (t:=km _ _) (fun σ' H' => ∃ (ks : LI) (W : Addr) (v0 v1 v2 : OV),σ' = [some (.ref m),some (.int 0),some (.ref r),some (.ref D),some (.ref W),v0,v1,v2] /\ Same H H' /\ H' D = some (.dK (kvT ks)) /\ Found many wide rows ks ks) ?_ (fun nxt => ?_)
 rotate_left
 ·refine kG (fun mm σ' H' => ∃ (dn lv : LI) (W : Addr) (v0 v1 v2 : OV),mm = 2 * (many - (dn ++ lv).length) + lv.length /\ σ' = [some (.ref m),some (.int 0),some (.ref r),some (.ref D),some (.ref W),v0,v1,v2] /\ Same H H' /\ H' D = some (.dK (kvT (dn ++ lv))) /\ W ≠ D /\ H' W = some (.lst (lv.map V.int)) /\ Found many wide rows dn (dn ++ lv))
   ⟨_,[],[0],W,none,none,none,rfl,rfl,sD.trans (ak hW _),by rw [ae (Ne.symm hWD),ab]; rfl,hWD,ab,?_⟩ ?_
  ·refine ⟨rfl,by simp,fun q hq => by rw [List.nil_append] at hq; rw [List.mem_singleton.mp hq]; omega,fun q hq => by rw [List.nil_append] at hq; rw [List.mem_singleton.mp hq]; exact Reach.zero⟩
  rintro mm σ' H1 ⟨dn,lv,W,v0,v1,v2,rfl,rfl,s1,hD1,hWD,hW1,FD⟩
  by_cases en : lv = []
  ·subst en
   refine ⟨_,rfl,_,.inl ⟨_,qL_ hW1,rfl⟩,j9 ?_⟩
   rw [List.append_nil] at hD1 FD
   exact nxt _ _ ⟨dn,W,v0,v1,v2,rfl,s1,hD1,FD⟩
  refine ⟨_,rfl,_,.inl ⟨_,qL_ hW1,rfl⟩,?_⟩
  have ne : (!(lv.map V.int).isEmpty) = true:=by
   cases lv with
   | nil => exact absurd rfl en
   | cons x r => rfl
  rw [ne]
  have kl:=bP many FD.nd FD.inr
  have lv1 : 1 <= lv.length:=by
   cases lv with
   | nil => exact absurd rfl en
   | cons x r => exact Nat.succ_le_succ (Nat.zero_le _)
  rw [List.length_append] at kl
  refine wj ⟨fun σ' H' => ∃ m',m' < 2 * (many - (dn ++ lv).length) + lv.length /\ ∃ (dn lv : LI) (W : Addr) (v0 v1 v2 : OV),m' = 2 * (many - (dn ++ lv).length) + lv.length /\ σ' = [some (.ref m),some (.int 0),some (.ref r),some (.ref D),some (.ref W),v0,v1,v2] /\ Same H H' /\ H' D = some (.dK (kvT (dn ++ lv))) /\ W ≠ D /\ H' W = some (.lst (lv.map V.int)) /\ Found many wide rows dn (dn ++ lv),fun σ' H' h => h,?_⟩
  refine ⟨(by show 0 <= sizeLine; decide),fun N hN => ?_⟩
  have hND : N ≠ D:=fun z => by rw [z,hD1] at hN; cases hN
  have hNW : N ≠ W:=fun z => by rw [z,hW1] at hN; cases hN
  have hN0 : H N = none:=s1.free hN
  try dsimp only [bt]
  refine ⟨_,rfl,W,rfl,⟨_,qL_ (by rw [ae (Ne.symm hNW)]; exact hW1)⟩,cP (K:=K) (xs:=lv.map V.int) (fun i σ' H' => ∃ (fr : LI) (v1 v2 : OV),
    σ' = [some (.ref m),some (.int 0),some (.ref r),some (.ref D),some (.ref W),some (.ref N),v1,v2] /\ Same H H' /\ H' D = some (.dK (kvT (dn ++ lv ++ fr))) /\ H' W = some (.lst (lv.map V.int)) /\ H' N = some (.lst (fr.map V.int)) /\ Found many wide rows (dn ++ lv.take i) (dn ++ lv ++ fr))
   ⟨[],v1,v2,rfl,s1.trans (ak hN _),by rw [ae (Ne.symm hND),List.append_nil]; exact hD1,by rw [ae (Ne.symm hNW)]; exact hW1,ab,by rw [List.take_zero,List.append_nil,List.append_nil]; exact FD⟩ (fun i σ' H' _ ⟨_,_,_,_,_,_,e,_⟩ => qL_ e) ?_ ?_⟩
  ·rintro i x σ' H2 hi ⟨fr,v1,v2,rfl,s2,hD2,hW2,hN2,F2⟩
   obtain ⟨here,rfl,hz⟩:=br hi
   have hil : i < lv.length:=(gi_ hz).1
   have hk : here ∈ dn ++ lv ++ fr:=List.mem_append_left _ (List.mem_append_right _ (mq_ hz))
   have hh:=F2.inr here hk
   have hre:=F2.re here hk
   have l1 : here.toNat < rows.length:=by rw [R.len]; omega
   obtain ⟨ra,e1,e2⟩:=hA.get l1
   have lr : rows[here.toNat].length = wide:=R.row _ (List.getElem_mem l1)
   refine ⟨_,rfl,_,rfl,r,_,_,_,rfl,rfl,qT_ (s2 _ _ hr'),jQ hh.1 e1,ra,rfl,⟨_,qT_ (s2 _ _ e2)⟩,AJ (K:=K) (xs:=rows[here.toNat].map V.int) (fun j σ' H' => ∃ (fr : LI) (v : OV),
     σ' = [some (.ref m),some (.int 0),some (.ref r),some (.ref D),some (.ref W),some (.ref N),some (.int here),v] /\ Same H H' /\ H' D = some (.dK (kvT (dn ++ lv ++ fr))) /\ H' W = some (.lst (lv.map V.int)) /\ H' N = some (.lst (fr.map V.int)) /\ Part many wide rows (dn ++ lv.take i) (rows[here.toNat].take j) (dn ++ lv ++ fr))
    ⟨fr,v2,rfl,s2,hD2,hW2,hN2,⟨F2.eq,F2.nd,F2.inr,F2.re⟩⟩ (fun i σ' H' _ ⟨_,_,_,e,_⟩ => qT_ (e _ _ e2)) ?_ ?_⟩
   ·rintro j x σ' H3 hj ⟨fr,v,rfl,s3,hD3,hW3,hN3,F3⟩
    obtain ⟨z,rfl,hz⟩:=br hj
    have hjl : j < rows[here.toNat].length:=(gi_ hz).1
    have zin:=R.val _ (List.getElem_mem l1) z (mq_ hz)
    have kl3:=bP many F3.nd F3.inr
    rw [List.length_append,List.length_append] at kl3
    have stp : stepI rows here (j : Int) = z:=by
     unfold stepI
     rw [getD_at l1,Int.toNat_natCast,getD_at hjl]
     exact (gi_ hz).2
    have tk : rows[here.toNat].take (j + 1) = rows[here.toNat].take j ++ [z]:=by rw [List.take_add_one,hz]; rfl
    refine ⟨_,rfl,_,rfl,D,_,rfl,DGet.k (k:=Sum.inl z) hD3,_,rfl,?_⟩
    rw [rf]
    refine CS (fun c => ?_) (fun c => ?_)
    ·refine ⟨_,rfl,_,rfl,D,_,rfl,DPut.k (k:=Sum.inl z) hD3 (aw (by unfold kvT; rw [lm_,List.length_append,List.length_append]; omega)),?_⟩
     rw [rb c]
     have hN4 : (upd H3 D (HO.dK (kvT (dn ++ lv ++ fr ++ [z])))) N = some (.lst (fr.map V.int)):=by rw [ae hND]; exact hN3
     refine ⟨_,rfl,.inl ⟨rfl,_,qL_ hN4⟩,_,rfl,N,_,_,rfl,rfl,hN4,Nat.lt_of_le_of_lt (show _ <= 2000 by rw [lm_]; omega) (by decide),?_⟩
     have F4:=F3.put c zin.1 zin.2 (by rw [<- stp]; exact hre.step (by omega) (by omega))
     refine ⟨fr ++ [z],_,rfl,av (av s3 hD) hN0,?_,?_,?_,?_⟩
     ·rw [ae (Ne.symm hND),ab,List.append_assoc]
     ·rw [ae (Ne.symm hNW),ae hWD]; exact hW3
     ·rw [ab,List.map_append]; rfl
     ·rw [tk,<- List.append_assoc]; exact F4
    ·refine ⟨fr,_,rfl,s3,hD3,hW3,hN3,?_⟩
     rw [tk]
     exact F3.old c
   ·rintro σ' H3 ⟨fr,v,rfl,s3,hD3,hW3,hN3,F3⟩
    rw [lm_,List.take_length] at F3
    refine ⟨fr,_,_,rfl,s3,hD3,hW3,hN3,⟨?_,F3.nd,F3.inr,F3.re⟩⟩
    have e9 : dn ++ lv.take (i + 1) = (dn ++ lv.take i) ++ [here]:=by rw [List.take_add_one,hz,List.append_assoc]; rfl
    rw [F3.eq,e9,List.foldl_append (l:=dn ++ lv.take i)]
    show _ = de rows _ here
    unfold de
    rw [getD_at l1]
  ·rintro σ' H3 ⟨fr,v1,v2,rfl,s3,hD3,hW3,hN3,F3⟩
   rw [lm_,List.take_length] at F3
   have kl3:=bP many F3.nd F3.inr
   rw [List.length_append,List.length_append] at kl3
   refine ⟨_,rfl,_,?_,dn ++ lv,fr,N,_,_,_,rfl,rfl,s3,hD3,hND,hN3,F3⟩
   rw [List.length_append,List.length_append]
   omega
 rintro σ' H1 ⟨ks,W,v0,v1,v2,rfl,s1,hD1,FD⟩
 refine ⟨_,rfl,D,_,rfl,hD1,fun l hl => ?_⟩
 have e : (kvT ks).map (fun q => kV q.1) = ks.map V.int:=by
  unfold kvT
  rw [List.map_map]
  rfl
 rw [e]
 have z0 : (0 : Int) ∈ ks:=by rw [FD.eq]; exact ku rows ks List.mem_cons_self
 refine k l _ ks (s1.trans (ak hl _)) ab ⟨FD.eq,FD.nd,FD.inr,fun q => ⟨FD.re q,fun h => ?_⟩⟩
 refine Reach.of (S:=fun q => q ∈ ks) z0 (fun p hp f f0 f1 => ?_) h
 have hp' := FD.inr p hp
 have l1 : p.toNat < rows.length:=by rw [R.len]; omega
 have lr : rows[p.toNat].length = wide:=R.row _ (List.getElem_mem l1)
 have hf : f.toNat < rows[p.toNat].length:=by omega
 rw [FD.eq]
 refine iE rows ks hp ?_
 unfold stepI
 rw [getD_at l1,getD_at hf]
 exact List.getElem_mem hf
end
def sgn (signs : LI) (x : Int) : Int:=signs.getD x.toNat 0
def InF (wide : Nat) (v : LI) : Prop := ∀ f ∈ v,0 <= f /\ f < (wide : Int)
def Agree (rows : LL) (wide : Nat) (signs : LI) (n : Nat) (a b : Int) : Prop := ∀ v,InF wide v -> v.length <= n -> sgn signs (aG rows v a) = sgn signs (aG rows v b)
theorem Agree.up {rows : LL} {wide : Nat} {signs : LI} {n : Nat} {a b : Int} (h0 : sgn signs a = sgn signs b) (h : ∀ f : Nat,f < wide -> Agree rows wide signs n (stepI rows a f) (stepI rows b f)) : Agree rows wide signs (n + 1) a b:=by
 intro v h1 h2
 cases v with
 | nil => exact h0
 | cons f v =>
  have hf:=h1 f List.mem_cons_self
  have q:=h f.toNat (by omega) v (fun g hg => h1 g (List.mem_cons_of_mem _ hg)) (by rw [List.length_cons] at h2; omega)
  rw [Int.toNat_of_nonneg hf.1] at q
  exact q
def AllAg (rows : LL) (wide : Nat) (signs : LI) (x y : Int) : Prop := ∀ n,Agree rows wide signs n x y
theorem AllAg.sgn {rows : LL} {wide : Nat} {signs : LI} {x y : Int} (h : AllAg rows wide signs x y) : My.sgn signs x = My.sgn signs y:=h 0 [] (fun f hf => by cases hf) (Nat.le_refl 0)
theorem AllAg.led {rows : LL} {wide : Nat} {signs : LI} {x y : Int} (h : AllAg rows wide signs x y) {f : Nat} (hf : f < wide) : AllAg rows wide signs (stepI rows x f) (stepI rows y f):=fun n v h1 h2 => by
 refine h (n + 1) ((f : Int) :: v) (fun g hg => ?_) (by rw [List.length_cons]; omega)
 rcases List.mem_cons.mp hg with z | z
 ·rw [z]
  exact ⟨by omega,by omega⟩
 ·exact h1 g z
def gM (c : LI) (q : Int) : Int:=c.getD q.toNat 0
structure ColsOk (many wide : Nat) (rows cols : LL) : Prop where
 of : ∀ c ∈ cols,∃ f : Nat,f < wide /\ ∀ q,ar many q -> gM c q = stepI rows q f
 all : ∀ f : Nat,f < wide -> ∃ c ∈ cols,∀ q,ar many q -> gM c q = stepI rows q f
theorem ColsOk.room {many wide : Nat} {rows cols : LL} (C : ColsOk many wide rows cols) (R : RowsOk many wide rows) : ∀ x,ar many x -> ∀ c ∈ cols.map gM,ar many (c x):=fun x hx c hc => by
 obtain ⟨l,hl,rfl⟩:=List.mem_map.mp hc
 obtain ⟨f,hf,e⟩:=C.of l hl
 rw [e x hx]
 exact cR R hx.1 hx.2 (by omega) (by omega)
theorem ColsOk.likes {many wide : Nat} {rows cols : LL} {signs : LI} (C : ColsOk many wide rows cols) (R : RowsOk many wide rows) : Likes many (cols.map gM) (My.sgn signs) (fun x y => ar many x /\ ar many y /\ AllAg rows wide signs x y) where
 sgn:=fun x y h => h.2.2.sgn
 led:=fun x y h c hc => by
  have h1:=C.room R x h.1 c hc
  have h2:=C.room R y h.2.1 c hc
  refine ⟨h1,h2,?_⟩
  obtain ⟨l,hl,rfl⟩:=List.mem_map.mp hc
  obtain ⟨f,hf,e⟩:=C.of l hl
  rw [e x h.1,e y h.2.1]
  exact h.2.2.led hf
theorem AK {many wide : Nat} {rows cols : LL} {signs : LI} {grp : Int -> Int} {W : Int -> Prop} (C : ColsOk many wide rows cols) (R : RowsOk many wide rows)
  (h : Hop many (cols.map gM) (My.sgn signs) (fun x y => ar many x /\ ar many y /\ AllAg rows wide signs x y) grp W) (st : ∀ x y,ar many x -> ar many y -> grp x = grp y -> ∀ c ∈ cols.map gM,grp (c x) = grp (c y)) {x y : Int} (hx : ar many x) (hy : ar many y) :
  grp x = grp y ↔ AllAg rows wide signs x y:=by
 refine ⟨fun e n => ?_,fun a => h.coarse x y hx hy ⟨hx,hy,a⟩⟩
 induction n generalizing x y with
 | zero =>
  intro v _ h2
  have : v = []:=List.eq_nil_of_length_eq_zero (by omega)
  rw [this]
  exact h.signs x y hx hy e
 | succ n ih =>
  refine Agree.up (h.signs x y hx hy e) fun f hf => ?_
  obtain ⟨c,hc,ec⟩:=C.all f hf
  have hm : gM c ∈ cols.map gM:=List.mem_map.mpr ⟨c,hc,rfl⟩
  have q:=st x y hx hy e _ hm
  rw [ec x hx,ec y hy] at q
  exact ih (cR R hx.1 hx.2 (by omega) (by omega)) (cR R hy.1 hy.2 (by omega) (by omega)) q
def aJ : Nat -> LI -> Option Nat
 | m,[] => some m
 | m,t :: r => if t = (m : Int) then aJ (m + 1) r else if t < (m : Int) then aJ m r else none
def aZ : Nat -> Nat -> LL -> Option Nat
 | _,m,[] => some m
 | q,m,r :: rs => if q < m then (aJ m r).bind fun m' => aZ (q + 1) m' rs else none
def InOrder (rows : LL) : Prop:=aZ 0 1 rows = some rows.length
def Tells (wide : Nat) (rows rows' : LL) (signs signs' : LI) (a b : Int) : Prop := ∀ v,InF wide v -> sgn signs (aG rows v a) = sgn signs' (aG rows' v b)
def Apart (wide : Nat) (rows : LL) (signs : LI) : Prop := ∀ a b,ar rows.length a -> ar rows.length b -> AllAg rows wide signs a b -> a = b
section
variable {wide : Nat} {rows rows' : LL} {signs signs' : LI}
theorem Tells.led {a b : Int} (h : Tells wide rows rows' signs signs' a b) {f : Nat} (hf : f < wide) : Tells wide rows rows' signs signs' (stepI rows a f) (stepI rows' b f):=fun v hv =>
 h ((f : Int) :: v) fun g hg => by
  rcases List.mem_cons.mp hg with z | z
  ·rw [z]
   exact ⟨by omega,by omega⟩
  ·exact hv g z
theorem Tells.left {a b c : Int} (h : Tells wide rows rows' signs signs' a c) (h' : Tells wide rows rows' signs signs' b c) : AllAg rows wide signs a b:=fun n v hv _ => (h v hv).trans (h' v hv).symm
theorem Tells.right {a b c : Int} (h : Tells wide rows rows' signs signs' c a) (h' : Tells wide rows rows' signs signs' c b) : AllAg rows' wide signs' a b:=fun n v hv _ => (h v hv).symm.trans (h' v hv)
theorem tj (A : Apart wide rows signs) (A' : Apart wide rows' signs') : ∀ {r r' : LI} {m m1 m2 : Nat},r.length = r'.length -> (∀ i : Nat,i < m -> Tells wide rows rows' signs signs' i i) -> (m <= rows.length /\ m <= rows'.length) ->
  (∀ (j : Nat) (t t' : Int),r[j]? = some t -> r'[j]? = some t' -> ar rows.length t /\ ar rows'.length t' /\ Tells wide rows rows' signs signs' t t') -> aJ m r = some m1 -> aJ m r' = some m2 ->
  r = r' /\ m1 = m2 /\ (∀ i : Nat,i < m1 -> Tells wide rows rows' signs signs' i i) /\ m1 <= rows.length /\ m1 <= rows'.length
 | [],[],m,m1,m2,_,hB,hm,_,h1,h2 => by
  cases h1
  cases h2
  exact ⟨rfl,rfl,hB,hm.1,hm.2⟩
 | [],t' :: r',_,_,_,hl,_,_,_,_,_ => by cases hl
 | t :: r,[],_,_,_,hl,_,_,_,_,_ => by cases hl
 | t :: r,t' :: r',m,m1,m2,hl,hB,hm,hT,h1,h2 => by
  obtain ⟨ht,ht',tt⟩:=hT 0 t t' rfl rfl
  have hl' : r.length = r'.length:=Nat.succ.inj hl
  have hT' : ∀ (j : Nat) (u u' : Int),r[j]? = some u -> r'[j]? = some u' -> ar rows.length u /\ ar rows'.length u' /\ Tells wide rows rows' signs signs' u u' := fun j u u' a b => hT (j + 1) u u' a b
  have low : ∀ {x : Int},0 <= x -> x < (m : Int) -> ∃ i : Nat,i < m /\ x = (i : Int):=fun h0 h1 => ⟨_,by omega,(Int.toNat_of_nonneg h0).symm⟩
  have h1' : (if t = (m : Int) then aJ (m + 1) r else if t < (m : Int) then aJ m r else none) = some m1:=h1
  have h2' : (if t' = (m : Int) then aJ (m + 1) r' else if t' < (m : Int) then aJ m r' else none) = some m2:=h2
  by_cases c : t = (m : Int)
  ·by_cases c' : t' = (m : Int)
   ·rw [if_pos c] at h1'
    rw [if_pos c'] at h2'
    have hB' : ∀ i : Nat,i < m + 1 -> Tells wide rows rows' signs signs' i i:=fun i hi => by
     rcases Nat.lt_or_ge i m with z | z
     ·exact hB i z
     ·have : i = m:=by omega
      rw [this,<- c]
      rw [c'] at tt
      rw [c]
      rw [c] at tt
      exact tt
    obtain ⟨e1,e2⟩:=tj A A' hl' hB' ⟨by have:=ht.2; omega,by have:=ht'.2; omega⟩ hT' h1' h2'
    exact ⟨by rw [c,c',e1],e2⟩
   ·rw [if_neg c'] at h2'
    by_cases d : t' < (m : Int)
    ·obtain ⟨i,hi,rfl⟩:=low ht'.1 d
     have:=A t (i : Int) ht ⟨by omega,by omega⟩ (tt.left (hB i hi))
     omega
    ·rw [if_neg d] at h2'
     cases h2'
  ·rw [if_neg c] at h1'
   by_cases d : t < (m : Int)
   ·rw [if_pos d] at h1'
    obtain ⟨i,hi,rfl⟩:=low ht.1 d
    have e:=A' t' (i : Int) ht' ⟨by omega,by omega⟩ (tt.right (hB i hi))
    subst e
    rw [if_neg (by omega),if_pos d] at h2'
    obtain ⟨e1,e2⟩:=tj A A' hl' hB hm hT' h1' h2'
    exact ⟨by rw [e1],e2⟩
   ·rw [if_neg d] at h1'
    cases h1'
theorem vB (A : Apart wide rows signs) (A' : Apart wide rows' signs') (R : RowsOk rows.length wide rows) (R' : RowsOk rows'.length wide rows') : ∀ {rs rs' : LL} {q m : Nat},rs = rows.drop q -> rs' = rows'.drop q -> q <= rows.length -> q <= rows'.length ->
  (∀ i : Nat,i < m -> Tells wide rows rows' signs signs' i i) -> (m <= rows.length /\ m <= rows'.length) -> aZ q m rs = some rows.length -> aZ q m rs' = some rows'.length -> rs = rs' /\ rows.length = rows'.length /\ ∀ i : Nat,i < rows.length -> Tells wide rows rows' signs signs' i i
 | [],[],q,m,_,_,_,_,hB,_,h1,h2 => by
  have e1 : m = rows.length:=Option.some.inj h1
  have e2 : m = rows'.length:=Option.some.inj h2
  exact ⟨rfl,e1.symm.trans e2,fun i hi => hB i (by omega)⟩
 | [],r' :: rs',q,m,e,_,hq,_,_,_,h1,h2 => by
  have e1 : m = rows.length:=Option.some.inj h1
  have hl : rows.length <= q:=List.drop_eq_nil_iff.mp e.symm
  have h2' : (if q < m then (aJ m r').bind fun m' => aZ (q + 1) m' rs' else none) = some rows'.length:=h2
  rw [if_neg (by omega)] at h2'
  cases h2'
 | r :: rs,[],q,m,_,e,_,hq,_,_,h1,h2 => by
  have e1 : m = rows'.length:=Option.some.inj h2
  have hl : rows'.length <= q:=List.drop_eq_nil_iff.mp e.symm
  have h1' : (if q < m then (aJ m r).bind fun m' => aZ (q + 1) m' rs else none) = some rows.length:=h1
  rw [if_neg (by omega)] at h1'
  cases h1'
 | r :: rs,r' :: rs',q,m,e,e',hq,hq',hB,hm,h1,h2 => by
  have h1' : (if q < m then (aJ m r).bind fun m' => aZ (q + 1) m' rs else none) = some rows.length:=h1
  have h2' : (if q < m then (aJ m r').bind fun m' => aZ (q + 1) m' rs' else none) = some rows'.length:=h2
  by_cases c : q < m
  ·rw [if_pos c] at h1' h2'
   have l1 : q < rows.length:=by omega
   have l2 : q < rows'.length:=by omega
   have d1:=List.drop_eq_getElem_cons l1
   have d2:=List.drop_eq_getElem_cons l2
   rw [d1] at e
   rw [d2] at e'
   injection e with er es
   injection e' with er' es'
   cases o1 : aJ m r with
   | none => rw [o1] at h1'; cases h1'
   | some m1 =>
    cases o2 : aJ m r' with
    | none => rw [o2] at h2'; cases h2'
    | some m2 =>
     rw [o1] at h1'
     rw [o2] at h2'
     have hr:=R.row _ (List.getElem_mem l1)
     have hr' := R'.row _ (List.getElem_mem l2)
     have key : ∀ (j : Nat) (t t' : Int),r[j]? = some t -> r'[j]? = some t' -> ar rows.length t /\ ar rows'.length t' /\ Tells wide rows rows' signs signs' t t' := fun j t t' a b => by
      rw [er] at a
      rw [er'] at b
      have ja:=(gi_ a).1
      have jw : j < wide:=by omega
      have s1 : stepI rows (q : Int) (j : Int) = t:=by
       unfold stepI
       rw [Int.toNat_natCast,Int.toNat_natCast,getD_at l1,List.getD_eq_getElem?_getD,a]
       rfl
      have s2 : stepI rows' (q : Int) (j : Int) = t' := by
       unfold stepI
       rw [Int.toNat_natCast,Int.toNat_natCast,getD_at l2,List.getD_eq_getElem?_getD,b]
       rfl
      refine ⟨R.val _ (List.getElem_mem l1) t (mq_ a),R'.val _ (List.getElem_mem l2) t' (mq_ b),?_⟩
      have:=(hB q c).led jw
      rw [s1,s2] at this
      exact this
     obtain ⟨e1,e2,hB',k1,k2⟩:=tj A A' (by rw [er,er',hr,hr']) hB hm key o1 o2
     subst e2
     obtain ⟨f1,f2,f3⟩:=vB A A' R R' es es' l1 l2 hB' ⟨k1,k2⟩ h1' h2'
     exact ⟨by rw [e1,f1],f2,f3⟩
  ·rw [if_neg c] at h1'
   cases h1'
theorem yX (A : Apart wide rows signs) (A' : Apart wide rows' signs') (R : RowsOk rows.length wide rows) (R' : RowsOk rows'.length wide rows') (n0 : 0 < rows.length) (n1 : 0 < rows'.length) (O : InOrder rows) (O' : InOrder rows') (ls : signs.length = rows.length) (ls' : signs'.length = rows'.length) (h : Tells wide rows rows' signs signs' 0 0) : rows = rows' /\ signs = signs' := by
 obtain ⟨e,el,hB⟩:=vB A A' R R' (rs:=rows) (rs' := rows') (q:=0) (m:=1) rfl rfl (Nat.zero_le _) (Nat.zero_le _) (fun i hi => by
  have : i = 0:=by omega
  rw [this]
  exact h) ⟨n0,n1⟩ O O'
 refine ⟨e,List.ext_getElem (by omega) fun i h1 h2 => ?_⟩
 have q:=hB i (by omega) [] (fun f hf => by cases hf)
 unfold sgn at q
 have q' : signs.getD ((i : Int)).toNat 0 = signs'.getD ((i : Int)).toNat 0:=q
 rw [Int.toNat_natCast,getD_at h1,getD_at h2] at q'
 exact q'
end
def aH (φ : Int -> Int) : Nat -> Nat
 | 0 => 0
 | m + 1 => if φ (m : Int) = (aH φ m : Int) then aH φ m + 1 else aH φ m
def bq (φ : Int -> Int) (n : Nat) : List Nat:=(List.range n).filter fun q => decide (φ (q : Int) = (aH φ q : Int))
def FirstNum (φ : Int -> Int) (n : Nat) : Prop := ∀ q : Nat,q < n -> 0 <= φ (q : Int) /\ φ (q : Int) <= (aH φ q : Int)
section
variable {φ : Int -> Int} {n : Nat}
theorem u9 : ∀ {a b : Nat},a <= b -> aH φ a <= aH φ b:=by
 intro a b h
 induction h with
 | refl => exact Nat.le_refl _
 | @step m _ ih =>
  have e : aH φ (m + 1) = if φ (m : Int) = (aH φ m : Int) then aH φ m + 1 else aH φ m:=rfl
  refine Nat.le_trans ih ?_
  rw [e]
  by_cases c : φ (m : Int) = (aH φ m : Int)
  ·rw [if_pos c]; exact Nat.le_succ _
  ·rw [if_neg c]; exact Nat.le_refl _
theorem FirstNum.lt (h : FirstNum φ n) {t m : Nat} (ht : t < m) (hm : m <= n) : φ (t : Int) < (aH φ m : Int):=by
 have h1:=(h t (by omega)).2
 have h2:=u9 (φ:=φ) (show t + 1 <= m from ht)
 have h3 : aH φ (t + 1) = if φ (t : Int) = (aH φ t : Int) then aH φ t + 1 else aH φ t:=rfl
 by_cases c : φ (t : Int) = (aH φ t : Int)
 ·rw [if_pos c] at h3
  omega
 ·rw [if_neg c] at h3
  omega
theorem gO (φ : Int -> Int) : ∀ n,(bq φ n).length = aH φ n
 | 0 => rfl
 | n + 1 => by
  have ih:=gO φ n
  unfold bq at ih ⊢
  rw [List.range_succ,List.filter_append,List.length_append,ih]
  show _ = if φ (n : Int) = (aH φ n : Int) then aH φ n + 1 else aH φ n
  by_cases c : φ (n : Int) = (aH φ n : Int)
  ·rw [if_pos c,List.filter_cons_of_pos (by exact decide_eq_true c)]
   rfl
  ·rw [if_neg c,List.filter_cons_of_neg (by rw [decide_eq_false c]; decide)]
   rfl
theorem w9 (F : FirstNum φ n) : ∀ {r : LI} {m m1 : Nat},m <= n -> (∀ t ∈ r,ar n t) -> aJ m r = some m1 -> aJ (aH φ m) (r.map φ) = some (aH φ m1) /\ m1 <= n /\ (∀ t ∈ r,t < (m1 : Int)) /\ m <= m1
 | [],m,m1,hm,_,h => by
  cases h
  exact ⟨rfl,hm,fun t ht => (by cases ht),Nat.le_refl _⟩
 | t :: r,m,m1,hm,hr,h => by
  have ht:=hr t List.mem_cons_self
  have hr' : ∀ u ∈ r,ar n u:=fun u hu => hr u (List.mem_cons_of_mem _ hu)
  have h' : (if t = (m : Int) then aJ (m + 1) r else if t < (m : Int) then aJ m r else none) = some m1:=h
  show (if φ t = (aH φ m : Int) then aJ (aH φ m + 1) (r.map φ) else if φ t < (aH φ m : Int) then aJ (aH φ m) (r.map φ) else none) = _ /\ _
  by_cases c : t = (m : Int)
  ·rw [if_pos c] at h'
   have mn : m < n:=by have:=ht.2; omega
   obtain ⟨e1,e2,e3,e4⟩:=w9 F (show m + 1 <= n from mn) hr' h'
   have e5 : ∀ u ∈ t :: r,u < (m1 : Int):=fun u hu => by
    rcases List.mem_cons.mp hu with z | z
    ·rw [z,c]; omega
    ·exact e3 u z
   have es : aH φ (m + 1) = if φ (m : Int) = (aH φ m : Int) then aH φ m + 1 else aH φ m:=rfl
   rw [c]
   by_cases d : φ (m : Int) = (aH φ m : Int)
   ·rw [if_pos d]
    rw [if_pos d] at es
    rw [es] at e1
    rw [c] at e5
    exact ⟨e1,e2,e5,by omega⟩
   ·rw [if_neg d] at es
    rw [if_neg d,if_pos (by have:=(F m mn).2; omega)]
    rw [es] at e1
    rw [c] at e5
    exact ⟨e1,e2,e5,by omega⟩
  ·rw [if_neg c] at h'
   by_cases d : t < (m : Int)
   ·rw [if_pos d] at h'
    obtain ⟨e1,e2,e3,e4⟩:=w9 F hm hr' h'
    have lt : φ t < (aH φ m : Int):=by
     have:=F.lt (t:=t.toNat) (m:=m) (by have:=ht.1; omega) hm
     rw [Int.toNat_of_nonneg ht.1] at this
     exact this
    rw [if_neg (by omega),if_pos lt]
    refine ⟨e1,e2,fun u hu => ?_,e4⟩
    rcases List.mem_cons.mp hu with z | z
    ·rw [z]; omega
    ·exact e3 u z
   ·rw [if_neg d] at h'
    cases h'
theorem w6 (F : FirstNum φ n) : ∀ {r : LI} {m m1 : Nat},m <= n -> (∀ t ∈ r,ar n t /\ φ t < (aH φ m : Int)) -> aJ m r = some m1 -> aH φ m1 = aH φ m /\ m1 <= n /\ (∀ t ∈ r,t < (m1 : Int)) /\ m <= m1
 | [],m,m1,hm,_,h => by
  cases h
  exact ⟨rfl,hm,fun t ht => (by cases ht),Nat.le_refl _⟩
 | t :: r,m,m1,hm,hr,h => by
  have ht:=hr t List.mem_cons_self
  have h' : (if t = (m : Int) then aJ (m + 1) r else if t < (m : Int) then aJ m r else none) = some m1:=h
  by_cases c : t = (m : Int)
  ·rw [if_pos c] at h'
   have mn : m < n:=by have:=ht.1.2; omega
   have es : aH φ (m + 1) = aH φ m:=by
    show (if φ (m : Int) = (aH φ m : Int) then aH φ m + 1 else aH φ m) = _
    rw [if_neg (by have:=ht.2; rw [c] at this; omega)]
   obtain ⟨e1,e2,e3,e4⟩:=w6 F (show m + 1 <= n from mn) (fun u hu => by rw [es]; exact hr u (List.mem_cons_of_mem _ hu)) h'
   refine ⟨e1.trans es,e2,fun u hu => ?_,by omega⟩
   rcases List.mem_cons.mp hu with z | z
   ·rw [z,c]; omega
   ·exact e3 u z
  ·rw [if_neg c] at h'
   by_cases d : t < (m : Int)
   ·rw [if_pos d] at h'
    obtain ⟨e1,e2,e3,e4⟩:=w6 F hm (fun u hu => hr u (List.mem_cons_of_mem _ hu)) h'
    refine ⟨e1,e2,fun u hu => ?_,e4⟩
    rcases List.mem_cons.mp hu with z | z
    ·rw [z]; omega
    ·exact e3 u z
   ·rw [if_neg d] at h'
    cases h'
def cC (φ : Int -> Int) (rows : LL) : Nat -> LL -> LL
 | _,[] => []
 | q,r :: rs => if φ (q : Int) = (aH φ q : Int) then r.map φ :: cC φ rows (q + 1) rs else cC φ rows (q + 1) rs
theorem tf {wide : Nat} {rows : LL} (F : FirstNum φ rows.length) (R : RowsOk rows.length wide rows) (cp : ∀ x y : Nat,x < rows.length -> y < rows.length -> φ (x : Int) = φ (y : Int) -> ∀ f : Nat,f < wide -> φ (stepI rows x f) = φ (stepI rows y f)) :
  ∀ {rs : LL} {q m k : Nat},rs = rows.drop q -> q <= rows.length -> m <= rows.length -> (∀ x : Nat,x < q -> ∀ f : Nat,f < wide -> stepI rows x f < (m : Int)) -> aZ q m rs = some k -> aZ (aH φ q) (aH φ m) (cC φ rows q rs) = some (aH φ k)
 | [],q,m,k,_,_,_,_,h => by
  cases h
  rfl
 | r :: rs,q,m,k,e,hq,hm,old,h => by
  have h' : (if q < m then (aJ m r).bind fun m' => aZ (q + 1) m' rs else none) = some k:=h
  by_cases c : q < m
  ·rw [if_pos c] at h'
   have l1 : q < rows.length:=by omega
   rw [List.drop_eq_getElem_cons l1] at e
   injection e with er es
   cases o1 : aJ m r with
   | none => rw [o1] at h'; cases h'
   | some m1 =>
    rw [o1] at h'
    have hr:=R.row _ (List.getElem_mem l1)
    have hv : ∀ t ∈ r,ar rows.length t:=fun t ht => R.val _ (List.getElem_mem l1) t (er ▸ ht)
    have stp : ∀ f : Nat,f < wide -> stepI rows (q : Int) (f : Int) ∈ r:=fun f hf => by
     have lf : f < rows[q].length:=by omega
     have : stepI rows (q : Int) (f : Int) = rows[q][f]:=by
      unfold stepI
      rw [Int.toNat_natCast,Int.toNat_natCast,getD_at l1,getD_at lf]
     rw [this,er]
     exact List.getElem_mem lf
    have es' : aH φ (q + 1) = if φ (q : Int) = (aH φ q : Int) then aH φ q + 1 else aH φ q:=rfl
    have nxt : ∀ m1 : Nat,(∀ t ∈ r,t < (m1 : Int)) -> m <= m1 -> ∀ x : Nat,x < q + 1 -> ∀ f : Nat,f < wide -> stepI rows x f < (m1 : Int):=fun m1 e3 e4 x hx f hf => by
     rcases Nat.lt_or_ge x q with z | z
     ·have:=old x z f hf
      omega
     ·have : x = q:=by omega
      rw [this]
      exact e3 _ (stp f hf)
    by_cases d : φ (q : Int) = (aH φ q : Int)
    ·obtain ⟨e1,e2,e3,e4⟩:=w9 F hm hv o1
     have ih:=tf F R cp es l1 e2 (nxt m1 e3 e4) h'
     rw [es',if_pos d] at ih
     have lt : aH φ q < aH φ m:=by
      have:=F.lt c hm
      omega
     show aZ _ _ (if φ (q : Int) = (aH φ q : Int) then _ else _) = _
     rw [if_pos d]
     show (if aH φ q < aH φ m then (aJ (aH φ m) (r.map φ)).bind fun m' => aZ (aH φ q + 1) m' (cC φ rows (q + 1) rs) else none) = _
     rw [if_pos lt,e1]
     exact ih
    ·-- room q is like an earlier one
     have hl : φ (q : Int) < (aH φ q : Int):=by
      have:=(F q l1).2
      omega
     obtain ⟨x,hx,ex⟩ : ∃ x : Nat,x < q /\ φ (x : Int) = φ (q : Int):=by
      have : ∀ (b : Nat) (g : Int),0 <= g -> g < (aH φ b : Int) -> ∃ x : Nat,x < b /\ φ (x : Int) = g:=by
       intro b
       induction b with
       | zero => intro g g0 g1; exact absurd g1 (by show ¬ g < ((0 : Nat) : Int); omega)
       | succ b ih =>
        intro g g0 g1
        have eb : aH φ (b + 1) = if φ (b : Int) = (aH φ b : Int) then aH φ b + 1 else aH φ b:=rfl
        by_cases z : g < (aH φ b : Int)
        ·obtain ⟨x,h1,h2⟩:=ih g g0 z
         exact ⟨x,by omega,h2⟩
        ·by_cases y : φ (b : Int) = (aH φ b : Int)
         ·rw [eb,if_pos y] at g1
          exact ⟨b,Nat.lt_succ_self b,by omega⟩
         ·rw [eb,if_neg y] at g1
          exact absurd g1 z
      exact this q _ (F q l1).1 hl
     have hv' : ∀ t ∈ r,ar rows.length t /\ φ t < (aH φ m : Int):=fun t ht => by
      refine ⟨hv t ht,?_⟩
      obtain ⟨f,hf,et⟩:=List.getElem_of_mem (er ▸ ht)
      have fw : f < wide:=by omega
      have st : stepI rows (q : Int) (f : Int) = t:=by
       unfold stepI
       rw [Int.toNat_natCast,Int.toNat_natCast,getD_at l1,getD_at hf,et]
      have c1:=cp x q (by omega) l1 ex f fw
      rw [st] at c1
      rw [<- c1]
      have o:=old x hx f fw
      have rm:=cR R (show (0 : Int) <= (x : Int) by omega) (by omega) (show (0 : Int) <= (f : Int) by omega) (by omega)
      have:=F.lt (t:=(stepI rows x f).toNat) (m:=m) (by omega) hm
      rw [Int.toNat_of_nonneg rm.1] at this
      exact this
     obtain ⟨e1,e2,e3,e4⟩:=w6 F hm hv' o1
     have ih:=tf F R cp es l1 e2 (nxt m1 e3 e4) h'
     rw [es',if_neg d,e1] at ih
     show aZ _ _ (if φ (q : Int) = (aH φ q : Int) then _ else _) = _
     rw [if_neg d]
     exact ih
  ·rw [if_neg c] at h'
   cases h'
end
abbrev dd (s : LI) (v : Int) : LI:=PyProof.Rows.step_dedup s v
theorem iC {s : LI} {v : Int} (h : v ∈ s) : dd s v = s:=by
 unfold dd PyProof.Rows.step_dedup
 simp [h]
theorem eR {s : LI} {v : Int} (h : v ∉ s) : dd s v = s ++ [v]:=by
 unfold dd PyProof.Rows.step_dedup
 simp [h]
theorem oX : ∀ (ys s : LI),∃ zs,ys.foldl dd s = s ++ zs
 | [],s => ⟨[],by simp⟩
 | y :: ys,s => by
  by_cases c : y ∈ s
  ·obtain ⟨zs,e⟩:=oX ys s
   exact ⟨zs,by rw [List.foldl_cons,iC c,e]⟩
  ·obtain ⟨zs,e⟩:=oX ys (s ++ [y])
   exact ⟨y :: zs,by rw [List.foldl_cons,eR c,e,List.append_assoc]; rfl⟩
theorem yo (gs : LI) (m : Nat) : ∃ zs,a9 gs = a9 (gs.take m) ++ zs:=by
 obtain ⟨zs,e⟩:=oX (gs.drop m) (a9 (gs.take m))
 refine ⟨zs,?_⟩
 rw [<- e]
 show gs.foldl dd [] = (gs.drop m).foldl dd ((gs.take m).foldl dd [])
 rw [<- List.foldl_append,List.take_append_drop]
theorem gq {gs : LI} {m : Nat} {g : Int} (h : gs[m]? = some g) : a9 (gs.take (m + 1)) = dd (a9 (gs.take m)) g:=by
 unfold a9
 rw [List.take_add_one,h,List.foldl_append]
 rfl
def phi (gs : LI) (q : Int) : Int:=((a9 gs).idxOf (gs.getD q.toNat 0) : Nat)
theorem EI {xs zs : LI} {g : Int} (h : g ∈ xs) : (xs ++ zs).idxOf g = xs.idxOf g:=by rw [List.idxOf_append,if_pos h]
theorem rq {gs : LI} {m : Nat} {g : Int} (h : gs[m]? = some g) (ho : g ∈ a9 (gs.take m)) : phi gs (m : Int) = ((a9 (gs.take m)).idxOf g : Nat):=by
 obtain ⟨zs,e⟩:=yo gs m
 unfold phi
 rw [Int.toNat_natCast,List.getD_eq_getElem?_getD,h,e]
 show (((a9 (gs.take m) ++ zs).idxOf g : Nat) : Int) = _
 rw [EI ho]
theorem rn {gs : LI} {m : Nat} {g : Int} (h : gs[m]? = some g) (ho : g ∉ a9 (gs.take m)) : phi gs (m : Int) = ((a9 (gs.take m)).length : Nat):=by
 obtain ⟨zs,e⟩:=yo gs (m + 1)
 rw [gq h,eR ho] at e
 unfold phi
 rw [Int.toNat_natCast,List.getD_eq_getElem?_getD,h,e,List.append_assoc]
 show (((a9 (gs.take m) ++ ([g] ++ zs)).idxOf g : Nat) : Int) = _
 rw [List.idxOf_append,if_neg ho]
 simp
theorem vS (gs : LI) : ∀ {m : Nat},m <= gs.length -> aH (phi gs) m = (a9 (gs.take m)).length
 | 0,_ => rfl
 | m + 1,h => by
  have ih:=vS gs (m:=m) (by omega)
  have hg : gs[m]? = some gs[m]:=List.getElem?_eq_getElem (by omega)
  show (if phi gs (m : Int) = (aH (phi gs) m : Int) then aH (phi gs) m + 1 else aH (phi gs) m) = _
  rw [ih,gq hg]
  by_cases c : gs[m] ∈ a9 (gs.take m)
  ·have e:=rq hg c
   have lt:=List.idxOf_lt_length_of_mem c
   rw [iC c,if_neg (by omega)]
  ·have e:=rn hg c
   rw [eR c,if_pos e,List.length_append]
   rfl
theorem Bo (gs : LI) : FirstNum (phi gs) gs.length:=fun q hq => by
 have hg : gs[q]? = some gs[q]:=List.getElem?_eq_getElem hq
 rw [vS gs (by omega)]
 by_cases c : gs[q] ∈ a9 (gs.take q)
 ·have e:=rq hg c
  have lt:=List.idxOf_lt_length_of_mem c
  omega
 ·have e:=rn hg c
  omega
theorem DJ {gs : LI} {x y : Int} (hx : ar gs.length x) (hy : ar gs.length y) : phi gs x = phi gs y ↔ gs.getD x.toNat 0 = gs.getD y.toNat 0:=by
 have mem : ∀ {z : Int},ar gs.length z -> gs.getD z.toNat 0 ∈ a9 gs:=fun {z} hz => by
  have l : z.toNat < gs.length:=by have:=hz.1; have:=hz.2; omega
  rw [getD_at l]
  exact once_mem.mpr (List.getElem_mem l)
 unfold phi
 constructor
 ·intro h
  have h' : (a9 gs).idxOf (gs.getD x.toNat 0) = (a9 gs).idxOf (gs.getD y.toNat 0):=by omega
  have lx:=List.idxOf_lt_length_of_mem (mem hx)
  have ly:=List.idxOf_lt_length_of_mem (mem hy)
  have ex : (a9 gs)[(a9 gs).idxOf (gs.getD x.toNat 0)] = gs.getD x.toNat 0:=List.getElem_idxOf lx
  have ey : (a9 gs)[(a9 gs).idxOf (gs.getD y.toNat 0)] = gs.getD y.toNat 0:=List.getElem_idxOf ly
  rw [<- ex,<- ey]
  congr 1
 ·intro h
  rw [h]
theorem j8 {φ : Int -> Int} : ∀ {b : Nat} {g : Int},0 <= g -> g < (aH φ b : Int) -> ∃ x : Nat,x < b /\ φ (x : Int) = g /\ (aH φ x : Int) = g
 | 0,g,g0,g1 => absurd g1 (by show ¬ g < ((0 : Nat) : Int); omega)
 | b + 1,g,g0,g1 => by
  have eb : aH φ (b + 1) = if φ (b : Int) = (aH φ b : Int) then aH φ b + 1 else aH φ b:=rfl
  by_cases z : g < (aH φ b : Int)
  ·obtain ⟨x,h1,h2⟩:=j8 g0 z
   exact ⟨x,by omega,h2⟩
  ·by_cases y : φ (b : Int) = (aH φ b : Int)
   ·rw [eb,if_pos y] at g1
    exact ⟨b,Nat.lt_succ_self b,by omega,by omega⟩
   ·rw [eb,if_neg y] at g1
    exact absurd g1 z
theorem o5 {φ : Int -> Int} : ∀ {n q : Nat},q < n -> φ (q : Int) = (aH φ q : Int) -> (bq φ n)[aH φ q]? = some q
 | 0,q,h,_ => absurd h (Nat.not_lt_zero _)
 | n + 1,q,h,e => by
  have l:=gO φ n
  unfold bq at l ⊢
  rw [List.range_succ,List.filter_append]
  rcases Nat.lt_or_ge q n with z | z
  ·have ih:=o5 z e
   unfold bq at ih
   rw [List.getElem?_append_left (gi_ ih).1]
   exact ih
  ·have : q = n:=by omega
   subst this
   rw [List.getElem?_append_right (by omega),l,Nat.sub_self,List.filter_cons_of_pos (by exact decide_eq_true e)]
   rfl
theorem sZ {φ : Int -> Int} {rows : LL} : ∀ {rs : LL} {q : Nat},rs = rows.drop q -> q <= rows.length -> cC φ rows q rs = ((List.range' q (rows.length - q)).filter fun i : Nat => decide (φ (i : Int) = (aH φ i : Int))).map fun i => (rows.getD i []).map φ
 | [],q,e,hq => by
  have hl : rows.length <= q:=List.drop_eq_nil_iff.mp e.symm
  rw [show rows.length - q = 0 from by omega]
  rfl
 | r :: rs,q,e,hq => by
  have l1 : q < rows.length:=by
   rcases Nat.lt_or_ge q rows.length with z | z
   ·exact z
   ·rw [List.drop_eq_nil_of_le z] at e
    cases e
  rw [List.drop_eq_getElem_cons l1] at e
  injection e with er es
  have ih:=sZ (φ:=φ) es l1
  rw [show rows.length - q = (rows.length - (q + 1)) + 1 from by omega,List.range'_succ]
  show (if φ (q : Int) = (aH φ q : Int) then r.map φ :: cC φ rows (q + 1) rs else cC φ rows (q + 1) rs) = _
  by_cases c : φ (q : Int) = (aH φ q : Int)
  ·rw [if_pos c,ih,List.filter_cons_of_pos (by exact decide_eq_true c),List.map_cons,getD_at l1,er]
  ·rw [if_neg c,ih,List.filter_cons_of_neg (by rw [decide_eq_false c]; decide)]
theorem n8 {φ : Int -> Int} {rows : LL} : cC φ rows 0 rows = (bq φ rows.length).map fun i => (rows.getD i []).map φ:=by
 have h:=sZ (φ:=φ) (rows:=rows) (rs:=rows) (q:=0) rfl (Nat.zero_le _)
 rw [h]
 unfold bq
 rw [List.range_eq_range',Nat.sub_zero]
structure LeastOf (wide : Nat) (rows rows' : LL) (signs signs' : LI) : Prop where
 ok : RowsOk rows'.length wide rows'
 pos : 0 < rows'.length
 sgn : signs'.length = rows'.length
 ord : InOrder rows'
 apart : Apart wide rows' signs'
 tells : Tells wide rows rows' signs signs' 0 0
section
variable {φ : Int -> Int} {wide : Nat} {rows : LL} {signs : LI}
theorem D4 (F : FirstNum φ rows.length) (R : RowsOk rows.length wide rows) (cp : ∀ x y : Nat,x < rows.length -> y < rows.length -> φ (x : Int) = φ (y : Int) -> ∀ f : Nat,f < wide -> φ (stepI rows x f) = φ (stepI rows y f)) {q : Int} (hq : ar rows.length q) {f : Nat} (hf : f < wide) :
  stepI (cC φ rows 0 rows) (φ q) f = φ (stepI rows q f):=by
 obtain ⟨n,rfl⟩:=gU hq.1
 have hn : n < rows.length:=by have:=hq.2; omega
 have lt:=F.lt hn (Nat.le_refl _)
 obtain ⟨x,hx,e1,e2⟩:=j8 (F n hn).1 lt
 have at' := o5 hx (e1.trans e2.symm)
 have lr : (rows[x]).length = wide:=R.row _ (List.getElem_mem hx)
 have e3 : (cC φ rows 0 rows).getD (φ (n : Int)).toNat [] = (rows[x]).map φ:=by
  rw [n8,<- e2,Int.toNat_natCast,List.getD_eq_getElem?_getD,List.getElem?_map,at']
  show (rows.getD x []).map φ = _
  rw [getD_at hx]
 have e4 : stepI rows (x : Int) (f : Int) = (rows[x])[f]'(by omega):=by
  unfold stepI
  rw [Int.toNat_natCast,Int.toNat_natCast,getD_at hx,getD_at (by omega)]
 rw [<- cp x n hx hn e1 f hf,e4]
 unfold stepI
 rw [e3,Int.toNat_natCast,List.getD_eq_getElem?_getD,List.getElem?_map,List.getElem?_eq_getElem (by omega)]
 rfl
theorem yy (F : FirstNum φ rows.length) (R : RowsOk rows.length wide rows) (cp : ∀ x y : Nat,x < rows.length -> y < rows.length -> φ (x : Int) = φ (y : Int) -> ∀ f : Nat,f < wide -> φ (stepI rows x f) = φ (stepI rows y f)) : ∀ {v : LI} {q : Int},InF wide v -> ar rows.length q -> aG (cC φ rows 0 rows) v (φ q) = φ (aG rows v q)
 | [],q,_,_ => rfl
 | f :: v,q,hv,hq => by
  have hf:=hv f List.mem_cons_self
  obtain ⟨m,rfl⟩:=gU hf.1
  show aG _ v (stepI _ (φ q) (m : Int)) = φ (aG rows v (stepI rows q (m : Int)))
  rw [D4 F R cp hq (by omega)]
  exact yy F R cp (fun g hg => hv g (List.mem_cons_of_mem _ hg)) (cR R hq.1 hq.2 hf.1 hf.2)
theorem C5 (F : FirstNum φ rows.length) (R : RowsOk rows.length wide rows) (O : InOrder rows) (n0 : 0 < rows.length) (al : ∀ x y : Nat,x < rows.length -> y < rows.length -> (φ (x : Int) = φ (y : Int) ↔ AllAg rows wide signs x y)) :
  LeastOf wide rows (cC φ rows 0 rows) signs ((bq φ rows.length).map fun q => signs.getD q 0):=by
 have cp : ∀ x y : Nat,x < rows.length -> y < rows.length -> φ (x : Int) = φ (y : Int) -> ∀ f : Nat,f < wide -> φ (stepI rows x f) = φ (stepI rows y f):=fun x y hx hy e f hf => by
  have a:=((al x y hx hy).mp e).led hf
  have rx:=cR R (show (0 : Int) <= (x : Int) by omega) (by omega) (show (0 : Int) <= (f : Int) by omega) (by omega)
  have ry:=cR R (show (0 : Int) <= (y : Int) by omega) (by omega) (show (0 : Int) <= (f : Int) by omega) (by omega)
  have h:=(al (stepI rows x f).toNat (stepI rows y f).toNat (by omega) (by omega)).mpr (by rw [Int.toNat_of_nonneg rx.1,Int.toNat_of_nonneg ry.1]; exact a)
  rw [Int.toNat_of_nonneg rx.1,Int.toNat_of_nonneg ry.1] at h
  exact h
 have ll : (cC φ rows 0 rows).length = aH φ rows.length:=by rw [n8,lm_,gO]
 have p0 : φ ((0 : Nat) : Int) = ((0 : Nat) : Int):=by
  have h:=F 0 n0
  have e : aH φ 0 = 0:=rfl
  rw [e] at h
  omega
 have c1 : aH φ 1 = 1:=by
  show (if φ ((0 : Nat) : Int) = ((aH φ 0 : Nat) : Int) then aH φ 0 + 1 else aH φ 0) = 1
  rw [if_pos (by rw [p0]; rfl)]
  rfl
 have cpos : 0 < aH φ rows.length:=by
  have:=u9 (φ:=φ) (show 1 <= rows.length from n0)
  omega
 have sg : ∀ {q : Int},ar rows.length q -> sgn ((bq φ rows.length).map fun q => signs.getD q 0) (φ q) = sgn signs q:=fun {q} hq => by
  obtain ⟨n,rfl⟩:=gU hq.1
  have hn : n < rows.length:=by have:=hq.2; omega
  obtain ⟨x,hx,e1,e2⟩:=j8 (F n hn).1 (F.lt hn (Nat.le_refl _))
  have at' := o5 hx (e1.trans e2.symm)
  have a:=((al x n hx hn).mp e1).sgn
  rw [<- a]
  unfold sgn
  rw [<- e2,Int.toNat_natCast,Int.toNat_natCast,List.getD_eq_getElem?_getD,List.getElem?_map,at']
  rfl
 have tl : ∀ {q : Int},ar rows.length q -> Tells wide rows (cC φ rows 0 rows) signs ((bq φ rows.length).map fun q => signs.getD q 0) q (φ q):=fun {q} hq v hv => by
  rw [yy F R cp hv hq,sg (fq R hv hq.1 hq.2)]
 refine ⟨⟨rfl,fun r hr => ?_,fun r hr v hv => ?_⟩,by omega,by rw [lm_,gO,ll],?_,fun a b ha hb hab => ?_,?_⟩
 ·rw [n8] at hr
  obtain ⟨x,hx,rfl⟩:=List.mem_map.mp hr
  have xl:=List.mem_range.mp (List.mem_filter.mp hx).1
  rw [lm_,getD_at xl]
  exact R.row _ (List.getElem_mem xl)
 ·rw [n8] at hr
  obtain ⟨x,hx,rfl⟩:=List.mem_map.mp hr
  have xl:=List.mem_range.mp (List.mem_filter.mp hx).1
  obtain ⟨t,ht,rfl⟩:=List.mem_map.mp hv
  rw [getD_at xl] at ht
  have rt:=R.val _ (List.getElem_mem xl) t ht
  obtain ⟨n,rfl⟩:=gU rt.1
  have hn : n < rows.length:=by omega
  have h1:=(F n hn).1
  have h2:=F.lt hn (Nat.le_refl _)
  rw [ll]
  exact ⟨h1,h2⟩
 ·have h:=tf F R cp (rs:=rows) (q:=0) (m:=1) (k:=rows.length) rfl (Nat.zero_le _) n0 (fun x hx => absurd hx (Nat.not_lt_zero _)) O
  rw [c1] at h
  show aZ 0 1 _ = some _
  rw [ll]
  exact h
 ·rw [ll] at ha hb
  obtain ⟨x,hx,e1,_⟩:=j8 ha.1 ha.2
  obtain ⟨y,hy,e2,_⟩:=j8 hb.1 hb.2
  rw [<- e1,<- e2]
  refine (al x y hx hy).mpr fun n v hv hl => ?_
  rw [tl (q:=(x : Int)) ⟨by omega,by omega⟩ v hv,tl (q:=(y : Int)) ⟨by omega,by omega⟩ v hv,e1,e2]
  exact hab n v hv hl
 ·have h:=tl (q:=0) ⟨by omega,by omega⟩
  have z : φ 0 = 0:=p0
  rw [z] at h
  exact h
end
theorem kD : ∀ (r s : LI),∃ zs,r.foldl cq s = s ++ zs
 | [],s => ⟨[],by simp⟩
 | t :: r,s => by
  by_cases c : t ∈ s
  ·obtain ⟨zs,e⟩:=kD r s
   exact ⟨zs,by rw [List.foldl_cons,show cq s t = s from if_pos c,e]⟩
  ·obtain ⟨zs,e⟩:=kD r (s ++ [t])
   exact ⟨t :: zs,by rw [List.foldl_cons,show cq s t = s ++ [t] from if_neg c,e,List.append_assoc]; rfl⟩
theorem m9 (rows : LL) : ∀ (qs s : LI),∃ zs,qs.foldl (de rows) s = s ++ zs
 | [],s => ⟨[],by simp⟩
 | q :: qs,s => by
  obtain ⟨z1,e1⟩:=kD (rows.getD q.toNat []) s
  obtain ⟨z2,e2⟩:=m9 rows qs (de rows s q)
  refine ⟨z1 ++ z2,?_⟩
  rw [List.foldl_cons,e2]
  show (rows.getD q.toNat []).foldl cq s ++ z2 = _
  rw [e1,List.append_assoc]
def rho (qs : LI) (q : Int) : Int:=((qs.idxOf q : Nat) : Int)
theorem vC {qs : LI} : ∀ {r s zs : LI},qs = r.foldl cq s ++ zs -> aJ s.length (r.map (rho qs)) = some (r.foldl cq s).length
 | [],s,zs,_ => rfl
 | t :: r,s,zs,e => by
  have e' : qs = r.foldl cq (cq s t) ++ zs:=e
  obtain ⟨ys,ey⟩:=kD r (cq s t)
  have ih:=vC e'
  show (if rho qs t = (s.length : Int) then aJ (s.length + 1) (r.map (rho qs)) else if rho qs t < (s.length : Int) then aJ s.length (r.map (rho qs)) else none) = some (r.foldl cq (cq s t)).length
  by_cases c : t ∈ s
  ·have ep : cq s t = s:=if_pos c
   rw [ep] at ih e' ey ⊢
   have ei : qs.idxOf t = s.idxOf t:=by rw [e',ey,List.append_assoc,List.idxOf_append,if_pos c]
   have lt:=List.idxOf_lt_length_of_mem c
   have er : rho qs t = ((s.idxOf t : Nat) : Int):=by unfold rho; rw [ei]
   rw [if_neg (by omega),if_pos (by omega)]
   exact ih
  ·have ep : cq s t = s ++ [t]:=if_neg c
   rw [ep] at ih e' ey ⊢
   have ei : qs.idxOf t = s.length:=by
    rw [e',ey,List.append_assoc,List.append_assoc,List.idxOf_append,if_neg c]
    simp
   have er : rho qs t = (s.length : Int):=by unfold rho; rw [ei]
   rw [if_pos er]
   rw [List.length_append,List.length_singleton] at ih
   exact ih
section
variable {many wide : Nat} {rows : LL} {qs : LI}
theorem tw (R : RowsOk many wide rows) (n0 : 0 < many) (eq : qs = qs.foldl (de rows) [0]) (nd : qs.Nodup) (re : ∀ q ∈ qs,∃ row,InF wide row /\ aG rows row 0 = q) :
  ∀ {ps : LI} {k : Nat},ps = qs.drop k -> k <= qs.length -> aZ k ((qs.take k).foldl (de rows) [0]).length (ps.map fun q => (rows.getD q.toNat []).map (rho qs)) = some qs.length
 | [],k,e,hk => by
  have hl : qs.length <= k:=List.drop_eq_nil_iff.mp e.symm
  show some _ = some _
  rw [List.take_of_length_le hl,<- eq]
 | p :: ps,k,e,hk => by
  have l1 : k < qs.length:=by
   rcases Nat.lt_or_ge k qs.length with z | z
   ·exact z
   ·rw [List.drop_eq_nil_of_le z] at e
    cases e
  have e0:=e
  rw [List.drop_eq_getElem_cons l1] at e
  injection e with ep es
  obtain ⟨s,hs⟩ : ∃ s,(qs.take k).foldl (de rows) [0] = s:=⟨_,rfl⟩
  have all : qs = (p :: ps).foldl (de rows) s:=by
   rw [<- hs,<- List.foldl_append,e0,List.take_append_drop]
   exact eq
  obtain ⟨zs,ez⟩:=m9 rows (p :: ps) s
  rw [<- all] at ez
  have ks : k < s.length:=by
   rcases Nat.lt_or_ge k s.length with z | z
   ·exact z
   ·have sub : ∀ q ∈ s,q ∈ qs.take k:=fun q hq => by
     have : s = qs.take s.length:=by
      have h : (s ++ zs).take s.length = s:=List.take_left' rfl
      rw [<- ez] at h
      exact h.symm
     rw [this] at hq
     exact (List.take_prefix_take_left z).subset hq
    have cl : ∀ q ∈ s,∀ f : Int,0 <= f -> f < (wide : Int) -> ar many q -> stepI rows q f ∈ s:=fun q hq f f0 f1 hr => by
     rw [<- hs]
     refine iE rows (qs.take k) (sub q hq) ?_
     have lq : q.toNat < rows.length:=by have:=R.len; have:=hr.1; have:=hr.2; omega
     have lf : f.toNat < rows[q.toNat].length:=by rw [R.row _ (List.getElem_mem lq)]; omega
     unfold stepI
     rw [getD_at lq,getD_at lf]
     exact List.getElem_mem lf
    have z0 : (0 : Int) ∈ s:=by rw [<- hs]; exact ku rows _ List.mem_cons_self
    have wk : ∀ (row : LI) (q : Int),InF wide row -> ar many q -> q ∈ s -> aG rows row q ∈ s:=fun row => by
     induction row with
     | nil => intro q _ _ h; exact h
     | cons f row ih =>
      intro q hf hr h
      have h0:=hf f List.mem_cons_self
      exact ih _ (fun g hg => hf g (List.mem_cons_of_mem _ hg)) (cR R hr.1 hr.2 h0.1 h0.2) (cl q h f h0.1 h0.2 hr)
    have lq : qs[k] ∈ s:=by
     obtain ⟨row,hf,ew⟩:=re qs[k] (List.getElem_mem l1)
     rw [<- ew]
     exact wk row 0 hf ⟨by omega,by omega⟩ z0
    have ht:=sub _ lq
    obtain ⟨i,hi,ei⟩:=List.getElem_of_mem ht
    rw [List.length_take] at hi
    rw [List.getElem_take] at ei
    have:=(List.getElem_inj nd).mp ei
    omega
  show (if k < ((qs.take k).foldl (de rows) [0]).length then (aJ ((qs.take k).foldl (de rows) [0]).length ((rows.getD p.toNat []).map (rho qs))).bind fun m' => aZ (k + 1) m' (ps.map fun q => (rows.getD q.toNat []).map (rho qs)) else none) = _
  rw [hs,if_pos ks]
  obtain ⟨ys,ey⟩:=m9 rows ps (de rows s p)
  have all2 : qs = (rows.getD p.toNat []).foldl cq s ++ ys:=by
   rw [all]
   exact ey
  rw [vC all2]
  have ih:=tw R n0 eq nd re es l1
  have et : (qs.take (k + 1)).foldl (de rows) [0] = de rows s p:=by
   rw [List.take_add_one,List.getElem?_eq_getElem l1,List.foldl_append,hs,<- ep]
   rfl
  rw [et] at ih
  exact ih
theorem Ad (R : RowsOk many wide rows) (inr : ∀ q ∈ qs,ar many q) {q : Int} (hq : q ∈ qs) {f : Nat} (hf : f < wide) : stepI (qs.map fun q => (rows.getD q.toNat []).map (rho qs)) (rho qs q) f = rho qs (stepI rows q f):=by
 have li:=List.idxOf_lt_length_of_mem hq
 have hr:=inr q hq
 have lq : q.toNat < rows.length:=by have:=R.len; have:=hr.1; have:=hr.2; omega
 have lf : f < rows[q.toNat].length:=by rw [R.row _ (List.getElem_mem lq)]; exact hf
 have ei : qs[qs.idxOf q]? = some q:=by rw [List.getElem?_eq_getElem li,List.getElem_idxOf li]
 have e3 : (qs.map fun q => (rows.getD q.toNat []).map (rho qs)).getD (rho qs q).toNat [] = (rows[q.toNat]).map (rho qs):=by
  unfold rho
  rw [Int.toNat_natCast,List.getD_eq_getElem?_getD,List.getElem?_map,ei]
  show (rows.getD q.toNat []).map _ = _
  rw [getD_at lq]
 unfold stepI
 rw [e3,Int.toNat_natCast,getD_at lq,getD_at lf,List.getD_eq_getElem?_getD,List.getElem?_map,List.getElem?_eq_getElem lf]
 rfl
theorem Ef (R : RowsOk many wide rows) (eq : qs = qs.foldl (de rows) [0]) (inr : ∀ q ∈ qs,ar many q) {q f : Int} (hq : q ∈ qs) (f0 : 0 <= f) (f1 : f < (wide : Int)) : stepI rows q f ∈ qs:=by
 rw [eq]
 refine iE rows qs hq ?_
 have hr:=inr q hq
 have lq : q.toNat < rows.length:=by have:=R.len; have:=hr.1; have:=hr.2; omega
 have lf : f.toNat < rows[q.toNat].length:=by rw [R.row _ (List.getElem_mem lq)]; omega
 unfold stepI
 rw [getD_at lq,getD_at lf]
 exact List.getElem_mem lf
theorem tD (R : RowsOk many wide rows) (eq : qs = qs.foldl (de rows) [0]) (inr : ∀ q ∈ qs,ar many q) : ∀ {v : LI} {q : Int},InF wide v -> q ∈ qs -> aG (qs.map fun q => (rows.getD q.toNat []).map (rho qs)) v (rho qs q) = rho qs (aG rows v q) /\ aG rows v q ∈ qs
 | [],q,_,hq => ⟨rfl,hq⟩
 | f :: v,q,hv,hq => by
  have hf:=hv f List.mem_cons_self
  obtain ⟨m,rfl⟩:=gU hf.1
  have hs:=Ef R eq inr hq hf.1 hf.2
  have ih:=tD R eq inr (fun g hg => hv g (List.mem_cons_of_mem _ hg)) hs
  have st:=Ad R inr hq (f:=m) (by omega)
  show aG _ v (stepI _ (rho qs q) (m : Int)) = rho qs (aG rows v (stepI rows q (m : Int))) /\ aG rows v (stepI rows q (m : Int)) ∈ qs
  rw [st]
  exact ih
theorem yG {signs : LI} (R : RowsOk many wide rows) (n0 : 0 < many) (eq : qs = qs.foldl (de rows) [0]) (nd : qs.Nodup) (inr : ∀ q ∈ qs,ar many q) (re : ∀ q ∈ qs,∃ row,InF wide row /\ aG rows row 0 = q) :
  RowsOk qs.length wide (qs.map fun q => (rows.getD q.toNat []).map (rho qs)) /\ InOrder (qs.map fun q => (rows.getD q.toNat []).map (rho qs)) /\ 0 < qs.length /\ Tells wide rows (qs.map fun q => (rows.getD q.toNat []).map (rho qs)) signs (qs.map fun q => signs.getD q.toNat 0) 0 0:=by
 obtain ⟨zs,ez⟩:=m9 rows qs [0]
 rw [<- eq] at ez
 have z0 : (0 : Int) ∈ qs:=by rw [ez]; exact List.mem_cons_self
 have r0 : rho qs 0 = 0:=by
  unfold rho
  rw [ez]
  simp
 refine ⟨⟨List.length_map _,fun r hr => ?_,fun r hr v hv => ?_⟩,?_,List.length_pos_of_mem z0,fun v hv => ?_⟩
 ·obtain ⟨q,hq,rfl⟩:=List.mem_map.mp hr
  have h:=inr q hq
  have lq : q.toNat < rows.length:=by have:=R.len; have:=h.1; have:=h.2; omega
  rw [lm_,getD_at lq]
  exact R.row _ (List.getElem_mem lq)
 ·obtain ⟨q,hq,rfl⟩:=List.mem_map.mp hr
  have h:=inr q hq
  have lq : q.toNat < rows.length:=by have:=R.len; have:=h.1; have:=h.2; omega
  obtain ⟨t,ht,rfl⟩:=List.mem_map.mp hv
  have tm : t ∈ qs:=by rw [eq]; exact iE rows qs hq ht
  have:=List.idxOf_lt_length_of_mem tm
  unfold rho
  omega
 ·have h:=tw R n0 eq nd re (ps:=qs) (k:=0) rfl (Nat.zero_le _)
  show aZ 0 1 _ = some _
  rw [lm_]
  exact h
 ·have h:=tD R eq inr hv z0
  rw [r0] at h
  rw [h.1]
  obtain ⟨w,ew⟩ : ∃ w,aG rows v 0 = w:=⟨_,rfl⟩
  have hw:=h.2
  rw [ew] at hw ⊢
  have li:=List.idxOf_lt_length_of_mem hw
  unfold sgn rho
  rw [Int.toNat_natCast,List.getD_eq_getElem?_getD (l:=qs.map _),List.getElem?_map,List.getElem?_eq_getElem li,List.getElem_idxOf li]
  rfl
end
theorem Tells.trans {wide : Nat} {r1 r2 r3 : LL} {s1 s2 s3 : LI} {a b c : Int} (h : Tells wide r1 r2 s1 s2 a b) (h' : Tells wide r2 r3 s2 s3 b c) : Tells wide r1 r3 s1 s3 a c:=fun v hv => (h v hv).trans (h' v hv)
theorem Tells.symm {wide : Nat} {r1 r2 : LL} {s1 s2 : LI} {a b : Int} (h : Tells wide r1 r2 s1 s2 a b) : Tells wide r2 r1 s2 s1 b a:=fun v hv => (h v hv).symm
theorem LeastOf.of {wide : Nat} {rows rs rows' : LL} {signs ss signs' : LI} (h : LeastOf wide rs rows' ss signs') (t : Tells wide rows rs signs ss 0 0) : LeastOf wide rows rows' signs signs' :=
 ⟨h.ok,h.pos,h.sgn,h.ord,h.apart,t.trans h.tells⟩
theorem LeastOf.one {wide : Nat} {r1 r2 a b : LL} {s1 s2 sa sb : LI} (h1 : LeastOf wide r1 a s1 sa) (h2 : LeastOf wide r2 b s2 sb) (t : Tells wide r1 r2 s1 s2 0 0) : a = b /\ sa = sb:=
 yX h1.apart h2.apart h1.ok h2.ok h1.pos h2.pos h1.ord h2.ord h1.sgn h2.sgn ((h1.tells.symm.trans t).trans h2.tells)
theorem LeastOf.self {wide : Nat} {rows : LL} {signs : LI} (R : RowsOk rows.length wide rows) (n0 : 0 < rows.length) (ls : signs.length = rows.length) (O : InOrder rows) (A : Apart wide rows signs) : LeastOf wide rows rows signs signs:=
 ⟨R,n0,ls,O,A,fun _ _ => rfl⟩
theorem ya {many wide : Nat} {rows : LL} {signs qs gs : LI} (R : RowsOk many wide rows) (n0 : 0 < many) (eq : qs = qs.foldl (de rows) [0]) (nd : qs.Nodup) (inr : ∀ q ∈ qs,ar many q) (re : ∀ q ∈ qs,∃ row,InF wide row /\ aG rows row 0 = q) (lg : gs.length = qs.length)
  (hg : ∀ x y : Nat,x < qs.length -> y < qs.length -> (gs.getD x 0 = gs.getD y 0 ↔ AllAg (qs.map fun q => (rows.getD q.toNat []).map (rho qs)) wide (qs.map fun q => signs.getD q.toNat 0) x y)) :
  LeastOf wide rows (cC (phi gs) (qs.map fun q => (rows.getD q.toNat []).map (rho qs)) 0 (qs.map fun q => (rows.getD q.toNat []).map (rho qs))) signs ((bq (phi gs) qs.length).map fun q => (qs.map fun q => signs.getD q.toNat 0).getD q 0):=by
 obtain ⟨R1,O1,p1,t1⟩:=yG (signs:=signs) R n0 eq nd inr re
 have el : (qs.map fun q => (rows.getD q.toNat []).map (rho qs)).length = qs.length:=List.length_map _
 have F:=Bo gs
 have h:=C5 (φ:=phi gs) (wide:=wide) (rows:=qs.map fun q => (rows.getD q.toNat []).map (rho qs)) (signs:=qs.map fun q => signs.getD q.toNat 0) (by rw [el,<- lg]; exact F) (by rw [el]; exact R1) O1 (by rw [el]; exact p1) (fun x y hx hy => by
  rw [el] at hx hy
  rw [DJ ⟨by omega,by omega⟩ ⟨by omega,by omega⟩,Int.toNat_natCast,Int.toNat_natCast]
  exact hg x y hx hy)
 rw [el] at h
 exact h.of t1
def kvN (xs : LI) (k : Nat) : List (Key × V):=(xs.zipIdx k).map fun p => (Sum.inl p.1,V.int (p.2 : Int))
theorem js (xs : LI) (k : Nat) : (kvN xs k).length = xs.length:=by
 unfold kvN
 rw [lm_,List.length_zipIdx]
theorem kB : ∀ (xs : LI) (k : Nat) (g : Int),di (kvN xs k) (Sum.inl g) = if g ∈ xs then some (.int ((k + xs.idxOf g : Nat) : Int)) else none
 | [],k,g => by rw [if_neg (by simp)]; rfl
 | x :: xs,k,g => by
  have ih:=kB xs (k + 1) g
  have e0 : kvN (x :: xs) k = (Sum.inl x,V.int (k : Int)) :: kvN xs (k + 1):=rfl
  by_cases e : x = g
  ·subst e
   rw [e0,gW rfl,if_pos List.mem_cons_self,List.idxOf_cons]
   simp
  ·rw [e0,eF (fun z => e (Sum.inl.inj z)),ih]
   have m : g ∈ x :: xs ↔ g ∈ xs:=by simp [Ne.symm e]
   by_cases c : g ∈ xs
   ·have i : (x :: xs).idxOf g = xs.idxOf g + 1:=by rw [List.idxOf_cons,show (x == g) = false from beq_false_of_ne e]; rfl
    rw [if_pos c,if_pos (m.mpr c),i]
    congr 3
    omega
   ·rw [if_neg c,if_neg fun z => c (m.mp z)]
theorem wz {xs : LI} {g : Int} (h : g ∉ xs) : putK (kvN xs 0) (Sum.inl g) (V.int (xs.length : Int)) = kvN (xs ++ [g]) 0:=by
 unfold putK
 rw [if_neg (by
  intro z
  obtain ⟨p,hp,e⟩:=List.any_eq_true.mp z
  obtain ⟨k,hk,rfl⟩:=List.mem_map.mp hp
  have e' := Sum.inl.inj (of_decide_eq_true e)
  have m : k.1 ∈ xs:=by
   obtain ⟨i,hi,ei⟩:=List.getElem_of_mem hk
   rw [List.getElem_zipIdx] at ei
   rw [<- ei]
   exact List.getElem_mem _
  exact h (e' ▸ m))]
 unfold kvN
 rw [List.zipIdx_append,List.map_append,Nat.zero_add]
 rfl
theorem ml : ∀ (gs s : LI),s.Nodup -> (gs.foldl dd s).Nodup
 | [],s,h => h
 | g :: gs,s,h => by
  rw [List.foldl_cons]
  by_cases c : g ∈ s
  ·rw [iC c]; exact ml gs s h
  ·rw [eR c]; exact ml gs _ (nF h c)
theorem E7 (gs : LI) : (a9 gs).Nodup:=ml gs [] List.nodup_nil
theorem dH : ∀ (gs s : LI),(gs.foldl dd s).length <= s.length + gs.length
 | [],s => Nat.le_refl _
 | g :: gs,s => by
  rw [List.foldl_cons]
  by_cases c : g ∈ s
  ·rw [iC c]
   have:=dH gs s
   rw [List.length_cons]
   omega
  ·rw [eR c]
   have:=dH gs (s ++ [g])
   rw [List.length_append,List.length_singleton] at this
   rw [List.length_cons]
   omega
theorem nO (gs : LI) : (a9 gs).length <= gs.length:=by
 have:=dH gs []
 rw [List.length_nil,Nat.zero_add] at this
 exact this
def dh (gs : LI) : LI:=(List.range gs.length).map fun i : Nat => phi gs i
theorem nQ {gs : LI} {q : Int} (h0 : 0 <= q) (h1 : q < (gs.length : Int)) : aQ (dh gs) q = phi gs q:=by
 unfold aQ dh
 have l : q.toNat < gs.length:=by omega
 rw [getD_at (by rw [lm_,List.length_range]; exact l),List.getElem_map,List.getElem_range,Int.toNat_of_nonneg h0]
theorem DK {gs : LI} {q : Int} (h0 : 0 <= q) (h1 : q < (gs.length : Int)) : 0 <= phi gs q /\ phi gs q < ((a9 gs).length : Int):=by
 have l : q.toNat < gs.length:=by omega
 have m : gs.getD q.toNat 0 ∈ a9 gs:=by rw [getD_at l]; exact once_mem.mpr (List.getElem_mem l)
 have:=List.idxOf_lt_length_of_mem m
 unfold phi
 omega
theorem DL {gs : LI} {j : Nat} (h : j < (a9 gs).length) : ∃ q : Int,ar gs.length q /\ phi gs q = (j : Int):=by
 have m : (a9 gs)[j] ∈ gs:=once_mem.mp (List.getElem_mem h)
 obtain ⟨i,hi,e⟩:=List.getElem_of_mem m
 refine ⟨(i : Int),⟨by omega,by omega⟩,?_⟩
 unfold phi
 rw [Int.toNat_natCast,getD_at hi,e]
 have l:=List.idxOf_lt_length_of_mem (List.getElem_mem h)
 have q:=(List.getElem_inj (E7 gs)).mp (List.getElem_idxOf l)
 rw [q]
theorem AW (col : LI) (q : Int) : (cf col q).Nodup:=by
 unfold cf
 refine List.pairwise_map.mpr ((List.nodup_range.filter _).imp fun {a b} n z => n ?_)
 have z' : (a : Int) = (b : Int):=z
 omega
def tI (C : Addr) : Sp:=fun vs H Q _ => ∃ (x dx g : Addr) (signs : LI),vs = [.ref x,.ref g] /\ H x = some (.ins C dx []) /\ H g = some (.tup (signs.map V.int)) /\ signs.length < 1000 /\
 ∀ (H' : Hp) (go ms wt iw : Addr) (ds : List Addr),(∀ b u,b ≠ x -> H b = some u -> H' b = some u) -> H go = none -> H ms = none -> H wt = none -> H iw = none -> (∀ d ∈ ds,H d = none) -> PtS H' C x go ms wt iw signs.length (dh signs) ds ((List.range ds.length).map fun i : Nat => (i : Int)) -> Q .non H'
section
variable {P : Program} {w : World} {K : PySem.W.Frag} {mg : Str -> Option Value} {base : Heap} {f : Addr} {fd : FuncData} {dV : Value} {C : Addr}
theorem sc_Parted___init__ : FnScope ["self","signs","numbers","group_of","members","here","group"] ["self","signs"] (aj aX):=⟨rfl,rfl,rfl,by decide +kernel,rfl,by decide +kernel,by decide +kernel⟩
theorem bk_Parted___init___0 : BlkScope ["self","signs","numbers","group_of","members","here","group"] (aj aX) ["sign","numbers"] [none,some 2] { kind:=ScopeKind.function,names:=[(".0",NameKind.local),("sign",NameKind.local),("len",NameKind.globalImplicit),("numbers",NameKind.free)],isGenerator:=false,isCoroutine:=false,more:=[] }:=⟨rfl,by decide +kernel,by decide +kernel,by decide +kernel,by decide +kernel,rfl,by decide +kernel⟩
theorem bk_Parted___init___1 : BlkScope ["self","signs","numbers","group_of","members","here","group"] (aj aX) ["sign"] [none] { kind:=ScopeKind.function,names:=[(".0",NameKind.local),("sign",NameKind.local)],isGenerator:=false,isCoroutine:=false,more:=[] }:=⟨rfl,by decide +kernel,by decide +kernel,by decide +kernel,by decide +kernel,rfl,by decide +kernel⟩
theorem bk_Parted___init___2 : BlkScope ["self","signs","numbers","group_of","members","here","group"] (aj aX) ["group"] [none] { kind:=ScopeKind.function,names:=[(".0",NameKind.local),("group",NameKind.local)],isGenerator:=false,isCoroutine:=false,more:=[] }:=⟨rfl,by decide +kernel,by decide +kernel,by decide +kernel,by decide +kernel,rfl,by decide +kernel⟩
theorem zK (F : FunD K "__init__" "Parted.__init__" aX dV f fd) (pc : PCls K C) (bB : mg "len" = none) (dF : mg "list" = none) (aS : mg "range" = none) (fS : mg "dict" = none) (bO : mg "enumerate" = none) : FnOk P w K mg base CX0 1 f fd ["self","signs"] (tI C):=by
 refine F.ok sc_Parted___init__ (fun vs H Q E h => ?_) (fun cdv A outer s H vs Q E hr h => ?_)
 ·obtain ⟨x,dx,g,signs,rfl,_⟩:=h
  rfl
 obtain ⟨x,dx,g,signs,rfl,hx,hg,ln,k⟩:=h
 have hu:=jI hr
 refine ⟨_,(ah (ax (i:=2) sc_Parted___init__.nd rfl (Or.inr rfl) ki)
   (ah (e6 (i:=3) rfl sc_Parted___init__.nd rfl (Or.inl rfl) bk_Parted___init___0 (mr (pv 1)) (fun _ _ _ _ => (ay (i:=0) bk_Parted___init___0.nd rfl (Or.inl rfl))) (fun _ _ _ _ => (wU (pv 1) (pv 0) (aR ko (by rfl) bB cw (aa (pv 1) af)) ⟨rfl,rfl,rfl,rfl⟩)))
   (ah (e6 (i:=4) rfl sc_Parted___init__.nd rfl (Or.inl rfl) bk_Parted___init___1 (Fi (pv 2)) (fun _ _ _ _ => (ay (i:=0) bk_Parted___init___1.nd rfl (Or.inl rfl))) (fun _ _ _ _ => ki))
   (ah (bN PassesOwn.never rfl (sV rfl bO (aa (pv 3) af)) (pG rfl (bJ (ay (i:=5) sc_Parted___init__.nd rfl (Or.inl rfl)) (bJ (ay (i:=6) sc_Parted___init__.nd rfl (Or.inl rfl)) jB))) (au (nX hu (aW b9 (pv 4) (pv 6) (fun _ _ => rfl)) (pv 5) jJ rfl)))
   (ah (pL (pv 0) (pv 3) rfl)
   (ah (pL (pv 0) (pv 4) rfl)
   (ah (pL (pv 0) (zT rfl rfl dF rfl aS (aa (aR aU (by rfl) bB cw (aa (pv 4) af)) af)) rfl)
   (au (pL (pv 0) (aL (jU rfl) (by rfl) fS qY (aa (cB rfl bk_Parted___init___2 (bQ rfl aS (aa (aR aU (by rfl) bB cw (aa (pv 4) af)) af)) (fun _ _ _ _ => (ay (i:=0) bk_Parted___init___2.nd rfl (Or.inl rfl))) (fun _ _ _ _ => (eD (aa (pv 0) (aa jJ af))))) af)) rfl))))))))),?_⟩
 refine fun Nd hNd => ?_
 have s0:=ak hNd (HO.dK [])
 have pl : (dh signs).length = signs.length:=by unfold dh; rw [lm_,List.length_range]
 try dsimp only [bt,eG]
 refine dX (t:=pY _ _) (fun σ' H' => ∃ go : Addr,σ' = [some (.ref x),some (.ref g),some (.ref Nd),some (.ref go),none,none,none] /\ Same H H' /\ H go = none /\ H' go = some (.lst ((dh signs).map V.int)) /\ H' Nd = some (.dK (kvN (a9 signs) 0))) ?_ (fun D' nxt => ?_)
 rotate_left
 ·refine ⟨_,rfl,g,rfl,⟨_,qT_ (s0 _ _ hg)⟩,?_⟩
  refine jX (K:=K) (xs:=signs.map V.int) (fun D i ys H' => Same H H' /\ H' Nd = some (.dK (kvN (a9 (signs.take i)) 0)) /\ ys = ((List.range i).map fun j : Nat => phi signs j).map V.int) (fun D hD => ⟨av s0 (s0.free hD),by rw [ae (ao ab hD),ab]; rfl,rfl⟩) (fun D i ys H' _ ⟨e,_⟩ => qT_ (e _ _ hg)) ?_ ?_
  ·rintro D i y ys H2 Q' hD hi hy ⟨s2,hN2,rfl⟩ k'
   obtain ⟨sg,rfl,hs⟩:=br hi
   have il:=(gi_ hs).1
   have ol:=nO (signs.take i)
   rw [List.length_take] at ol
   have nND : Nd ≠ D:=aA hN2 hy (by intro z; cases z)
   have fD : H D = none:=s0.free hD
   refine ⟨_,rfl,Nd,rfl,.inl ⟨_,.inl hN2⟩,_,rfl,_,rfl,Nd,_,rfl,hN2,_,Sum.inl sg,hN2,rfl,aw (by rw [js]; omega),fun v hv => ?_,fun hn => ?_⟩
   ·rw [kB] at hv
    by_cases c : sg ∈ a9 (signs.take i)
    ·rw [if_pos c,Nat.zero_add] at hv
     have ev:=(Option.some.inj hv).symm
     subst ev
     refine k' _ _ hy (aw (by rw [lm_,lm_,List.length_range]; omega)) ⟨av s2 fD,by rw [ae nND,hN2,gq hs,iC c],?_⟩
     rw [List.range_succ,List.map_append,List.map_append,<- rq hs c]
     rfl
    ·rw [if_neg c] at hv
     cases hv
   ·rw [kB] at hn
    by_cases c : sg ∈ a9 (signs.take i)
    ·rw [if_pos c] at hn
     cases hn
    ·rw [js]
     refine k' _ _ (by rw [ae (Ne.symm nND)]; exact hy) (aw (by rw [lm_,lm_,List.length_range]; omega)) ⟨av (av s2 hNd) fD,by rw [ae nND,ab,wz c,gq hs,eR c],?_⟩
     rw [List.range_succ,List.map_append,List.map_append,<- rn hs c]
     rfl
  ·rintro D ys H2 hD hy ⟨s2,hN2,rfl⟩
   rw [lm_,List.take_length] at hN2
   rw [lm_] at hy
   exact nxt _ _ ⟨D,rfl,s2,s0.free hD,hy,hN2⟩
 rintro σ' H1 ⟨go,rfl,s1,fgo,hgo1,hN1⟩
 have ol:=nO signs
 refine dX (t:=pY _ _) (fun σ' H' => ∃ (ms : Addr) (as : List Addr),σ' = [some (.ref x),some (.ref g),some (.ref Nd),some (.ref go),some (.ref ms),none,none] /\ Same H H' /\ H' go = some (.lst ((dh signs).map V.int)) /\ H ms = none /\ H' ms = some (.lst (as.map V.ref)) /\ as.length = (a9 signs).length /\ as.Nodup /\ ms ≠ go /\ (∀ a ∈ as,H a = none /\ H' a = some (.dK []))) ?_ (fun D' nxt => ?_)
 rotate_left
 ·refine ⟨_,rfl,Nd,_,rfl,.inl ⟨hN1,fun o => ?_⟩⟩
  obtain ⟨H2,eH2⟩ : ∃ H2,upd H1 Nd (.frz o (.dK (kvN (a9 signs) 0))) = H2:=⟨_,rfl⟩
  have s2 : Same H H2:=by rw [<- eH2]; exact av s1 hNd
  have hN2 : H2 Nd = some (.frz o (.dK (kvN (a9 signs) 0))):=by rw [<- eH2,ab]
  have hgo2 : H2 go = some (.lst ((dh signs).map V.int)):=by rw [<- eH2,ae (aA hgo1 hN1 (by intro z; cases z))]; exact hgo1
  rw [eH2]
  refine Bf (o:=o) (kvs:=kvN (a9 signs) 0) (fun D i ys H' => Same H2 H' /\ ∃ as : List Addr,ys = as.map V.ref /\ as.length = i /\ as.Nodup /\ (∀ a ∈ as,H2 a = none /\ H' a = some (.dK []))) (fun D hD => ⟨ak hD _,[],rfl,rfl,List.nodup_nil,fun a h => by cases h⟩) (fun D i ys H' _ ⟨e,_⟩ => e _ _ hN2) ?_ ?_
  ·rintro D i p ys H3 Q' hD hi hy ⟨s3,as,rfl,la,nd,ha⟩ k'
   have il:=(gi_ hi).1
   rw [js] at il
   refine fun d hd => ?_
   have nDd : D ≠ d:=ao hy hd
   have nda : d ∉ as:=fun z => by rw [(ha d z).2] at hd; cases hd
   refine k' _ _ (by rw [ae nDd]; exact hy) (aw (by rw [lm_]; omega)) ⟨av (av s3 (s3.free hd)) hD,as ++ [d],by rw [List.map_append]; rfl,by rw [List.length_append,List.length_singleton,la],?_,fun a h => ?_⟩
   ·exact List.nodup_append.mpr ⟨nd,by simp,fun a ha b hb e => nda (by rw [<- List.mem_singleton.mp hb,<- e]; exact ha)⟩
   ·rcases ma_.mp h with z | z
    ·obtain ⟨h1,h2⟩:=ha a z
     exact ⟨h1,by rw [ae (aA h2 hy (by intro z; cases z)),ae (fun y : a = d => nda (y ▸ z))]; exact h2⟩
    ·rw [List.mem_singleton.mp z]
     exact ⟨s3.free hd,by rw [ae (Ne.symm nDd),ab]⟩
  ·rintro D ys H3 hD hy ⟨s3,as,rfl,la,nd,ha⟩
   rw [js] at la
   exact nxt _ _ ⟨D,as,rfl,s2.trans s3,s3 _ _ hgo2,s2.free hD,hy,la,nd,Ne.symm (ao hgo2 hD),fun a h => ⟨s2.free (ha a h).1,(ha a h).2⟩⟩
 rintro σ' H2 ⟨ms,as,rfl,s2,hgo2,fms,hms2,la,nda,nmg,ha2⟩
 refine dX (t:=tN _ _ _) (fun σ' H' => ∃ (v1 v2 : OV),σ' = [some (.ref x),some (.ref g),some (.ref Nd),some (.ref go),some (.ref ms),v1,v2] /\ Same H H' /\ H' go = some (.lst ((dh signs).map V.int)) /\ H' ms = some (.lst (as.map V.ref)) /\ ∀ (j : Nat) (a : Addr),as[j]? = some a -> H' a = some (.dK (kvT (cf (dh signs) (j : Int))))) ?_ (fun D' nxt => ?_)
 rotate_left
 ·refine ⟨_,rfl,go,rfl,⟨_,qL_ hgo2⟩,vf (K:=K) (xs:=(dh signs).map V.int) (fun i σ' H' => ∃ (v1 v2 : OV),σ' = [some (.ref x),some (.ref g),some (.ref Nd),some (.ref go),some (.ref ms),v1,v2] /\ Same H H' /\ H' go = some (.lst ((dh signs).map V.int)) /\ H' ms = some (.lst (as.map V.ref)) /\ ∀ (j : Nat) (a : Addr),as[j]? = some a -> H' a = some (.dK (kvT (cf ((dh signs).take i) (j : Int)))))
   ⟨none,none,rfl,s2,hgo2,hms2,fun j a h => (ha2 a (mq_ h)).2⟩ (fun i σ' H' _ ⟨_,_,_,_,e,_⟩ => qL_ e) ?_ ?_⟩
  ·rintro i y σ' H3 T hi ⟨v1,v2,rfl,s3,hgo3,hms3,ha3⟩ hT
   obtain ⟨t,rfl,ht⟩:=br hi
   have il:=(gi_ ht).1
   rw [pl] at il
   have et : t = phi signs (i : Int):=by
    have e:=(gi_ ht).2
    rw [<- e]
    unfold dh
    rw [List.getElem_map,List.getElem_range]
   have tv:=DK (gs:=signs) (q:=(i : Int)) (by omega) (by omega)
   rw [<- et] at tv
   have tl : t.toNat < as.length:=by omega
   have sT:=ak hT (HO.tup [V.int i,V.int t])
   obtain ⟨H4,eH4⟩ : ∃ H4,upd H3 T (HO.tup [V.int i,V.int t]) = H4:=⟨_,rfl⟩
   have hT4 : H4 T = some (.tup [V.int i,V.int t]):=by rw [<- eH4]; exact ab
   rw [eH4] at sT ⊢
   obtain ⟨a,ea⟩ : ∃ a,as[t.toNat]? = some a:=⟨_,List.getElem?_eq_getElem tl⟩
   have ha4:=sT _ _ (ha3 _ _ ea)
   have tn : ((t.toNat : Nat) : Int) = t:=Int.toNat_of_nonneg tv.1
   rw [tn] at ha4
   have lp : ((dh signs).take i).length = i:=by rw [List.length_take]; omega
   have notin : (i : Int) ∉ cf ((dh signs).take i) t:=fun z => by
    have h1:=(preI_mem.mp z).1.2
    rw [lp] at h1
    omega
   have pln:=yw ((dh signs).take i) t
   refine ⟨T,_,rfl,qT_ hT4,rfl,_,_,rfl,_,_,rfl,rfl,?_⟩
   refine ⟨_,rfl,_,rfl,ms,_,_,_,rfl,rfl,qL_ (sT _ _ hms3),jQ tv.1 ea,_,rfl,a,_,rfl,DPut.k (k:=Sum.inl (i : Int)) ha4 (aw (by unfold kvT; rw [lm_]; omega)),?_⟩
   rw [rb notin]
   have fa : H a = none:=(ha2 a (mq_ ea)).1
   have hgo4:=sT _ _ hgo3
   have hms4:=sT _ _ hms3
   refine ⟨_,_,rfl,av (s3.trans sT) fa,by rw [ae (aA hgo4 ha4 (by intro z; cases z))]; exact hgo4,by rw [ae (aA hms4 ha4 (by intro z; cases z))]; exact hms4,fun j b hb => ?_⟩
   have et2 : (dh signs).take (i + 1) = (dh signs).take i ++ [t]:=by rw [List.take_add_one,ht]; rfl
   rw [et2,pK,lp]
   by_cases c : b = a
   ·subst c
    have ej : j = t.toNat:=by
     have e1:=(gi_ hb)
     have e2:=(gi_ ea)
     exact (List.getElem_inj nda).mp (e1.2.trans e2.2.symm)
    rw [ab,ej,tn,if_pos rfl]
   ·have nj : t ≠ (j : Int):=fun z => by
     have e : t.toNat = j:=by omega
     rw [e,hb] at ea
     exact c (Option.some.inj ea)
    rw [ae c,if_neg nj,List.append_nil]
    exact sT _ _ (ha3 j b hb)
  ·rintro σ' H3 ⟨v1,v2,rfl,s3,hgo3,hms3,ha3⟩
   rw [lm_,List.take_length] at ha3
   exact nxt _ _ ⟨v1,v2,rfl,s3,hgo3,hms3,ha3⟩
 rintro σ' H3 ⟨v1,v2,rfl,s3,hgo3,hms3,ha3⟩
 have fa : ∀ a ∈ as,H a = none:=fun a h => (ha2 a h).1
 refine ⟨_,rfl,_,rfl,x,C,dx,[],rfl,s3 _ _ hx,pc.cl,pc.ng,by decide,?_⟩
 refine ⟨_,rfl,_,rfl,x,C,dx,_,rfl,ab,pc.cl,pc.nm,by show (1 : Nat) < 1000; decide,?_⟩
 rw [A4]
 obtain ⟨H4,eH4⟩ : ∃ H4,upd H3 x (HO.ins C dx (iM "members" (V.ref ms) (iM "group_of" (V.ref go) []))) = H4:=⟨_,rfl⟩
 have k4 : ∀ b u,b ≠ x -> H b = some u -> H4 b = some u:=fun b u n h => by rw [<- eH4,ae n]; exact s3 _ _ h
 have x4 : H4 x = some (.ins C dx [("group_of",.ref go),("members",.ref ms)]):=by rw [<- eH4,ab]; rfl
 have nxa : ∀ b : Addr,H b = none -> x ≠ b:=fun b h => ao hx h
 have hgo4 : H4 go = some (.lst ((dh signs).map V.int)):=by rw [<- eH4,ae (Ne.symm (nxa _ fgo))]; exact hgo3
 have hms4 : H4 ms = some (.lst (as.map V.ref)):=by rw [<- eH4,ae (Ne.symm (nxa _ fms))]; exact hms3
 have ha4 : ∀ (j : Nat) (a : Addr),as[j]? = some a -> H4 a = some (.dK (kvT (cf (dh signs) (j : Int)))):=fun j a h => by
  rw [<- eH4,ae (Ne.symm (nxa _ (fa a (mq_ h))))]; exact ha3 j a h
 have f4 : ∀ {b},H4 b = none -> H b = none:=fun {b} h => by
  rcases Decidable.em (b = x) with z | z
  ·subst z; rw [x4] at h; cases h
  ·cases e : H b with
   | none => rfl
   | some u => rw [k4 b u z e] at h; cases h
 rw [eH4]
 have lm : (as.map V.ref).length = as.length:=List.length_map _
 refine ⟨_,rfl,ms,_,rfl,.inl (qL_ hms4),(as.map V.ref).length,rfl,small (by rw [lm]; omega),fun wt hwt => ?_⟩
 rw [lm]
 have nxw : x ≠ wt:=ao x4 hwt
 refine ⟨_,rfl,x,C,dx,_,rfl,by rw [ae nxw]; exact x4,pc.cl,pc.nw,by show (2 : Nat) < 1000; decide,?_⟩
 obtain ⟨H5,eH5⟩ : ∃ H5,upd (upd H4 wt (HO.lst ((List.range as.length).map fun i : Nat => V.int i))) x (HO.ins C dx (iM "waiting" (V.ref wt) [("group_of",.ref go),("members",.ref ms)])) = H5:=⟨_,rfl⟩
 have k5 : ∀ b u,b ≠ x -> H4 b = some u -> H5 b = some u:=fun b u n h => by rw [<- eH5,ae n,ae (ao h hwt)]; exact h
 have x5 : H5 x = some (.ins C dx [("group_of",.ref go),("members",.ref ms),("waiting",.ref wt)]):=by rw [<- eH5,ab]; rfl
 have hwt5 : H5 wt = some (.lst (((List.range as.length).map fun i : Nat => (i : Int)).map V.int)):=by rw [<- eH5,ae (Ne.symm nxw),ab,List.map_map]; rfl
 have hgo5:=k5 _ _ (Ne.symm (nxa _ fgo)) hgo4
 have hms5:=k5 _ _ (Ne.symm (nxa _ fms)) hms4
 have f5 : ∀ {b},H5 b = none -> H4 b = none:=fun {b} h => by
  rcases Decidable.em (b = x) with z | z
  ·subst z; rw [x5] at h; cases h
  ·cases e : H4 b with
   | none => rfl
   | some u => rw [k5 b u z e] at h; cases h
 rw [eH5]
 obtain ⟨ns,ens⟩ : ∃ ns : LI,((List.range as.length).map fun i : Nat => (i : Int)) = ns:=⟨_,rfl⟩
 have lns : ns.length = as.length:=by rw [<- ens,lm_,List.length_range]
 have ndn : ns.Nodup:=by
  rw [<- ens]
  refine List.pairwise_map.mpr (List.nodup_range.imp fun {a b} n z => n ?_)
  have z' : (a : Int) = (b : Int):=z
  omega
 refine ⟨_,rfl,ms,_,rfl,.inl (qL_ hms5),_,rfl,by rw [lm]; omega,by rw [lm]; omega,?_⟩
 refine cO (fun D i ys H' => Same H5 H' /\ ∃ ts,ys = ts.map V.ref /\ PairsV H' ts (kvT (ns.take i))) (fun D hD => ⟨ak hD _,[],rfl,.nil⟩) ?_ ?_
 ·rintro D i ys H' Q' hD hi hy ⟨hs,ts,rfl,pv⟩ k'
  rw [Int.toNat_natCast,lm] at hi
  have hq : ns[i]? = some (i : Int):=by
   rw [<- ens,List.getElem?_map,List.getElem?_range hi]
   rfl
  refine ⟨_,rfl,(by show 2 <= sizeLine; decide),fun T hT => ?_⟩
  rw [Int.zero_add]
  have sT:=ak hT (HO.tup [V.int i,V.bl true])
  have nD : D ≠ T:=ao hy hT
  have lts : ts.length = i:=by
   rw [Paired.length pv]
   unfold kvT
   rw [lm_,List.length_take]
   omega
  have hyT : (upd H' T (HO.tup [V.int i,V.bl true])) D = some (.lst (ts.map V.ref)):=by rw [ae nD]; exact hy
  refine k' _ _ hyT (aw (by rw [lm_]; omega)) ⟨av (av hs (hs.free hT)) hD,ts ++ [T],by rw [List.map_append]; rfl,?_⟩
  rw [List.take_add_one,hq]
  have up : ∀ b xs,(upd H' T (HO.tup [V.int i,V.bl true])) b = some (.tup xs) -> (upd (upd H' T (HO.tup [V.int i,V.bl true])) D (.lst (ts.map V.ref ++ [V.ref T]))) b = some (.tup xs):=fun b xs e => by
   rw [ae (aA e hyT (by intro z; cases z))]; exact e
  show PairsV _ _ (kvT (ns.take i ++ [(i : Int)]))
  unfold kvT
  rw [List.map_append]
  exact Paired.snoc (PairsV.same pv fun b xs e => up b xs (sT _ _ e)) (up _ _ ab)
 rintro L ys H6 fL hL ⟨s6,ts,rfl,pv⟩
 rw [Int.toNat_natCast,lm,<- lns,List.take_length] at pv
 refine ⟨L,ts,_,rfl,hL,pv,fun iw hiw => ?_⟩
 rw [vy ndn]
 have nxi : x ≠ iw:=ao (s6 _ _ x5) hiw
 refine ⟨_,rfl,x,C,dx,_,rfl,by rw [ae nxi]; exact s6 _ _ x5,pc.cl,pc.ni,by show (3 : Nat) < 1000; decide,?_⟩
 have fiw : H5 iw = none:=s6.free hiw
 have kz : ∀ b u,b ≠ x -> H5 b = some u -> (upd (upd H6 iw (HO.dK (kvT ns))) x (HO.ins C dx (iM "is_waiting" (V.ref iw) [("group_of",.ref go),("members",.ref ms),("waiting",.ref wt)]))) b = some u:=fun b u n h => by
  rw [ae n,ae (ao h fiw)]; exact s6 _ _ h
 have ha5 : ∀ (j : Nat) (a : Addr),as[j]? = some a -> H5 a = some (.dK (kvT (cf (dh signs) (j : Int)))):=fun j a h => k5 _ _ (Ne.symm (nxa _ (fa a (mq_ h)))) (ha4 j a h)
 refine k _ go ms wt iw as (fun b u n h => kz _ _ n (k5 _ _ n (k4 _ _ n h))) fgo fms (f4 hwt) (f4 (f5 fiw)) fa ?_
 have nw4 : wt ≠ x:=Ne.symm nxw
 refine ⟨⟨dx,by rw [ab]; rfl⟩,kz _ _ (Ne.symm (nxa _ fgo)) hgo5,kz _ _ (Ne.symm (nxa _ fms)) hms5,by rw [ens]; rw [ens] at hwt5; exact kz _ _ nw4 hwt5,by rw [ens,ae (Ne.symm nxi),ab],pl,fun q hq => ?_,fun j a h => ?_,nda,fun z => ?_,Ne.symm nmg,?_,?_,by rw [ens]; exact ndn,fun p hp => ?_⟩
 ·rw [nQ hq.1 hq.2,la]
  exact DK hq.1 hq.2
 ·have jl:=(gi_ h).1
  refine ⟨cf (dh signs) (j : Int),kz _ _ (Ne.symm (nxa _ (fa a (mq_ h)))) (ha5 j a h),AW _ _,fun z => ?_,fun q => ?_⟩
  ·obtain ⟨q,hq,e⟩:=DL (gs:=signs) (j:=j) (by omega)
   have : q ∈ cf (dh signs) (j : Int):=preI_mem.mpr ⟨⟨hq.1,by rw [pl]; exact hq.2⟩,by
    have:=nQ hq.1 hq.2
    unfold aQ at this
    rw [this,e]⟩
   rw [z] at this
   cases this
  ·rw [preI_mem,pl]
   rfl
 ·obtain ⟨j,hj⟩:=List.mem_iff_getElem?.mp z
  have:=ha5 j iw hj
  rw [fiw] at this
  cases this
 ·exact ao hgo4 hwt
 ·exact ao hms4 hwt
 ·rw [ens] at hp
  rw [<- ens] at hp
  obtain ⟨i,hi,rfl⟩:=List.mem_map.mp hp
  have:=List.mem_range.mp hi
  omega
end
theorem DY (acc : List (List Key × V)) (a k : List Key) (v : V) : k ∈ (putK acc a v).map Prod.fst ↔ k ∈ acc.map Prod.fst \/ k = a:=by
 unfold putK
 by_cases c : (acc.any fun kv => decide (kv.fst = a)) = true
 ·rw [if_pos c,List.map_map]
  have e : acc.map (Prod.fst ∘ fun kv => if kv.fst = a then (kv.fst,v) else kv) = acc.map Prod.fst:=List.map_congr_left fun kv _ => by
   show (if kv.fst = a then (kv.fst,v) else kv).fst = kv.fst
   split <;> rfl
  rw [e]
  obtain ⟨kv,h1,h2⟩:=List.any_eq_true.mp c
  have h3 : a ∈ acc.map Prod.fst:=List.mem_map.mpr ⟨kv,h1,of_decide_eq_true h2⟩
  exact ⟨.inl,fun z => z.elim id fun z => z ▸ h3⟩
 ·rw [if_neg c,List.map_append,List.mem_append]
  exact or_congr Iff.rfl List.mem_singleton
theorem sN : ∀ (kvs acc : List (List Key × V)) (k : List Key),k ∈ (fQ acc kvs).map Prod.fst ↔ k ∈ acc.map Prod.fst \/ k ∈ kvs.map Prod.fst
 | [],acc,k => ⟨.inl,fun z => z.elim id fun z => by cases z⟩
 | p :: kvs,acc,k => by
  show k ∈ (fQ (putK acc p.1 p.2) kvs).map Prod.fst ↔ _
  rw [sN kvs,DY,or_assoc]
  exact or_congr Iff.rfl (List.mem_cons (a:=k) (b:=p.1) (l:=kvs.map Prod.fst)).symm
theorem AL {x y : LI} (e : x.map (Sum.inl : Int -> Key) = y.map Sum.inl) : x = y:=by
 have h:=congrArg (List.map fun k : Key => Sum.elim id (fun _ => (0 : Int)) k) e
 rw [List.map_map,List.map_map] at h
 have f : ((fun k : Key => Sum.elim id (fun _ => (0 : Int)) k) ∘ (Sum.inl : Int -> Key)) = id:=rfl
 rw [f,List.map_id,List.map_id] at h
 exact h
theorem vm {H : Hp} : ∀ {bs : List Addr} {kvs : List (List Key × V)},xG H bs kvs -> (∀ k ∈ kvs.map Prod.fst,∃ c : LI,k = c.map Sum.inl) -> ∃ cols : LL,RowsAt H bs cols /\ kvs.map Prod.fst = cols.map fun c => c.map Sum.inl
 | [],[],.nil,_ => ⟨[],.nil,rfl⟩
 | _,_,.cons (a:=b) (b:=p) (l₁:=bs) (l₂:=kvs) h t,q => by
  obtain ⟨cols,h1,h2⟩:=vm t fun k hk => q k (List.mem_cons_of_mem _ hk)
  obtain ⟨c,e⟩:=q p.1 List.mem_cons_self
  refine ⟨c :: cols,.cons ?_ h1,by rw [List.map_cons,List.map_cons,h2,e]⟩
  rw [e,List.map_map] at h
  exact h
theorem uk {H : Hp} {bs : List Addr} {cols0 : LL} (h : xG H bs (fQ [] (cols0.map fun c => (c.map Sum.inl,V.bl true)))) : ∃ cols : LL,RowsAt H bs cols /\ cols.length <= cols0.length /\ ∀ c,c ∈ cols ↔ c ∈ cols0:=by
 have mem : ∀ k,k ∈ (fQ [] (cols0.map fun c => ((c.map Sum.inl : List Key),V.bl true))).map Prod.fst ↔ ∃ c ∈ cols0,k = c.map Sum.inl:=fun k => by
  rw [sN,List.map_map]
  constructor
  ·rintro (z | z)
   ·cases z
   ·obtain ⟨c,h1,h2⟩:=List.mem_map.mp z
    exact ⟨c,h1,h2.symm⟩
  ·rintro ⟨c,h1,h2⟩
   exact .inr (List.mem_map.mpr ⟨c,h1,h2.symm⟩)
 obtain ⟨cols,h1,h2⟩:=vm h fun k hk => let ⟨c,_,e⟩:=(mem k).mp hk; ⟨c,e⟩
 refine ⟨cols,h1,?_,fun c => ?_⟩
 ·have e1:=congrArg List.length h2
  have e2:=ik (cols0.map fun c => ((c.map Sum.inl : List Key),V.bl true)) []
  rw [lm_,lm_] at e1
  rw [lm_,List.length_nil] at e2
  omega
 have m:=mem (c.map Sum.inl)
 rw [h2] at m
 constructor
 ·intro hc
  obtain ⟨c',h3,e⟩:=m.mp (List.mem_map.mpr ⟨c,hc,rfl⟩)
  rw [AL e]
  exact h3
 ·intro hc
  obtain ⟨c',h3,e⟩:=List.mem_map.mp (m.mpr ⟨c,hc,rfl⟩)
  rw [<- AL e]
  exact h3
theorem Cv {many wide : Nat} {rows : LL} (R : RowsOk many wide rows) (f : Nat) {q : Int} (hq : ar many q) : gM (rows.map fun r => r.getD f 0) q = stepI rows q f:=by
 have l : q.toNat < rows.length:=by have:=hq.1; have:=hq.2; rw [R.len]; omega
 unfold gM stepI
 rw [getD_at (by rw [lm_]; exact l),List.getElem_map,Int.toNat_natCast,getD_at l]
theorem Ez {many wide : Nat} {rows cols : LL} (R : RowsOk many wide rows) (h : ∀ c,c ∈ cols ↔ c ∈ g6 rows wide) : ColsOk many wide rows cols where
 of:=fun c hc => by
  obtain ⟨f,hf,rfl⟩:=List.mem_map.mp ((h c).mp hc)
  exact ⟨f,List.mem_range.mp hf,fun q hq => Cv R f hq⟩
 all:=fun f hf => ⟨_,(h _).mpr (List.mem_map.mpr ⟨f,List.mem_range.mpr hf,rfl⟩),fun q hq => Cv R f hq⟩
theorem AB {many wide : Nat} {rows : LL} (R : RowsOk many wide rows) {c : LI} (h : c ∈ g6 rows wide) : c.length = many /\ ∀ t ∈ c,0 <= t /\ t < (many : Int):=by
 obtain ⟨f,hf,rfl⟩:=List.mem_map.mp h
 have fl:=List.mem_range.mp hf
 refine ⟨by rw [lm_,R.len],fun t ht => ?_⟩
 obtain ⟨r,hr,rfl⟩:=List.mem_map.mp ht
 have lr:=R.row r hr
 rw [getD_at (by omega)]
 exact R.val r hr _ (List.getElem_mem _)
theorem yu {many : Nat} {col : LI} (l : col.length = many) {q x : Int} : x ∈ cf col q ↔ ar many x /\ gM col x = q:=by
 rw [preI_mem,l]
 rfl
theorem wc (col : LI) : ∀ {ms : LI},ms.Nodup -> (ms.flatMap (cf col)).Nodup
 | [],_ => List.nodup_nil
 | m :: ms,h => by
  have n:=List.nodup_cons.mp h
  rw [List.flatMap_cons]
  refine List.nodup_append.mpr ⟨AW col m,wc col n.2,fun a ha b hb e => ?_⟩
  obtain ⟨m',h1,h2⟩:=List.mem_flatMap.mp hb
  have e1:=(preI_mem.mp ha).2
  have e2:=(preI_mem.mp h2).2
  rw [<- e,e1] at e2
  exact n.1 (e2 ▸ h1)
theorem xV {many : Nat} {col ms : LI} (l : col.length = many) {x : Int} : x ∈ ms.flatMap (cf col) ↔ ar many x /\ gM col x ∈ ms:=by
 rw [List.mem_flatMap]
 constructor
 ·rintro ⟨m,h1,h2⟩
  have h3:=(yu l).mp h2
  exact ⟨h3.1,h3.2 ▸ h1⟩
 ·rintro ⟨h1,h2⟩
  exact ⟨_,h2,(yu l).mpr ⟨h1,rfl⟩⟩
theorem HopS.mono {many : Nat} {cols : List (Int -> Int)} {sg : Int -> Int} {R : Int -> Int -> Prop} {grp : Int -> Int} {W W' S : Int -> Prop} {k : Nat} (h : HopS many cols sg R grp W S k) (w : ∀ g,W g -> W' g) : HopS many cols sg R grp W' S k:=
 ⟨h.coarse,h.signs,h.whole,fun x y hx hy e j c hj => by
  rcases h.cong x y hx hy e j c hj with z | z | z | z
  ·exact .inl z
  ·exact .inr (.inl (w _ z))
  ·exact .inr (.inr (.inl (w _ z)))
  ·exact .inr (.inr (.inr z))⟩
theorem AllAg.symm {rows : LL} {wide : Nat} {signs : LI} {x y : Int} (h : AllAg rows wide signs x y) : AllAg rows wide signs y x:=fun n v h1 h2 => (h n v h1 h2).symm
theorem PtS.pop {H : Hp} {C x go ms wt iw l : Addr} {many : Nat} {gs ws0 mem : LI} {ds : List Addr} {s : Int} (h : PtS H C x go ms wt iw many gs ds (ws0 ++ [s])) (hl : H l = none) :
  PtS (upd (upd (upd H wt (.lst (ws0.map V.int))) iw (.dK (kvT ((ws0 ++ [s]).filter fun k => decide (k ≠ s))))) l (.lst (mem.map V.int))) C x go ms wt iw many gs ds ws0:=by
 have nd:=List.nodup_append.mp h.wn
 have ef : (ws0 ++ [s]).filter (fun k => decide (k ≠ s)) = ws0:=by
  rw [List.filter_append,List.filter_cons_of_neg (by simp),List.filter_nil,List.append_nil]
  exact List.filter_eq_self.mpr fun k hk => decide_eq_true fun z => nd.2.2 k hk s List.mem_cons_self z
 rw [ef]
 have nl : ∀ c u,H c = some u -> c ≠ l:=fun c u e => ao e hl
 have kp : ∀ c u,c ≠ wt -> c ≠ iw -> H c = some u -> (upd (upd (upd H wt (.lst (ws0.map V.int))) iw (.dK (kvT ws0))) l (.lst (mem.map V.int))) c = some u:=fun c u c1 c2 e => by rw [ae (nl c u e),ae c2,ae c1]; exact e
 obtain ⟨dx,hx⟩:=h.pt.ob
 have nwi : wt ≠ iw:=aA h.wt_ h.iw_ (by intro z; cases z)
 refine ⟨⟨dx,kp _ _ (aA hx h.wt_ (by intro z; cases z)) (aA hx h.iw_ (by intro z; cases z)) hx⟩,kp _ _ h.n2 (aA h.go_ h.iw_ (by intro z; cases z)) h.go_,kp _ _ h.n3 (aA h.ms_ h.iw_ (by intro z; cases z)) h.ms_,by rw [ae (nl _ _ h.wt_),ae nwi,ab],by rw [ae (nl _ _ h.iw_),ab],h.lg,h.val,fun i d hi => ?_,h.dn,h.ndi,h.n1,h.n2,h.n3,nd.1,fun g hg => h.wv g (List.mem_append_left _ hg)⟩
 obtain ⟨m,h1,h2⟩:=h.mem i d hi
 exact ⟨m,kp _ _ (aA h1 h.wt_ (by intro z; cases z)) (fun z => h.ndi (z ▸ mq_ hi)) h1,h2⟩
theorem PtS.alone {H : Hp} {C x go ms wt iw : Addr} {many : Nat} {gs ws : LI} {ds : List Addr} (h : PtS H C x go ms wt iw many gs ds ws) (e : ds.length = many) : ∀ a b,ar many a -> ar many b -> aQ gs a = aQ gs b -> a = b:=fun a b ha hb eg => Classical.byContradiction fun ne => by
 have la : a.toNat < gs.length:=by have:=ha.1; have:=ha.2; rw [h.lg]; omega
 have lb : b.toNat < gs.length:=by have:=hb.1; have:=hb.2; rw [h.lg]; omega
 have nab : a.toNat ≠ b.toNat:=by have:=ha.1; have:=hb.1; omega
 unfold aQ at eg
 rw [getD_at la,getD_at lb] at eg
 have t:=eY (xs:=(List.range ds.length).map fun i : Nat => (i : Int)) (ys:=gs.eraseIdx b.toNat) (List.pairwise_map.mpr (List.nodup_range.imp fun {a b} n z => n (by
  have z' : (a : Int) = (b : Int):=z
  omega))) (fun g hg => by
  obtain ⟨i,hi,rfl⟩:=List.mem_map.mp hg
  have il:=List.mem_range.mp hi
  obtain ⟨mem,_,_,nn,iff⟩:=h.mem i _ (List.getElem?_eq_getElem il)
  obtain ⟨q,r,rfl⟩:=List.exists_cons_of_ne_nil nn
  obtain ⟨⟨q0,q1⟩,eq⟩:=(iff q).mp List.mem_cons_self
  have lq : q.toNat < gs.length:=by rw [h.lg]; omega
  unfold aQ at eq
  rw [getD_at lq] at eq
  rw [List.mem_eraseIdx_iff_getElem]
  by_cases c : q.toNat = b.toNat
  ·refine ⟨a.toNat,la,nab,?_⟩
   rw [eg,<- eq]
   congr 1
   exact c.symm
  ·exact ⟨q.toNat,lq,c,eq⟩)
 rw [lm_,List.length_range,List.length_eraseIdx_of_lt lb,h.lg,e] at t
 have:=hb.1
 have:=hb.2
 omega
def Eg (K : PySem.W.Frag) : Sp:=fun vs H Q _ => ∃ (m r g : Addr) (many wide : Nat) (rows : LL) (signs : LI),vs = [.ref m] /\ MachAt H m r g wide rows signs /\ RowsOk many wide rows /\ signs.length = many /\ many < 1000 /\ wide <= 1000 /\
 ∀ (go : Addr) (gs : LI) (H' : Hp),Same H H' -> H go = none -> H' go = some (.lst (gs.map V.int)) -> gs.length = many -> (∀ x y,ar many x -> ar many y -> (aQ gs x = aQ gs y ↔ AllAg rows wide signs x y)) -> Q (.ref go) H'
def Ep (H : Hp) : List Addr -> LL -> Prop:=Paired fun B col => ∃ H0 es,BackOk H0 H B es (fun q ls => ls = cf col q)
section
variable {P : Program} {w : World} {K : PySem.W.Frag} {mg : Str -> Option Value} {base : Heap} {f : Addr} {fd : FuncData} {dV : Value} {C : Addr}
theorem sc_unparted_groups : FnScope ["machine","distinct","backs","parted","splitter","back","leading","here"] ["machine"] (aj bg):=⟨rfl,rfl,rfl,by decide +kernel,rfl,by decide +kernel,by decide +kernel⟩
theorem bk_unparted_groups_0 : BlkScope ["machine","distinct","backs","parted","splitter","back","leading","here"] (aj bg) ["column"] [none] { kind:=ScopeKind.function,names:=[(".0",NameKind.local),("column",NameKind.local)],isGenerator:=false,isCoroutine:=false,more:=[] }:=⟨rfl,by decide +kernel,by decide +kernel,by decide +kernel,by decide +kernel,rfl,by decide +kernel⟩
theorem bk_unparted_groups_1 : BlkScope ["machine","distinct","backs","parted","splitter","back","leading","here"] (aj bg) ["column"] [none] { kind:=ScopeKind.function,names:=[(".0",NameKind.local),("column",NameKind.local),("back_of",NameKind.globalImplicit)],isGenerator:=false,isCoroutine:=false,more:=[] }:=⟨rfl,by decide +kernel,by decide +kernel,by decide +kernel,by decide +kernel,rfl,by decide +kernel⟩
theorem Gs (F : FunD K "unparted_groups" "unparted_groups" bg dV f fd) (pc : PCls K C) (cT : DefOk P w K mg base "columns_of" 1 ["machine"] [] (xk K)) (ox : DefOk P w K mg base "back_of" 1 ["column"] [] (xi K)) (ow : DefMk P w K mg base "Parted" C 1 ["self","signs"] (tI C))
  (lJ : DefMe P w K mg base C "is_done" 1 ["self"] (tG K C)) (eI : DefMe P w K mg base C "next_splitter" 1 ["self"] (xn C)) (lK : DefMe P w K mg base C "part_by" 3 ["self","leading"] (tH C)) (dF : mg "list" = none) (fS : mg "dict" = none) : FnOk P w K mg base CX0 4 f fd ["machine"] (Eg K):=by
 refine F.ok sc_unparted_groups (fun vs H Q E h => ?_) (fun cdv A outer s H vs Q E hr h => ?_)
 ·obtain ⟨m,r,g,many,wide,rows,signs,rfl,_⟩:=h
  rfl
 obtain ⟨m,r,g,many,wide,rows,signs,rfl,M,R,ls,n1,w1,k⟩:=h
 have hu:=jI hr
 have hu2:=F9 hr
 refine ⟨_,(ah (ax (i:=1) sc_unparted_groups.nd rfl (Or.inl rfl) (aL (yW rfl) (by rfl) dF mT (aa (aL ((vQ rfl hu2)) (by rfl) fS qY (aa (cB rfl bk_unparted_groups_0 (cb (aV cT hr (aa (pv 0) af))) (fun _ _ _ _ => (ay (i:=0) bk_unparted_groups_0.nd rfl (Or.inl rfl))) (fun _ _ _ _ => (eD (aa (pv 0) (aa jJ af))))) af)) af)))
   (ah (e6 (i:=2) rfl sc_unparted_groups.nd rfl (Or.inl rfl) bk_unparted_groups_1 (cb (pv 1)) (fun _ _ _ _ => (ay (i:=0) bk_unparted_groups_1.nd rfl (Or.inl rfl))) (fun _ _ _ _ => (aV ox hr (aa (pv 0) af))))
   (ah (ax (i:=3) sc_unparted_groups.nd rfl (Or.inl rfl) (DF ow hr (aa (aW bA (pv 0) aq (fun _ _ => rfl)) af)))
   (ah (iL PassesOwn.never (PW.pt (sY ((nY (cF (pv 3) rfl) (fun _ => rfl))) (nZ (wZ (w4 (zU lJ hr (pv 3))))))) (ah (ax (i:=4) sc_unparted_groups.nd rfl (Or.inl rfl) (zU eI hr (pv 3)))
   (au (bN PassesOwn.never rfl (cb (pv 2)) (ay (i:=5) sc_unparted_groups.nd rfl (Or.inl rfl)) (ah (ax (i:=6) sc_unparted_groups.nd rfl (Or.inl rfl) (bI af))
   (ah (bN PassesOwn.never rfl (cb (pv 4)) (ay (i:=7) sc_unparted_groups.nd rfl (Or.inl rfl)) (au (a7 (eC PySem.F.plainAttrs_list PySem.F.slot_list_extend PySem.F.type_list_extend zz (pv 6) (aa (DC hu (pv 5) (pv 7) (eD af) ⟨rfl,rfl,rfl,rfl⟩) af)))))
   (au (a7 (vA lK hr (pv 3) (aa (pv 6) af))))))))))
   (au (aM (cF (pv 3) rfl))))))),?_⟩
 try dsimp only [bt,eG]
 refine dX (t:=pY _ _) (fun σ' H' => ∃ (dl : Addr) (bs : List Addr) (cols : LL),σ' = [some (.ref m),some (.ref dl),none,none,none,none,none,none] /\ Same H H' /\ H' dl = some (.lst (bs.map V.ref)) /\ RowsAt H' bs cols /\ cols.length <= wide /\ ∀ c,c ∈ cols ↔ c ∈ g6 rows wide) ?_ (fun D' nxt => ?_)
 rotate_left
 ·refine ⟨_,rfl,m,r,g,many,wide,rows,signs,rfl,M,R,⟨by omega,w1⟩,fun l cs H1 s1 hl1 A1 => ?_⟩
  refine ⟨l,rfl,⟨_,qL_ hl1⟩,?_⟩
  have lc : (g6 rows wide).length = wide:=by unfold g6; rw [lm_,List.length_range]
  refine gm (K:=K) (xs:=cs.map V.ref) (fun D i ys H' => Same H1 H' /\ ∃ ts,ys = ts.map V.ref /\ yL H' ts (((g6 rows wide).take i).map fun c => (c.map Sum.inl,V.bl true))) (fun D hD => ⟨ak hD _,[],rfl,.nil⟩) (fun D i ys H' _ ⟨e,_⟩ => qL_ (e _ _ hl1)) ?_ ?_
  ·rintro D i y ys H2 Q' hD hi hy ⟨s2,ts,rfl,pv⟩ k'
   have jl : i < (g6 rows wide).length:=by
    have:=(gi_ hi).1
    rw [lm_,A1.length] at this
    exact this
   obtain ⟨ca,e1,e2⟩:=A1.get jl
   have ey : y = .ref ca:=by rw [List.getElem?_map,e1] at hi; exact (Option.some.inj hi).symm
   subst ey
   refine ⟨_,rfl,(by show 2 <= sizeLine; decide),fun T hT => ?_⟩
   have sT:=ak hT (HO.tup [V.ref ca,V.bl true])
   have nD : D ≠ T:=ao hy hT
   have lts : ts.length = i:=by
    rw [Paired.length pv,lm_,List.length_take]
    omega
   have hyT : (upd H2 T (HO.tup [V.ref ca,V.bl true])) D = some (.lst (ts.map V.ref)):=by rw [ae nD]; exact hy
   refine k' _ _ hyT (aw (by rw [lm_]; omega)) ⟨av (av s2 (s2.free hT)) hD,ts ++ [T],by rw [List.map_append]; rfl,?_⟩
   have up : ∀ b xs,(upd H2 T (HO.tup [V.ref ca,V.bl true])) b = some (.tup xs) -> (upd (upd H2 T (HO.tup [V.ref ca,V.bl true])) D (.lst (ts.map V.ref ++ [V.ref T]))) b = some (.tup xs):=fun b xs e => by
    rw [ae (aA e hyT (by intro z; cases z))]; exact e
   rw [List.take_add_one,List.getElem?_eq_getElem jl,List.map_append]
   refine Paired.snoc (Paired.mapP pv fun t p h => ?_) ⟨ca,up _ _ ab,?_⟩
   ·obtain ⟨b,h1,h2⟩:=h
    exact ⟨b,up _ _ (sT _ _ h1),up _ _ (sT _ _ h2)⟩
   ·rw [List.map_map]
    exact up _ _ (sT _ _ (s2 _ _ e2))
  ·rintro D ys H2 hD hy ⟨s2,ts,rfl,pv⟩
   rw [lm_,A1.length,List.take_length] at pv
   refine ⟨D,ts,_,rfl,hy,pv,fun dd hdd => ?_⟩
   have s3:=ak hdd (HO.dT (fQ [] ((g6 rows wide).map fun c => (c.map Sum.inl,V.bl true))))
   refine ⟨dd,_,rfl,ab,fun dl bs hdl kt => ?_⟩
   obtain ⟨cols,c1,c3,c2⟩:=uk kt
   rw [lc] at c3
   have s4:=ak hdl (HO.lst (bs.map V.ref))
   exact nxt _ _ ⟨dl,bs,cols,rfl,((s1.trans s2).trans s3).trans s4,ab,c1.same fun b xs e => s4 _ _ e,c3,c2⟩
 rintro σ' H1 ⟨dl,bs,cols,rfl,s1,hdl1,A1,lcw,hc⟩
 have CO:=Ez R hc
 refine dX (t:=pY _ _) (fun σ' H' => ∃ (bl : Addr) (Bs : List Addr),σ' = [some (.ref m),some (.ref dl),some (.ref bl),none,none,none,none,none] /\ Same H H' /\ H' bl = some (.lst (Bs.map V.ref)) /\ Ep H' Bs cols) ?_ (fun D' nxt => ?_)
 rotate_left
 ·refine ⟨_,rfl,dl,rfl,⟨_,qL_ hdl1⟩,?_⟩
  refine gm (K:=K) (xs:=bs.map V.ref) (fun D i ys H' => Same H1 H' /\ ∃ Bs,ys = Bs.map V.ref /\ Paired (fun B col => ∃ H0 es,(∃ u,H0 D = some u) /\ BackOk H0 H' B es (fun q ls => ls = cf col q)) Bs (cols.take i)) (fun D hD => ⟨ak hD _,[],rfl,.nil⟩) (fun D i ys H' _ ⟨e,_⟩ => qL_ (e _ _ hdl1)) ?_ ?_
  ·rintro D i y ys H2 Q' hD hi hy ⟨s2,Bs,rfl,pv⟩ k'
   have jl : i < cols.length:=by
    have:=(gi_ hi).1
    rw [lm_,A1.length] at this
    exact this
   obtain ⟨ca,e1,e2⟩:=A1.get jl
   have ey : y = .ref ca:=by rw [List.getElem?_map,e1] at hi; exact (Option.some.inj hi).symm
   subst ey
   have ci:=AB R ((hc _).mp (List.getElem_mem jl))
   have lB : Bs.length = i:=by
    rw [Paired.length pv,List.length_take]
    omega
   refine ⟨_,rfl,ca,many,cols[i],rfl,s2 _ _ e2,by omega,by omega,ci.2,fun B es H3 s3 fB bo => ?_⟩
   have hy3:=s3 _ _ hy
   refine k' _ _ hy3 (aw (by rw [lm_]; omega)) ⟨av (s2.trans s3) hD,Bs ++ [B],by rw [List.map_append]; rfl,?_⟩
   have keep : ∀ (H0 : Hp) (B' : Addr) (es' : List (Int × Addr)) (col : LI),(∃ u,H0 D = some u) -> BackOk H0 H3 B' es' (fun q ls => ls = cf col q) -> BackOk H0 (upd H3 D (.lst (Bs.map V.ref ++ [V.ref B]))) B' es' (fun q ls => ls = cf col q):=fun H0 B' es' col hu bo' => bo'.keep (ae (aA bo'.at_ hy3 (by intro z; cases z))) fun e he => ae fun z => by
    obtain ⟨u,hu⟩:=hu
    have:=bo'.fresh e he
    rw [z,hu] at this
    cases this
   rw [List.take_add_one,List.getElem?_eq_getElem jl]
   exact Paired.snoc (Paired.mapP pv fun B' col h => let ⟨H0,es',hu,b⟩:=h; ⟨H0,es',hu,keep H0 B' es' col hu (b.same s3)⟩) ⟨H2,es,⟨_,hy⟩,keep H2 B es cols[i] ⟨_,hy⟩ bo⟩
  ·rintro D ys H2 hD hy ⟨s2,Bs,rfl,pv⟩
   rw [lm_,A1.length,List.take_length] at pv
   exact nxt _ _ ⟨D,Bs,rfl,s1.trans s2,hy,Paired.mapP pv fun B col h => let ⟨H0,es,_,b⟩:=h; ⟨H0,es,b⟩⟩
 rintro σ' Hb ⟨bl,Bs,rfl,sb,hbl,BA⟩
 have lBs : Bs.length = cols.length:=Paired.length BA
 refine ⟨_,rfl,m,_,_,_,rfl,rfl,qT_ (sb _ _ M.tup),rfl,fun x dx hx hdx ne => ?_⟩
 have up : ∀ b u,Hb b = some u -> (upd (upd Hb dx (HO.own x)) x (HO.ins C dx [])) b = some u:=fun b u h => by rw [ae (ao h hx),ae (ao h hdx)]; exact h
 refine ⟨x,dx,g,signs,rfl,ab,up _ _ (sb _ _ M.sgn),by omega,fun H1 go ms wt iw ds0 kk f1 f2 f3 f4 f5 S1 => ⟨rfl,?_⟩⟩
 have s1' : Same Hb H1:=fun b u h => kk b u (ao h hx) (up b u h)
 have fr : ∀ {b},(upd (upd Hb dx (HO.own x)) x (HO.ins C dx [])) b = none -> Hb b = none:=fun {b} h => by
  cases e : Hb b with
  | none => rfl
  | some u => rw [up b u e] at h; cases h
 rw [ls] at S1
 obtain ⟨RR,eRR⟩ : ∃ RR : Int -> Int -> Prop,(fun x y => ar many x /\ ar many y /\ AllAg rows wide signs x y) = RR:=⟨_,rfl⟩
 have lk:=CO.likes (signs:=signs) R
 rw [eRR] at lk
 have room:=CO.room R
 have sym : ∀ x y,RR x y -> RR y x:=fun x y h => by rw [<- eRR] at h ⊢; exact ⟨h.2.1,h.1,h.2.2.symm⟩
 have fg:=fr f1
 have fms:=fr f2
 have fw:=fr f3
 have fi:=fr f4
 have hop0 : Hop many (cols.map gM) (My.sgn signs) RR (aQ (dh signs)) (fun g => g ∈ (List.range ds0.length).map fun i : Nat => (i : Int)):=by
  refine Hop.start lk (fun a b ha hb => ?_) (fun a ha => ?_) room
  ·have la : ar signs.length a:=by rw [ls]; exact ha
   have lb : ar signs.length b:=by rw [ls]; exact hb
   rw [nQ la.1 la.2,nQ lb.1 lb.2]
   exact DJ la lb
  ·have v:=S1.val a ha
   exact List.mem_map.mpr ⟨(aQ (dh signs) a).toNat,List.mem_range.mpr (by omega),Int.toNat_of_nonneg v.1⟩
 try dsimp only [bt,eG]
 refine dX (t:=km _ _) (fun σ' H' => ∃ (gs ws : LI) (ds : List Addr) (v4 v5 v6 v7 : OV),σ' = [some (.ref m),some (.ref dl),some (.ref bl),some (.ref x),v4,v5,v6,v7] /\ Same Hb H' /\ PtS H' C x go ms wt iw many gs ds ws /\ ∀ a b,ar many a -> ar many b -> (aQ gs a = aQ gs b ↔ AllAg rows wide signs a b)) ?_ (fun D' nxt => ?_)
 rotate_left
 ·refine kG (fun mm σ' H' => ∃ (gs ws : LI) (ds : List Addr) (v4 v5 v6 v7 : OV),mm = 2 * many + ws.length - 2 * ds.length /\ σ' = [some (.ref m),some (.ref dl),some (.ref bl),some (.ref x),v4,v5,v6,v7] /\ Same Hb H' /\ PtS H' C x go ms wt iw many gs ds ws /\ (∀ d ∈ ds,Hb d = none) /\ Hop many (cols.map gM) (My.sgn signs) RR (aQ gs) (fun g => g ∈ ws))
   ⟨_,dh signs,_,ds0,none,none,none,none,rfl,rfl,s1',S1,fun d hd => fr (f5 d hd),hop0⟩ ?_
  rintro mm σ' H2 ⟨gs,ws,ds,v4,v5,v6,v7,emm,rfl,s2,S2,fd2,hop⟩
  obtain ⟨dx2,hx2⟩:=S2.pt.ob
  have few2:=S2.few
  rw [<- eRR] at hop
  by_cases en : ws = []
  ·subst en
   refine ⟨_,rfl,x,C,dx2,_,_,rfl,hx2,pc.cl,pc.nw,rfl,_,.inl ⟨_,qL_ S2.wt_,rfl⟩,j9 (j9 ?_)⟩
   exact nxt _ _ ⟨gs,[],ds,v4,v5,v6,v7,rfl,s2,S2,fun a b ha hb => AK CO R hop (hop.stable (fun _ _ z => by cases z) room) ha hb⟩
  refine ⟨_,rfl,x,C,dx2,_,_,rfl,hx2,pc.cl,pc.nw,rfl,_,.inl ⟨_,qL_ S2.wt_,rfl⟩,?_⟩
  have ne' : (!(ws.map V.int).isEmpty) = true:=by
   cases ws with
   | nil => exact absurd rfl en
   | cons a r => rfl
  rw [ne']
  refine wj ⟨_,rfl,x,dx2,_,rfl,hx2,rfl,x,go,ms,wt,iw,gs,ds,rfl,S2.pt,S2.go_,S2.ms_,_,rfl,CS (fun c => ?_) (fun c => ?_)⟩
  ·refine ⟨fun σ' H' => ∃ m',m' < mm /\ ∃ (gs ws : LI) (ds : List Addr) (v4 v5 v6 v7 : OV),m' = 2 * many + ws.length - 2 * ds.length /\ σ' = [some (.ref m),some (.ref dl),some (.ref bl),some (.ref x),v4,v5,v6,v7] /\ Same Hb H' /\ PtS H' C x go ms wt iw many gs ds ws /\ (∀ d ∈ ds,Hb d = none) /\ Hop many (cols.map gM) (My.sgn signs) RR (aQ gs) (fun g => g ∈ ws),fun _ _ h => h,?_⟩
   rw [eRR] at hop
   obtain ⟨ws0,s,ews⟩ : ∃ ws0 s,ws = ws0 ++ [s]:=⟨ws.dropLast,ws.getLast en,(List.dropLast_concat_getLast en).symm⟩
   subst ews
   have sv:=S2.wv s (List.mem_append_right _ List.mem_cons_self)
   have sl' : s.toNat < ds.length:=by omega
   obtain ⟨da,hda0⟩ : ∃ da,ds[s.toNat]? = some da:=⟨_,List.getElem?_eq_getElem sl'⟩
   obtain ⟨mem,hda,ndm,nem,hm⟩:=S2.mem s.toNat da hda0
   rw [Int.toNat_of_nonneg sv.1] at hm
   have fewM : mem.length <= many:=bP many ndm fun q hq => ((hm q).mp hq).1
   refine ⟨_,rfl,x,dx2,_,rfl,hx2,rfl,x,go,ms,wt,iw,da,s,ws0,ws0 ++ [s],mem,ds,rfl,S2.pt,S2.wt_,S2.iw_,List.mem_append_right _ List.mem_cons_self,S2.ms_,sv.1,hda0,S2.n3,hda,(fun z => S2.ndi (z ▸ mq_ hda0)),by omega,fun sl hsl => ?_⟩
   have S3:=S2.pop (mem:=mem) hsl
   obtain ⟨H3,eH3⟩ : ∃ H3,upd (upd (upd H2 wt (HO.lst (ws0.map V.int))) iw (HO.dK (kvT ((ws0 ++ [s]).filter fun k => decide (k ≠ s))))) sl (HO.lst (mem.map V.int)) = H3:=⟨_,rfl⟩
   have ne3 : ∀ c u,Hb c = some u -> c ≠ go /\ c ≠ ms /\ c ≠ wt /\ c ≠ iw:=fun c u e => ⟨fun z => (by rw [z,fg] at e; cases e),fun z => (by rw [z,fms] at e; cases e),fun z => (by rw [z,fw] at e; cases e),fun z => (by rw [z,fi] at e; cases e)⟩
   have s3 : Same Hb H3:=fun c u e => by
    have n:=ne3 c u e
    rw [<- eH3,ae (ao (s2 _ _ e) hsl),ae n.2.2.2,ae n.2.2.1]
    exact s2 _ _ e
   have hsl3 : H3 sl = some (.lst (mem.map V.int)):=by rw [<- eH3,ab]
   rw [eH3] at S3 ⊢
   have q1 : sl ≠ go:=fun z => by rw [z,S2.go_] at hsl; cases hsl
   have q2 : sl ≠ ms:=fun z => by rw [z,S2.ms_] at hsl; cases hsl
   have q3 : sl ≠ wt:=fun z => by rw [z,S2.wt_] at hsl; cases hsl
   have hs0 : HopS many (cols.map gM) (My.sgn signs) RR (aQ gs) (fun g => g ∈ ws0) (fun q => aQ gs q = s) 0:=(hop.pop room s).mono fun g h => by
    rcases ma_.mp h.1 with z | z
    ·exact z
    ·exact absurd (List.mem_singleton.mp z) h.2
   refine ⟨_,rfl,bl,rfl,⟨_,qL_ (s3 _ _ hbl)⟩,?_⟩
   refine cP (K:=K) (xs:=Bs.map V.ref) (fun k σ' H' => ∃ (gs' ws' : LI) (ds' : List Addr) (v5 v6 v7 : OV),σ' = [some (.ref m),some (.ref dl),some (.ref bl),some (.ref x),some (.ref sl),v5,v6,v7] /\ Same Hb H' /\ PtS H' C x go ms wt iw many gs' ds' ws' /\ (∀ d ∈ ds',Hb d = none) /\ H' sl = some (.lst (mem.map V.int)) /\ HopS many (cols.map gM) (My.sgn signs) RR (aQ gs') (fun g => g ∈ ws') (fun q => aQ gs q = s) k /\ (ws'.length : Int) - 2 * (ds'.length : Int) <= (ws0.length : Int) - 2 * (ds.length : Int))
    ⟨gs,ws0,ds,_,_,_,rfl,s3,S3,fd2,hsl3,hs0,Int.le_refl _⟩ (fun i σ' H' _ ⟨_,_,_,_,_,_,_,e,_⟩ => qL_ (e _ _ hbl)) ?_ ?_
   ·rintro k y σ' H4 hk ⟨gs',ws',ds',v5,v6,v7,rfl,s4,S4,fd4,hsl4,hs4,me4⟩
    have kl : k < cols.length:=by
     have:=(gi_ hk).1
     rw [lm_] at this
     omega
    obtain ⟨B,hB,H0,es,bo⟩:=fk BA (List.getElem?_eq_getElem kl)
    have ey : y = .ref B:=by rw [List.getElem?_map,hB] at hk; exact (Option.some.inj hk).symm
    subst ey
    obtain ⟨col,ecol⟩ : ∃ col,cols[k] = col:=⟨_,rfl⟩
    rw [ecol] at bo
    have hcm : col ∈ cols:=ecol ▸ List.getElem_mem kl
    have ci:=AB R ((hc _).mp hcm)
    have hkc : (cols.map gM)[k]? = some (gM col):=by rw [List.getElem?_map,List.getElem?_eq_getElem kl,ecol]; rfl
    have cmm:=mq_ hkc
    have lm : ∀ {x : Int},x ∈ mem.flatMap (cf col) ↔ ar many x /\ gM col x ∈ mem:=fun {x} => xV ci.1
    obtain ⟨dx4,hx4⟩:=S4.pt.ob
    refine ⟨(by show 0 <= sizeLine; decide),fun La hLa => ?_⟩
    have sLa:=ak hLa (HO.lst [])
    try dsimp only [bt,eG]
    refine dX (t:=tN _ _ _) (fun σ' H' => ∃ v7 : OV,σ' = [some (.ref m),some (.ref dl),some (.ref bl),some (.ref x),some (.ref sl),some (.ref B),some (.ref La),v7] /\ Same H4 H' /\ H' La = some (.lst ((mem.flatMap (cf col)).map V.int))) ?_ (fun D'' nxt' => ?_)
    rotate_left
    ·refine ⟨_,rfl,sl,rfl,⟨_,qL_ (sLa _ _ hsl4)⟩,?_⟩
     refine cP (K:=K) (xs:=mem.map V.int) (fun i σ' H' => ∃ v7 : OV,σ' = [some (.ref m),some (.ref dl),some (.ref bl),some (.ref x),some (.ref sl),some (.ref B),some (.ref La),v7] /\ Same H4 H' /\ H' La = some (.lst (((mem.take i).flatMap (cf col)).map V.int))) ⟨_,rfl,sLa,ab⟩ (fun i σ' H' _ ⟨_,_,e,_⟩ => qL_ (e _ _ hsl4)) ?_ ?_
     ·rintro i y σ' H5 hi ⟨v7,rfl,s5,hL5⟩
      obtain ⟨q,rfl,hq⟩:=br hi
      have b5:=bo.same (s4.trans s5)
      refine ⟨_,rfl,.inl ⟨rfl,_,qL_ hL5⟩,_,rfl,B,rfl,.inl ⟨_,.inl b5.at_⟩,_,rfl,(by show 0 <= sizeLine; decide),fun t0 ht0 => ?_⟩
      have st0:=ak ht0 (HO.tup [])
      have b6:=b5.same st0
      refine ⟨_,DGet.k (k:=Sum.inl q) b6.at_,?_⟩
      have hL6:=st0 _ _ hL5
      have et : (mem.take (i + 1)).flatMap (cf col) = (mem.take i).flatMap (cf col) ++ cf col q:=by
       rw [List.take_add_one,hq,List.flatMap_append]
       show _ ++ [q].flatMap (cf col) = _
       rw [List.flatMap_cons,List.flatMap_nil,List.append_nil]
      have len : (((mem.take i).flatMap (cf col)).map V.int).length + ((cf col q).map V.int).length <= sizeLine:=by
       have nd:=wc col (ms:=mem.take (i + 1)) ((List.take_sublist _ _).nodup ndm)
       have fw' := bP many nd fun z hz => ((xV ci.1).mp hz).1
       rw [et,List.length_append] at fw'
       rw [lm_,lm_]
       exact small (by omega)
      cases hv : di (kvL es) (Sum.inl q) with
      | none =>
       have hq' : q ∉ es.map Prod.fst:=fun z => by
        obtain ⟨e,he,ee⟩:=List.mem_map.mp z
        obtain ⟨jj,hjj⟩:=List.mem_iff_getElem?.mp he
        have:=sC b6.nd (q:=e.1) (a:=e.2) hjj
        rw [ee,hv] at this
        cases this
       have e0:=b6.non _ hq'
       rw [<- e0] at et
       rw [<- e0] at len
       refine .inr ⟨La,t0,_,[],rfl,rfl,hL6,ab,len,?_⟩
       exact ⟨_,rfl,av (s5.trans st0) hLa,by rw [ab,et,List.map_append]; rfl⟩
      | some v =>
       obtain ⟨la,ls',rfl,hm',hla,hp⟩:=b6.get hv
       rw [<- hp] at et
       rw [<- hp] at len
       refine .inl ⟨La,la,_,_,rfl,rfl,hL6,hla,len,?_⟩
       exact ⟨_,rfl,av (s5.trans st0) hLa,by rw [ab,et,List.map_append]⟩
     ·rintro σ' H5 ⟨v7,rfl,s5,hL5⟩
      rw [lm_,List.take_length] at hL5
      exact nxt' _ _ ⟨v7,rfl,s5,hL5⟩
    rintro σ' H5 ⟨v7,rfl,s5,hL5⟩
    have S5:=S4.same s5
    have memS : ∀ q,ar many q -> (q ∈ mem ↔ aQ gs q = s):=fun q hq => ⟨fun z => ((hm q).mp z).2,fun z => (hm q).mpr ⟨hq,z⟩⟩
    have inL : ∀ a,ar many a -> (a ∈ mem.flatMap (cf col) ↔ aQ gs (gM col a) = s):=fun a ha => by
     rw [lm,memS _ (room a ha _ cmm)]
     exact ⟨fun z => z.2,fun z => ⟨ha,z⟩⟩
    refine ⟨_,rfl,x,dx4,_,rfl,s5 _ _ hx4,rfl,_,rfl,x,go,ms,wt,iw,La,many,gs',ws',mem.flatMap (cf col),ds',fun gs1 n1 ws1 => HopS many (cols.map gM) (My.sgn signs) RR (aQ gs1) (fun g => g ∈ ws1) (fun q => aQ gs q = s) k /\ (ws1.length : Int) - 2 * (n1 : Int) <= (ws0.length : Int) - 2 * (ds.length : Int),rfl,S5,n1,hL5,⟨fun z => (by rw [z,S4.go_] at hLa; cases hLa),fun z => (by rw [z,S4.ms_] at hLa; cases hLa),fun z => (by rw [z,S4.wt_] at hLa; cases hLa)⟩,wc col ndm,fun q hq => (lm.mp hq).1,⟨hs4,me4⟩,?_,?_⟩
    ·rintro gs1 n1 ws1 gs2 ws2 ⟨h1,h2⟩ val ⟨b,nw,rfl,e1,e2,e3,e4⟩
     refine ⟨h1.split sym room (L:=fun a => a ∈ mem.flatMap (cf col)) (b:=b) (n:=(n1 : Int)) (fun a c ha hc' r hl => ?_) (fun a ha z => ?_) (fun g hg => List.mem_append_left _ hg) (fun hb => ?_) ?_ e3 e4,?_⟩
     ·rw [inL a ha] at hl
      rw [inL c hc']
      exact h1.whole _ _ (room a ha _ cmm) (room c hc' _ cmm) (lk.led a c r _ cmm) hl
     ·have:=val a ha
      omega
     ·rw [<- e2 hb]
      exact List.mem_append_right _ List.mem_cons_self
     ·rcases e1 with e1 | e1
      ·exact .inl (by rw [<- e1]; exact List.mem_append_right _ List.mem_cons_self)
      ·exact .inr (by rw [<- e1]; exact List.mem_append_right _ List.mem_cons_self)
     ·rw [List.length_append,List.length_singleton]
      omega
    ·intro H6 gs6 ws6 more S6 j6 nc fm kp
     have s6 : Same Hb H6:=fun c u e => by
      have n:=ne3 c u e
      exact kp c u n.1 n.2.1 n.2.2.1 n.2.2.2 (fun z => by rw [fd4 c z] at e; cases e) (s5 _ _ (s4 _ _ e))
     have hsl5:=s5 _ _ hsl4
     refine ⟨gs6,ws6,ds' ++ more,_,_,_,rfl,s6,S6,fun d hd => ?_,kp sl _ q1 q2 q3 (aA hsl5 S5.iw_ (by intro z; cases z)) (fun z => ?_) hsl5,j6.1.next hkc fun a c ha hc' e h => ?_,j6.2⟩
     ·rcases ma_.mp hd with z | z
      ·exact fd4 d z
      ·have:=fm d z
       cases e : Hb d with
       | none => rfl
       | some u => rw [s5 _ _ (s4 _ _ e)] at this; cases this
     ·obtain ⟨mm',hmm⟩:=S5.at_ z
      rw [hsl5] at hmm
      cases hmm
     ·exact (inL c hc').mp (nc a c ha hc' e ((inL a ha).mpr h))
   ·rintro σ' H4 ⟨gs',ws',ds',v5,v6,v7,rfl,s4,S4,fd4,hsl4,hs4,me4⟩
    have few4:=S4.few
    rw [lm_,lBs] at hs4
    have lcm : cols.length = (cols.map gM).length:=(List.length_map _).symm
    rw [lcm] at hs4
    refine ⟨_,?_,gs',ws',ds',_,_,_,_,rfl,rfl,s4,S4,fd4,hs4.done⟩
    rw [emm,List.length_append,List.length_singleton]
    omega
  ·refine nxt _ _ ⟨gs,ws,ds,v4,v5,v6,v7,rfl,s2,S2,fun a b ha hb => AK CO R hop (Hop.single (S2.alone (by rw [c,S2.lg]))) ha hb⟩
 rintro σ' H2 ⟨gs,ws,ds,v4,v5,v6,v7,rfl,s2,S2,fin⟩
 obtain ⟨dx2,hx2⟩:=S2.pt.ob
 exact ⟨_,rfl,x,C,dx2,_,_,rfl,hx2,pc.cl,pc.ng,rfl,k go gs H2 (sb.trans s2) (sb.free fg) S2.go_ S2.lg fin⟩
end
def xw (K : PySem.W.Frag) : Sp:=fun vs H Q E => rD K GU vs H Q E \/ rD K GV vs H Q E
theorem sE (xs : LI) (g : Int) : kvN (xs ++ [g]) 0 = kvN xs 0 ++ [(Sum.inl g,V.int (xs.length : Int))]:=by
 unfold kvN
 rw [List.zipIdx_append,List.map_append,Nat.zero_add]
 rfl
theorem vx {qs : LI} (nd : qs.Nodup) : ∀ i,cQ [] (kvN (qs.take i) 0) = kvN (qs.take i) 0
 | 0 => by rw [List.take_zero]; rfl
 | i + 1 => by
  have ih:=vx nd i
  cases e : qs[i]? with
  | none =>
   rw [List.take_add_one,e]
   show cQ [] (kvN (qs.take i ++ []) 0) = kvN (qs.take i ++ []) 0
   rw [List.append_nil]
   exact ih
  | some g =>
   have et : qs.take (i + 1) = qs.take i ++ [g]:=by rw [List.take_add_one,e]; rfl
   have il:=gi_ e
   have hg : g ∉ qs.take i:=fun z => by
    obtain ⟨j,hj,ej⟩:=List.getElem_of_mem z
    rw [List.length_take] at hj
    rw [List.getElem_take] at ej
    have:=(List.getElem_inj nd).mp (ej.trans il.2.symm)
    omega
   rw [et]
   show cQ [] (kvN (qs.take i ++ [g]) 0) = _
   have m : cQ [] (kvN (qs.take i) 0 ++ [(Sum.inl g,V.int ((qs.take i).length : Int))]) = putK (cQ [] (kvN (qs.take i) 0)) (Sum.inl g) (V.int ((qs.take i).length : Int)):=by
    unfold cQ
    rw [List.foldl_append]
    rfl
   rw [sE,m,ih,wz hg,sE]
theorem p9 (φ : Int -> Int) (n : Nat) : bq φ (n + 1) = bq φ n ++ (if φ (n : Int) = (aH φ n : Int) then [n] else []):=by
 unfold bq
 rw [List.range_succ,List.filter_append]
 congr 1
 by_cases c : φ (n : Int) = (aH φ n : Int)
 ·rw [if_pos c,List.filter_cons_of_pos (by exact decide_eq_true c)]; rfl
 ·rw [if_neg c,List.filter_cons_of_neg (by rw [decide_eq_false c]; decide)]; rfl
theorem Bp {φ : Int -> Int} {n q : Nat} (h : q ∈ bq φ n) : q < n:=List.mem_range.mp (List.mem_filter.mp h).1
theorem oa {many wide : Nat} {rows : LL} (R : RowsOk many wide rows) {q t : Int} (h0 : 0 <= q) (h1 : q < (many : Int)) (ht : t ∈ rows.getD q.toNat []) : ∃ f : Nat,f < wide /\ t = stepI rows q f:=by
 have l : q.toNat < rows.length:=by rw [R.len]; omega
 rw [getD_at l] at ht
 obtain ⟨f,hf,e⟩:=List.getElem_of_mem ht
 have lr:=R.row _ (List.getElem_mem l)
 refine ⟨f,by omega,?_⟩
 unfold stepI
 rw [getD_at l,Int.toNat_natCast,getD_at hf,e]
def rC (K : PySem.W.Frag) : Sp:=fun vs H Q _ => ∃ (m r g : Addr) (many wide : Nat) (rows : LL) (signs : LI),vs = [.ref m] /\ MachAt H m r g wide rows signs /\ RowsOk many wide rows /\ signs.length = many /\ (1 <= many /\ many < 1000) /\ wide <= 1000 /\
 ∀ (m' r' g' : Addr) (rows' : LL) (signs' : LI) (H' : Hp),Same H H' -> MachAt H' m' r' g' wide rows' signs' -> LeastOf wide rows rows' signs signs' -> Q (.ref m') H'
section
variable {P : Program} {w : World} {K : PySem.W.Frag} {mg : Str -> Option Value} {base : Heap} {f : Addr} {fd : FuncData} {dV : Value}
theorem Dw (F : FunD K "with_rooms" "with_rooms" bD dV f fd) (aI : mg "tuple" = none) : FnOk P w K mg base CX0 1 f fd ["machine","kept","numbers"] (xw K):=FnOk.or (B1 F aI) (B3 F aI)
theorem sc_least : FnScope ["machine","reached","small","numbers","firsts","groups","here","group"] ["machine"] (aj hX):=⟨rfl,rfl,rfl,by decide +kernel,rfl,by decide +kernel,by decide +kernel⟩
theorem bk_least_0 : BlkScope ["machine","reached","small","numbers","firsts","groups","here","group"] (aj hX) ["number","here"] [none,none] { kind:=ScopeKind.function,names:=[(".0",NameKind.local),("number",NameKind.local),("here",NameKind.local)],isGenerator:=false,isCoroutine:=false,more:=[] }:=⟨rfl,by decide +kernel,by decide +kernel,by decide +kernel,by decide +kernel,rfl,by decide +kernel⟩
theorem bk_least_1 : BlkScope ["machine","reached","small","numbers","firsts","groups","here","group"] (aj hX) ["group","numbers"] [none,some 3] { kind:=ScopeKind.function,names:=[(".0",NameKind.local),("group",NameKind.local),("numbers",NameKind.free)],isGenerator:=false,isCoroutine:=false,more:=[] }:=⟨rfl,by decide +kernel,by decide +kernel,by decide +kernel,by decide +kernel,rfl,by decide +kernel⟩
theorem Dm (F : FunD K "least" "least" hX dV f fd) (dM : DefOk P w K mg base "reached_rooms" 1 ["machine","start"] [.int 0] (pV K)) (fX : DefOk P w K mg base "with_rooms" 1 ["machine","kept","numbers"] [] (xw K)) (dN : DefOk P w K mg base "unparted_groups" 4 ["machine"] [] (Eg K))
  (bO : mg "enumerate" = none) (fS : mg "dict" = none) (bB : mg "len" = none) : FnOk P w K mg base CX0 5 f fd ["machine"] (rC K):=by
 refine F.ok sc_least (fun vs H Q E h => ?_) (fun cdv A outer s H vs Q E hr h => ?_)
 ·obtain ⟨m,r,g,many,wide,rows,signs,rfl,_⟩:=h
  rfl
 obtain ⟨m,r,g,many,wide,rows,signs,rfl,M,R,ls,⟨n0,n1⟩,w1,k⟩:=h
 have hu:=jI hr
 refine yS (bF (PSW.mk (ax (i:=1) sc_least.nd rfl (Or.inl rfl) (aV dM hr (aa (pv 0) af))))
   (bF (PSW.mk (ax (i:=2) sc_least.nd rfl (Or.inl rfl) (aV fX hr (aa (pv 0) (aa (pv 1) (aa (aL (jU rfl) (by rfl) fS qY (aa (cB rfl bk_least_0 (sV rfl bO (aa (pv 1) af)) (fun _ _ _ _ => (Fh K (n:=2) rfl (bJ (ay (i:=0) bk_least_0.nd rfl (Or.inl rfl)) (bJ (ay (i:=1) bk_least_0.nd rfl (Or.inl rfl)) jB)))) (fun _ _ _ _ => (eD (aa (pv 1) (aa (pv 0) af))))) af)) af))))))
   (bF (PSW.mk (ax (i:=3) sc_least.nd rfl (Or.inr rfl) ki))
   (bF (PSW.mk (ax (i:=4) sc_least.nd rfl (Or.inl rfl) (bI af)))
   (bF (PSW.mk (ax (i:=5) sc_least.nd rfl (Or.inl rfl) (aV dN hr (aa (pv 2) af))))
   (bF (PSW.mk (bN PassesOwn.never rfl (sV rfl bO (aa (pv 5) af)) (pG rfl (bJ (ay (i:=6) sc_least.nd rfl (Or.inl rfl)) (bJ (ay (i:=7) sc_least.nd rfl (Or.inl rfl)) jB))) (au (cL (z4 (vz hu (pv 7) (pv 3)) (by with_unfolding_all rfl)) (ah (nX hu (pv 3) (pv 7) (aR ko (by rfl) bB cw (aa (pv 3) af)) rfl)
   (au (a7 (eC PySem.F.plainAttrs_list PySem.F.slot_list_append PySem.F.type_list_append ba (pv 4) (aa (pv 6) af))))) bx))))
   (Ar (PSW.mk (aM (aV fX hr (aa (pv 2) (aa (pv 4) (aa (cB rfl bk_least_1 (cb (pv 5)) (fun _ _ _ _ => (ay (i:=0) bk_least_1.nd rfl (Or.inl rfl))) (fun _ _ _ _ => (AU hu (pv 1) (pv 0) (fun _ _ => rfl)))) af))))))))))))) ?_
 refine ⟨_,rfl,m,r,g,many,wide,rows,signs,rfl,M,R,⟨n0,by omega⟩,fun l H1 qs s1 hl1 bf => ?_⟩
 have few:=bP many bf.nd bf.inr
 have reF : ∀ q ∈ qs,∃ row,InF wide row /\ aG rows row 0 = q:=fun q hq => (bf.re q).mp hq
 obtain ⟨R1,O1,p1,t1⟩:=yG (signs:=signs) R (by omega) bf.eq bf.nd (fun q hq => bf.inr q hq) reF
 try dsimp only [bt,eG]
 refine dX (t:=pY _ _) (fun σ' H' => ∃ m1 r1 g1 : Addr,σ' = [some (.ref m),some (.ref l),some (.ref m1),none,none,none,none,none] /\ Same H H' /\ MachAt H' m1 r1 g1 wide (bu rows (rho qs) qs) (bz signs qs)) ?_ (fun D' nxt => ?_)
 rotate_left
 ·refine ⟨_,rfl,_,rfl,_,rfl,l,rfl,⟨_,qL_ hl1⟩,?_⟩
  refine y3 (K:=K) (xs:=qs.map V.int) (fun D i ys H' => Same H1 H' /\ ∃ ts,ys = ts.map V.ref /\ PairsV H' ts (kvN (qs.take i) 0)) (fun T σ H Q i x h q => ⟨T,[.int i,x],rfl,qT_ h,rfl,.int i,[x],rfl,x,[],rfl,rfl,q⟩) (fun D hD => ⟨ak hD _,[],rfl,.nil⟩) (fun D i ys H' _ ⟨e,_⟩ => qL_ (e _ _ hl1)) ?_ ?_
  ·rintro D i y ys H2 T0 Q' hD hi hy ⟨s2,ts,rfl,pv⟩ hT0 k'
   obtain ⟨q,rfl,hq⟩:=br hi
   have il:=(gi_ hq).1
   have sT0:=ak hT0 (HO.tup [V.int i,V.int q])
   refine ⟨_,rfl,_,rfl,(by show 2 <= sizeLine; decide),fun T hT => ?_⟩
   have sT:=ak hT (HO.tup [V.int q,V.int i])
   obtain ⟨H3,eH3⟩ : ∃ H3,upd (upd H2 T0 (HO.tup [V.int i,V.int q])) T (HO.tup [V.int q,V.int i]) = H3:=⟨_,rfl⟩
   have hT3 : H3 T = some (.tup [V.int q,V.int i]):=by rw [<- eH3,ab]
   rw [eH3] at sT ⊢
   have s3:=sT0.trans sT
   have hy3:=s3 _ _ hy
   have lts : ts.length = i:=by
    rw [Paired.length pv,js,List.length_take]
    omega
   refine k' _ _ hy3 (aw (by rw [lm_]; omega)) ⟨av (s2.trans s3) hD,ts ++ [T],by rw [List.map_append]; rfl,?_⟩
   have up : ∀ b xs,H3 b = some (.tup xs) -> (upd H3 D (.lst (ts.map V.ref ++ [V.ref T]))) b = some (.tup xs):=fun b xs e => by
    rw [ae (aA e hy3 (by intro z; cases z))]; exact e
   have et : qs.take (i + 1) = qs.take i ++ [q]:=by rw [List.take_add_one,hq]; rfl
   have ll : (qs.take i).length = i:=by rw [List.length_take]; omega
   rw [et,sE,ll]
   exact Paired.snoc (PairsV.same pv fun b xs e => up b xs (s3 _ _ e)) (up _ _ hT3)
  ·rintro L ys H2 fL hL ⟨s2,ts,rfl,pv⟩
   rw [lm_,List.take_length] at pv
   refine ⟨L,ts,_,rfl,hL,pv,fun D hD => ?_⟩
   have mk:=vx bf.nd qs.length
   rw [List.take_length] at mk
   rw [mk]
   have s3:=s2.trans (ak hD (HO.dK (kvN qs 0)))
   refine .inl ⟨m,l,D,r,g,many,wide,rows,signs,qs,rho qs,rfl,M.same fun b xs e => s3 _ _ (s1 _ _ e),R,ls,⟨by omega,w1⟩,s3 _ _ hl1,by omega,bf.inr,⟨_,ab,fun q hq t ht => ?_⟩,fun m1 r1 g1 H3 s4 M3 => ?_⟩
   ·have qi:=bf.inr q hq
    obtain ⟨f,hf,e⟩:=oa R qi.1 qi.2 ht
    have tq : t ∈ qs:=(bf.re t).mpr (by rw [e]; exact ((bf.re q).mp hq).step (by omega) (by omega))
    rw [kB,if_pos tq,Nat.zero_add]
    rfl
   ·exact nxt _ _ ⟨m1,r1,g1,rfl,(s1.trans s3).trans s4,M3⟩
 rintro σ' H2 ⟨m1,r1,g1,rfl,s2,M2⟩
 refine fun Nn hNn => ⟨(by show 0 <= sizeLine; decide),fun Fa hFa => ?_⟩
 obtain ⟨H3,eH3⟩ : ∃ H3,upd (upd H2 Nn (HO.dK [])) Fa (HO.lst []) = H3:=⟨_,rfl⟩
 have s3 : Same H2 H3:=by rw [<- eH3]; exact (ak hNn _).trans (ak hFa _)
 have nNF : Nn ≠ Fa:=ao ab hFa
 have hN3 : H3 Nn = some (.dK []):=by rw [<- eH3,ae nNF,ab]
 have hF3 : H3 Fa = some (.lst []):=by rw [<- eH3,ab]
 have fN : H Nn = none:=s2.free hNn
 have fF : H Fa = none:=s2.free ((ak hNn (HO.dK [])).free hFa)
 rw [eH3]
 have lsg : (bz signs qs).length = qs.length:=by unfold bz; rw [lm_]
 have R1' : RowsOk qs.length wide (bu rows (rho qs) qs):=R1
 refine ⟨_,rfl,m1,r1,g1,qs.length,wide,_,_,rfl,M2.same fun b xs e => s3 _ _ e,R1',lsg,by omega,w1,fun go gs H4 s4 fgo hgo lg hg => ?_⟩
 have sH4 : Same H2 H4:=s3.trans s4
 have M4:=M2.same fun b xs e => sH4 _ _ e
 try dsimp only [bt,eG]
 refine dX (t:=tN _ _ _) (fun σ' H' => ∃ v6 v7 : OV,σ' = [some (.ref m),some (.ref l),some (.ref m1),some (.ref Nn),some (.ref Fa),some (.ref go),v6,v7] /\ (∀ c u,c ≠ Nn -> c ≠ Fa -> H4 c = some u -> H' c = some u) /\ H' Nn = some (.dK (kvN (a9 gs) 0)) /\ H' Fa = some (.lst (((bq (phi gs) gs.length).map fun i : Nat => (i : Int)).map V.int))) ?_ (fun D' nxt => ?_)
 rotate_left
 ·have ngN : go ≠ Nn:=aA hgo (s4 _ _ hN3) (by intro z; cases z)
  have ngF : go ≠ Fa:=fun z => by rw [z,hF3] at fgo; cases fgo
  refine ⟨_,rfl,go,rfl,⟨_,qL_ hgo⟩,vf (K:=K) (xs:=gs.map V.int) (fun i σ' H' => ∃ v6 v7 : OV,σ' = [some (.ref m),some (.ref l),some (.ref m1),some (.ref Nn),some (.ref Fa),some (.ref go),v6,v7] /\ (∀ c u,c ≠ Nn -> c ≠ Fa -> H4 c = some u -> H' c = some u) /\ H' Nn = some (.dK (kvN (a9 (gs.take i)) 0)) /\ H' Fa = some (.lst (((bq (phi gs) i).map fun i : Nat => (i : Int)).map V.int)))
   ⟨none,none,rfl,fun _ _ _ _ e => e,s4 _ _ hN3,s4 _ _ hF3⟩ (fun i σ' H' _ ⟨_,_,_,e,_⟩ => qL_ (e _ _ ngN ngF hgo)) ?_ ?_⟩
  ·rintro i y σ' H5 T hi ⟨v6,v7,rfl,kp5,hN5,hF5⟩ hT
   obtain ⟨gg,rfl,hgg⟩:=br hi
   have il:=(gi_ hgg).1
   have sT:=ak hT (HO.tup [V.int i,V.int gg])
   obtain ⟨H6,eH6⟩ : ∃ H6,upd H5 T (HO.tup [V.int i,V.int gg]) = H6:=⟨_,rfl⟩
   have hT6 : H6 T = some (.tup [V.int i,V.int gg]):=by rw [<- eH6]; exact ab
   rw [eH6] at sT ⊢
   have hN6:=sT _ _ hN5
   have hF6:=sT _ _ hF5
   have ol:=nO (gs.take i)
   rw [List.length_take] at ol
   have cp:=vS gs (m:=i) (by omega)
   have fl:=gO (phi gs) i
   refine ⟨T,_,rfl,qT_ hT6,rfl,_,_,rfl,_,_,rfl,rfl,?_⟩
   refine ⟨_,rfl,_,rfl,Nn,_,rfl,DGet.k (k:=Sum.inl gg) hN6,_,rfl,?_⟩
   rw [kB]
   by_cases c : gg ∈ a9 (gs.take i)
   ·rw [if_pos c]
    refine j9 ⟨_,_,rfl,fun c' u c1 c2 e => sT _ _ (kp5 c' u c1 c2 e),by rw [hN6,gq hgg,iC c],?_⟩
    have ph:=rq hgg c
    have lt:=List.idxOf_lt_length_of_mem c
    rw [hF6,p9,if_neg (by rw [ph,cp]; omega),List.append_nil]
   ·rw [if_neg c]
    refine wj ⟨_,rfl,Nn,_,rfl,hN6,_,rfl,_,rfl,Nn,_,rfl,DPut.k (k:=Sum.inl gg) hN6 (aw (by rw [js]; omega)),?_⟩
    rw [js,wz c]
    have nFN : Fa ≠ Nn:=Ne.symm nNF
    have ph:=rn hgg c
    refine ⟨_,rfl,.inl ⟨rfl,_,qL_ (by rw [ae nFN]; exact hF6)⟩,_,rfl,Fa,_,_,rfl,rfl,(by rw [ae nFN]; exact hF6),aw (by rw [lm_,lm_,fl,cp]; omega),?_⟩
    refine ⟨_,_,rfl,fun c' u c1 c2 e => by rw [ae c2,ae c1]; exact sT _ _ (kp5 c' u c1 c2 e),by rw [ae nNF,ab,gq hgg,eR c],?_⟩
    rw [ab,p9,if_pos (by rw [ph,cp]),List.map_append,List.map_append]
    rfl
  ·rintro σ' H5 ⟨v6,v7,rfl,kp5,hN5,hF5⟩
   rw [lm_,List.take_length] at hN5
   rw [lm_] at hF5
   exact nxt _ _ ⟨v6,v7,rfl,kp5,hN5,hF5⟩
 rintro σ' H5 ⟨v6,v7,rfl,kp5,hN5,hF5⟩
 have s5 : Same H H5:=fun c u e => kp5 c u (fun z => by rw [z,fN] at e; cases e) (fun z => by rw [z,fF] at e; cases e) (sH4 _ _ (s2 _ _ e))
 have M5 : MachAt H5 m1 r1 g1 wide (bu rows (rho qs) qs) (bz signs qs):=M4.same fun b xs e => kp5 b _ (aA e (s4 _ _ hN3) (by intro z; cases z)) (aA e (s4 _ _ hF3) (by intro z; cases z)) e
 have hgo5 : H5 go = some (.lst (gs.map V.int)):=kp5 _ _ (aA hgo (s4 _ _ hN3) (by intro z; cases z)) (fun z => by rw [z,hF3] at fgo; cases fgo) hgo
 have plg : (dh gs).length = gs.length:=by unfold dh; rw [lm_,List.length_range]
 refine ⟨_,rfl,_,rfl,_,rfl,go,rfl,⟨_,qL_ hgo5⟩,?_⟩
 refine gm (K:=K) (xs:=gs.map V.int) (fun D i ys H' => Same H5 H' /\ ys = ((dh gs).take i).map V.int) (fun D hD => ⟨ak hD _,rfl⟩) (fun D i ys H' _ ⟨e,_⟩ => qL_ (e _ _ hgo5)) ?_ ?_
 ·rintro D i y ys H6 Q' hD hi hy ⟨s6,rfl⟩ k'
  obtain ⟨gg,rfl,hgg⟩:=br hi
  have il:=(gi_ hgg).1
  have om : gg ∈ a9 gs:=once_mem.mpr (mq_ hgg)
  have ph : phi gs (i : Int) = (((a9 gs).idxOf gg : Nat) : Int):=by
   unfold phi
   rw [Int.toNat_natCast,List.getD_eq_getElem?_getD,hgg]
   rfl
  have dg : DGet H6 Nn (.int gg) (some (.int (phi gs (i : Int)))):=by
   have d:=DGet.k (k:=Sum.inl gg) (s6 _ _ hN5)
   rw [kB,if_pos om,Nat.zero_add,<- ph] at d
   exact d
  have hp : (dh gs)[i]? = some (phi gs (i : Int)):=by
   unfold dh
   rw [List.getElem?_map,List.getElem?_range il]
   rfl
  refine ⟨_,rfl,_,rfl,Nn,_,rfl,dg,k' _ _ hy (aw (by rw [lm_,List.length_take]; omega)) ⟨av s6 hD,?_⟩⟩
  rw [List.take_add_one,hp,List.map_append]
  rfl
 ·rintro L ys H6 fL hL ⟨s6,rfl⟩
  rw [lm_,<- plg,List.take_length] at hL
  have fi : ∀ q ∈ (bq (phi gs) gs.length).map (fun i : Nat => (i : Int)),0 <= q /\ q < (qs.length : Int):=fun q hq => by
   obtain ⟨i,hi,rfl⟩:=List.mem_map.mp hq
   have:=Bp hi
   omega
  have flen : ((bq (phi gs) gs.length).map fun i : Nat => (i : Int)).length <= 1000:=by
   rw [lm_]
   have:=List.length_filter_le (fun q : Nat => decide (phi gs (q : Int) = (aH (phi gs) q : Int))) (List.range gs.length)
   rw [List.length_range] at this
   unfold bq
   omega
  refine .inr ⟨m1,Fa,L,r1,g1,qs.length,wide,_,_,_,phi gs,rfl,M5.same fun b xs e => s6 _ _ e,R1',lsg,⟨by omega,w1⟩,s6 _ _ hF5,flen,fi,⟨dh gs,hL,fun q hq t ht => ?_⟩,fun m' r' g' H7 s7 M7 => ?_⟩
  ·have qi:=fi q hq
   obtain ⟨f,hf,e⟩:=oa R1' qi.1 qi.2 ht
   have tv:=cR R1' qi.1 qi.2 (f:=(f : Int)) (by omega) (by omega)
   rw [<- e] at tv
   have tv1 : t < (gs.length : Int):=by rw [lg]; exact tv.2
   refine ⟨⟨tv.1,by rw [plg]; exact tv1⟩,?_⟩
   have:=nQ (gs:=gs) tv.1 tv1
   unfold aQ at this
   exact this.symm
  ·refine k m' r' g' _ _ H7 ((s5.trans s6).trans s7) M7 ?_
   have L:=ya (signs:=signs) (gs:=gs) R (by omega) bf.eq bf.nd (fun q hq => bf.inr q hq) reF lg (fun x y hx hy => by
    have h:=hg (x : Int) (y : Int) ⟨by omega,by omega⟩ ⟨by omega,by omega⟩
    unfold aQ at h
    rw [Int.toNat_natCast,Int.toNat_natCast] at h
    exact h)
   have el : (qs.map fun q => (rows.getD q.toNat []).map (rho qs)).length = gs.length:=by rw [lm_,lg]
   rw [n8,el,<- lg] at L
   have e1 : bu (bu rows (rho qs) qs) (phi gs) ((bq (phi gs) gs.length).map fun i : Nat => (i : Int)) = (bq (phi gs) gs.length).map fun i => ((qs.map fun q => (rows.getD q.toNat []).map (rho qs)).getD i []).map (phi gs):=by
    unfold bu
    rw [List.map_map]
    rfl
   have e2 : bz (bz signs qs) ((bq (phi gs) gs.length).map fun i : Nat => (i : Int)) = (bq (phi gs) gs.length).map fun q => (qs.map fun q => signs.getD q.toNat 0).getD q 0:=by
    unfold bz
    rw [List.map_map]
    rfl
   rw [e1,e2]
   exact L
end
def cM (b : Int) : LI -> Int
 | [] => 0
 | p :: r => p + b * cM b r
def g7 (m : Int) : LI -> LI
 | [] => []
 | p :: r => p % m :: p / m :: g7 m r
def InB (b : Int) (ps : LI) : Prop := ∀ p ∈ ps,0 <= p /\ p < b
theorem InB.nil {b : Int} : InB b []:=fun p h => by cases h
theorem InB.cons {b p : Int} {r : LI} (h0 : 0 <= p) (h1 : p < b) (h : InB b r) : InB b (p :: r):=fun x hx => by
 rcases List.mem_cons.mp hx with z | z
 ·rw [z]; exact ⟨h0,h1⟩
 ·exact h x z
theorem InB.tail {b p : Int} {r : LI} (h : InB b (p :: r)) : InB b r:=fun x hx => h x (List.mem_cons_of_mem _ hx)
theorem o7 (m : Int) : ∀ ps : LI,(g7 m ps).length = 2 * ps.length
 | [] => rfl
 | p :: r => by simp only [g7,List.length_cons,o7 m r]; omega
theorem xW {m : Int} (hm : 0 < m) : ∀ {ps : LI},InB (m * m) ps -> InB m (g7 m ps)
 | [],_ => InB.nil
 | p :: r,h => by
  have hp:=h p List.mem_cons_self
  have d0 : 0 <= p / m:=Int.ediv_nonneg hp.1 (Int.le_of_lt hm)
  have d1 : p / m < m:=Int.ediv_lt_of_lt_mul hm hp.2
  exact InB.cons (Int.emod_nonneg p (by omega)) (Int.emod_lt_of_pos p hm) (InB.cons d0 d1 (xW hm h.tail))
theorem vh (m : Int) : ∀ ps : LI,cM m (g7 m ps) = cM (m * m) ps
 | [] => rfl
 | p :: r => by
  have e:=Int.emod_add_mul_ediv p m
  simp only [g7,cM,vh m r]
  rw [Int.mul_add,<- Int.add_assoc,e,Int.mul_assoc]
theorem nh (m : Int) : ∀ (ps : LI) (x : Int),g7 m (ps ++ [x]) = g7 m ps ++ [x % m,x / m]
 | [],x => rfl
 | p :: r,x => by simp only [List.cons_append,g7,nh m r x]
theorem qp {b : Int} (hb : 0 <= b) : ∀ {ps : LI},InB b ps -> 0 <= cM b ps
 | [],_ => Int.le_refl 0
 | p :: r,h => Int.add_nonneg (h p List.mem_cons_self).1 (Int.mul_nonneg hb (qp hb h.tail))
theorem qk (b : Int) : ∀ (ps qs : LI),cM b (ps ++ qs) = cM b ps + b ^ ps.length * cM b qs
 | [],qs => by simp [cM]
 | p :: r,qs => by
  simp only [List.cons_append,cM,qk b r qs,List.length_cons]
  rw [Int.mul_add,Int.pow_succ,Int.add_assoc,<- Int.mul_assoc,Int.mul_comm b (b ^ r.length)]
theorem Cj (b : Int) (ps : LI) (x : Int) : cM b (ps ++ [x]) = cM b ps + x * b ^ ps.length:=by
 rw [qk]
 simp [cM,Int.mul_comm]
def pw (w : Int) : Nat -> Int
 | 0 => w
 | i + 1 => pw w i * pw w i
theorem w5 {w : Int} (h : 2 <= w) : ∀ i,2 <= pw w i
 | 0 => h
 | i + 1 => by
  have q:=w5 h i
  have:=Int.mul_le_mul q q (by decide) (by omega)
  show 2 <= pw w i * pw w i
  omega
theorem FP {w : Int} (h : 2 <= w) (i : Nat) : pw w i < pw w (i + 1):=by
 have q:=w5 h i
 have:=Int.mul_le_mul q (Int.le_refl (pw w i)) (by omega) (by omega)
 show pw w i < pw w i * pw w i
 omega
theorem FO {w : Int} (h : 2 <= w) : ∀ i : Nat,(2 : Int) ^ (2 ^ i) <= pw w i
 | 0 => by simpa [pw] using h
 | i + 1 => by
  have q:=FO h i
  have e : (2 : Int) ^ (2 ^ (i + 1)) = 2 ^ (2 ^ i) * 2 ^ (2 ^ i):=by
   rw [Nat.pow_succ,Nat.mul_two,Int.pow_add]
  rw [e]
  have p0 : (0 : Int) <= 2 ^ (2 ^ i):=Int.le_of_lt (Int.pow_pos (by decide))
  exact Int.mul_le_mul q q p0 (Int.le_trans p0 q)
def NB : Int:=2 ^ 1100
theorem Co : NB * NB < BIG:=by decide +kernel
theorem FY : 2 < NB:=by decide +kernel
theorem DZ {w n : Int} {t : Nat} (h : 2 <= w) (hp : pw w t <= n) (hn : n < NB) : 2 ^ t < 1100:=by
 have q:=FO h t
 have q2 : (2 : Int) ^ (2 ^ t) < 2 ^ 1100:=Int.lt_of_le_of_lt (Int.le_trans q hp) hn
 have q3 : (2 : Nat) ^ (2 ^ t) < 2 ^ 1100:=by exact_mod_cast q2
 exact (Nat.pow_lt_pow_iff_right (by decide)).mp q3
def pws (w : Int) (t : Nat) : LI:=(List.range t).map (pw w)
theorem D3 (w : Int) (t : Nat) : pws w (t + 1) = pws w t ++ [pw w t]:=by
 unfold pws
 rw [List.range_succ,List.map_append]
 rfl
theorem rB (w : Int) (t : Nat) : (pws w t).length = t:=by simp [pws]
theorem Fm {w : Int} {t i : Nat} (h : i < t) : (pws w t)[i]? = some (pw w i):=by simp [pws,h]
structure Figs (w n : Int) (ds : LI) : Prop where
 inb : InB w ds
 val : cM w ds = n
 top : ∀ d,ds.getLast? = some d -> d ≠ 0
theorem zt (ds : LI) : ds = [] \/ ∃ r x,ds = r ++ [x]:=by
 rcases List.eq_nil_or_concat ds with h | ⟨r,x,h⟩
 ·exact .inl h
 ·exact .inr ⟨r,x,by simpa using h⟩
def xv : Sp:=fun vs H Q _ => ∃ z : Int,vs = [.int z] /\ Q (.bl true) H
def Ae : Sp:=fun vs H Q _ => ∃ z y : Int,vs = [.int z,.int y] /\ Q (.bl (decide (y <= z))) H
def Ag : Sp:=fun vs H Q _ => ∃ (z y : Int) (x : Str),vs = [.int z,.int y,.str x] /\ y <= z /\ Q .non H
def tF (K : PySem.W.Frag) : Sp:=fun vs H Q _ => ∃ (a : Addr) (m : Int) (ps : LI),vs = [.ref a,.int m] /\ SqL K H a (ps.map V.int) /\ ps.length <= 5000 /\ (0 < m /\ m < BIG) /\
 ∀ (l : Addr) (H' : Hp),Same H H' -> H l = none -> H' l = some (.lst ((g7 m ps).map V.int)) -> Q (.ref l) H'
def kE (K : PySem.W.Frag) : Sp:=fun vs H Q _ => ∃ n w : Int,vs = [.int n,.int w] /\ (0 <= n /\ n < NB) /\ (2 <= w /\ w < NB) /\
 ∀ (t : Addr) (H' : Hp) (ds : LI),Same H H' -> H' t = some (.tup (ds.map V.int)) -> Figs w n ds -> ds.length <= 5000 -> Q (.ref t) H'
section
variable {P : Program} {w : World} {K : PySem.W.Frag} {mg : Str -> Option Value} {base : Heap} {f : Addr} {fd : FuncData} {dV : Value}
theorem yB : FnScope ["thing"] ["thing"] (aj e7):=⟨rfl,rfl,rfl,by decide +kernel,rfl,by decide +kernel,by decide +kernel⟩
theorem pP : FnScope ["thing","least"] ["thing","least"] (aj b4):=⟨rfl,rfl,rfl,by decide +kernel,rfl,by decide +kernel,by decide +kernel⟩
theorem uS : FnScope ["thing","least","called"] ["thing","least","called"] (aj c9):=⟨rfl,rfl,rfl,by decide +kernel,rfl,by decide +kernel,by decide +kernel⟩
theorem sc_figures : FnScope ["number","wide","powers","power","parts","middle"] ["number","wide"] (aj gw):=⟨rfl,rfl,rfl,by decide +kernel,rfl,by decide +kernel,by decide +kernel⟩
theorem sc_halved : FnScope ["parts","middle","halves","part"] ["parts","middle"] (aj iO):=⟨rfl,rfl,rfl,by decide +kernel,rfl,by decide +kernel,by decide +kernel⟩
theorem yn (F : FunD K "is_whole" "is_whole" e7 dV f fd) (gi : mg "isinstance" = none) (vF : mg "int" = none) (Av : mg "bool" = none) : FnOk P w K mg base CX0 1 f fd ["thing"] xv:=by
 refine F.ok yB (fun vs H Q E h => ?_) (fun cdv A outer s H vs Q E hr h => ?_)
 ·obtain ⟨z,rfl,_⟩:=h
  rfl
 obtain ⟨z,rfl,q⟩:=h
 refine ⟨_,(au (aM (DA (aR xI (by rfl) gi kZ (aa (pv 0) (aa (AS (v:=.ty "int") rfl vF Ct rfl) af))) (DG (Gx (aR xI (by rfl) gi kZ (aa (pv 0) (aa (AS (v:=.ty "bool") rfl Av Ey rfl) af)))))))),?_⟩
 refine ⟨_,rfl,_,_,_,_,rfl,TyOf.int z,x3 K,_,rfl,wj ?_⟩
 exact ⟨_,rfl,_,_,_,_,rfl,TyOf.int z,wy K,_,rfl,q⟩
theorem E2 (F : FunD K "is_whole_from" "is_whole_from" b4 dV f fd) (lM : DefOk P w K mg base "is_whole" 1 ["thing"] [] xv) : FnOk P w K mg base CX0 2 f fd ["thing","least"] Ae:=by
 refine F.ok pP (fun vs H Q E h => ?_) (fun cdv A outer s H vs Q E hr h => ?_)
 ·obtain ⟨z,y,rfl,_⟩:=h
  rfl
 obtain ⟨z,y,rfl,q⟩:=h
 refine ⟨_,(au (aM (DA (aV lM hr (aa (pv 0) af)) (DG (rj FJ (pv 0) (pv 1) (bh _)))))),?_⟩
 exact ⟨_,rfl,z,rfl,_,rfl,wj ⟨_,rfl,_,rfl,_,_,rfl,rfl,q⟩⟩
theorem E4 (F : FunD K "need_whole" "need_whole" c9 dV f fd) (ft : DefOk P w K mg base "is_whole_from" 2 ["thing","least"] [] Ae) : FnOk P w K mg base CX0 3 f fd ["thing","least","called"] Ag:=by
 refine F.ok uS (fun vs H Q E h => ?_) (fun cdv A outer s H vs Q E hr h => ?_)
 ·obtain ⟨z,y,x,rfl,_⟩:=h
  rfl
 obtain ⟨z,y,x,rfl,hy,q⟩:=h
 refine ⟨_,(au (cL (wZ (w4 (aV ft hr (aa (pv 0) (aa (pv 1) af))))) (au yx) bx)),?_⟩
 refine ⟨_,rfl,_,rfl,z,y,rfl,_,rfl,Hg hy ?_⟩
 exact q
theorem BU (F : FunD K "halved" "halved" iO dV f fd) : FnOk P w K mg base CX0 1 f fd ["parts","middle"] (tF K):=by
 refine F.ok sc_halved (fun vs H Q E h => ?_) (fun cdv A outer s H vs Q E hr h => ?_)
 ·obtain ⟨a,m,ps,rfl,_⟩:=h
  rfl
 obtain ⟨a,m,ps,rfl,hS,hl,⟨m0,m1⟩,k⟩:=h
 refine ⟨_,(ah (ax (i:=2) sc_halved.nd rfl (Or.inl rfl) (bI af))
   (ah (bN PassesOwn.never rfl (cb (pv 0)) (ay (i:=3) sc_halved.nd rfl (Or.inl rfl)) (ah (a7 (eC PySem.F.plainAttrs_list PySem.F.slot_list_append PySem.F.type_list_append ba (pv 2) (aa (az bw (pv 3) (pv 1)) af)))
   (au (a7 (eC PySem.F.plainAttrs_list PySem.F.slot_list_append PySem.F.type_list_append ba (pv 2) (aa (az Dx (pv 3) (pv 1)) af))))))
   (au (aM (pv 2))))),?_⟩
 refine ⟨(by show 0 <= sizeLine; decide),fun l hl0 => ?_⟩
 refine ⟨_,rfl,a,rfl,⟨_,(ak hl0 _).seq hS⟩,cP (K:=K) (xs:=ps.map V.int) (fun i σ' H' => ∃ v,σ' = [some (.ref a),some (.int m),some (.ref l),v] /\ Same H H' /\ H' l = some (.lst ((g7 m (ps.take i)).map V.int)))
  ⟨none,rfl,ak hl0 _,ab⟩ (fun i σ' H' _ ⟨_,_,s,_⟩ => s.seq hS) ?_ ?_⟩
 ·rintro i y σ' H' hi ⟨v,rfl,s1,h1⟩
  obtain ⟨z,rfl,hz⟩:=br hi
  have hi' : i < ps.length:=(gi_ hz).1
  have l1 : ((g7 m (ps.take i)).map V.int).length <= 10000:=by
   rw [lm_,o7,List.length_take]
   omega
  have big : 10002 < sizeLine:=by decide
  refine ⟨_,rfl,.inl ⟨rfl,_,qL_ h1⟩,_,rfl,_,rfl,_,_,rfl,rfl,m0,l,_,_,rfl,rfl,h1,by omega,?_⟩
  refine ⟨_,rfl,.inl ⟨rfl,_,qL_ ab⟩,_,rfl,_,rfl,_,_,rfl,rfl,⟨m0,m1⟩,l,_,_,rfl,rfl,ab,by rw [List.length_append]; simp only [List.length_singleton]; omega,?_⟩
  refine ⟨_,rfl,av (av s1 hl0) hl0,?_⟩
  rw [ab,List.take_add_one,hz]
  show _ = some (HO.lst ((g7 m (ps.take i ++ [z])).map V.int))
  rw [nh,List.map_append,List.append_assoc]
  rfl
 ·rintro σ' H' ⟨v,rfl,s1,h1⟩
  rw [lm_,List.take_length] at h1
  exact ⟨_,rfl,k l H' s1 hl0 h1⟩
theorem zI (F : FunD K "figures" "figures" gw dV f fd) (fW : DefOk P w K mg base "need_whole" 3 ["thing","least","called"] [] Ag) (rK : DefOk P w K mg base "halved" 1 ["parts","middle"] [] (tF K))
  (fb : mg "reversed" = none) (aI : mg "tuple" = none) : FnOk P w K mg base CX0 4 f fd ["number","wide"] (kE K):=by
 refine F.ok sc_figures (fun vs H Q E h => ?_) (fun cdv A outer s H vs Q E hr h => ?_)
 ·obtain ⟨n,w,rfl,_⟩:=h
  rfl
 obtain ⟨n,wd,rfl,⟨n0,n1⟩,⟨w0,w1⟩,k⟩:=h
 have hbig : ∀ {x y : Int},0 <= x -> x < NB -> 0 <= y -> y < NB -> x * y < BIG:=fun {x y} hx hx' hy hy' =>
  Int.lt_of_le_of_lt (Int.mul_le_mul (Int.le_of_lt hx') (Int.le_of_lt hy') hy (Int.le_trans hx (Int.le_of_lt hx'))) Co
 have nbig : ∀ {x : Int},0 <= x -> x < NB -> x < BIG:=fun {x} hx hx' => by
  have:=FY
  have:=Co
  have q : NB * 1 <= NB * NB:=Int.mul_le_mul (Int.le_refl _) (by omega) (by decide) (by omega)
  omega
 refine ⟨_,(ah (a7 (aV fW hr (aa (pv 0) (aa aq (aa DH af)))))
   (ah (a7 (aV fW hr (aa (pv 1) (aa aq (aa DH af)))))
   (ah (ax (i:=2) sc_figures.nd rfl (Or.inl rfl) (bI af))
   (ah (ax (i:=3) sc_figures.nd rfl (Or.inl rfl) (pv 1))
   (ah (iL PassesOwn.never (a8 FL (pv 3) (pv 0) (bh _)) (ah (a7 (eC PySem.F.plainAttrs_list PySem.F.slot_list_append PySem.F.type_list_append ba (pv 2) (aa (pv 3) af)))
   (au (ax (i:=3) sc_figures.nd rfl (Or.inl rfl) (az E9 (pv 3) (pv 3))))))
   (ah (ax (i:=4) sc_figures.nd rfl (Or.inl rfl) (bI (aa (pv 0) af)))
   (ah (bN PassesOwn.never rfl (GA rfl fb (aa (pv 2) af)) (ay (i:=5) sc_figures.nd rfl (Or.inl rfl)) (au (ax (i:=4) sc_figures.nd rfl (Or.inl rfl) (aV rK hr (aa (pv 4) (aa (pv 5) af))))))
   (ah (iL PassesOwn.never (PW.pt (sY (nY (pv 4) (fun _ => rfl)) (nZ (a8 fj (aW b9 (pv 4) (FN El aq) (fun _ _ => rfl)) aq (bh _))))) (au (a7 (zR PySem.F.plainAttrs_list PySem.F.slot_list_pop PySem.F.type_list_pop Dd (pv 4)))))
   (au (aM (aL aF (by rfl) aI bG (aa (pv 4) af)))))))))))),?_⟩
 refine ⟨_,rfl,n,0,_,rfl,n0,?_⟩
 refine ⟨_,rfl,wd,2,_,rfl,w0,?_⟩
 refine ⟨(by show 0 <= sizeLine; decide),fun L hL => ?_⟩
 refine ⟨_,rfl,?_⟩
 try dsimp only [bt]
 refine cG (t:=km _ _) (fun σ' H' => ∃ t : Nat,σ' = [some (.int n),some (.int wd),some (.ref L),some (.int (pw wd t)),none,none] /\ Same H H' /\ H' L = some (.lst ((pws wd t).map V.int)) /\ n < pw wd t /\ (t = 0 \/ pw wd (t - 1) <= n)) ?_ (fun nxt => ?_)
 rotate_left
 ·refine kG (fun m σ' H' => ∃ t : Nat,m = (n + 1 - pw wd t).toNat /\ σ' = [some (.int n),some (.int wd),some (.ref L),some (.int (pw wd t)),none,none] /\ Same H H' /\ H' L = some (.lst ((pws wd t).map V.int)) /\ (t = 0 \/ pw wd (t - 1) <= n))
   ⟨_,0,rfl,rfl,ak hL _,ab,.inl rfl⟩ ?_
  rintro m σ' H' ⟨t,rfl,rfl,s1,h1,ht⟩
  refine ⟨_,rfl,_,rfl,_,_,rfl,rfl,_,rfl,um (fun c => ?_) (fun c => ?_)⟩
  ·have c' : pw wd t <= n:=c
   have p2:=w5 w0 t
   have few:=DZ w0 c' n1
   have lt2 : t < 2 ^ t:=Nat.lt_two_pow_self
   have plt:=FP w0 t
   refine ⟨fun σ' H' => ∃ m',m' < (n + 1 - pw wd t).toNat /\ ∃ t : Nat,m' = (n + 1 - pw wd t).toNat /\ σ' = [some (.int n),some (.int wd),some (.ref L),some (.int (pw wd t)),none,none] /\ Same H H' /\ H' L = some (.lst ((pws wd t).map V.int)) /\ (t = 0 \/ pw wd (t - 1) <= n),fun σ' H' h => h,?_⟩
   refine ⟨_,rfl,.inl ⟨rfl,_,qL_ h1⟩,_,rfl,L,_,_,rfl,rfl,h1,?_,?_⟩
   ·rw [lm_,rB]
    have big : (1101 : Nat) < sizeLine:=by decide
    omega
   refine ⟨_,rfl,_,rfl,_,_,rfl,rfl,⟨⟨by omega,nbig (by omega) (by omega)⟩,⟨by omega,nbig (by omega) (by omega)⟩⟩,_,?_,t + 1,rfl,rfl,av s1 hL,?_,.inr c'⟩
   ·show (n + 1 - pw wd (t + 1)).toNat < _
    omega
   ·rw [ab,D3,List.map_append]
    rfl
  ·exact nxt _ _ ⟨t,rfl,s1,h1,by omega,ht⟩
 rintro σ' H1 ⟨t,rfl,s1,h1,hn,ht⟩
 have few : 2 ^ t <= 2200:=by
  rcases ht with z | z
  ·rw [z]; decide
  ·rcases t with _ | t
   ·decide
   ·have:=DZ w0 z n1
    rw [Nat.pow_succ]
    simp only [Nat.add_sub_cancel] at this
    omega
 refine ⟨_,rfl,(by show 1 <= sizeLine; decide),fun D0 hD0 => ?_⟩
 have s2:=s1.trans (ak hD0 (HO.lst [V.int n]))
 have nL : L ≠ D0:=ao h1 hD0
 try dsimp only [bt]
 refine cG (t:=tN _ _ _) (fun σ' H' => ∃ (D : Addr) (v : OV) (ps : LI),σ' = [some (.int n),some (.int wd),some (.ref L),some (.int (pw wd t)),some (.ref D),v] /\ Same H H' /\ H D = none /\ H' D = some (.lst (ps.map V.int)) /\ InB wd ps /\ cM wd ps = n /\ ps.length <= 2200) ?_ (fun nxt => ?_)
 rotate_left
 ·refine ⟨_,rfl,L,_,rfl,qL_ (by rw [ae nL]; exact h1),EG (K:=K) (xs:=(pws wd t).map V.int) (fun i σ' H' => ∃ (D : Addr) (v : OV) (ps : LI),σ' = [some (.int n),some (.int wd),some (.ref L),some (.int (pw wd t)),some (.ref D),v] /\ Same H1 H' /\ H1 D = none /\ H' D = some (.lst (ps.map V.int)) /\ InB (pw wd (t - i)) ps /\ cM (pw wd (t - i)) ps = n /\ ps.length = 2 ^ i)
   ⟨D0,none,[n],rfl,ak hD0 _,hD0,ab,InB.cons n0 hn InB.nil,by simp [cM],rfl⟩ (fun i σ' H' _ ⟨_,_,_,_,s,_⟩ => qL_ (s _ _ h1)) ?_ ?_⟩
  ·rintro i y σ' H' hi hy ⟨D,v,ps,rfl,s3,fD,hD,hin,hval,hlen⟩
   rw [lm_,rB] at hi
   rw [lm_,rB] at hy
   have e1 : t - i = (t - 1 - i) + 1:=by omega
   have e2 : t - (i + 1) = t - 1 - i:=by omega
   obtain ⟨z,rfl,hz⟩:=br hy
   rw [Fm (show t - 1 - i < t by omega)] at hz
   cases hz
   rw [e1] at hin hval
   have hp:=w5 w0 (t - 1 - i)
   have hle : pw wd (t - 1 - i) <= n:=by
    rcases ht with z | z
    ·omega
    ·have mono : ∀ a b : Nat,pw wd a <= pw wd (a + b):=fun a b => by
      induction b with
      | zero => exact Int.le_refl _
      | succ b ih => exact Int.le_trans ih (Int.le_of_lt (FP w0 (a + b)))
     have:=mono (t - 1 - i) i
     rw [show t - 1 - i + i = t - 1 by omega] at this
     omega
   have li : 2 ^ i <= 2 ^ t:=Nat.pow_le_pow_right (by decide) (by omega)
   refine ⟨_,rfl,_,rfl,D,_,ps,rfl,qL_ hD,by omega,⟨by omega,nbig (by omega) (by omega)⟩,fun l H'' s4 fl hl => ?_⟩
   refine ⟨l,_,g7 (pw wd (t - 1 - i)) ps,rfl,s3.trans s4,s3.free fl,hl,?_,?_,?_⟩
   ·rw [e2]; exact xW (by omega) hin
   ·rw [e2,vh]; exact hval
   ·rw [o7,hlen,Nat.pow_succ]; omega
  ·rintro σ' H' ⟨D,v,ps,rfl,s3,fD,hD,hin,hval,hlen⟩
   rw [lm_,rB] at hin hval hlen
   rw [Nat.sub_self] at hin hval
   exact nxt _ _ ⟨D,v,ps,rfl,s1.trans s3,s1.free fD,hD,hin,hval,by omega⟩
 rintro σ' H2 ⟨D,v,ps,rfl,s3,fD,hD,hin,hval,hlen⟩
 try dsimp only [bt]
 refine cG (t:=km _ _) (fun σ' H' => ∃ ps : LI,σ' = [some (.int n),some (.int wd),some (.ref L),some (.int (pw wd t)),some (.ref D),v] /\ Same H H' /\ H' D = some (.lst (ps.map V.int)) /\ Figs wd n ps /\ ps.length <= 2200) ?_ (fun nxt => ?_)
 rotate_left
 ·refine kG (fun m σ' H' => ∃ ps : LI,m = ps.length /\ σ' = [some (.int n),some (.int wd),some (.ref L),some (.int (pw wd t)),some (.ref D),v] /\ Same H H' /\ H' D = some (.lst (ps.map V.int)) /\ InB wd ps /\ cM wd ps = n /\ ps.length <= 2200) ⟨_,ps,rfl,rfl,s3,hD,hin,hval,hlen⟩ ?_
  rintro m σ' H' ⟨ps,rfl,rfl,s4,h4,hin,hval,hlen⟩
  rcases zt ps with rfl | ⟨r,x,rfl⟩
  ·refine ⟨_,rfl,_,.inl ⟨_,qL_ h4,rfl⟩,j9 (j9 ?_)⟩
   exact nxt _ _ ⟨[],rfl,s4,h4,⟨hin,hval,fun d h => by cases h⟩,hlen⟩
  ·have ix : atI ((r ++ [x]).map V.int) (-1) = some (.int x):=by
    rw [List.map_append]
    exact Cs _ _
   refine ⟨_,rfl,_,.inl ⟨_,qL_ h4,rfl⟩,?_⟩
   have ne : (!((r ++ [x]).map V.int).isEmpty) = true:=by simp
   rw [ne]
   refine wj ⟨_,rfl,_,rfl,D,_,_,_,rfl,rfl,qL_ h4,ix,rfl,_,rfl,l6 (fun c => ?_) (fun c => ?_)⟩
   ·have hr : cM wd r = n:=by
     rw [Cj,c,Int.zero_mul,Int.add_zero] at hval
     exact hval
    refine ⟨fun σ' H' => ∃ m',m' < (r ++ [x]).length /\ ∃ ps : LI,m' = ps.length /\ σ' = [some (.int n),some (.int wd),some (.ref L),some (.int (pw wd t)),some (.ref D),v] /\ Same H H' /\ H' D = some (.lst (ps.map V.int)) /\ InB wd ps /\ cM wd ps = n /\ ps.length <= 2200,fun σ' H' h => h,?_⟩
    refine ⟨_,rfl,.inl ⟨rfl,_,qL_ h4⟩,D,_,V.int x,rfl,rfl,h4,by simp,?_⟩
    ·refine ⟨r.length,by simp,r,rfl,rfl,av s4 fD,?_,fun p hp => hin p (List.mem_append_left _ hp),hr,?_⟩
     ·rw [ab,List.map_append]
      show some (HO.lst ((r.map V.int ++ [V.int x]).dropLast)) = _
      rw [List.dropLast_concat]
     ·rw [List.length_append] at hlen
      omega
   ·exact nxt _ _ ⟨r ++ [x],rfl,s4,h4,⟨hin,hval,fun d h => by
     rw [List.getLast?_concat] at h
     cases h
     exact c⟩,hlen⟩
 rintro σ' H3 ⟨ps,rfl,s4,h4,FG,hlen⟩
 refine ⟨_,rfl,D,_,rfl,.inl ⟨qL_ h4,fun T hT => ?_⟩⟩
 exact k T _ ps (s4.trans (ak hT _)) ab FG (by omega)
end
def Ah (K : PySem.W.Frag) : Sp:=fun vs H Q _ => ∃ (m r g b : Addr) (st : Int) (many wide : Nat) (rows : LL) (signs ns : LI),vs = [.ref m,.ref b,.int st] /\ MachAt H m r g wide rows signs /\ RowsOk many wide rows /\
 (SqL K H b (ns.map V.int) \/ SqT K H b (ns.map V.int)) /\ (∀ z ∈ ns,0 <= z /\ z < (wide : Int)) /\ (0 <= st /\ st < (many : Int)) /\ Q (.int (aG rows ns st)) H
def tL (K : PySem.W.Frag) : Sp:=fun vs H Q _ => ∃ (m r g b : Addr) (many wide : Nat) (rows : LL) (signs ns : LI),vs = [.ref m,.ref b] /\ MachAt H m r g wide rows signs /\ RowsOk many wide rows /\ signs.length = many /\ 1 <= many /\
 (SqL K H b (ns.map V.int) \/ SqT K H b (ns.map V.int)) /\ (∀ z ∈ ns,0 <= z /\ z < (wide : Int)) /\ Q (.int (signs.getD (aG rows ns 0).toNat 0)) H
theorem take_all {ns : LI} : ns.take ns.length = ns:=List.take_length
theorem FE {ns : LI} {i : Nat} {P : Int -> Prop} (h : ∀ z ∈ ns,P z) : ∀ z ∈ ns.take i,P z:=fun z hz => h z (List.mem_of_mem_take hz)
section
variable {P : Program} {w : World} {K : PySem.W.Frag} {mg : Str -> Option Value} {base : Heap} {f : Addr} {fd : FuncData} {dV : Value}
theorem sc_room : FnScope ["machine","row","start","rows","here","figure"] ["machine","row","start"] (aj pM):=⟨rfl,rfl,rfl,by decide +kernel,rfl,by decide +kernel,by decide +kernel⟩
theorem Fq : FnScope ["machine","row"] ["machine","row"] (aj pN):=⟨rfl,rfl,rfl,by decide +kernel,rfl,by decide +kernel,by decide +kernel⟩
theorem E5 (F : FunD K "room" "room" pM dV f fd) : FnOk P w K mg base CX0 1 f fd ["machine","row","start"] (Ah K):=by
 refine F.ok sc_room (fun vs H Q E h => ?_) (fun cdv A outer s H vs Q E hr h => ?_)
 ·obtain ⟨m,r,g,b,st,many,wide,rows,signs,ns,rfl,_⟩:=h
  rfl
 obtain ⟨m,r,g,b,st,many,wide,rows,signs,ns,rfl,M,R,hb,hin,⟨s0,s1⟩,q⟩:=h
 obtain ⟨hm,⟨ras,hr',hA⟩,hg⟩:=M
 have inv : ∀ i (z : Int),ns[i]? = some z -> ∃ (ra : Addr) (rr : LI),atI (ras.map V.ref) (aG rows (ns.take i) st) = some (.ref ra) /\ H ra = some (.tup (rr.map V.int)) /\ atI (rr.map V.int) z = some (.int (aG rows (ns.take (i + 1)) st)):=fun i z hz => by
  have w0:=fq R (ns:=ns.take i) (h:=st) (FE hin) s0 s1
  have hz' := hin z (mq_ hz)
  obtain ⟨ra,rr,e1,e2,e3⟩:=D9 hA R w0.1 w0.2 hz'.1 hz'.2
  exact ⟨ra,rr,e1,e2,by rw [Aq hz]; exact e3⟩
 rcases hb with hb | hb
 ·refine ⟨_,(ah (ax (i:=3) sc_room.nd rfl (Or.inl rfl) (aW bA (pv 0) aq (fun _ _ => rfl)))
   (ah (ax (i:=4) sc_room.nd rfl (Or.inl rfl) (pv 2))
   (ah (bN PassesOwn.never rfl (cb (pv 1)) (ay (i:=5) sc_room.nd rfl (Or.inl rfl)) (au (ax (i:=4) sc_room.nd rfl (Or.inl rfl) (aW bA (aW bA (pv 3) (pv 4) (fun _ _ => rfl)) (pv 5) (fun _ _ => rfl)))))
   (au (aM (pv 4)))))),?_⟩
  refine ⟨_,rfl,m,_,_,_,rfl,rfl,qT_ hm,rfl,?_⟩
  refine ⟨_,rfl,?_⟩
  refine ⟨_,rfl,b,rfl,⟨_,hb⟩,cP (K:=K) (xs:=ns.map V.int) (fun i σ' H' => ∃ v,σ' = [some (.ref m),some (.ref b),some (.int st),some (.ref r),some (.int (aG rows (ns.take i) st)),v] /\ H' = H) ⟨none,rfl,rfl⟩ (fun i σ' H' _ ⟨_,_,e⟩ => by rw [e]; exact hb) ?_ ?_⟩
  ·rintro i y σ' H' hi ⟨v,rfl,rfl⟩
   obtain ⟨z,rfl,hz⟩:=br hi
   obtain ⟨ra,rr,e1,e2,e3⟩:=inv i z hz
   exact ⟨_,rfl,_,rfl,r,_,_,_,rfl,rfl,qT_ hr',e1,_,rfl,ra,_,_,_,rfl,rfl,qT_ e2,e3,_,rfl,rfl⟩
  ·rintro σ' H' ⟨v,rfl,rfl⟩
   refine ⟨_,rfl,?_⟩
   rw [lm_,take_all]
   exact q
 ·refine ⟨_,(ah (ax (i:=3) sc_room.nd rfl (Or.inl rfl) (aW bA (pv 0) aq (fun _ _ => rfl)))
   (ah (ax (i:=4) sc_room.nd rfl (Or.inl rfl) (pv 2))
   (ah (bN PassesOwn.never rfl (mr (pv 1)) (ay (i:=5) sc_room.nd rfl (Or.inl rfl)) (au (ax (i:=4) sc_room.nd rfl (Or.inl rfl) (aW bA (aW bA (pv 3) (pv 4) (fun _ _ => rfl)) (pv 5) (fun _ _ => rfl)))))
   (au (aM (pv 4)))))),?_⟩
  refine ⟨_,rfl,m,_,_,_,rfl,rfl,qT_ hm,rfl,?_⟩
  refine ⟨_,rfl,?_⟩
  refine ⟨_,rfl,b,rfl,⟨_,hb⟩,AJ (K:=K) (xs:=ns.map V.int) (fun i σ' H' => ∃ v,σ' = [some (.ref m),some (.ref b),some (.int st),some (.ref r),some (.int (aG rows (ns.take i) st)),v] /\ H' = H) ⟨none,rfl,rfl⟩ (fun i σ' H' _ ⟨_,_,e⟩ => by rw [e]; exact hb) ?_ ?_⟩
  ·rintro i y σ' H' hi ⟨v,rfl,rfl⟩
   obtain ⟨z,rfl,hz⟩:=br hi
   obtain ⟨ra,rr,e1,e2,e3⟩:=inv i z hz
   exact ⟨_,rfl,_,rfl,r,_,_,_,rfl,rfl,qT_ hr',e1,_,rfl,ra,_,_,_,rfl,rfl,qT_ e2,e3,_,rfl,rfl⟩
  ·rintro σ' H' ⟨v,rfl,rfl⟩
   refine ⟨_,rfl,?_⟩
   rw [lm_,take_all]
   exact q
theorem E6 (F : FunD K "told" "told" pN dV f fd) (rL : DefOk P w K mg base "room" 1 ["machine","row","start"] [.int 0] (Ah K)) : FnOk P w K mg base CX0 2 f fd ["machine","row"] (tL K):=by
 refine F.ok Fq (fun vs H Q E h => ?_) (fun cdv A outer s H vs Q E hr h => ?_)
 ·obtain ⟨m,r,g,b,many,wide,rows,signs,ns,rfl,_⟩:=h
  rfl
 obtain ⟨m,r,g,b,many,wide,rows,signs,ns,rfl,M,R,hl,h1,hb,hin,q⟩:=h
 have w0:=fq R (ns:=ns) (h:=0) hin (by omega) (by omega)
 refine ⟨_,(au (aM (aW bA (aW bA (pv 0) aq (fun _ _ => rfl)) (aV rL hr (aa (pv 0) (aa (pv 1) af))) (fun _ _ => rfl)))),?_⟩
 refine ⟨_,rfl,m,_,_,_,rfl,rfl,qT_ M.tup,rfl,_,rfl,_,rfl,m,r,g,b,0,many,wide,rows,signs,ns,rfl,M,R,hb,hin,⟨by omega,by omega⟩,?_⟩
 exact ⟨g,_,_,_,rfl,rfl,qT_ M.sgn,bU w0.1 (by omega),q⟩
end
theorem z8 : FnScope ["machine","number"] ["machine","number"] (aj gx):=⟨rfl,rfl,rfl,by decide +kernel,rfl,by decide +kernel,by decide +kernel⟩
theorem xb : FnScope ["machine","number"] ["machine","number"] (aj dJ):=⟨rfl,rfl,rfl,by decide +kernel,rfl,by decide +kernel,by decide +kernel⟩
theorem j7 {α β : Type} {f g : α -> Option β} : ∀ {l : List α},(∀ x ∈ l,f x = g x) -> l.filterMap f = l.filterMap g
 | [],_ => rfl
 | x :: l,h => by rw [List.filterMap_cons,List.filterMap_cons,h x List.mem_cons_self,j7 fun y hy => h y (List.mem_cons_of_mem _ hy)]
theorem qj (xs : List V) : oq xs none none (-1) = xs.reverse:=by
 unfold oq
 have a1 : Builtin.Slice.sliceAdjust none none (-1) xs.length = ((xs.length : Int) - 1,-1):=by first | rfl | simp [Builtin.Slice.sliceAdjust]
 rw [a1]
 have a2 : Builtin.Slice.slicePlaces ((xs.length : Int) - 1) (-1) (-1) = xs.length:=by
  unfold Builtin.Slice.slicePlaces
  rw [if_neg (by decide)]
  by_cases h : (xs.length : Int) - 1 > -1
  ·rw [if_pos h,show (- -1 : Int) = 1 by decide,Int.ediv_one]
   omega
  ·rw [if_neg h]
   omega
 dsimp only
 rw [a2]
 have e : (List.range xs.length).filterMap (fun (m : Nat) => xs[((xs.length : Int) - 1 + (m : Int) * -1).toNat]?) = ((List.range xs.length).map fun k => xs.length - 1 - k).filterMap (xs[·]?):=by
  rw [List.filterMap_map]
  refine j7 fun m hm => ?_
  have:=List.mem_range.mp hm
  show xs[((xs.length : Int) - 1 + (m : Int) * -1).toNat]? = xs[xs.length - 1 - m]?
  congr 1
  omega
 rw [e,PySem.W.krv_range,List.filterMap_reverse]
 have q:=PySem.W.krv_all xs.toArray
 simp only [List.size_toArray,List.getElem?_toArray] at q
 rw [q]
def pW (K : PySem.W.Frag) (turn : LI -> LI) : Sp:=fun vs H Q _ => ∃ (m r g : Addr) (n : Int) (many wide : Nat) (rows : LL) (signs : LI),vs = [.ref m,.int n] /\ MachAt H m r g wide rows signs /\ RowsOk many wide rows /\ signs.length = many /\ 1 <= many /\
 (0 <= n /\ n < NB) /\ (2 <= (wide : Int) /\ (wide : Int) < NB) /\ ∀ (H' : Hp) (ds : LI),Same H H' -> Figs wide n ds -> Q (.int (signs.getD (aG rows (turn ds) 0).toNat 0)) H'
section
variable {P : Program} {w : World} {K : PySem.W.Frag} {mg : Str -> Option Value} {base : Heap} {f : Addr} {fd : FuncData} {dV : Value} {C : Addr}
theorem zM (F : FunD K "sign_at" "sign_at" gx dV f fd) (h8 : DefOk P w K mg base "told" 2 ["machine","row"] [] (tL K)) (gj : DefOk P w K mg base "figures" 4 ["number","wide"] [] (kE K)) :
  FnOk P w K mg base CX0 5 f fd ["machine","number"] (pW K id):=by
 refine F.ok z8 (fun vs H Q E h => ?_) (fun cdv A outer s H vs Q E hr h => ?_)
 ·obtain ⟨m,r,g,n,many,wide,rows,signs,rfl,_⟩:=h
  rfl
 obtain ⟨m,r,g,n,many,wide,rows,signs,rfl,M,R,hl,h1,hn,hw,k⟩:=h
 refine ⟨_,(au (aM (aV h8 hr (aa (pv 0) (aa (aV gj hr (aa (pv 1) (aa (aW bA (pv 0) aq (fun _ _ => rfl)) af))) af))))),?_⟩
 refine ⟨_,rfl,_,rfl,_,rfl,m,_,_,_,rfl,rfl,qT_ M.tup,rfl,n,wide,rfl,hn,hw,fun t H' ds s1 ht F' hl' => ?_⟩
 exact ⟨m,r,g,t,many,wide,rows,signs,ds,rfl,M.same fun b xs e => s1 _ _ e,R,hl,h1,.inr (qT_ ht),F'.inb,k H' ds s1 F'⟩
theorem wR (F : FunD K "sign_down" "sign_down" dJ dV f fd) (h8 : DefOk P w K mg base "told" 2 ["machine","row"] [] (tL K)) (gj : DefOk P w K mg base "figures" 4 ["number","wide"] [] (kE K)) :
  FnOk P w K mg base CX0 5 f fd ["machine","number"] (pW K List.reverse):=by
 refine F.ok xb (fun vs H Q E h => ?_) (fun cdv A outer s H vs Q E hr h => ?_)
 ·obtain ⟨m,r,g,n,many,wide,rows,signs,rfl,_⟩:=h
  rfl
 obtain ⟨m,r,g,n,many,wide,rows,signs,rfl,M,R,hl,h1,hn,hw,k⟩:=h
 refine ⟨_,(au (aM (aV h8 hr (aa (pv 0) (aa (B5 Ft (aV gj hr (aa (pv 1) (aa (aW bA (pv 0) aq (fun _ _ => rfl)) af))) nW nW (rA (FN El aq))) af))))),?_⟩
 refine ⟨_,rfl,_,rfl,_,rfl,m,_,_,_,rfl,rfl,qT_ M.tup,rfl,n,wide,rfl,hn,hw,fun t H' ds s1 ht F' hl' => ?_⟩
 refine ⟨_,rfl,_,rfl,t,_,-1,rfl,rfl,qT_ ht,by decide,?_,fun c => absurd c (by decide),fun p hp => ?_⟩
 ·rw [qj,List.length_reverse,lm_]
  exact Nat.le_trans hl' (by decide)
 rw [qj,<- List.map_reverse]
 have s2:=s1.trans (ak hp (HO.tup (ds.reverse.map V.int)))
 exact ⟨m,r,g,p,many,wide,rows,signs,ds.reverse,rfl,M.same fun b xs e => s2 _ _ e,R,hl,h1,.inr (qT_ ab),(fun z hz => F'.inb z (List.mem_reverse.mp hz)),k _ ds s2 F'⟩
end
theorem xT {w : Int} (hw : 2 <= w) : ∀ {ds es : LI} {n : Int},Figs w n ds -> Figs w n es -> ds = es
 | [],[],_,_,_ => rfl
 | [],e :: es,n,h,h' => by
  exfalso
  have z : cM w (e :: es) = 0:=h'.val.trans h.val.symm
  exact no_zero hw h' z
 | d :: ds,[],n,h,h' => by
  exfalso
  have z : cM w (d :: ds) = 0:=h.val.trans h'.val.symm
  exact no_zero hw h z
 | d :: ds,e :: es,n,h,h' => by
  have hd:=h.inb d List.mem_cons_self
  have he:=h'.inb e List.mem_cons_self
  have v1 : d + w * cM w ds = n:=h.val
  have v2 : e + w * cM w es = n:=h'.val
  have e1 : n % w = d:=by rw [<- v1,Int.add_mul_emod_self_left]; exact Int.emod_eq_of_lt hd.1 hd.2
  have e2 : n % w = e:=by rw [<- v2,Int.add_mul_emod_self_left]; exact Int.emod_eq_of_lt he.1 he.2
  have ede : d = e:=e1.symm.trans e2
  have ev : cM w ds = cM w es:=by
   have : w * cM w ds = w * cM w es:=by omega
   exact Int.eq_of_mul_eq_mul_left (by omega) this
  have t1 : Figs w (cM w ds) ds:=⟨h.inb.tail,rfl,fun x hx => by
   cases ds with
   | nil => cases hx
   | cons a r => exact h.top x (by rw [List.getLast?_cons_cons]; exact hx)⟩
  have t2 : Figs w (cM w ds) es:=⟨h'.inb.tail,ev.symm,fun x hx => by
   cases es with
   | nil => cases hx
   | cons a r => exact h'.top x (by rw [List.getLast?_cons_cons]; exact hx)⟩
  rw [ede,xT hw t1 t2]
where
 no_zero {w : Int} (hw : 2 <= w) : ∀ {es : LI} {e n : Int},Figs w n (e :: es) -> cM w (e :: es) = 0 -> False
 | [],e,n,h,z => by
  have : e + w * 0 = 0:=z
  exact h.top e rfl (by omega)
 | a :: r,e,n,h,z => by
  have hz : e + w * cM w (a :: r) = 0:=z
  have he:=h.inb e List.mem_cons_self
  have hv:=qp (by omega : (0 : Int) <= w) h.inb.tail
  have : 0 <= w * cM w (a :: r):=Int.mul_nonneg (by omega) hv
  have z2 : w * cM w (a :: r) = 0:=by omega
  have z3 : cM w (a :: r) = 0:=by
   rcases Int.mul_eq_zero.mp z2 with q | q
   ·omega
   ·exact q
  exact no_zero hw (es:=r) (e:=a) (n:=cM w (a :: r)) ⟨h.inb.tail,rfl,fun x hx => h.top x (by rw [List.getLast?_cons_cons]; exact hx)⟩ z3
theorem yp {q m k : Nat} {r : LI} {rs : LL} (h : aZ q m (r :: rs) = some k) : q < m /\ ∃ m1,aJ m r = some m1 /\ aZ (q + 1) m1 rs = some k:=by
 unfold aZ at h
 by_cases c : q < m
 ·rw [if_pos c] at h
  cases e : aJ m r with
  | none => rw [e] at h; cases h
  | some m1 => rw [e] at h; exact ⟨c,m1,rfl,h⟩
 ·rw [if_neg c] at h
  cases h
theorem Cm {rows : LL} {v : LI} {f : Int} : aG rows (v ++ [f]) 0 = stepI rows (aG rows v 0) f:=by
 rw [bE]
 rfl
theorem mq {P : Int -> Prop} : ∀ {r : LI} {m m1 : Nat},aJ m r = some m1 -> (∀ i : Nat,i < m -> P (i : Int)) -> (∀ t ∈ r,P t) -> ∀ i : Nat,i < m1 -> P (i : Int)
 | [],m,m1,h,hm,_ => by
  have e : m = m1:=Option.some.inj h
  subst e
  exact hm
 | t :: r,m,m1,h,hm,ht => by
  have h' : (if t = (m : Int) then aJ (m + 1) r else if t < (m : Int) then aJ m r else none) = some m1:=h
  have ht' : ∀ t ∈ r,P t:=fun x hx => ht x (List.mem_cons_of_mem _ hx)
  by_cases c : t = (m : Int)
  ·rw [if_pos c] at h'
   refine mq h' (fun i hi => ?_) ht'
   by_cases d : i = m
   ·rw [d,<- c]; exact ht t List.mem_cons_self
   ·exact hm i (by omega)
  ·rw [if_neg c] at h'
   by_cases d : t < (m : Int)
   ·rw [if_pos d] at h'
    exact mq h' hm ht'
   ·rw [if_neg d] at h'
    cases h'
theorem qh {P : Int -> Prop} : ∀ {rs : LL} {q m k : Nat},aZ q m rs = some k -> (∀ i : Nat,i < m -> P (i : Int)) -> (∀ (j : Nat) (r : LI),rs[j]? = some r -> P ((q + j : Nat) : Int) -> ∀ t ∈ r,P t) -> ∀ i : Nat,i < k -> P (i : Int)
 | [],q,m,k,h,hm,_ => by
  have e : m = k:=Option.some.inj h
  subst e
  exact hm
 | r :: rs,q,m,k,h,hm,hr => by
  obtain ⟨c,m1,o1,o2⟩:=yp h
  refine qh o2 (mq o1 hm (hr 0 r rfl (hm q c))) fun j r' hj hp => hr (j + 1) r' hj ?_
  rw [show q + (j + 1) = q + 1 + j by omega]
  exact hp
theorem InOrder.reached {wide : Nat} {rows : LL} (R : RowsOk rows.length wide rows) (O : InOrder rows) : ∀ i : Nat,i < rows.length -> ∃ v,InF wide v /\ aG rows v 0 = (i : Int):=by
 refine qh (P:=fun q => ∃ v,InF wide v /\ aG rows v 0 = q) O (fun i hi => ⟨[],(fun f hf => by cases hf),by rw [show i = 0 by omega]; rfl⟩) ?_
 rintro j r hj ⟨v,hv,e⟩ t ht
 rw [Nat.zero_add] at e
 obtain ⟨f,hf,ef⟩:=List.getElem_of_mem ht
 have lr : r.length = wide:=R.row r (mq_ hj)
 refine ⟨v ++ [(f : Int)],fun g hg => ?_,?_⟩
 ·rcases ma_.mp hg with z | z
  ·exact hv g z
  ·rw [List.mem_singleton.mp z]; omega
 ·rw [Cm,e]
  have er : rows.getD j [] = r:=by rw [List.getD_eq_getElem?_getD,hj]; rfl
  unfold stepI
  rw [Int.toNat_natCast,Int.toNat_natCast,er,getD_at hf,ef]
theorem Tells.on {wide : Nat} {rows rows' : LL} {signs signs' : LI} {a b : Int} {v : LI} (h : Tells wide rows rows' signs signs' a b) (hv : InF wide v) : Tells wide rows rows' signs signs' (aG rows v a) (aG rows' v b):=fun u hu => by
 have:=h (v ++ u) fun f hf => by
  rcases ma_.mp hf with z | z
  ·exact hv f z
  ·exact hu f z
 rw [bE,bE] at this
 exact this
theorem LeastOf.few {many wide : Nat} {rows rows' : LL} {signs signs' : LI} (h : LeastOf wide rows rows' signs signs') (R : RowsOk many wide rows) (m0 : 1 <= many) : rows'.length <= many:=by
 have ex : ∀ i : Nat,∃ p : Int,i < rows'.length -> (0 <= p /\ p < (many : Int)) /\ Tells wide rows rows' signs signs' p (i : Int):=fun i => by
  by_cases c : i < rows'.length
  ·obtain ⟨v,hv,ew⟩:=h.ord.reached h.ok i c
   refine ⟨aG rows v 0,fun _ => ⟨fq R hv (by omega) (by omega),?_⟩⟩
   have:=Tells.on h.tells hv
   rw [ew] at this
   exact this
  ·exact ⟨0,fun z => absurd z c⟩
 obtain ⟨F,hF⟩:=Classical.axiomOfChoice ex
 have nd : ((List.range rows'.length).map F).Nodup:=List.pairwise_map.mpr (List.nodup_range.imp_of_mem fun {a b} ha hb ne z => ne (by
  have ia:=List.mem_range.mp ha
  have ib:=List.mem_range.mp hb
  have ta:=(hF a ia).2
  have tb:=(hF b ib).2
  rw [z] at ta
  have:=h.apart (a : Int) (b : Int) ⟨by omega,by omega⟩ ⟨by omega,by omega⟩ (Tells.right ta tb)
  omega))
 have:=bP many nd fun q hq => by
  obtain ⟨i,hi,rfl⟩:=List.mem_map.mp hq
  exact (hF i (List.mem_range.mp hi)).1
 rw [lm_,List.length_range] at this
 exact this
theorem vj {K : PySem.W.Frag} {H : Hp} : ∀ r : LI,Paired (EqD K H 0) (r.map V.int) (r.map V.int)
 | [] => .nil
 | i :: r => .cons ⟨i,rfl,rfl⟩ (vj r)
theorem yA {K : PySem.W.Frag} {H : Hp} : ∀ {rows : LL} {as bs : List Addr},RowsAt H as rows -> RowsAt H bs rows -> Paired (EqD K H 1) (as.map V.ref) (bs.map V.ref)
 | [],as,bs,h,h' => by
  cases h
  cases h'
  exact .nil
 | r :: rows,as,bs,h,h' => by
  cases h with
  | cons h t =>
   cases h' with
   | cons h' t' => exact .cons (.inr ⟨_,_,_,_,rfl,rfl,qT_ h,qT_ h',vj r⟩) (yA t t')
theorem vi {K : PySem.W.Frag} {H : Hp} : ∀ r : LI,Paired (EqD K H 1) (r.map V.int) (r.map V.int)
 | [] => .nil
 | i :: r => .cons (.inl ⟨i,rfl,rfl⟩) (vi r)
theorem MachAt.eqD {K : PySem.W.Frag} {H : Hp} {m r g m' r' g' : Addr} {wide : Nat} {rows : LL} {signs : LI} (M : MachAt H m r g wide rows signs) (M' : MachAt H m' r' g' wide rows signs) : Paired (EqD K H 2) [.int wide,.ref r,.ref g] [.int wide,.ref r',.ref g']:=by
 obtain ⟨ras,h1,h2⟩:=M.rows
 obtain ⟨ras',h1',h2'⟩:=M'.rows
 exact .cons (.inl ⟨_,rfl,rfl⟩) (.cons (.inr ⟨_,_,_,_,rfl,rfl,qT_ h1,qT_ h1',yA h2 h2'⟩) (.cons (.inr ⟨_,_,_,_,rfl,rfl,qT_ M.sgn,qT_ M'.sgn,vi signs⟩) .nil))
section
variable {α : Type} [DecidableEq α]
def plW (st : α -> Nat -> α) (b : α) (v : LI) : α:=v.foldl (fun p f => st p f.toNat) b
theorem DR (st : α -> Nat -> α) (b : α) (v : LI) (f : Int) : plW st b (v ++ [f]) = st (plW st b v) f.toNat:=by
 unfold plW
 rw [List.foldl_append]
 rfl
structure Gro (st : α -> Nat -> α) (b : α) (wide : Nat) (ps : List α) (rows : LL) : Prop where
 nd : ps.Nodup
 hd : ps[0]? = some b
 le : rows.length <= ps.length
 row : ∀ (i : Nat) (r : LI),rows[i]? = some r -> r.length = wide
 to : ∀ (i : Nat) (r : LI) (f : Nat) (t : Int),rows[i]? = some r -> r[f]? = some t -> ∃ (n : Nat) (p : α),t = (n : Int) /\ ps[i]? = some p /\ ps[n]? = some (st p f)
 ord : aZ 0 1 rows = some ps.length
 re : ∀ p ∈ ps,∃ v,InF wide v /\ plW st b v = p
structure GroR (st : α -> Nat -> α) (b : α) (wide : Nat) (ps : List α) (rows : LL) (p : α) (r : LI) : Prop where
 nd : ps.Nodup
 hd : ps[0]? = some b
 at_ : ps[rows.length]? = some p
 row : ∀ (i : Nat) (r : LI),rows[i]? = some r -> r.length = wide
 to : ∀ (i : Nat) (r : LI) (f : Nat) (t : Int),rows[i]? = some r -> r[f]? = some t -> ∃ (n : Nat) (p : α),t = (n : Int) /\ ps[i]? = some p /\ ps[n]? = some (st p f)
 now : ∀ (f : Nat) (t : Int),r[f]? = some t -> ∃ n : Nat,t = (n : Int) /\ ps[n]? = some (st p f)
 ord : ∃ m,aZ 0 1 rows = some m /\ rows.length < m /\ aJ m r = some ps.length
 re : ∀ p ∈ ps,∃ v,InF wide v /\ plW st b v = p
variable {st : α -> Nat -> α} {b : α} {wide : Nat} {ps : List α} {rows : LL} {p : α} {r : LI}
theorem hV : ∀ {r : LI} {m k : Nat} {t : Int},aJ m r = some k -> aJ m (r ++ [t]) = if t = (k : Int) then some (k + 1) else if t < (k : Int) then some k else none
 | [],m,k,t,h => by
  have e : m = k:=Option.some.inj h
  subst e
  rfl
 | x :: r,m,k,t,h => by
  have h' : (if x = (m : Int) then aJ (m + 1) r else if x < (m : Int) then aJ m r else none) = some k:=h
  show (if x = (m : Int) then aJ (m + 1) (r ++ [t]) else if x < (m : Int) then aJ m (r ++ [t]) else none) = _
  by_cases c : x = (m : Int)
  ·rw [if_pos c] at h' ⊢; exact hV h'
  ·rw [if_neg c] at h' ⊢
   by_cases d : x < (m : Int)
   ·rw [if_pos d] at h' ⊢; exact hV h'
   ·rw [if_neg d] at h'; cases h'
theorem nP : ∀ {rs : LL} {q m k : Nat} {r : LI} {k' : Nat},aZ q m rs = some k -> q + rs.length < k -> aJ k r = some k' -> aZ q m (rs ++ [r]) = some k'
 | [],q,m,k,r,k',h,hq,hr => by
  have e : m = k:=Option.some.inj h
  subst e
  show (if q < m then (aJ m r).bind fun m' => aZ (q + 1) m' [] else none) = some k'
  rw [if_pos (by simpa using hq),hr]
  rfl
 | x :: rs,q,m,k,r,k',h,hq,hr => by
  obtain ⟨c,m1,o1,o2⟩:=yp h
  show (if q < m then (aJ m x).bind fun m' => aZ (q + 1) m' (rs ++ [r]) else none) = some k'
  rw [if_pos c,o1]
  exact nP o2 (by rw [List.length_cons] at hq; omega) hr
theorem Gro.start (st : α -> Nat -> α) (b : α) (wide : Nat) : Gro st b wide [b] []:=
 ⟨List.nodup_cons.mpr ⟨by simp,List.nodup_nil⟩,rfl,Nat.zero_le _,(fun i r h => by cases h),(fun i r f t h => by cases h),rfl,fun p hp => ⟨[],(fun f hf => by cases hf),by rw [List.mem_singleton.mp hp]; rfl⟩⟩
theorem Gro.next (g : Gro st b wide ps rows) (h : ps[rows.length]? = some p) : GroR st b wide ps rows p []:=
 ⟨g.nd,g.hd,h,g.row,g.to,(fun f t h => by cases h),⟨ps.length,g.ord,(gi_ h).1,rfl⟩,g.re⟩
theorem GroR.old (g : GroR st b wide ps rows p r) {n : Nat} (h : ps[n]? = some (st p r.length)) : GroR st b wide ps rows p (r ++ [(n : Int)]):=by
 obtain ⟨m,o1,o2,o3⟩:=g.ord
 have nl:=(gi_ h).1
 refine ⟨g.nd,g.hd,g.at_,g.row,g.to,fun f t hf => ?_,⟨m,o1,o2,?_⟩,g.re⟩
 ·rcases snoc_cases hf with z | ⟨rfl,rfl⟩
  ·exact g.now f t z
  ·exact ⟨n,rfl,h⟩
 ·rw [hV o3,if_neg (by omega),if_pos (by omega)]
theorem GroR.new (g : GroR st b wide ps rows p r) (hw : r.length < wide) (h : st p r.length ∉ ps) : GroR st b wide (ps ++ [st p r.length]) rows p (r ++ [(ps.length : Int)]):=by
 obtain ⟨m,o1,o2,o3⟩:=g.ord
 have up : ∀ (n : Nat) (x : α),ps[n]? = some x -> (ps ++ [st p r.length])[n]? = some x:=fun n x hx => by
  rw [List.getElem?_append_left (gi_ hx).1]
  exact hx
 refine ⟨nd_snocA g.nd h,up _ _ g.hd,up _ _ g.at_,g.row,fun i r' f t h1 h2 => ?_,fun f t hf => ?_,⟨m,o1,o2,?_⟩,fun x hx => ?_⟩
 ·obtain ⟨n,q,e1,e2,e3⟩:=g.to i r' f t h1 h2
  exact ⟨n,q,e1,up _ _ e2,up _ _ e3⟩
 ·rcases snoc_cases hf with z | ⟨rfl,rfl⟩
  ·obtain ⟨n,e1,e2⟩:=g.now f t z
   exact ⟨n,e1,up _ _ e2⟩
  ·exact ⟨ps.length,rfl,by rw [List.getElem?_append_right (Nat.le_refl _),Nat.sub_self]; rfl⟩
 ·rw [hV o3,if_pos rfl,List.length_append,List.length_singleton]
 ·rcases ma_.mp hx with z | z
  ·exact g.re x z
  ·obtain ⟨v,hv,e⟩:=g.re p (mq_ g.at_)
   refine ⟨v ++ [(r.length : Int)],fun f hf => ?_,?_⟩
   ·rcases ma_.mp hf with y | y
    ·exact hv f y
    ·rw [List.mem_singleton.mp y]; omega
   ·rw [DR,e,Int.toNat_natCast,List.mem_singleton.mp z]
where
 nd_snocA {xs : List α} {x : α} (h : xs.Nodup) (n : x ∉ xs) : (xs ++ [x]).Nodup:=
  List.nodup_append.mpr ⟨h,List.nodup_cons.mpr ⟨by simp,List.nodup_nil⟩,fun a ha c hc e => n (by rw [<- List.mem_singleton.mp hc,<- e]; exact ha)⟩
theorem GroR.done (g : GroR st b wide ps rows p r) (hw : r.length = wide) : Gro st b wide ps (rows ++ [r]):=by
 obtain ⟨m,o1,o2,o3⟩:=g.ord
 have lt:=(gi_ g.at_).1
 refine ⟨g.nd,g.hd,by rw [List.length_append,List.length_singleton]; omega,fun i r' h => ?_,fun i r' f t h1 h2 => ?_,nP o1 (by omega) o3,g.re⟩
 ·rcases snoc_cases h with z | ⟨_,rfl⟩
  ·exact g.row i r' z
  ·exact hw
 ·rcases snoc_cases h1 with z | ⟨rfl,rfl⟩
  ·exact g.to i r' f t z h2
  ·obtain ⟨n,e1,e2⟩:=g.now f t h2
   exact ⟨n,p,e1,g.at_,e2⟩
theorem Gro.ok (g : Gro st b wide ps rows) (h : rows.length = ps.length) : RowsOk rows.length wide rows:=by
 refine ⟨rfl,fun r hr => ?_,fun r hr v hv => ?_⟩
 ·obtain ⟨i,hi,e⟩:=List.getElem_of_mem hr
  exact g.row i r (by rw [List.getElem?_eq_getElem hi,e])
 ·obtain ⟨i,hi,e⟩:=List.getElem_of_mem hr
  obtain ⟨f,hf,ef⟩:=List.getElem_of_mem hv
  obtain ⟨n,p,e1,_,e3⟩:=g.to i r f v (by rw [List.getElem?_eq_getElem hi,e]) (by rw [List.getElem?_eq_getElem hf,ef])
  have:=(gi_ e3).1
  omega
theorem Gro.order (g : Gro st b wide ps rows) (h : rows.length = ps.length) : InOrder rows:=by
 unfold InOrder
 rw [g.ord,h]
theorem Gro.walk (g : Gro st b wide ps rows) (h : rows.length = ps.length) : ∀ (v : LI) (n : Nat) (p : α),InF wide v -> ps[n]? = some p -> ∃ k : Nat,aG rows v (n : Int) = (k : Int) /\ ps[k]? = some (v.foldl (fun p f => st p f.toNat) p)
 | [],n,p,_,hp => ⟨n,rfl,hp⟩
 | f :: v,n,p,hv,hp => by
  have hf:=hv f List.mem_cons_self
  have nl:=(gi_ hp).1
  have nr : n < rows.length:=by omega
  have lr:=g.row n _ (List.getElem?_eq_getElem nr)
  have fl : f.toNat < (rows[n]).length:=by omega
  obtain ⟨k,q,e1,e2,e3⟩:=g.to n _ f.toNat _ (List.getElem?_eq_getElem nr) (List.getElem?_eq_getElem fl)
  rw [hp] at e2
  have eq:=Option.some.inj e2
  subst eq
  obtain ⟨j,e4,e5⟩:=g.walk h v k _ (fun x hx => hv x (List.mem_cons_of_mem _ hx)) e3
  refine ⟨j,?_,e5⟩
  show aG rows v (stepI rows (n : Int) f) = _
  unfold stepI
  rw [Int.toNat_natCast,getD_at nr,getD_at fl,e1]
  exact e4
theorem Gro.told (g : Gro st b wide ps rows) (h : rows.length = ps.length) {v : LI} (hv : InF wide v) : ∃ k : Nat,aG rows v 0 = (k : Int) /\ ps[k]? = some (plW st b v):=g.walk h v 0 b hv g.hd
end
def cn (rows : LL) (u : LI) (f : Nat) : LI:=(List.range rows.length).map fun q : Nat => u.getD (stepI rows (q : Int) (f : Int)).toNat 0
theorem yJ (rows : LL) (u : LI) (f : Nat) : (cn rows u f).length = rows.length:=by
 unfold cn
 rw [lm_,List.length_range]
theorem FF {wide : Nat} {rows : LL} {u : LI} {f : Nat} {q : Int} (R : RowsOk rows.length wide rows) (hq : 0 <= q /\ q < (rows.length : Int)) : sgn (cn rows u f) q = sgn u (stepI rows q (f : Int)):=by
 unfold sgn cn
 rw [getD_at (by rw [lm_,List.length_range]; omega),List.getElem_map,List.getElem_range,Int.toNat_of_nonneg hq.1]
theorem hZ {wide : Nat} {rows : LL} (R : RowsOk rows.length wide rows) : ∀ (v : LI) (u : LI) (q : Int),InF wide v -> (0 <= q /\ q < (rows.length : Int)) -> sgn (v.foldl (fun p f => cn rows p f.toNat) u) q = sgn u (aG rows v.reverse q)
 | [],_,_,_,_ => rfl
 | f :: v,u,q,hv,hq => by
  have hf:=hv f List.mem_cons_self
  have hv' : InF wide v:=fun x hx => hv x (List.mem_cons_of_mem _ hx)
  have hr : InF wide v.reverse:=fun x hx => hv' x (List.mem_reverse.mp hx)
  have wi:=fq R hr hq.1 hq.2
  show sgn (v.foldl (fun p f => cn rows p f.toNat) (cn rows u f.toNat)) q = _
  rw [hZ R v _ q hv' hq,FF R wi,List.reverse_cons,bE,Int.toNat_of_nonneg hf.1]
  rfl
theorem xC {n : Nat} {u u' : LI} (l : u.length = n) (l' : u'.length = n) (h : ∀ q : Nat,q < n -> sgn u (q : Int) = sgn u' (q : Int)) : u = u' := by
 refine List.ext_getElem (by omega) fun i h1 h2 => ?_
 have:=h i (by omega)
 unfold sgn at this
 rw [Int.toNat_natCast,getD_at h1,getD_at h2] at this
 exact this
theorem gh {rows : LL} : ∀ (v u : LI),u.length = rows.length -> (v.foldl (fun p f => cn rows p f.toNat) u).length = rows.length
 | [],u,h => h
 | f :: v,u,_ => gh v _ (yJ _ _ _)
structure TurOf (wide : Nat) (rows rows' : LL) (signs signs' : LI) : Prop where
 ok : RowsOk rows'.length wide rows'
 pos : 0 < rows'.length
 sgn : signs'.length = rows'.length
 ord : InOrder rows'
 apart : Apart wide rows' signs'
 turned : ∀ v,InF wide v -> My.sgn signs (aG rows v.reverse 0) = My.sgn signs' (aG rows' v 0)
theorem FH {wide : Nat} {rows rows' : LL} {signs : LI} {ps : LL} (R : RowsOk rows.length wide rows) (n0 : 0 < rows.length) (ls : signs.length = rows.length) (O : InOrder rows) (g : Gro (cn rows) signs wide ps rows') (h : rows'.length = ps.length) :
  TurOf wide rows rows' signs (ps.map fun u => u.getD 0 0):=by
 have p0 : 0 < ps.length:=(gi_ g.hd).1
 have sg : ∀ (k : Nat) (u : LI),ps[k]? = some u -> My.sgn (ps.map fun u => u.getD 0 0) (k : Int) = My.sgn u 0:=fun k u hk => by
  have kl:=(gi_ hk)
  unfold My.sgn
  rw [Int.toNat_natCast,getD_at (by rw [lm_]; exact kl.1),List.getElem_map,kl.2]
  rfl
 have z0 : 0 <= (0 : Int) /\ (0 : Int) < (rows.length : Int):=⟨by omega,by omega⟩
 refine ⟨g.ok h,by omega,by rw [lm_]; omega,g.order h,fun a b ha hb ag => ?_,fun v hv => ?_⟩
 ·obtain ⟨a,rfl⟩:=gU ha.1
  obtain ⟨b,rfl⟩:=gU hb.1
  have la : a < ps.length:=by have:=ha.2; omega
  have lb : b < ps.length:=by have:=hb.2; omega
  obtain ⟨va,hva,ea⟩:=g.re _ (List.getElem_mem la)
  obtain ⟨vb,hvb,eb⟩:=g.re _ (List.getElem_mem lb)
  have l1 : ps[a].length = rows.length:=by rw [<- ea]; exact gh va _ ls
  have l2 : ps[b].length = rows.length:=by rw [<- eb]; exact gh vb _ ls
  have e : ps[a] = ps[b]:=xC l1 l2 fun q hq => by
   obtain ⟨w,hw,ew⟩:=O.reached R q hq
   have hr : InF wide w.reverse:=fun x hx => hw x (List.mem_reverse.mp hx)
   have:=ag w.reverse.length w.reverse hr (Nat.le_refl _)
   obtain ⟨k1,x1,y1⟩:=g.walk h w.reverse a _ hr (List.getElem?_eq_getElem la)
   obtain ⟨k2,x2,y2⟩:=g.walk h w.reverse b _ hr (List.getElem?_eq_getElem lb)
   rw [x1,x2,sg _ _ y1,sg _ _ y2,hZ R _ _ 0 hr z0,hZ R _ _ 0 hr z0,List.reverse_reverse,ew] at this
   exact this
  have:=(List.getElem_inj g.nd).mp e
  omega
 ·obtain ⟨k,e1,e2⟩:=g.told h hv
  rw [e1,sg _ _ e2]
  show _ = My.sgn (v.foldl (fun p f => cn rows p f.toNat) signs) 0
  rw [hZ R v _ 0 hv z0]
structure TCls (K : PySem.W.Frag) (C : Addr) : Prop where
 cl : Cls K C
 ns : NoAttr K C "signs"
 nc : NoAttr K C "columns"
structure TuAt (H : Hp) (C x g : Addr) (wide : Nat) (rows : LL) (signs : LI) : Prop where
 ob : ∃ (dx cl : Addr) (cs : List Addr),H x = some (.ins C dx [("signs",.ref g),("columns",.ref cl)]) /\ H cl = some (.lst (cs.map V.ref)) /\ RowsAt H cs (g6 rows wide)
 sg : H g = some (.tup (signs.map V.int))
theorem TuAt.same {H H' : Hp} {C x g : Addr} {wide : Nat} {rows : LL} {signs : LI} (h : TuAt H C x g wide rows signs) (s : Same H H') : TuAt H' C x g wide rows signs:=by
 obtain ⟨dx,cl,cs,h1,h2,h3⟩:=h.ob
 exact ⟨⟨dx,cl,cs,s _ _ h1,s _ _ h2,h3.same fun b xs e => s _ _ e⟩,s _ _ h.sg⟩
theorem Cw {wide : Nat} {rows : LL} {u : LI} {f : Nat} (R : RowsOk rows.length wide rows) : ((rows.map fun r => r.getD f 0).map fun t => u.getD t.toNat 0) = cn rows u f:=by
 unfold cn
 refine List.ext_getElem (by simp) fun i h1 h2 => ?_
 have hi : i < rows.length:=by simpa using h1
 simp only [List.getElem_map,List.getElem_range]
 unfold stepI
 rw [Int.toNat_natCast,Int.toNat_natCast,getD_at hi]
def xq (C : Addr) : Sp:=fun vs H Q _ => ∃ (x dx m r g : Addr) (wide : Nat) (rows : LL) (signs : LI),vs = [.ref x,.ref m] /\ H x = some (.ins C dx []) /\ MachAt H m r g wide rows signs /\ RowsOk rows.length wide rows /\ (rows.length <= 1000 /\ wide <= 1000) /\
 ∀ H' : Hp,(∀ c u,c ≠ x -> H c = some u -> H' c = some u) -> TuAt H' C x g wide rows signs -> Q .non H'
def tK (C : Addr) : Sp:=fun vs H Q _ => ∃ (x g : Addr) (wide : Nat) (rows : LL) (signs : LI),vs = [.ref x] /\ TuAt H C x g wide rows signs /\ Q (.ref g) H
def xt (C : Addr) : Sp:=fun vs H Q _ => ∃ (x g b : Addr) (f wide : Nat) (rows : LL) (signs u : LI),vs = [.ref x,.ref b,.int f] /\ TuAt H C x g wide rows signs /\ RowsOk rows.length wide rows /\ (rows.length <= 1000 /\ f < wide) /\ H b = some (.tup (u.map V.int)) /\ u.length = rows.length /\
 ∀ (T : Addr) (H' : Hp),Same H H' -> H' T = some (.tup ((cn rows u f).map V.int)) -> Q (.ref T) H'
def xr : Sp:=fun vs H Q _ => ∃ (x b : Addr) (u : LI),vs = [.ref x,.ref b] /\ H b = some (.tup (u.map V.int)) /\ 0 < u.length /\ Q (.int (u.getD 0 0)) H
section
variable {P : Program} {w : World} {K : PySem.W.Frag} {mg : Str -> Option Value} {base : Heap} {f : Addr} {fd : FuncData} {dV : Value} {C : Addr}
theorem kW : FnScope ["self","machine"] ["self","machine"] (aj bC):=⟨rfl,rfl,rfl,by decide +kernel,rfl,by decide +kernel,by decide +kernel⟩
theorem pO : FnScope ["self"] ["self"] (aj bZ):=⟨rfl,rfl,rfl,by decide +kernel,rfl,by decide +kernel,by decide +kernel⟩
theorem qT : FnScope ["self","place","figure"] ["self","place","figure"] (aj bW):=⟨rfl,rfl,rfl,by decide +kernel,rfl,by decide +kernel,by decide +kernel⟩
theorem bk_Turning_step_0 : BlkScope ["self","place","figure"] (aj bW) ["there","place"] [none,some 1] { kind:=ScopeKind.function,names:=[(".0",NameKind.local),("there",NameKind.local),("place",NameKind.free)],isGenerator:=false,isCoroutine:=false,more:=[] }:=⟨rfl,by decide +kernel,by decide +kernel,by decide +kernel,by decide +kernel,rfl,by decide +kernel⟩
theorem qS : FnScope ["self","place"] ["self","place"] (aj ck):=⟨rfl,rfl,rfl,by decide +kernel,rfl,by decide +kernel,by decide +kernel⟩
theorem Dt (F : FunD K "__init__" "Turning.__init__" bC dV f fd) (tc : TCls K C) (cT : DefOk P w K mg base "columns_of" 1 ["machine"] [] (xk K)) : FnOk P w K mg base CX0 2 f fd ["self","machine"] (xq C):=by
 refine F.ok kW (fun vs H Q E h => ?_) (fun cdv A outer s H vs Q E hr h => ?_)
 ·obtain ⟨x,dx,m,r,g,wide,rows,signs,rfl,_⟩:=h
  rfl
 obtain ⟨x,dx,m,r,g,wide,rows,signs,rfl,hx,M,R,bd,k⟩:=h
 refine ⟨_,(ah (pL (pv 0) (aW bA (pv 1) aq (fun _ _ => rfl)) rfl)
   (au (pL (pv 0) (aV cT hr (aa (pv 1) af)) rfl))),?_⟩
 refine ⟨_,rfl,m,_,_,_,rfl,rfl,qT_ M.tup,rfl,_,rfl,x,C,dx,[],rfl,hx,tc.cl,tc.ns,by decide,?_⟩
 have up : ∀ b xs,H b = some (.tup xs) -> (upd H x (.ins C dx [("signs",.ref g)])) b = some (.tup xs):=fun b xs e => by
  rw [ae (aA e hx (by intro z; cases z))]; exact e
 refine ⟨_,rfl,m,r,g,rows.length,wide,rows,signs,rfl,M.same up,R,bd,fun l cs H1 s1 hl hc => ?_⟩
 have hx1:=s1 _ _ (ab (H:=H) (a:=x) (o:=HO.ins C dx [("signs",.ref g)]))
 refine ⟨_,rfl,x,C,dx,_,rfl,hx1,tc.cl,tc.nc,by show 1 < 1000; decide,?_⟩
 have nlx : l ≠ x:=aA hl hx1 (by intro z; cases z)
 have up2 : ∀ b xs,H1 b = some (.tup xs) -> (upd H1 x (.ins C dx [("signs",.ref g),("columns",.ref l)])) b = some (.tup xs):=fun b xs e => by
  rw [ae (aA e hx1 (by intro z; cases z))]; exact e
 refine k _ (fun c u hc' e => ?_) ⟨⟨dx,l,cs,ab,by rw [ae nlx]; exact hl,hc.same up2⟩,up2 _ _ (s1 _ _ (up _ _ M.sgn))⟩
 rw [ae hc']
 exact s1 _ _ (by rw [ae hc']; exact e)
theorem BZ (F : FunD K "begin" "Turning.begin" bZ dV f fd) (tc : TCls K C) : FnOk P w K mg base CX0 1 f fd ["self"] (tK C):=by
 refine F.ok pO (fun vs H Q E h => ?_) (fun cdv A outer s H vs Q E hr h => ?_)
 ·obtain ⟨x,g,wide,rows,signs,rfl,_⟩:=h
  rfl
 obtain ⟨x,g,wide,rows,signs,rfl,T,q⟩:=h
 obtain ⟨dx,cl,cs,hx,_,_⟩:=T.ob
 refine ⟨_,(au (aM (cF (pv 0) rfl))),?_⟩
 exact ⟨_,rfl,x,C,dx,_,_,rfl,hx,tc.cl,tc.ns,rfl,q⟩
theorem Dv (F : FunD K "step" "Turning.step" bW dV f fd) (tc : TCls K C) (aI : mg "tuple" = none) : FnOk P w K mg base CX0 1 f fd ["self","place","figure"] (xt C):=by
 refine F.ok qT (fun vs H Q E h => ?_) (fun cdv A outer s H vs Q E hr h => ?_)
 ·obtain ⟨x,g,b,fg,wide,rows,signs,u,rfl,_⟩:=h
  rfl
 obtain ⟨x,g,b,fg,wide,rows,signs,u,rfl,T,R,⟨n1,f1⟩,hb,lu,k⟩:=h
 obtain ⟨dx,cl,cs,hx,hcl,hcs⟩:=T.ob
 have lc : (g6 rows wide).length = wide:=by unfold g6; rw [lm_,List.length_range]
 obtain ⟨ca,e1,e2⟩:=hcs.get (i:=fg) (by omega)
 have ec : (g6 rows wide)[fg]'(by omega) = rows.map fun r => r.getD fg 0:=by
  unfold g6
  rw [List.getElem_map,List.getElem_range]
 rw [ec] at e2
 have ats : atI (cs.map V.ref) (fg : Int) = some (.ref ca):=jQ (by omega) (by rw [Int.toNat_natCast]; exact e1)
 refine ⟨_,(au (aM (aL aF (by rfl) aI bG (aa (cB rfl bk_Turning_step_0 (mr (aW b9 (cF (pv 0) rfl) (pv 2) (fun _ _ => rfl))) (fun _ _ _ _ => (ay (i:=0) bk_Turning_step_0.nd rfl (Or.inl rfl))) (fun _ _ _ _ => (aW (nk K) (pv 1) (pv 0) (fun _ _ => rfl)))) af)))),?_⟩
 refine ⟨_,rfl,x,C,dx,_,_,rfl,hx,tc.cl,tc.nc,rfl,_,rfl,cl,_,_,_,rfl,rfl,qL_ hcl,ats,ca,rfl,⟨_,qT_ e2⟩,?_⟩
 refine jX (K:=K) (xs:=(rows.map fun r => r.getD fg 0).map V.int) (fun D i ys H' => Same H H' /\ ys = (((rows.map fun r => r.getD fg 0).take i).map fun t => u.getD t.toNat 0).map V.int) (fun D hD => ⟨ak hD _,rfl⟩) (fun D i ys H' _ ⟨e,_⟩ => qT_ (e _ _ e2)) ?_ ?_
 ·rintro D i y ys H1 Q' hD hi hy ⟨s1,rfl⟩ k'
  obtain ⟨t,rfl,ht⟩:=br hi
  have il:=(gi_ ht).1
  rw [lm_] at il
  have tm:=mq_ ht
  obtain ⟨r,hr',rfl⟩:=List.mem_map.mp tm
  have lr:=R.row r hr'
  have ti:=R.val r hr' (r.getD fg 0) (by rw [getD_at (by omega)]; exact List.getElem_mem _)
  refine ⟨_,rfl,_,rfl,b,_,_,_,rfl,rfl,qT_ (s1 _ _ hb),bU ti.1 (by omega),k' _ _ hy (aw (by rw [lm_,lm_,List.length_take,lm_]; omega)) ⟨av s1 hD,?_⟩⟩
  rw [List.take_add_one,ht,List.map_append,List.map_append]
  rfl
 ·rintro D ys H1 hD hy ⟨s1,rfl⟩
  rw [lm_,List.take_length,Cw R] at hy
  refine ⟨D,_,rfl,.inl ⟨qL_ hy,fun T' hT => ?_⟩⟩
  exact k T' _ (s1.trans (ak hT _)) ab
theorem Du (F : FunD K "sign" "Turning.sign" ck dV f fd) : FnOk P w K mg base CX0 1 f fd ["self","place"] xr:=by
 refine F.ok qS (fun vs H Q E h => ?_) (fun cdv A outer s H vs Q E hr h => ?_)
 ·obtain ⟨x,b,u,rfl,_⟩:=h
  rfl
 obtain ⟨x,b,u,rfl,hb,hu,k⟩:=h
 refine ⟨_,(au (aM (aW bA (pv 1) aq (fun _ _ => rfl)))),?_⟩
 exact ⟨_,rfl,b,_,_,_,rfl,rfl,qT_ hb,bU (by decide) (by omega),k⟩
end
def kb (u : LI) : List Key:=u.map Sum.inl
theorem sy (u : LI) : (kb u).map kV = u.map V.int:=by
 unfold kb
 rw [List.map_map]
 rfl
theorem xZ {u v : LI} (h : kb u = kb v) : u = v:=by
 have:=congrArg (List.map fun k : Key => match k with | Sum.inl i => i | Sum.inr _ => 0) h
 unfold kb at this
 rw [List.map_map,List.map_map] at this
 have e : ∀ w : LI,w.map ((fun k : Key => match k with | Sum.inl i => i | Sum.inr _ => 0) ∘ Sum.inl) = w:=fun w => by
  show w.map (fun i => i) = w
  exact List.map_id' w
 rw [e,e] at this
 exact this
def kvP (ps : LL) (k : Nat) : List (List Key × V):=(ps.zipIdx k).map fun p => (kb p.1,V.int (p.2 : Int))
theorem q9 (ps : LL) (k : Nat) : (kvP ps k).length = ps.length:=by
 unfold kvP
 rw [lm_,List.length_zipIdx]
theorem sG : ∀ {ps : LL} {k : Nat} {u : LI},u ∉ ps -> di (kvP ps k) (kb u) = none
 | [],_,_,_ => rfl
 | p :: ps,k,u,h => by
  rw [show kvP (p :: ps) k = (kb p,V.int (k : Int)) :: kvP ps (k + 1) from rfl,eF (fun z => h (by rw [<- xZ z]; exact List.mem_cons_self))]
  exact sG fun z => h (List.mem_cons_of_mem _ z)
theorem CZ : ∀ {ps : LL} {k n : Nat} {u : LI},ps.Nodup -> ps[n]? = some u -> di (kvP ps k) (kb u) = some (.int ((k + n : Nat) : Int))
 | [],_,_,_,_,h => by cases h
 | p :: ps,k,0,u,_,h => by
  cases h
  exact gW rfl
 | p :: ps,k,n + 1,u,nd,h => by
  have nd' := List.nodup_cons.mp nd
  have h' : ps[n]? = some u:=h
  rw [show kvP (p :: ps) k = (kb p,V.int (k : Int)) :: kvP ps (k + 1) from rfl,eF (fun z => nd'.1 (by rw [xZ z]; exact mq_ h')),CZ nd'.2 h']
  congr 3
  omega
theorem EO {ps : LL} {u : LI} (h : u ∉ ps) : putK (kvP ps 0) (kb u) (V.int (ps.length : Int)) = kvP (ps ++ [u]) 0:=by
 rw [DX _ (sG h)]
 unfold kvP
 rw [List.zipIdx_append,List.map_append,Nat.zero_add]
 rfl
theorem EN {ps : LL} {i : Nat} {p : List Key × V} (h : (kvP ps 0)[i]? = some p) : ∃ u,ps[i]? = some u /\ p.1 = kb u:=by
 unfold kvP at h
 rw [List.getElem?_map,List.getElem?_zipIdx] at h
 cases e : ps[i]? with
 | none => rw [e] at h; cases h
 | some u =>
  rw [e] at h
  cases h
  exact ⟨u,rfl,rfl⟩
def tE (C : Addr) : Sp:=fun vs H Q _ => ∃ (x g : Addr) (wide most : Nat) (rows : LL) (signs : LI),vs = [.ref x,.int wide,.int most] /\ TuAt H C x g wide rows signs /\ RowsOk rows.length wide rows /\ signs.length = rows.length /\ (0 < rows.length /\ rows.length <= 1000) /\ wide <= 1000 /\ (1 <= most /\ most <= 1000) /\
 (∀ ps : LL,ps.Nodup -> (∀ p ∈ ps,∃ v,InF wide v /\ plW (cn rows) signs v = p) -> ps.length <= most) /\
 ∀ (m' r' g' : Addr) (rows' ps : LL) (H' : Hp),Same H H' -> MachAt H' m' r' g' wide rows' (ps.map fun u => u.getD 0 0) -> Gro (cn rows) signs wide ps rows' -> rows'.length = ps.length -> Q (.ref m') H'
section
variable {P : Program} {w : World} {K : PySem.W.Frag} {mg : Str -> Option Value} {base : Heap} {f : Addr} {fd : FuncData} {dV : Value} {C : Addr}
theorem sc_grown : FnScope ["walk","wide","most","begin","numbers","rows","level","fresh","place","row","figure","there","number"] ["walk","wide","most"] (aj jD):=⟨rfl,rfl,rfl,by decide +kernel,rfl,by decide +kernel,by decide +kernel⟩
theorem bk_grown_0 : BlkScope ["walk","wide","most","begin","numbers","rows","level","fresh","place","row","figure","there","number"] (aj jD) ["place","walk"] [none,some 0] { kind:=ScopeKind.function,names:=[(".0",NameKind.local),("place",NameKind.local),("walk",NameKind.free)],isGenerator:=false,isCoroutine:=false,more:=[] }:=⟨rfl,by decide +kernel,by decide +kernel,by decide +kernel,by decide +kernel,rfl,by decide +kernel⟩
theorem BS (F : FunD K "grown" "grown" jD dV f fd) (rH : DefMe P w K mg base C "begin" 1 ["self"] (tK C)) (vH : DefMe P w K mg base C "step" 1 ["self","place","figure"] (xt C)) (vG : DefMe P w K mg base C "sign" 1 ["self","place"] xr) (aS : mg "range" = none) (bB : mg "len" = none) (aI : mg "tuple" = none) : FnOk P w K mg base CX0 2 f fd ["walk","wide","most"] (tE C):=by
 refine F.ok sc_grown (fun vs H Q E h => ?_) (fun cdv A outer s H vs Q E hr h => ?_)
 ·obtain ⟨x,g,wide,most,rows,signs,rfl,_⟩:=h
  rfl
 obtain ⟨x,g,wide,most,rows,signs,rfl,T,R,ls,⟨n0,n1⟩,w1,⟨m0,m1⟩,few,k⟩:=h
 have hu:=jI hr
 obtain ⟨dx,cl,cs,hx,hcl,hcs⟩:=T.ob
 refine yS (bF (PSW.mk (ax (i:=3) sc_grown.nd rfl (Or.inl rfl) (zU rH hr (pv 0))))
   (bF (PSW.mk (ax (i:=4) sc_grown.nd rfl (Or.inl rfl) (DD hu (yt (pv 3) aq AV))))
   (bF (PSW.mk (ax (i:=5) sc_grown.nd rfl (Or.inl rfl) (bI af)))
   (bF (PSW.mk (ax (i:=6) sc_grown.nd rfl (Or.inl rfl) (bI (aa (pv 3) af))))
   (bF (PSW.mk (iL PassesOwn.never (nY (pv 6) (fun _ => rfl)) (ah (ax (i:=7) sc_grown.nd rfl (Or.inl rfl) (bI af))
   (ah (bN PassesOwn.never rfl (cb (pv 6)) (ay (i:=8) sc_grown.nd rfl (Or.inl rfl)) (ah (ax (i:=9) sc_grown.nd rfl (Or.inl rfl) (bI af))
   (ah (bN PassesOwn.never rfl (bQ rfl aS (aa (pv 1) af)) (ay (i:=10) sc_grown.nd rfl (Or.inl rfl)) (ah (ax (i:=11) sc_grown.nd rfl (Or.inl rfl) (vA vH hr (pv 0) (aa (pv 8) (aa (pv 10) af))))
   (ah (ax (i:=12) sc_grown.nd rfl (Or.inl rfl) (DB hu (pv 4) (pv 11) ⟨rfl,rfl,rfl,rfl⟩))
   (ah (cL (a8 Gu (pv 12) Gw (bh _)) (ah (ax (i:=12) sc_grown.nd rfl (Or.inl rfl) (aR Be (by rfl) bB cw (aa (pv 4) af)))
   (ah (cL (a8 FJ (pv 12) (pv 2) (bh _)) (au yx) bx)
   (ah (nX hu (pv 4) (pv 11) (pv 12) rfl)
   (au (a7 (eC PySem.F.plainAttrs_list PySem.F.slot_list_append PySem.F.type_list_append ba (pv 7) (aa (pv 11) af))))))) bx)
   (au (a7 (eC PySem.F.plainAttrs_list PySem.F.slot_list_append PySem.F.type_list_append ba (pv 9) (aa (pv 12) af))))))))
   (au (a7 (eC PySem.F.plainAttrs_list PySem.F.slot_list_append PySem.F.type_list_append ba (pv 5) (aa (aL aF (by rfl) aI bG (aa (pv 9) af)) af)))))))
   (au (ax (i:=6) sc_grown.nd rfl (Or.inl rfl) (pv 7)))))))
   (Ar (HD (HE (xD (PEW.mk (pv 1)) (xD (PEW.mk (aL aF (by rfl) aI bG (aa (pv 5) af))) (xD (PEW.mk (aL aF (by rfl) aI bG (aa (cB rfl bk_grown_0 (DM (pv 4)) (fun _ _ _ _ => (ay (i:=0) bk_grown_0.nd rfl (Or.inl rfl))) (fun _ _ _ _ => (vA vG hr (pv 1) (aa (pv 0) af)))) af))) GQ))))))))))) ?_
 refine ⟨_,rfl,x,dx,_,rfl,hx,rfl,x,g,wide,rows,signs,rfl,T,?_⟩
 refine fun D hD => ?_
 have sD:=ak hD (HO.dT [])
 refine ⟨_,rfl,ab,g,kb signs,.int 0,rfl,by rw [sy]; exact sD _ _ T.sg,?_⟩
 obtain ⟨H1,eH1⟩ : ∃ H1,upd (upd H D (HO.dT [])) D (HO.dT [(kb signs,V.int 0)]) = H1:=⟨_,rfl⟩
 have s1 : Same H H1:=by rw [<- eH1]; exact av sD hD
 have hD1 : H1 D = some (.dT (kvP [signs] 0)):=by rw [<- eH1,ab]; rfl
 rw [eH1]
 refine ⟨(by show 0 <= sizeLine; decide),fun RR hRR => ?_⟩
 have sR:=ak hRR (HO.lst [])
 have nDR : D ≠ RR:=ao hD1 hRR
 refine ⟨_,rfl,(by show 1 <= sizeLine; decide),fun L0 hL0 => ?_⟩
 obtain ⟨H2,eH2⟩ : ∃ H2,upd (upd H1 RR (HO.lst [])) L0 (HO.lst [V.ref g]) = H2:=⟨_,rfl⟩
 have s12 : Same H1 H2:=by rw [<- eH2]; exact sR.trans (ak hL0 _)
 have hD2:=s12 _ _ hD1
 have hRR2 : H2 RR = some (.lst []):=by rw [<- eH2,ae (ao ab hL0),ab]
 have hL2 : H2 L0 = some (.lst ([g].map V.ref)):=by rw [<- eH2,ab]; rfl
 have s2:=s1.trans s12
 have fRR : H RR = none:=s1.free hRR
 rw [eH2]
 try dsimp only [bt,eG,List.set]
 refine dX (t:=km _ _) (fun σ' H' => ∃ (ps rows' : LL) (ras : List Addr) (v6 v7 v8 v9 v10 v11 v12 : OV),σ' = [some (.ref x),some (.int wide),some (.int most),some (.ref g),some (.ref D),some (.ref RR),v6,v7,v8,v9,v10,v11,v12] /\ Same H H' /\ H' D = some (.dT (kvP ps 0)) /\ H' RR = some (.lst (ras.map V.ref)) /\ RowsAt H' ras rows' /\ Gro (cn rows) signs wide ps rows' /\ rows'.length = ps.length) ?_ (fun D' nxt => ?_)
 rotate_left
 ·refine kG (fun mm σ' H' => ∃ (ps rows' us : LL) (ras lv : List Addr) (L : Addr) (v7 v8 v9 v10 v11 v12 : OV),mm = most - rows'.length /\ σ' = [some (.ref x),some (.int wide),some (.int most),some (.ref g),some (.ref D),some (.ref RR),some (.ref L),v7,v8,v9,v10,v11,v12] /\ Same H H' /\ H' D = some (.dT (kvP ps 0)) /\ H' RR = some (.lst (ras.map V.ref)) /\ RowsAt H' ras rows' /\ Gro (cn rows) signs wide ps rows' /\ H' L = some (.lst (lv.map V.ref)) /\ RR ≠ L /\ RowsAt H' lv us /\ ps.drop rows'.length = us)
   ⟨_,[signs],[],[signs],[],[g],L0,none,none,none,none,none,none,rfl,rfl,s2,hD2,hRR2,.nil,Gro.start _ _ _,hL2,ao ab hL0,.cons (s2 _ _ T.sg) .nil,rfl⟩ ?_
  rintro mm σ' H3 ⟨ps,rows',us,ras,lv,L,v7,v8,v9,v10,v11,v12,rfl,rfl,s3,hD3,hR3,A3,G,hL3,nRL,TA,du⟩
  by_cases en : lv = []
  ·subst en
   cases TA
   refine ⟨_,rfl,_,.inl ⟨_,qL_ hL3,rfl⟩,j9 ?_⟩
   have e : ps.length <= rows'.length:=List.drop_eq_nil_iff.mp du
   exact nxt _ _ ⟨ps,rows',ras,_,v7,v8,v9,v10,v11,v12,rfl,s3,hD3,hR3,A3,G,Nat.le_antisymm G.le e⟩
  refine ⟨_,rfl,_,.inl ⟨_,qL_ hL3,rfl⟩,?_⟩
  have ne : (!(lv.map V.ref).isEmpty) = true:=by
   cases lv with
   | nil => exact absurd rfl en
   | cons x r => rfl
  rw [ne]
  have lv1 : 1 <= lv.length:=by
   cases lv with
   | nil => exact absurd rfl en
   | cons x r => exact Nat.succ_le_succ (Nat.zero_le _)
  have llu : lv.length = us.length:=Paired.length TA
  have pl : ps.length = rows'.length + us.length:=by
   have:=congrArg List.length du
   rw [List.length_drop] at this
   have:=G.le
   omega
  have lm:=few ps G.nd G.re
  refine wj ⟨fun σ' H' => ∃ m',m' < most - rows'.length /\ ∃ (ps rows' us : LL) (ras lv : List Addr) (L : Addr) (v7 v8 v9 v10 v11 v12 : OV),m' = most - rows'.length /\ σ' = [some (.ref x),some (.int wide),some (.int most),some (.ref g),some (.ref D),some (.ref RR),some (.ref L),v7,v8,v9,v10,v11,v12] /\ Same H H' /\ H' D = some (.dT (kvP ps 0)) /\ H' RR = some (.lst (ras.map V.ref)) /\ RowsAt H' ras rows' /\ Gro (cn rows) signs wide ps rows' /\ H' L = some (.lst (lv.map V.ref)) /\ RR ≠ L /\ RowsAt H' lv us /\ ps.drop rows'.length = us,fun _ _ h => h,?_⟩
  refine ⟨(by show 0 <= sizeLine; decide),fun Fr hFr => ?_⟩
  have sF:=ak hFr (HO.lst [])
  have fFr : H Fr = none:=s3.free hFr
  have nFD : D ≠ Fr:=ao hD3 hFr
  have nFR : RR ≠ Fr:=ao hR3 hFr
  have nFL : L ≠ Fr:=ao hL3 hFr
  obtain ⟨H4,eH4⟩ : ∃ H4,upd H3 Fr (HO.lst []) = H4:=⟨_,rfl⟩
  have s4 : Same H H4:=by rw [<- eH4]; exact s3.trans sF
  have t4 : Same H3 H4:=by rw [<- eH4]; exact sF
  have hF4 : H4 Fr = some (.lst (([] : List Addr).map V.ref)):=by rw [<- eH4,ab]; rfl
  rw [eH4]
  have lps : ∀ {qs : LL},(∀ p ∈ qs,∃ v,InF wide v /\ plW (cn rows) signs v = p) -> ∀ u ∈ qs,u.length = rows.length:=fun h u hu' => by
   obtain ⟨v,_,e⟩:=h u hu'
   rw [<- e]
   exact gh v _ ls
  try dsimp only [bt,eG,List.set]
  refine ⟨_,rfl,L,rfl,⟨_,qL_ (t4 _ _ hL3)⟩,cP (K:=K) (xs:=lv.map V.ref) (fun i σ' H' => ∃ (ps' rows2 qs : LL) (ras' fr : List Addr) (v8 v9 v10 v11 v12 : OV),
    σ' = [some (.ref x),some (.int wide),some (.int most),some (.ref g),some (.ref D),some (.ref RR),some (.ref L),some (.ref Fr),v8,v9,v10,v11,v12] /\ Same H H' /\ H' D = some (.dT (kvP ps' 0)) /\ H' RR = some (.lst (ras'.map V.ref)) /\ RowsAt H' ras' rows2 /\ Gro (cn rows) signs wide ps' rows2 /\ rows2.length = rows'.length + i /\ ps' = ps ++ qs /\ H' Fr = some (.lst (fr.map V.ref)) /\ RowsAt H' fr qs /\ H' L = some (.lst (lv.map V.ref)) /\ RowsAt H' lv us)
   ⟨ps,rows',[],ras,[],v8,v9,v10,v11,v12,rfl,s4,t4 _ _ hD3,t4 _ _ hR3,A3.same (fun b xs e => t4 _ _ e),G,rfl,(List.append_nil _).symm,hF4,.nil,t4 _ _ hL3,TA.same (fun b xs e => t4 _ _ e)⟩ (fun i σ' H' _ ⟨_,_,_,_,_,_,_,_,_,_,_,_,_,_,_,_,_,_,_,_,e,_⟩ => qL_ e) ?_ ?_⟩
  ·rintro i y σ' H5 hi ⟨ps',rows2,qs,ras',fr,v8,v9,v10,v11,v12,rfl,s5,hD5,hR5,A5,G5,l5,rfl,hF5,TF5,hL5,TA5⟩
   have il : i < us.length:=by
    have:=(gi_ hi).1
    rw [lm_] at this
    omega
   obtain ⟨pa,e1,e2⟩:=TA5.get il
   have ey : y = .ref pa:=by rw [List.getElem?_map,e1] at hi; exact (Option.some.inj hi).symm
   subst ey
   have atp : ps[rows2.length]? = some us[i]:=by
    have : (ps.drop rows'.length)[i]? = some us[i]:=by rw [du]; exact List.getElem?_eq_getElem il
    rw [List.getElem?_drop] at this
    rw [l5]; exact this
   have atp' : (ps ++ qs)[rows2.length]? = some us[i]:=by rw [List.getElem?_append_left (gi_ atp).1]; exact atp
   have lu : us[i].length = rows.length:=lps G5.re _ (mq_ atp')
   refine ⟨(by show 0 <= sizeLine; decide),fun Ro hRo => ?_⟩
   have sO:=ak hRo (HO.lst [])
   have fRo : H Ro = none:=s5.free hRo
   have nOD : D ≠ Ro:=ao hD5 hRo
   have nOR : RR ≠ Ro:=ao hR5 hRo
   have nOF : Fr ≠ Ro:=ao hF5 hRo
   have nOL : L ≠ Ro:=ao hL5 hRo
   obtain ⟨H6,eH6⟩ : ∃ H6,upd H5 Ro (HO.lst []) = H6:=⟨_,rfl⟩
   have t6 : Same H5 H6:=by rw [<- eH6]; exact sO
   have hO6 : H6 Ro = some (.lst (([] : LI).map V.int)):=by rw [<- eH6,ab]; rfl
   rw [eH6]
   try dsimp only [bt,eG,List.set]
   refine dX (t:=tN _ _ _) (fun σ' H' => ∃ (ps' qs : LL) (fr : List Addr) (row : LI) (v10 v11 v12 : OV),
    σ' = [some (.ref x),some (.int wide),some (.int most),some (.ref g),some (.ref D),some (.ref RR),some (.ref L),some (.ref Fr),some (.ref pa),some (.ref Ro),v10,v11,v12] /\ Same H H' /\ H' D = some (.dT (kvP ps' 0)) /\ H' RR = some (.lst (ras'.map V.ref)) /\ RowsAt H' ras' rows2 /\ GroR (cn rows) signs wide ps' rows2 us[i] row /\ row.length = wide /\ H' Ro = some (.lst (row.map V.int)) /\ ps' = ps ++ qs /\ H' Fr = some (.lst (fr.map V.ref)) /\ RowsAt H' fr qs /\ H' L = some (.lst (lv.map V.ref)) /\ RowsAt H' lv us /\ H' pa = some (.tup (us[i].map V.int))) ?_ (fun D1 nxt1 => ?_)
   rotate_left
   ·refine ⟨_,rfl,_,rfl,by omega,by omega,?_⟩
    refine gn (fun j σ' H' => ∃ (ps' qs : LL) (fr : List Addr) (row : LI) (v10 v11 v12 : OV),
     σ' = [some (.ref x),some (.int wide),some (.int most),some (.ref g),some (.ref D),some (.ref RR),some (.ref L),some (.ref Fr),some (.ref pa),some (.ref Ro),v10,v11,v12] /\ Same H H' /\ H' D = some (.dT (kvP ps' 0)) /\ H' RR = some (.lst (ras'.map V.ref)) /\ RowsAt H' ras' rows2 /\ GroR (cn rows) signs wide ps' rows2 us[i] row /\ row.length = j /\ H' Ro = some (.lst (row.map V.int)) /\ ps' = ps ++ qs /\ H' Fr = some (.lst (fr.map V.ref)) /\ RowsAt H' fr qs /\ H' L = some (.lst (lv.map V.ref)) /\ RowsAt H' lv us /\ H' pa = some (.tup (us[i].map V.int)))
     ⟨ps ++ qs,qs,fr,[],v10,v11,v12,rfl,s5.trans t6,t6 _ _ hD5,t6 _ _ hR5,A5.same (fun b xs e => t6 _ _ e),G5.next atp',rfl,hO6,rfl,t6 _ _ hF5,TF5.same (fun b xs e => t6 _ _ e),t6 _ _ hL5,TA5.same (fun b xs e => t6 _ _ e),t6 _ _ e2⟩ ?_ ?_
    ·rintro j σ' H7 hj ⟨ps',qs,fr,row,v10,v11,v12,rfl,s7,hD7,hR7,A7,G7,rfl,hO7,rfl,hF7,TF7,hL7,TA7,hpa7⟩
     rw [Int.toNat_natCast] at hj
     refine ⟨_,rfl,x,dx,_,rfl,s7 _ _ hx,rfl,_,rfl,_,rfl,x,g,pa,row.length,wide,rows,signs,us[i],by rw [Int.zero_add]; rfl,T.same s7,R,⟨n1,hj⟩,hpa7,lu,fun Th H8 s8 hTh => ?_⟩
     have hD8:=s8 _ _ hD7
     have lq : (ps ++ qs).length <= most:=few _ G7.nd G7.re
     by_cases c : cn rows us[i] row.length ∈ ps ++ qs
     ·obtain ⟨n,nl,en'⟩:=List.getElem_of_mem c
      have hn : (ps ++ qs)[n]? = some (cn rows us[i] row.length):=by rw [List.getElem?_eq_getElem nl,en']
      have dg : DGet H8 D (.ref Th) (some (.int (n : Int))):=by
       have z:=DGet.t (k:=kb (cn rows us[i] row.length)) hD8 (b:=Th) (by rw [sy]; exact hTh)
       rw [CZ G7.nd hn,Nat.zero_add] at z
       exact z
      refine ⟨_,rfl,D,rfl,.inr ⟨_,.inl hD8⟩,_,rfl,_,dg,?_⟩
      refine ⟨_,rfl,rfl,_,rfl,j9 ?_⟩
      have hO8:=s8 _ _ hO7
      refine ⟨_,rfl,.inl ⟨rfl,_,qL_ hO8⟩,_,rfl,Ro,_,_,rfl,rfl,hO8,aw (by rw [lm_]; omega),?_⟩
      have oth : ∀ b u,b ≠ Ro -> H7 b = some u -> (upd H8 Ro (.lst (row.map V.int ++ [V.int (n : Int)]))) b = some u:=fun b u n e => by
       rw [ae n]; exact s8 _ _ e
      have up : ∀ b xs,H7 b = some (.tup xs) -> (upd H8 Ro (.lst (row.map V.int ++ [V.int (n : Int)]))) b = some (.tup xs):=fun b xs e => oth b _ (aA e hO7 (by intro z; cases z)) e
      exact ⟨_,qs,fr,row ++ [(n : Int)],_,_,_,rfl,av (s7.trans s8) fRo,oth _ _ nOD hD7,oth _ _ nOR hR7,A7.same up,G7.old hn,by rw [List.length_append]; rfl,by rw [ab,List.map_append]; rfl,rfl,oth _ _ nOF hF7,TF7.same up,oth _ _ nOL hL7,TA7.same up,up _ _ hpa7⟩
     ·have dg : DGet H8 D (.ref Th) none:=by
       have z:=DGet.t (k:=kb (cn rows us[i] row.length)) hD8 (b:=Th) (by rw [sy]; exact hTh)
       rw [sG c] at z
       exact z
      refine ⟨_,rfl,D,rfl,.inr ⟨_,.inl hD8⟩,_,rfl,_,dg,?_⟩
      have G8:=G7.new hj c
      have lm8:=few _ G8.nd G8.re
      rw [List.length_append,List.length_singleton] at lm8
      refine ⟨_,rfl,rfl,_,rfl,wj ?_⟩
      refine ⟨_,rfl,D,_,rfl,hD8,_,rfl,_,rfl,_,_,rfl,rfl,_,rfl,Gg (fun z => ?_) (fun _ => ?_)⟩
      ·exfalso
       have:=of_decide_eq_true z
       rw [q9] at this
       omega
      rw [q9]
      refine ⟨_,rfl,_,rfl,_,rfl,D,_,rfl,DPut.t (k:=kb (cn rows us[i] row.length)) hD8 (by rw [sy]; exact hTh) (aw (by rw [q9]; omega)),?_⟩
      rw [EO c]
      have hO8:=s8 _ _ hO7
      have hF8:=s8 _ _ hF7
      obtain ⟨u',eu⟩ : ∃ u',cn rows us[i] row.length = u' := ⟨_,rfl⟩
      rw [eu] at G8 hTh ⊢
      obtain ⟨H9,e9⟩ : ∃ H9,upd H8 D (HO.dT (kvP (ps ++ qs ++ [u']) 0)) = H9:=⟨_,rfl⟩
      rw [e9]
      have o9 : ∀ b u,b ≠ D -> H8 b = some u -> H9 b = some u:=fun b u n e => by rw [<- e9,ae n]; exact e
      have hF9:=o9 _ _ (Ne.symm nFD) hF8
      have hO9:=o9 _ _ (Ne.symm nOD) hO8
      have lfr:=TF7.length
      have lpq : (ps ++ qs).length = ps.length + qs.length:=List.length_append
      refine ⟨_,rfl,.inl ⟨rfl,_,qL_ hF9⟩,_,rfl,Fr,_,_,rfl,rfl,hF9,aw (by rw [lm_]; omega),?_⟩
      have hO10 : (upd H9 Fr (.lst (fr.map V.ref ++ [V.ref Th]))) Ro = some (.lst (row.map V.int)):=by rw [ae (Ne.symm nOF)]; exact hO9
      refine ⟨_,rfl,.inl ⟨rfl,_,qL_ hO10⟩,_,rfl,Ro,_,_,rfl,rfl,hO10,aw (by rw [lm_]; omega),?_⟩
      obtain ⟨H11,e11⟩ : ∃ H11,upd (upd H9 Fr (.lst (fr.map V.ref ++ [V.ref Th]))) Ro (.lst (row.map V.int ++ [V.int ((ps ++ qs).length : Int)])) = H11:=⟨_,rfl⟩
      have oth : ∀ b u,b ≠ Ro -> b ≠ Fr -> b ≠ D -> H8 b = some u -> H11 b = some u:=fun b u n1 n2 n3 e => by
       rw [<- e11,ae n1,ae n2]; exact o9 _ _ n3 e
      have up8 : ∀ b xs,H8 b = some (.tup xs) -> H11 b = some (.tup xs):=fun b xs e => oth b _ (aA e hO8 (by intro z; cases z)) (aA e hF8 (by intro z; cases z)) (aA e hD8 (by intro z; cases z)) e
      have up : ∀ b xs,H7 b = some (.tup xs) -> H11 b = some (.tup xs):=fun b xs e => up8 _ _ (s8 _ _ e)
      have s11 : Same H H11:=by
       rw [<- e11,<- e9]
       exact av (av (av (s7.trans s8) hD) fFr) fRo
      have hD11 : H11 D = some (.dT (kvP (ps ++ qs ++ [u']) 0)):=by rw [<- e11,ae nOD,ae nFD,<- e9,ab]
      have hF11 : H11 Fr = some (.lst ((fr ++ [Th]).map V.ref)):=by rw [<- e11,ae nOF,ab,List.map_append]; rfl
      have hO11 : H11 Ro = some (.lst ((row ++ [((ps ++ qs).length : Int)]).map V.int)):=by rw [<- e11,ab,List.map_append]; rfl
      have goal : ∃ (ps' qs' : LL) (fr : List Addr) (row' : LI) (v10' v11 v12 : OV),[some (V.ref x),some (.int wide),some (.int most),some (.ref g),some (.ref D),some (.ref RR),some (.ref L),some (.ref Fr),some (.ref pa),some (.ref Ro),some (.int (0 + (row.length : Int))),some (.ref Th),some (.int ((ps ++ qs).length : Int))] = [some (.ref x),some (.int wide),some (.int most),some (.ref g),some (.ref D),some (.ref RR),some (.ref L),some (.ref Fr),some (.ref pa),some (.ref Ro),v10',v11,v12] /\ Same H H11 /\ H11 D = some (.dT (kvP ps' 0)) /\ H11 RR = some (.lst (ras'.map V.ref)) /\ RowsAt H11 ras' rows2 /\ GroR (cn rows) signs wide ps' rows2 us[i] row' /\ row'.length = row.length + 1 /\ H11 Ro = some (.lst (row'.map V.int)) /\ ps' = ps ++ qs' /\ H11 Fr = some (.lst (fr.map V.ref)) /\ RowsAt H11 fr qs' /\ H11 L = some (.lst (lv.map V.ref)) /\ RowsAt H11 lv us /\ H11 pa = some (.tup (us[i].map V.int)):=
       ⟨ps ++ qs ++ [u'],qs ++ [u'],fr ++ [Th],row ++ [((ps ++ qs).length : Int)],_,_,_,rfl,s11,hD11,oth _ _ nOR nFR (Ne.symm nDR) (s8 _ _ hR7),A7.same up,G8,by rw [List.length_append]; rfl,hO11,List.append_assoc ..,hF11,RowsAt.snoc (TF7.same up) (up8 _ _ hTh),oth _ _ nOL nFL (aA hL7 hD7 (by intro z; cases z)) (s8 _ _ hL7),TA7.same up,up _ _ hpa7⟩
      rw [<- e11] at goal
      exact goal
    ·rintro σ' H7 ⟨ps',qs,fr,row,v10,v11,v12,rfl,s7,hD7,hR7,A7,G7,lr7,hO7,rfl,hF7,TF7,hL7,TA7,hpa7⟩
     rw [Int.toNat_natCast] at lr7
     exact nxt1 _ _ ⟨_,qs,fr,row,v10,v11,v12,rfl,s7,hD7,hR7,A7,G7,lr7,hO7,rfl,hF7,TF7,hL7,TA7,hpa7⟩
   ·rintro σ' H7 ⟨ps',qs,fr,row,v10,v11,v12,rfl,s7,hD7,hR7,A7,G7,lr7,hO7,rfl,hF7,TF7,hL7,TA7,_⟩
    have lt7:=(gi_ G7.at_).1
    have lq : (ps ++ qs).length <= most:=few _ G7.nd G7.re
    refine ⟨_,rfl,.inl ⟨rfl,_,qL_ hR7⟩,_,rfl,Ro,_,rfl,.inl ⟨qL_ hO7,fun t ht => ?_⟩⟩
    have nRt : RR ≠ t:=ao hR7 ht
    have s8:=ak ht (HO.tup (row.map V.int))
    have lra:=A7.length
    refine ⟨RR,_,_,rfl,rfl,s8 _ _ hR7,aw (by rw [lm_]; omega),?_⟩
    have up : ∀ b xs,H7 b = some (.tup xs) -> (upd (upd H7 t (.tup (row.map V.int))) RR (.lst (ras'.map V.ref ++ [V.ref t]))) b = some (.tup xs):=fun b xs e => by
     rw [ae (aA e hR7 (by intro z; cases z)),ae (ao e ht)]
     exact e
    have oth : ∀ b u,b ≠ RR -> H7 b = some u -> (upd (upd H7 t (.tup (row.map V.int))) RR (.lst (ras'.map V.ref ++ [V.ref t]))) b = some u:=fun b u n e => by
     rw [ae n]; exact s8 _ _ e
    refine ⟨ps ++ qs,rows2 ++ [row],qs,ras' ++ [t],fr,_,_,_,_,_,rfl,av (s7.trans s8) fRR,oth _ _ nDR hD7,by rw [ab,List.map_append]; rfl,RowsAt.snoc (A7.same up) (by rw [ae (Ne.symm nRt),ab]),G7.done lr7,by rw [List.length_append,List.length_singleton,l5]; rfl,rfl,oth _ _ (Ne.symm nFR) hF7,TF7.same up,oth _ _ (Ne.symm nRL) hL7,TA7.same up⟩
  ·rintro σ' H5 ⟨ps',rows2,qs,ras',fr,v8,v9,v10,v11,v12,rfl,s5,hD5,hR5,A5,G5,l5,rfl,hF5,TF5,hL5,TA5⟩
   rw [lm_] at l5
   refine ⟨_,rfl,most - rows2.length,?_,ps ++ qs,rows2,qs,ras',fr,Fr,some (.ref Fr),v8,v9,v10,v11,v12,rfl,rfl,s5,hD5,hR5,A5,G5,hF5,nFR,TF5,?_⟩
   ·omega
   ·rw [l5,llu,<- pl,List.drop_append_of_le_length (Nat.le_refl _),List.drop_length,List.nil_append]
 rintro σ' H3 ⟨ps,rows',ras,v6,v7,v8,v9,v10,v11,v12,rfl,s3,hD3,hR3,A3,G,el⟩
 refine ⟨_,rfl,_,rfl,RR,_,rfl,.inl ⟨qL_ hR3,fun rt hrt => ?_⟩⟩
 have s4:=ak hrt (HO.tup (ras.map V.ref))
 refine ⟨_,rfl,D,_,rfl,s4 _ _ hD3,fun o => ?_⟩
 obtain ⟨Hf,eHf⟩ : ∃ Hf,upd (upd H3 rt (HO.tup (ras.map V.ref))) D (.frz o (.dT (kvP ps 0))) = Hf:=⟨_,rfl⟩
 have sf : Same H Hf:=by rw [<- eHf]; exact av (s3.trans s4) hD
 have hDf : Hf D = some (.frz o (.dT (kvP ps 0))):=by rw [<- eHf,ab]
 have upf : ∀ b xs,(upd H3 rt (HO.tup (ras.map V.ref))) b = some (.tup xs) -> Hf b = some (.tup xs):=fun b xs e => by
  rw [<- eHf,ae (aA e (s4 _ _ hD3) (by intro z; cases z))]; exact e
 have lps : ∀ u ∈ ps,u.length = rows.length:=fun u hu' => by
  obtain ⟨v,_,e⟩:=G.re u hu'
  rw [<- e]
  exact gh v _ ls
 have lm:=few ps G.nd G.re
 rw [eHf]
 refine yZ (fun Dl i ys H' => Same Hf H' /\ ys = ((ps.take i).map fun u => u.getD 0 0).map V.int) (fun Dl hDl => ⟨ak hDl _,rfl⟩) (fun Dl i ys H' _ ⟨e,_⟩ => e _ _ hDf) ?_ ?_
 ·rintro Dl i p b ys H4 Q' hDl hi hb hy ⟨s5,rfl⟩ k'
  obtain ⟨u,hu',ep⟩:=EN hi
  rw [ep,sy] at hb
  have il:=(gi_ hu').1
  have lu:=lps u (mq_ hu')
  refine ⟨_,rfl,x,dx,_,rfl,s5 _ _ (sf _ _ hx),rfl,_,rfl,x,b,u,rfl,hb,by omega,k' _ _ hy (aw (by rw [lm_,lm_,List.length_take]; omega)) ⟨av s5 hDl,?_⟩⟩
  rw [List.take_add_one,hu',List.map_append,List.map_append]
  rfl
 ·rintro Dl ys H4 hDl hy ⟨s5,rfl⟩
  rw [q9,List.take_length] at hy
  refine ⟨Dl,_,rfl,.inl ⟨qL_ hy,fun gt hgt => ?_⟩⟩
  have s6:=ak hgt (HO.tup ((ps.map fun u => u.getD 0 0).map V.int))
  refine ⟨(by show 3 <= sizeLine; decide),fun m' hm' => ?_⟩
  have s7:=ak hm' (HO.tup [V.int wide,V.ref rt,V.ref gt])
  have s67:=s6.trans s7
  exact k m' rt gt rows' ps _ (sf.trans (s5.trans s67)) ⟨ab,⟨ras,s67 _ _ (s5 _ _ (upf _ _ ab)),A3.same fun b xs e => s67 _ _ (s5 _ _ (upf _ _ (s4 _ _ e)))⟩,s7 _ _ ab⟩ G el
end
theorem mE {α : Type} [DecidableEq α] : ∀ {ps vs : List α},ps.Nodup -> (∀ p ∈ ps,p ∈ vs) -> ps.length <= vs.length
 | [],_,_,_ => Nat.zero_le _
 | p :: ps,vs,nd,h => by
  have nd' := List.nodup_cons.mp nd
  have hp:=h p List.mem_cons_self
  have:=mE (vs:=vs.erase p) nd'.2 fun q hq => (List.mem_erase_of_ne (show q ≠ p from fun z => nd'.1 (by rw [<- z]; exact hq))).mpr (h q (List.mem_cons_of_mem _ hq))
  rw [List.length_erase_of_mem hp] at this
  have:=List.length_pos_of_mem hp
  rw [List.length_cons]
  omega
def Ck (cs : LI) : Nat -> LL
 | 0 => [[]]
 | n + 1 => cs.flatMap fun c => (Ck cs n).map fun v => c :: v
theorem xU (vs : LL) : ∀ cs : LI,(cs.flatMap fun c => vs.map fun v => c :: v).length = cs.length * vs.length
 | [] => by simp
 | c :: cs => by
  rw [List.flatMap_cons,List.length_append,lm_,xU vs cs,List.length_cons,Nat.succ_mul,Nat.add_comm]
theorem tQ (cs : LI) : ∀ n,(Ck cs n).length = cs.length ^ n
 | 0 => rfl
 | n + 1 => by
  show (cs.flatMap fun c => (Ck cs n).map fun v => c :: v).length = _
  rw [xU,tQ cs n,Nat.pow_succ,Nat.mul_comm]
theorem tR {cs : LI} : ∀ {v : LI},(∀ z ∈ v,z ∈ cs) -> v ∈ Ck cs v.length
 | [],_ => List.mem_cons_self
 | z :: v,h => List.mem_flatMap.mpr ⟨z,h z List.mem_cons_self,List.mem_map.mpr ⟨v,tR fun y hy => h y (List.mem_cons_of_mem _ hy),rfl⟩⟩
theorem xA {cs : LI} {wide : Nat} {rows : LL} (R : RowsOk rows.length wide rows) : ∀ (v u : LI),InF wide v -> u.length = rows.length -> (∀ z ∈ u,z ∈ cs) -> ∀ z ∈ v.foldl (fun p f => cn rows p f.toNat) u,z ∈ cs
 | [],_,_,_,h => h
 | f :: v,u,hv,lu,h => by
  refine xA R v (cn rows u f.toNat) (fun x hx => hv x (List.mem_cons_of_mem _ hx)) (yJ _ _ _) fun z hz => ?_
  obtain ⟨q,hq,rfl⟩:=List.mem_map.mp hz
  have hf:=hv f List.mem_cons_self
  have hq' := List.mem_range.mp hq
  have st:=cR R (h:=(q : Int)) (f:=((f.toNat : Nat) : Int)) (by omega) (by omega) (by omega) (by omega)
  rw [getD_at (by omega)]
  exact h _ (List.getElem_mem _)
def tM (K : PySem.W.Frag) : Sp:=fun vs H Q _ => ∃ (m r g : Addr) (many wide most : Nat) (rows : LL) (signs : LI),vs = [.ref m,.int most] /\ MachAt H m r g wide rows signs /\ RowsOk many wide rows /\ signs.length = many /\ (1 <= many /\ many < 1000) /\ wide <= 1000 /\ (1 <= most /\ most <= 1000) /\
 (∀ (rows' : LL) (signs' : LI),LeastOf wide rows rows' signs signs' -> ∀ ps : LL,ps.Nodup -> (∀ p ∈ ps,∃ v,InF wide v /\ plW (cn rows') signs' v = p) -> ps.length <= most) /\
 ∀ (m' r' g' : Addr) (rows' : LL) (signs' : LI) (H' : Hp),Same H H' -> MachAt H' m' r' g' wide rows' signs' -> TurOf wide rows rows' signs signs' -> rows'.length <= most -> Q (.ref m') H'
section
variable {P : Program} {w : World} {K : PySem.W.Frag} {mg : Str -> Option Value} {base : Heap} {f : Addr} {fd : FuncData} {dV : Value} {C : Addr}
theorem B9 : FnScope ["machine","most"] ["machine","most"] (aj iP):=⟨rfl,rfl,rfl,by decide +kernel,rfl,by decide +kernel,by decide +kernel⟩
theorem B0 (F : FunD K "turned" "turned" iP dV f fd) (lL : DefMk P w K mg base "Turning" C 2 ["self","machine"] (xq C)) (vI : DefOk P w K mg base "grown" 2 ["walk","wide","most"] [] (tE C)) (iY : DefOk P w K mg base "least" 5 ["machine"] [] (rC K)) : FnOk P w K mg base CX0 6 f fd ["machine","most"] (tM K):=by
 refine F.ok B9 (fun vs H Q E h => ?_) (fun cdv A outer s H vs Q E hr h => ?_)
 ·obtain ⟨m,r,g,many,wide,most,rows,signs,rfl,_⟩:=h
  rfl
 obtain ⟨m,r,g,many,wide,most,rows,signs,rfl,M,R,ls,n1,w1,m1,few,k⟩:=h
 refine ⟨_,(au (aM (aV vI hr (aa (DF lL hr (aa (aV iY hr (aa (pv 0) af)) af)) (aa (aW bA (pv 0) aq (fun _ _ => rfl)) (aa (pv 1) af)))))),?_⟩
 refine ⟨_,rfl,m,r,g,many,wide,rows,signs,rfl,M,R,ls,n1,w1,fun m' r' g' rows' signs' H1 s1 M1 LO => fun x dx hx hdx ne => ?_⟩
 have fl:=LO.few R n1.1
 have s2 : Same H1 (upd (upd H1 dx (.own x)) x (.ins C dx [])):=fun b u e => by rw [ae (ao e hx),ae (ao e hdx)]; exact e
 refine ⟨x,dx,m',r',g',wide,rows',signs',rfl,ab,M1.same (fun b xs e => s2 _ _ e),LO.ok,⟨by omega,w1⟩,fun H2 kp T2 => ⟨rfl,?_⟩⟩
 have s3 : Same H1 H2:=fun b u e => kp b u (ao e hx) (s2 _ _ e)
 refine ⟨_,rfl,m,_,_,_,rfl,rfl,qT_ ((s1.trans s3) _ _ M.tup),rfl,_,rfl,x,g',wide,most,rows',signs',rfl,T2,LO.ok,LO.sgn,⟨LO.pos,by omega⟩,w1,m1,few rows' signs' LO,fun m2 r2 g2 rows2 ps H3 s4 M3 G el => ?_⟩
 have TO:=FH LO.ok LO.pos LO.sgn LO.ord G el
 refine k m2 r2 g2 rows2 _ H3 ((s1.trans s3).trans s4) M3 ⟨TO.ok,TO.pos,TO.sgn,TO.ord,TO.apart,fun v hv => ?_⟩ (by rw [el]; exact few rows' signs' LO ps G.nd G.re)
 rw [LO.tells v.reverse fun x hx => hv x (List.mem_reverse.mp hx)]
 exact TO.turned v hv
end
def SprAt (K : PySem.W.Frag) (H : Hp) (a : Addr) (ns : LI) : Prop := ∃ (l t : Addr) (ts : LI),H a = some (.lst [.ref l,.ref t]) /\ H l = some (.lst (ns.map V.int)) /\ (∀ z ∈ ns,0 <= z /\ z < 2147483629) /\ SqL K H t (ts.map V.int) /\ ts.length <= 64
theorem SprAt.same {K : PySem.W.Frag} {H H' : Hp} {a : Addr} {ns : LI} (h : SprAt K H a ns) (s : Same H H') : SprAt K H' a ns:=by
 obtain ⟨l,t,ts,h1,h2,h3,h4,h5⟩:=h
 exact ⟨l,t,ts,s _ _ h1,s _ _ h2,h3,s.seq h4,h5⟩
def pT (K : PySem.W.Frag) : Sp:=fun vs H Q _ => ∃ (a : Addr) (k : Int) (ns : LI),vs = [.ref a,.int k] /\ SprAt K H a ns /\ 330 <= ns.length /\ 0 <= k /\ k < 330 /\
 ∀ v : Int,0 <= v -> v < 2147483629 -> Q (.int v) H
def xu (K : PySem.W.Frag) : Sp:=fun vs H Q _ => ∃ (a p : Addr) (at_ way q f many wide half : Int) (ns : LI),vs = [.ref a,.int at_,.ref p,.int way] /\ SprAt K H a ns /\ 330 <= ns.length /\
 H p = some (.lst [.int q,.int f,.int many,.int wide,.int half]) /\ (0 <= at_ /\ at_ < 100) /\ (0 <= q /\ q < many) /\ (0 <= f /\ f < wide) /\ many <= 12 /\ wide <= 12 /\ (1 <= half /\ half <= many) /\
 ∀ v : Int,0 <= v -> v < many -> Q (.int v) H
def xo (K : PySem.W.Frag) : Sp:=fun vs H Q _ => ∃ (a : Addr) (at_ many half way : Int) (ns : LI),vs = [.ref a,.int at_,.int many,.int half,.int way] /\ SprAt K H a ns /\ 330 <= ns.length /\
 (0 <= at_ /\ at_ <= 310) /\ (1 <= many /\ many <= 12) /\ (1 <= half /\ half <= many) /\
 ∀ (p : Addr) (H' : Hp) (signs : LI),Same H H' -> H' p = some (.tup (signs.map V.int)) -> (signs.length : Int) = many -> (∃ cs : LI,cs.length = 3 /\ ∀ z ∈ signs,z ∈ cs) -> Q (.ref p) H'
def pU (K : PySem.W.Frag) : Sp:=fun vs H Q _ => ∃ (a : Addr) (at_ most widest : Int) (ns : LI),vs = [.ref a,.int at_,.int most,.int widest] /\ SprAt K H a ns /\ 330 <= ns.length /\
 (0 <= at_ /\ at_ < 10) /\ (1 <= most /\ most <= 12) /\ (1 <= widest /\ widest <= 12) /\
 ∀ (m r g : Addr) (H' : Hp) (many wide : Nat) (rows : LL) (signs : LI),Same H H' -> MachAt H' m r g wide rows signs -> RowsOk many wide rows -> signs.length = many -> (∃ cs : LI,cs.length = 3 /\ ∀ z ∈ signs,z ∈ cs) -> 1 <= many -> (many : Int) <= most -> 1 <= wide -> (wide : Int) <= widest -> Q (.ref m) H'
section
variable {P : Program} {w : World} {K : PySem.W.Frag} {mg : Str -> Option Value} {base : Heap} {f : Addr} {fd : FuncData} {dV : Value}
theorem xa : FnScope ["_law_spread_here","_law_k"] ["_law_spread_here","_law_k"] (aj dI):=⟨rfl,rfl,rfl,by decide +kernel,rfl,by decide +kernel,by decide +kernel⟩
theorem sc__law_there : FnScope ["_law_spread_here","_law_at","_law_place","_law_way","_law_q","_law_f","_law_many","_law_wide","_law_half","_law_number","_law_there_here"] ["_law_spread_here","_law_at","_law_place","_law_way"] (aj c8):=⟨rfl,rfl,rfl,by decide +kernel,rfl,by decide +kernel,by decide +kernel⟩
theorem sc__law_signs : FnScope ["_law_spread_here","_law_at","_law_many","_law_half","_law_way","_law_menu","_law_found","_law_q","_law_pick"] ["_law_spread_here","_law_at","_law_many","_law_half","_law_way"] (aj cD):=⟨rfl,rfl,rfl,by decide +kernel,rfl,by decide +kernel,by decide +kernel⟩
theorem bk__law_signs_0 : BlkScope ["_law_spread_here","_law_at","_law_many","_law_half","_law_way","_law_menu","_law_found","_law_q","_law_pick"] (aj cD) ["_law_k","_law_at","_law_spread_here"] [none,some 1,some 0] { kind:=ScopeKind.function,names:=[(".0",NameKind.local),("_law_k",NameKind.local),("_law_draw",NameKind.globalImplicit),("_law_at",NameKind.free),("_law_spread_here",NameKind.free)],isGenerator:=false,isCoroutine:=false,more:=[] }:=⟨rfl,by decide +kernel,by decide +kernel,by decide +kernel,by decide +kernel,rfl,by decide +kernel⟩
theorem sc__law_machine : FnScope ["_law_spread_here","_law_at","_law_most","_law_widest","_law_many","_law_wide","_law_way","_law_half","_law_rows","_law_q","_law_row"] ["_law_spread_here","_law_at","_law_most","_law_widest"] (aj bX):=⟨rfl,rfl,rfl,by decide +kernel,rfl,by decide +kernel,by decide +kernel⟩
theorem bk__law_machine_0 : BlkScope ["_law_spread_here","_law_at","_law_most","_law_widest","_law_many","_law_wide","_law_way","_law_half","_law_rows","_law_q","_law_row"] (aj bX) ["_law_f","_law_at","_law_half","_law_many","_law_q","_law_spread_here","_law_way","_law_wide"] [none,some 1,some 7,some 4,some 9,some 0,some 6,some 5] { kind:=ScopeKind.function,names:=[(".0",NameKind.local),("_law_f",NameKind.local),("_law_there",NameKind.globalImplicit),("_law_at",NameKind.free),("_law_half",NameKind.free),("_law_many",NameKind.free),("_law_q",NameKind.free),("_law_spread_here",NameKind.free),("_law_way",NameKind.free),("_law_wide",NameKind.free)],isGenerator:=false,isCoroutine:=false,more:=[] }:=⟨rfl,by decide +kernel,by decide +kernel,by decide +kernel,by decide +kernel,rfl,by decide +kernel⟩
theorem E1 (F : FunD K "_law_draw" "_law_draw" dI dV f fd) : FnOk P w K mg base CX0 1 f fd ["_law_spread_here","_law_k"] (pT K):=by
 refine F.ok xa (fun vs H Q E h => ?_) (fun cdv A outer s H vs Q E hr h => ?_)
 ·obtain ⟨a,k,ns,rfl,_⟩:=h
  rfl
 obtain ⟨a,k,ns,rfl,⟨l,t,ts,h1,h2,h3,_⟩,h63,h0,h1',q⟩:=h
 refine ⟨_,(au (aM (aW b9 (aW b9 (pv 0) aq (fun _ _ => rfl)) (pv 1) (fun _ _ => rfl)))),?_⟩
 have kl : k.toNat < ns.length:=by omega
 have r:=h3 _ (List.getElem_mem kl)
 refine ⟨_,rfl,a,_,_,_,rfl,rfl,qL_ h1,rfl,_,rfl,l,_,_,_,rfl,rfl,qL_ h2,bU h0 (by omega),?_⟩
 rw [getD_at kl]
 exact q _ r.1 r.2
theorem Ds (F : FunD K "_law_there" "_law_there" c8 dV f fd) (aE : DefOk P w K mg base "_law_draw" 1 ["_law_spread_here","_law_k"] [] (pT K)) (tU : mg "min" = none) :
  FnOk P w K mg base CX0 2 f fd ["_law_spread_here","_law_at","_law_place","_law_way"] (xu K):=by
 refine F.ok sc__law_there (fun vs H Q E h => ?_) (fun cdv A outer s H vs Q E hr h => ?_)
 ·obtain ⟨a,p,at_,way,q,f,many,wide,half,ns,rfl,_⟩:=h
  rfl
 obtain ⟨a,p,at_,way,q,f',many,wide,half,ns,rfl,hS,h63,hp,⟨at0,at1⟩,⟨q0,q1⟩,⟨f0,f1⟩,hm,hw,⟨ha0,ha1⟩,k⟩:=h
 have sm : ∀ {x : Int},0 <= x -> x <= 1000000 -> -(2 ^ 64) < x /\ x < 2 ^ 64:=fun h h' => ⟨by omega,by omega⟩
 have hqw:=wJ q0 (show q <= 12 by omega) (show 0 <= wide by omega) hw
 have w1 : 0 < wide:=by omega
 have hh1 : 0 < half:=by omega
 have m1 : 0 < many:=by omega
 refine ⟨_,(ah (zZ (pv 2) (Gz rfl (bJ (ay (i:=4) sc__law_there.nd rfl (Or.inl rfl)) (bJ (ay (i:=5) sc__law_there.nd rfl (Or.inl rfl)) (bJ (ay (i:=6) sc__law_there.nd rfl (Or.inl rfl)) (bJ (ay (i:=7) sc__law_there.nd rfl (Or.inl rfl)) (bJ (ay (i:=8) sc__law_there.nd rfl (Or.inl rfl)) jB)))))))
   (ah (ax (i:=9) sc__law_there.nd rfl (Or.inl rfl) (aV aE hr (aa (pv 0) (aa (az aY (az aY (pv 1) (az eZ (pv 4) (pv 7))) (pv 5)) af))))
   (ah (cL (PW.pt (sY (a8 fj (pv 3) aq (bh _)) (nZ (a8 fj (pv 5) (az bw (az eZ (pv 4) aq) (pv 7)) (bh _))))) (au (aM (aR (oO rfl) (by rfl) tU yT (aa (az aY (pv 4) aq) (aa (az zQ (pv 6) aq) af))))) bx)
   (ah (cL (a8 fj (pv 3) aq (bh _)) (au (aM (az bw (pv 9) (az aY (pv 4) aq)))) bx)
   (ah (cL (a8 fj (pv 3) aq (bh _)) (au (aM (az bw (az aY (az eZ (pv 4) (pv 7)) (pv 5)) (pv 6)))) bx)
   (ah (cL (a8 fj (pv 3) aq (bh _)) (ah (ax (i:=10) sc__law_there.nd rfl (Or.inl rfl) (az bw (aV aE hr (aa (pv 0) (aa (az aY (az aY (pv 1) (az eZ (az bw (pv 4) (pv 8)) (pv 7))) (pv 5)) af))) (pv 8)))
   (ah (cL (PW.pt (sY (a8 fj (az bw (az rh (pv 9) aq) aq) aq (bh _)) (nZ (a8 AR (az aY (pv 10) (pv 8)) (pv 6) (bh _))))) (au (aM (az aY (pv 10) (pv 8)))) bx)
   (au (aM (pv 10))))) bx)
   (ah (cL (PW.pt (sY (a8 fj (pv 3) aq (bh _)) (nZ (a8 AR (pv 4) (pv 8) (bh _))))) (au (aM (az bw (pv 9) (pv 8)))) bx)
   (au (aM (az bw (pv 9) (pv 6))))))))))),?_⟩
 refine ⟨_,rfl,p,_,rfl,qL_ hp,rfl,_,_,rfl,_,_,rfl,_,_,rfl,_,_,rfl,_,_,rfl,rfl,?_⟩
 refine ⟨_,rfl,_,rfl,_,rfl,_,rfl,_,_,rfl,rfl,.inl (sm q0 (by omega)),_,_,rfl,rfl,_,rfl,_,_,rfl,rfl,a,_,ns,rfl,hS,h63,by omega,by omega,fun nu n0 n1 => ?_⟩
 have r1:=cj (a:=nu) (b:=q + 1) (by omega)
 have r2:=cj (a:=q * wide + f') (b:=many) m1
 have r4:=cj (a:=nu) (b:=half) hh1
 have r5:=cj (a:=nu) (b:=many) m1
 have r6:=cj (a:=q) (b:=half) hh1
 have hqh:=wJ r6.1 (show q % half <= 12 by omega) (show 0 <= wide by omega) hw
 refine ⟨_,rfl,rfl,_,rfl,l6 (fun c1 => ?_) (fun c1 => ?_)⟩
 ·refine ⟨_,rfl,_,rfl,_,_,rfl,rfl,.inr ⟨by decide,by decide⟩,_,rfl,_,_,rfl,rfl,w1,rfl,_,rfl,l6 (fun c2 => ?_) (fun c2 => ?_)⟩
  ·refine ⟨_,rfl,_,_,rfl,rfl,_,rfl,_,_,rfl,rfl,_,_,rfl,?_⟩
   refine k _ ?_ ?_
   ·split <;> omega
   ·split <;> omega
  ·refine ⟨_,rfl,rfl,_,rfl,l6 (fun c3 => ?_) (fun c3 => absurd c1 c3)⟩
   exact ⟨_,rfl,_,rfl,_,_,rfl,rfl,_,_,rfl,rfl,(by omega),k _ r1.1 (by omega)⟩
 ·refine j9 ?_
  refine ⟨_,rfl,rfl,_,rfl,l6 (fun c3 => absurd c3 c1) (fun c3 => ?_)⟩
  refine ⟨_,rfl,rfl,_,rfl,l6 (fun c4 => ?_) (fun c4 => ?_)⟩
  ·exact ⟨_,rfl,_,rfl,_,_,rfl,rfl,.inl (sm q0 (by omega)),_,rfl,_,_,rfl,rfl,_,rfl,_,_,rfl,rfl,m1,k _ r2.1 r2.2⟩
  refine ⟨_,rfl,rfl,_,rfl,l6 (fun c5 => ?_) (fun c5 => ?_)⟩
  ·refine ⟨_,rfl,_,rfl,_,rfl,_,rfl,_,_,rfl,rfl,hh1,_,rfl,_,_,rfl,rfl,.inl (sm r6.1 (by omega)),_,_,rfl,rfl,_,rfl,_,_,rfl,rfl,a,_,ns,rfl,hS,h63,by omega,by omega,fun th t0 t1 => ?_⟩
   have r7:=cj (a:=th) (b:=half) hh1
   refine ⟨_,rfl,_,_,rfl,rfl,hh1,?_⟩
   refine ⟨_,rfl,_,_,rfl,rfl,⟨by decide,by decide⟩,_,_,rfl,rfl,(by show (0 : Int) < 2; decide),rfl,_,rfl,l6 (fun c6 => ?_) (fun c6 => ?_)⟩
   ·refine ⟨_,rfl,_,rfl,_,_,rfl,rfl,_,rfl,_,_,rfl,rfl,_,rfl,um (fun c7 => ?_) (fun c7 => ?_)⟩
    ·exact ⟨_,rfl,_,rfl,_,_,rfl,rfl,k _ (by omega) c7⟩
    ·exact ⟨_,rfl,k _ r7.1 (by omega)⟩
   ·refine j9 ?_
    exact ⟨_,rfl,k _ r7.1 (by omega)⟩
  refine ⟨_,rfl,rfl,_,rfl,l6 (fun c6 => ?_) (fun c6 => ?_)⟩
  ·refine ⟨_,rfl,_,rfl,_,_,rfl,rfl,_,rfl,um (fun c7 => ?_) (fun c7 => ?_)⟩
   ·exact ⟨_,rfl,_,rfl,_,_,rfl,rfl,hh1,k _ r4.1 (by omega)⟩
   ·exact ⟨_,rfl,_,rfl,_,_,rfl,rfl,m1,k _ r5.1 r5.2⟩
  ·refine j9 ?_
   exact ⟨_,rfl,_,rfl,_,_,rfl,rfl,m1,k _ r5.1 r5.2⟩
theorem Dq (F : FunD K "_law_signs" "_law_signs" cD dV f fd) (aE : DefOk P w K mg base "_law_draw" 1 ["_law_spread_here","_law_k"] [] (pT K)) (aS : mg "range" = none) (vF : mg "int" = none) (aI : mg "tuple" = none) :
  FnOk P w K mg base CX0 2 f fd ["_law_spread_here","_law_at","_law_many","_law_half","_law_way"] (xo K):=by
 refine F.ok sc__law_signs (fun vs H Q E h => ?_) (fun cdv A outer s H vs Q E hr h => ?_)
 ·obtain ⟨a,at_,many,half,way,ns,rfl,_⟩:=h
  rfl
 obtain ⟨a,at_,many,half,way,ns,rfl,hS,h63,⟨at0,at1⟩,⟨m0,m1⟩,⟨ha0,ha1⟩,k⟩:=h
 refine ⟨_,(ah (e6 (i:=5) rfl sc__law_signs.nd rfl (Or.inl rfl) bk__law_signs_0 (bQ rfl aS (aa aq af)) (fun _ _ _ _ => (ay (i:=0) bk__law_signs_0.nd rfl (Or.inl rfl))) (fun _ _ _ _ => (az bw (aV aE hr (aa (pv 2) (aa (az aY (pv 1) (pv 0)) af))) aq)))
   (ah (cL (a8 fj (az bw (aV aE hr (aa (pv 0) (aa (az aY (pv 1) aq) af))) aq) aq (bh _)) (au (ax (i:=5) sc__law_signs.nd rfl (Or.inl rfl) (bI (aa aq (aa aq (aa aq af)))))) bx)
   (ah (ax (i:=6) sc__law_signs.nd rfl (Or.inl rfl) (bI af))
   (ah (bN PassesOwn.never rfl (bQ rfl aS (aa (pv 2) af)) (ay (i:=7) sc__law_signs.nd rfl (Or.inl rfl)) (ah (ax (i:=8) sc__law_signs.nd rfl (Or.inl rfl) (az bw (aV aE hr (aa (pv 0) (aa (az aY (az aY (pv 1) aq) (pv 7)) af))) aq))
   (ah (cL (a8 fj (pv 4) aq (bh _)) (au (ax (i:=8) sc__law_signs.nd rfl (Or.inl rfl) (aL Bd (by rfl) vF Ct (aa (rj fj (pv 7) (az zQ (pv 2) aq) (bh _)) af)))) bx)
   (ah (cL (a8 fj (pv 4) aq (bh _)) (au (ax (i:=8) sc__law_signs.nd rfl (Or.inl rfl) (az bw (aV aE hr (aa (pv 0) (aa (az aY (az aY (pv 1) aq) (az bw (pv 7) (pv 3))) af))) aq))) bx)
   (au (a7 (eC PySem.F.plainAttrs_list PySem.F.slot_list_append PySem.F.type_list_append ba (pv 6) (aa (aW b9 (pv 5) (pv 8) (fun _ _ => rfl)) af))))))))
   (au (aM (aL aF (by rfl) aI bG (aa (pv 6) af)))))))),?_⟩
 refine ⟨3,rfl,by decide,by decide,?_⟩
 refine cO (n:=3) (fun D i ys H' => Same H H' /\ ys.length = i /\ IntsIn 0 1000000 ys) (fun D hD => ⟨ak hD _,rfl,IntsIn.nil⟩) ?_ ?_
 ·rintro D i ys H' Q' hD hi hy ⟨hs,hl,hall⟩ k'
  refine ⟨_,rfl,_,rfl,_,rfl,_,_,rfl,rfl,a,_,ns,rfl,hS.same hs,h63,by omega,by omega,fun v v0 v1 => ?_⟩
  have r:=cj (a:=v) (b:=1000000) (by decide)
  refine ⟨_,_,rfl,rfl,(by show (0 : Int) < 1000000; decide),k' _ H' hy (aw (by omega)) ⟨av hs hD,by simp [hl],hall.snoc r.1 r.2⟩⟩
 rintro M ys H1 hM0 hM ⟨hs1,hl1,hall1⟩
 try dsimp only [bt]
 refine cG (t:=Aj _ _ _) (fun σ' H' => ∃ M ys,σ' = [some (.ref a),some (.int at_),some (.int many),some (.int half),some (.int way),some (.ref M),none,none,none] /\ H M = none /\ Same H H' /\ H' M = some (.lst ys) /\ ys.length = 3 /\ IntsIn 0 1000000 ys) ?_ (fun nxt => ?_)
 rotate_left
 ·refine ⟨_,rfl,_,rfl,_,_,rfl,rfl,a,_,ns,rfl,hS.same hs1,h63,by omega,by omega,fun v v0 v1 => ?_⟩
  refine ⟨_,_,rfl,rfl,(by show (0 : Int) < 2; decide),rfl,_,rfl,l6 (fun c => ?_) (fun c => ?_)⟩
  ·refine ⟨(by show 3 <= sizeLine; decide),fun M2 hM2 => ?_⟩
   have fr : H M2 = none:=hs1.free hM2
   refine nxt _ _ ⟨M2,_,rfl,fr,hs1.trans (ak hM2 _),ab,rfl,?_⟩
   exact ((IntsIn.nil.snoc (v:=0) (by decide) (by decide)).snoc (v:=1) (by decide) (by decide)).snoc (v:=1) (by decide) (by decide)
  ·exact nxt _ _ ⟨M,ys,rfl,hM0,hs1,hM,hl1,hall1⟩
 rintro σ' H2 ⟨M,ys,rfl,hM0,hs2,hM2,hl2,hall2⟩
 obtain ⟨menu,rfl,hmenu⟩:=hall2.ints
 rw [lm_] at hl2
 refine ⟨(by show 0 <= sizeLine; decide),fun Fo hFo => ?_⟩
 have fr : H Fo = none:=hs2.free hFo
 have nMF : M ≠ Fo:=ao hM2 hFo
 refine ⟨_,rfl,many,rfl,by omega,by omega,gn (fun i σ' H' => ∃ (fs : List V) (v1 v2 : OV),σ' = [some (.ref a),some (.int at_),some (.int many),some (.int half),some (.int way),some (.ref M),some (.ref Fo),v1,v2] /\ Same H H' /\ H' M = some (.lst (menu.map V.int)) /\ H' Fo = some (.lst fs) /\ fs.length = i /\ ∃ ss : LI,fs = ss.map V.int /\ ∀ z ∈ ss,z ∈ menu)
  ⟨[],none,none,rfl,av hs2 fr,by rw [ae nMF]; exact hM2,ab,rfl,[],rfl,fun z h => by cases h⟩ ?_ ?_⟩
 ·rintro i σ' H3 hi ⟨fs,v1,v2,rfl,hs3,hM3,hF3,hl3,ss,rfl,hall3⟩
  have hq : (0 : Int) <= 0 + (i : Int) /\ (0 : Int) + (i : Int) < many:=by omega
  have r6:=cj (a:=0 + (i : Int)) (b:=half) (by omega)
  try dsimp only [bt]
  refine cG (t:=pY _ _) (fun σ'' H' => ∃ pk : Int,σ'' = [some (.ref a),some (.int at_),some (.int many),some (.int half),some (.int way),some (.ref M),some (.ref Fo),some (.int (0 + i)),some (.int pk)] /\ H' = H3 /\ 0 <= pk /\ pk < 3) ?_ (fun nxt => ?_)
  rotate_left
  ·refine ⟨_,rfl,_,rfl,_,_,rfl,rfl,_,rfl,_,_,rfl,rfl,a,_,ns,rfl,hS.same hs3,h63,by omega,by omega,fun v v0 v1 => ?_⟩
   have r:=cj (a:=v) (b:=3) (by decide)
   exact ⟨_,_,rfl,rfl,(by show (0 : Int) < 3; decide),nxt _ _ ⟨_,rfl,rfl,r.1,r.2⟩⟩
  rintro σ'' H4 ⟨pk,rfl,rfl,p0,p1⟩
  try dsimp only [bt]
  refine cG (t:=Aj _ _ _) (fun σ'' H' => ∃ pk : Int,σ'' = [some (.ref a),some (.int at_),some (.int many),some (.int half),some (.int way),some (.ref M),some (.ref Fo),some (.int (0 + i)),some (.int pk)] /\ H' = H4 /\ 0 <= pk /\ pk < 3) ?_ (fun nxt => ?_)
  rotate_left
  ·refine ⟨_,rfl,rfl,_,rfl,l6 (fun c => ?_) (fun c => ?_)⟩
   ·refine ⟨_,rfl,_,rfl,_,_,rfl,rfl,rfl,.inr ⟨_,rfl,nxt _ _ ⟨_,rfl,rfl,?_,?_⟩⟩⟩
    ·split <;> decide
    ·split <;> decide
   ·exact nxt _ _ ⟨pk,rfl,rfl,p0,p1⟩
  rintro σ'' H5 ⟨pk,rfl,rfl,p0,p1⟩
  try dsimp only [bt]
  refine cG (t:=Aj _ _ _) (fun σ'' H' => ∃ pk : Int,σ'' = [some (.ref a),some (.int at_),some (.int many),some (.int half),some (.int way),some (.ref M),some (.ref Fo),some (.int (0 + i)),some (.int pk)] /\ H' = H5 /\ 0 <= pk /\ pk < 3) ?_ (fun nxt => ?_)
  rotate_left
  ·refine ⟨_,rfl,rfl,_,rfl,l6 (fun c => ?_) (fun c => ?_)⟩
   ·refine ⟨_,rfl,_,rfl,_,_,rfl,rfl,_,rfl,_,rfl,_,_,rfl,rfl,(by omega),_,_,rfl,rfl,a,_,ns,rfl,hS.same hs3,h63,by omega,by omega,fun v v0 v1 => ?_⟩
    have r:=cj (a:=v) (b:=3) (by decide)
    exact ⟨_,_,rfl,rfl,(by show (0 : Int) < 3; decide),nxt _ _ ⟨_,rfl,rfl,r.1,r.2⟩⟩
   ·exact nxt _ _ ⟨pk,rfl,rfl,p0,p1⟩
  rintro σ'' H6 ⟨pk,rfl,rfl,p0,p1⟩
  have hp : pk.toNat < menu.length:=by omega
  refine ⟨_,rfl,.inl ⟨rfl,_,qL_ hF3⟩,_,rfl,_,rfl,M,_,_,_,rfl,rfl,qL_ hM3,bU p0 (by omega),Fo,_,_,rfl,rfl,hF3,aw (by omega),?_⟩
  refine ⟨_,_,_,rfl,av hs3 fr,by rw [ae nMF]; exact hM3,ab,by rw [List.length_append,hl3]; rfl,ss ++ [menu.getD pk.toNat 0],by rw [List.map_append]; rfl,fun z hz => ?_⟩
  rcases ma_.mp hz with y | y
  ·exact hall3 z y
  ·rw [List.mem_singleton.mp y,getD_at hp]
   exact List.getElem_mem hp
 ·rintro σ' H3 ⟨fs,v1,v2,rfl,hs3,hM3,hF3,hl3,ss,rfl,hall3⟩
  refine ⟨_,rfl,Fo,_,rfl,.inl ⟨qL_ hF3,fun p hp => ?_⟩⟩
  rw [lm_] at hl3
  exact k p _ ss (hs3.trans (ak hp _)) ab (by omega) ⟨menu,hl2,hall3⟩
theorem zJ (F : FunD K "_law_machine" "_law_machine" bX dV f fd) (aE : DefOk P w K mg base "_law_draw" 1 ["_law_spread_here","_law_k"] [] (pT K))
  (iX : DefOk P w K mg base "_law_there" 2 ["_law_spread_here","_law_at","_law_place","_law_way"] [] (xu K)) (iW : DefOk P w K mg base "_law_signs" 2 ["_law_spread_here","_law_at","_law_many","_law_half","_law_way"] [] (xo K))
  (aS : mg "range" = none) (aI : mg "tuple" = none) :
  FnOk P w K mg base CX0 3 f fd ["_law_spread_here","_law_at","_law_most","_law_widest"] (pU K):=by
 refine F.ok sc__law_machine (fun vs H Q E h => ?_) (fun cdv A outer s H vs Q E hr h => ?_)
 ·obtain ⟨a,at_,most,widest,ns,rfl,_⟩:=h
  rfl
 obtain ⟨a,at_,most,widest,ns,rfl,hS,h63,⟨at0,at1⟩,⟨m0,m1⟩,⟨w0,w1⟩,k⟩:=h
 refine ⟨_,(ah (ax (i:=4) sc__law_machine.nd rfl (Or.inr rfl) (az aY aq (az bw (aV aE hr (aa (pv 0) (aa (pv 1) af))) (pv 2))))
   (ah (ax (i:=5) sc__law_machine.nd rfl (Or.inr rfl) (az aY aq (az bw (aV aE hr (aa (pv 0) (aa (az aY (pv 1) aq) af))) (pv 3))))
   (ah (ax (i:=6) sc__law_machine.nd rfl (Or.inr rfl) (az bw (aV aE hr (aa (pv 0) (aa (az aY (pv 1) aq) af))) aq))
   (ah (ax (i:=7) sc__law_machine.nd rfl (Or.inr rfl) (az rh (az aY (pv 4) aq) aq))
   (ah (ax (i:=8) sc__law_machine.nd rfl (Or.inl rfl) (bI af))
   (ah (bN PassesOwn.never rfl (bQ rfl aS (aa (pv 4) af)) (ay (i:=9) sc__law_machine.nd rfl (Or.inr rfl)) (ah (e6 (i:=10) rfl sc__law_machine.nd rfl (Or.inl rfl) bk__law_machine_0 (bQ rfl aS (aa (pv 5) af)) (fun _ _ _ _ => (ay (i:=0) bk__law_machine_0.nd rfl (Or.inl rfl))) (fun _ _ _ _ => (aV iX hr (aa (pv 5) (aa (az aY (pv 1) aq) (aa (bI (aa (pv 4) (aa (pv 0) (aa (pv 3) (aa (pv 7) (aa (pv 2) af)))))) (aa (pv 6) af)))))))
   (au (a7 (eC PySem.F.plainAttrs_list PySem.F.slot_list_append PySem.F.type_list_append ba (pv 8) (aa (aL aF (by rfl) aI bG (aa (pv 10) af)) af))))))
   (au (aM (eD (aa (pv 5) (aa (aL aF (by rfl) aI bG (aa (pv 8) af)) (aa (aV iW hr (aa (pv 0) (aa (az aY (pv 1) aq) (aa (pv 4) (aa (pv 7) (aa (pv 6) af)))))) af)))))))))))),?_⟩
 try dsimp only [bt]
 refine cG (t:=pY _ _) (fun σ' H' => ∃ many : Nat,σ' = [some (.ref a),some (.int at_),some (.int most),some (.int widest),some (.int many),none,none,none,none,none,none] /\ H' = H /\ 1 <= many /\ (many : Int) <= most) ?_ (fun nxt => ?_)
 rotate_left
 ·refine ⟨_,rfl,_,rfl,a,_,ns,rfl,hS,h63,by omega,by omega,fun v v0 v1 => ?_⟩
  have r:=cj (a:=v) (b:=most) (by omega)
  obtain ⟨n,e⟩:=gU (x:=1 + v % most) (by omega)
  refine ⟨_,rfl,_,_,rfl,rfl,(by omega),_,_,rfl,rfl,nxt _ _ ⟨n,?_,rfl,by omega,by omega⟩⟩
  rw [<- e]
  rfl
 rintro σ' H' ⟨many,rfl,rfl,n0,n1⟩
 try dsimp only [bt]
 refine cG (t:=pY _ _) (fun σ' H'' => ∃ wide : Nat,σ' = [some (.ref a),some (.int at_),some (.int most),some (.int widest),some (.int many),some (.int wide),none,none,none,none,none] /\ H'' = H' /\ 1 <= wide /\ (wide : Int) <= widest) ?_ (fun nxt => ?_)
 rotate_left
 ·refine ⟨_,rfl,_,rfl,_,_,rfl,rfl,a,_,ns,rfl,hS,h63,by omega,by omega,fun v v0 v1 => ?_⟩
  have r:=cj (a:=v) (b:=widest) (by omega)
  obtain ⟨n,e⟩:=gU (x:=1 + v % widest) (by omega)
  refine ⟨_,rfl,_,_,rfl,rfl,(by omega),_,_,rfl,rfl,nxt _ _ ⟨n,?_,rfl,by omega,by omega⟩⟩
  rw [<- e]
  rfl
 rintro σ' H' ⟨wide,rfl,rfl,k0,k1⟩
 try dsimp only [bt]
 refine cG (t:=pY _ _) (fun σ' H'' => ∃ way : Int,σ' = [some (.ref a),some (.int at_),some (.int most),some (.int widest),some (.int many),some (.int wide),some (.int way),none,none,none,none] /\ H'' = H') ?_ (fun nxt => ?_)
 rotate_left
 ·refine ⟨_,rfl,_,rfl,_,_,rfl,rfl,a,_,ns,rfl,hS,h63,by omega,by omega,fun v v0 v1 => ?_⟩
  exact ⟨_,_,rfl,rfl,(by show (0 : Int) < 6; decide),nxt _ _ ⟨_,rfl,rfl⟩⟩
 rintro σ' H' ⟨way,rfl,rfl⟩
 try dsimp only [bt]
 refine cG (t:=pY _ _) (fun σ' H'' => ∃ half : Int,σ' = [some (.ref a),some (.int at_),some (.int most),some (.int widest),some (.int many),some (.int wide),some (.int way),some (.int half),none,none,none] /\ H'' = H' /\ 1 <= half /\ half <= (many : Int)) ?_ (fun nxt => ?_)
 rotate_left
 ·exact ⟨_,rfl,_,_,rfl,rfl,_,_,rfl,rfl,⟨by decide,by decide⟩,nxt _ _ ⟨_,rfl,rfl,by omega,by omega⟩⟩
 rintro σ' H' ⟨half,rfl,rfl,g0,g1⟩
 refine ⟨(by show 0 <= sizeLine; decide),fun R hR => ?_⟩
 refine ⟨_,rfl,(many : Int),rfl,by omega,by omega,gn (fun i σ' H'' => ∃ (ras : List Addr) (rws : LL) (v1 v2 : OV),
   σ' = [some (.ref a),some (.int at_),some (.int most),some (.int widest),some (.int many),some (.int wide),some (.int way),some (.int half),some (.ref R),v1,v2] /\ Same H' H'' /\ H'' R = some (.lst (ras.map V.ref)) /\ RowsAt H'' ras rws /\ (∀ r ∈ rws,r.length = wide) /\ (∀ r ∈ rws,∀ v ∈ r,0 <= v /\ v < (many : Int)) /\ rws.length = i)
  ⟨[],[],none,none,rfl,ak hR _,ab,.nil,(fun r h => by cases h),(fun r h => by cases h),rfl⟩ ?_ ?_⟩
 ·rintro i σ' H3 hi ⟨ras,rws,v1,v2,rfl,hs3,hR3,hA3,hl3,hv3,hn3⟩
  have hi' : (i : Int) < many:=by omega
  have lenR : ras.length = i:=by rw [hA3.length]; exact hn3
  refine ⟨_,rfl,(wide : Int),rfl,by omega,by omega,?_⟩
  refine cO (fun D j ys H'' => Same H3 H'' /\ ys.length = j /\ IntsIn 0 many ys) (fun D hD => ⟨ak hD _,rfl,IntsIn.nil⟩) ?_ ?_
  ·rintro D j ys H4 Q' hD hj hy ⟨hs4,hl4,hall4⟩ k'
   have hj' : (j : Int) < wide:=by omega
   refine ⟨_,rfl,_,rfl,_,_,rfl,rfl,_,rfl,_,rfl,_,rfl,_,rfl,_,rfl,(by show 5 <= sizeLine; decide),fun pl hpl => ?_⟩
   have nD : D ≠ pl:=ao hy hpl
   refine ⟨_,rfl,a,pl,_,way,_,_,_,_,half,ns,rfl,hS.same (hs3.trans (hs4.trans (ak hpl _))),h63,ab,⟨by omega,by omega⟩,⟨by omega,by omega⟩,⟨by omega,by omega⟩,by omega,by omega,⟨g0,g1⟩,fun v v0 v1 => ?_⟩
   have n3 : H3 pl = none:=hs4.free hpl
   exact k' _ _ (by rw [ae nD]; exact hy) (aw (by omega)) ⟨av (av hs4 n3) hD,by simp [hl4],hall4.snoc v0 v1⟩
  rintro W ys H4 hW0 hW ⟨hs4,hl4,hall4⟩
  obtain ⟨row,rfl,hrow⟩:=hall4.ints
  rw [lm_] at hl4
  have hR4:=hs4 _ _ hR3
  refine ⟨_,rfl,.inl ⟨rfl,_,qL_ hR4⟩,_,rfl,W,_,rfl,.inl ⟨qL_ hW,fun tp htp => ?_⟩⟩
  have nR : R ≠ tp:=ao hR4 htp
  have fR : H' R = none:=hR
  refine ⟨R,_,_,rfl,rfl,by rw [ae nR]; exact hR4,aw (by rw [lm_]; omega),?_⟩
  have sT : ∀ b xs,H3 b = some (.tup xs) -> (upd (upd H4 tp (.tup (row.map V.int))) R (.lst (ras.map V.ref ++ [V.ref tp]))) b = some (.tup xs):=fun b xs e => by
   have e4:=hs4 _ _ e
   rw [ae (aA e4 hR4 (by intro z; cases z)),ae (ao e4 htp)]
   exact e4
  refine ⟨ras ++ [tp],rws ++ [row],_,_,rfl,av (av (hs3.trans hs4) ((hs3.trans hs4).free htp)) fR,?_,RowsAt.snoc (hA3.same sT) ?_,?_,?_,by simp [hn3]⟩
  ·rw [ab,List.map_append]; rfl
  ·rw [ae (Ne.symm nR),ab]
  ·intro r hr'
   rcases ma_.mp hr' with z | z
   ·exact hl3 r z
   ·rw [List.mem_singleton.mp z]; omega
  ·intro r hr'
   rcases ma_.mp hr' with z | z
   ·exact hv3 r z
   ·rw [List.mem_singleton.mp z]; exact hrow
 ·rintro σ' H3 ⟨ras,rws,v1,v2,rfl,hs3,hR3,hA3,hl3,hv3,hn3⟩
  refine ⟨_,rfl,_,rfl,R,_,rfl,.inl ⟨qL_ hR3,fun rt hrt => ?_⟩⟩
  have s4 : Same H' (upd H3 rt (.tup (ras.map V.ref))):=hs3.trans (ak hrt _)
  refine ⟨_,rfl,_,rfl,_,_,rfl,rfl,_,rfl,_,rfl,_,rfl,a,_,_,half,way,ns,rfl,hS.same s4,h63,⟨by omega,by omega⟩,⟨by omega,by omega⟩,⟨g0,g1⟩,fun g H5 signs hs5 hg hlen hz => ?_⟩
  refine ⟨(by show 3 <= sizeLine; decide),fun m hm => ?_⟩
  have s6:=ak hm (HO.tup [V.int wide,V.ref rt,V.ref g])
  have s5' : Same H3 H5:=(ak hrt _).trans hs5
  refine k m rt g _ many wide rws signs (s4.trans (hs5.trans s6)) ⟨ab,⟨ras,s6 _ _ (hs5 _ _ ab),(hA3.same fun b xs e => s6 _ _ (s5' _ _ e))⟩,s6 _ _ hg⟩ ⟨by omega,hl3,hv3⟩ (by omega) hz n0 n1 k0 k1
end
def xm (K : PySem.W.Frag) : Sp:=fun vs H Q _ => ∃ (a : Addr) (k : Int) (ns : LI),vs = [.ref a,.int k] /\ SqL K H a (ns.map V.int) /\ ns.length <= 63 /\ 0 <= k /\ k < 100000 /\
 ∀ v : Int,0 <= v -> v < 2147483629 -> Q (.int v) H
def tJ (K : PySem.W.Frag) : Sp:=fun vs H Q _ => ∃ (a : Addr) (ns : LI),vs = [.ref a] /\ SqL K H a (ns.map V.int) /\ ns.length <= 63 /\
 ∀ (l : Addr) (H' : Hp) (xs : LI),Same H H' -> SprAt K H' l xs -> 330 <= xs.length -> Q (.ref l) H'
theorem CB (ns : LI) (lo hi : Option Int) : ∃ ms : LI,jY (ns.map V.int) lo hi = ms.map V.int /\ ms.length <= ns.length:=by
 unfold jY
 rw [<- List.map_drop,<- List.map_take]
 exact ⟨_,rfl,by rw [List.length_take,List.length_drop]; omega⟩
section
variable {P : Program} {w : World} {K : PySem.W.Frag} {mg : Str -> Option Value} {base : Heap} {f : Addr} {fd : FuncData} {dV : Value}
theorem sc__law_mixed : FnScope ["_law_script","_law_k","_law_cell","_law_number"] ["_law_script","_law_k"] (aj cZ):=⟨rfl,rfl,rfl,by decide +kernel,rfl,by decide +kernel,by decide +kernel⟩
theorem sc__law_spread : FnScope ["_law_script","_law_left","_law_found","_law_at","_law_digit"] ["_law_script"] (aj cc):=⟨rfl,rfl,rfl,by decide +kernel,rfl,by decide +kernel,by decide +kernel⟩
theorem bk__law_spread_0 : BlkScope ["_law_script","_law_left","_law_found","_law_at","_law_digit"] (aj cc) ["_law_k","_law_script"] [none,some 0] { kind:=ScopeKind.function,names:=[(".0",NameKind.local),("_law_k",NameKind.local),("_law_mixed",NameKind.globalImplicit),("_law_script",NameKind.free)],isGenerator:=false,isCoroutine:=false,more:=[] }:=⟨rfl,by decide +kernel,by decide +kernel,by decide +kernel,by decide +kernel,rfl,by decide +kernel⟩
theorem Dn (F : FunD K "_law_mixed" "_law_mixed" cZ dV f fd) (bB : mg "len" = none) : FnOk P w K mg base CX0 1 f fd ["_law_script","_law_k"] (xm K):=by
 refine F.ok sc__law_mixed (fun vs H Q E h => ?_) (fun cdv A outer s H vs Q E hr h => ?_)
 ·obtain ⟨a,k,ns,rfl,_⟩:=h
  rfl
 obtain ⟨a,k,ns,rfl,hS,h63,h0,h1,q⟩:=h
 have hl : (ns.map V.int).length = ns.length:=List.length_map _
 refine ⟨_,(ah (ax (i:=2) sc__law_mixed.nd rfl (Or.inl rfl) (az aY (az eZ aq (pv 1)) aq))
   (ah (cL (a8 FK (aR aU (by rfl) bB cw (aa (pv 0) af)) aq (bh _)) (au (ax (i:=2) sc__law_mixed.nd rfl (Or.inl rfl) (az bw (aW b9 (pv 0) (az bw (pv 1) (aR aU (by rfl) bB cw (aa (pv 0) af))) (fun _ _ => rfl)) aq))) bx)
   (ah (ax (i:=3) sc__law_mixed.nd rfl (Or.inl rfl) (az bw (az aY (az aY (az eZ (pv 2) (az aY aq (az eZ (az eZ aq (pv 1)) (pv 1)))) (az eZ (pv 1) aq)) aq) aq))
   (ah (ax (i:=3) sc__law_mixed.nd rfl (Or.inl rfl) (az bw (az eZ (pv 3) (pv 3)) aq))
   (au (aM (az bw (az aY (az aY (az eZ (pv 3) aq) (az eZ (az eZ (pv 1) (pv 1)) aq)) aq) aq))))))),?_⟩
 refine ⟨_,rfl,_,_,rfl,rfl,.inl ⟨by decide,by decide⟩,_,_,rfl,rfl,?_⟩
 try dsimp only [bt]
 refine cG (t:=Aj _ _ _) (fun σ' H' => ∃ c : Int,σ' = [some (.ref a),some (.int k),some (.int c),none] /\ H' = H /\ 0 <= c /\ c < 2147483648) ?_ (fun nxt => ?_)
 rotate_left
 ·refine ⟨_,rfl,a,_,rfl,.inl hS,_,_,rfl,rfl,_,rfl,?_⟩
  refine um (fun c => ?_) (fun c => ?_)
  ·have c' : (0 : Int) < (((ns.map V.int).length : Nat) : Int):=c
   have m0:=Int.emod_nonneg k (show (((ns.map V.int).length : Nat) : Int) ≠ 0 by omega)
   have m1:=Int.emod_lt_of_pos k c'
   have m2:=cj (a:=ns.getD (k % (((ns.map V.int).length : Nat) : Int)).toNat 0) (b:=2147483629) (by decide)
   exact ⟨_,rfl,_,rfl,_,rfl,a,_,rfl,.inl hS,_,_,rfl,rfl,c',a,_,_,_,rfl,rfl,hS,bU m0 (by rw [<- hl]; exact m1),_,_,rfl,rfl,(by show (0 : Int) < 2147483629; decide),nxt _ _ ⟨_,rfl,rfl,m2.1,by omega⟩⟩
  ·exact nxt _ _ ⟨_,rfl,rfl,by omega,by omega⟩
 rintro σ' H' ⟨c,rfl,rfl,c0,c1⟩
 have kk:=wJ (a:=2 * k) (b:=k) (m:=200000) (n:=100000) (by omega) (by omega) (by omega) (by omega)
 refine ⟨_,rfl,_,rfl,_,_,rfl,rfl,.inl ⟨by decide,by decide⟩,_,rfl,_,_,rfl,rfl,.inr ⟨by omega,by omega⟩,_,_,rfl,rfl,_,_,rfl,rfl,.inl ⟨by omega,by omega⟩,_,rfl,_,_,rfl,rfl,.inr ⟨by decide,by decide⟩,_,_,rfl,rfl,_,_,rfl,rfl,_,_,rfl,rfl,(by show (0 : Int) < 2147483647; decide),?_⟩
 have e1:=cj (a:=c * (48271 + 2 * k * k) + k * 7919 + 11) (b:=2147483647) (by decide)
 refine ⟨_,rfl,_,rfl,_,_,rfl,rfl,.inl ⟨by omega,by omega⟩,_,_,rfl,rfl,(by show (0 : Int) < 2147483587; decide),?_⟩
 have e2:=cj (a:=(c * (48271 + 2 * k * k) + k * 7919 + 11) % 2147483647 * ((c * (48271 + 2 * k * k) + k * 7919 + 11) % 2147483647)) (b:=2147483587) (by decide)
 have kk2:=wJ (a:=k) (b:=k) (m:=100000) (n:=100000) (by omega) (by omega) (by omega) (by omega)
 refine ⟨_,rfl,_,_,rfl,rfl,.inr ⟨by decide,by decide⟩,_,rfl,_,rfl,_,_,rfl,rfl,.inl ⟨by omega,by omega⟩,_,_,rfl,rfl,.inr ⟨by decide,by decide⟩,_,_,rfl,rfl,_,_,rfl,rfl,_,_,rfl,rfl,(by show (0 : Int) < 2147483629; decide),?_⟩
 have e3:=cj (a:=(c * (48271 + 2 * k * k) + k * 7919 + 11) % 2147483647 * ((c * (48271 + 2 * k * k) + k * 7919 + 11) % 2147483647) % 2147483587 * 69621 + k * k * 40692 + 5) (b:=2147483629) (by decide)
 exact q _ e3.1 e3.2
theorem BX (F : FunD K "_law_spread" "_law_spread" cc dV f fd) (iV : DefOk P w K mg base "_law_mixed" 1 ["_law_script","_law_k"] [] (xm K)) (bB : mg "len" = none) (aS : mg "range" = none) (tT : mg "divmod" = none) : FnOk P w K mg base CX0 2 f fd ["_law_script"] (tJ K):=by
 refine F.ok sc__law_spread (fun vs H Q E h => ?_) (fun cdv A outer s H vs Q E hr h => ?_)
 ·obtain ⟨a,ns,rfl,_⟩:=h
  rfl
 obtain ⟨a,ns,rfl,hS,h63,k⟩:=h
 have hl : (ns.map V.int).length = ns.length:=List.length_map _
 refine ⟨_,(ah (cL (PW.pt (AX (a8 fj (aR aU (by rfl) bB cw (aa (pv 0) af)) aq (bh _)) (z5 (a8 fj (az bw (aW b9 (pv 0) aq (fun _ _ => rfl)) aq) aq (bh _))))) (au (aM (bI (aa (cB rfl bk__law_spread_0 (bQ rfl aS (aa aq af)) (fun _ _ _ _ => (ay (i:=0) bk__law_spread_0.nd rfl (Or.inl rfl))) (fun _ _ _ _ => (aV iV hr (aa (pv 1) (aa (pv 0) af))))) (aa (pv 0) af))))) bx)
   (ah (ax (i:=1) sc__law_spread.nd rfl (Or.inl rfl) (az zO (bI (aa (az rh (aW b9 (pv 0) aq (fun _ _ => rfl)) aq) af)) (sU AZ (pv 0) (rA aq) nW)))
   (ah (ax (i:=2) sc__law_spread.nd rfl (Or.inl rfl) (bI af))
   (ah (iL PassesOwn.never (a8 AR (aR aU (by rfl) bB cw (aa (pv 2) af)) aq (bh _)) (au (bN PassesOwn.never rfl (bQ rfl aS (aa (aR aU (by rfl) bB cw (aa (pv 1) af)) af)) (ay (i:=3) sc__law_spread.nd rfl (Or.inl rfl)) (ah (zZ (aR vR (by rfl) tT Bc (aa (aW b9 (pv 1) (pv 3) (fun _ _ => rfl)) (aa aq af))) (pG rfl (bJ (DI (pv 1) (pv 3) set_list) (bJ (ay (i:=4) sc__law_spread.nd rfl (Or.inl rfl)) jB))))
   (au (a7 (eC PySem.F.plainAttrs_list PySem.F.slot_list_append PySem.F.type_list_append ba (pv 2) (aa (pv 4) af))))))))
   (au (aM (bI (aa (pv 2) (aa (pv 1) af))))))))),?_⟩
 have rest : ∀ (ys : List V),IntsIn 0 2147483629 ys -> ∀ D H',Same H H' -> H' D = some (.lst ys) -> ys.length = 330 -> ∀ a',H' a' = none -> Q (.ref a') (upd H' a' (.lst [.ref D,.ref a])):=fun ys hys D H' s1 hD ly a' ha' => by
  obtain ⟨xs,rfl,hx⟩:=hys.ints
  rw [lm_] at ly
  have sn:=ak ha' (HO.lst [V.ref D,V.ref a])
  exact k a' _ xs (s1.trans sn) ⟨D,a,ns,ab,sn _ _ hD,hx,(s1.trans sn).seq hS,by omega⟩ (by omega)
 refine ⟨_,rfl,a,_,rfl,.inl hS,rfl,_,rfl,l6 (fun c => ?_) (fun c => ?_)⟩
 ·refine ⟨(330 : Int),rfl,by decide,by decide,?_⟩
  refine cO (fun D j ys H'' => Same H H'' /\ ys.length = j /\ IntsIn 0 (2147483629) ys) (fun D hD => ⟨ak hD _,rfl,IntsIn.nil⟩) ?_ ?_
  ·rintro D j ys H4 Q' hD hj hy ⟨hs4,hl4,hall4⟩ k'
   have hj' : j < 330:=hj
   exact ⟨_,rfl,_,rfl,a,_,ns,rfl,hs4.seq hS,h63,by omega,by omega,fun v v0 v1 => k' _ _ hy (aw (by omega)) ⟨av hs4 hD,by simp [hl4],hall4.snoc v0 v1⟩⟩
  ·rintro D ys H4 fD hD ⟨hs4,hl4,hall4⟩
   exact ⟨_,rfl,(by show 2 <= sizeLine; decide),fun a' ha' => rest ys hall4 D H4 hs4 hD hl4 a' ha'⟩
 have c' : 0 < ns.length:=by
  rw [hl] at c
  omega
 refine ⟨_,rfl,a,_,_,_,rfl,rfl,hS,bU (by decide) (by omega),_,_,rfl,rfl,(by show (0 : Int) < 2; decide),rfl,_,rfl,l6 (fun c2 => ?_) (fun c2 => ?_)⟩
 ·refine ⟨(330 : Int),rfl,by decide,by decide,?_⟩
  refine cO (fun D j ys H'' => Same H H'' /\ ys.length = j /\ IntsIn 0 (2147483629) ys) (fun D hD => ⟨ak hD _,rfl,IntsIn.nil⟩) ?_ ?_
  ·rintro D j ys H4 Q' hD hj hy ⟨hs4,hl4,hall4⟩ k'
   have hj' : j < 330:=hj
   exact ⟨_,rfl,_,rfl,a,_,ns,rfl,hs4.seq hS,h63,by omega,by omega,fun v v0 v1 => k' _ _ hy (aw (by omega)) ⟨av hs4 hD,by simp [hl4],hall4.snoc v0 v1⟩⟩
  ·rintro D ys H4 fD hD ⟨hs4,hl4,hall4⟩
   exact ⟨_,rfl,(by show 2 <= sizeLine; decide),fun a' ha' => rest ys hall4 D H4 hs4 hD hl4 a' ha'⟩
 refine ⟨_,rfl,a,_,_,_,rfl,rfl,hS,bU (by decide) (by omega),_,_,rfl,rfl,⟨by decide,by decide⟩,(by show 1 <= sizeLine; decide),fun L1 hL1 => ?_⟩
 have s1:=ak hL1 (HO.lst [V.int (ns.getD (0 : Int).toNat 0 / 2)])
 refine ⟨_,rfl,_,rfl,a,_,rfl,s1.seq hS,fun L2 hL2 => ?_⟩
 obtain ⟨ms,ems,lms⟩:=CB ns (some 1) none
 rw [ems]
 have s2:=ak hL2 (HO.lst (ms.map V.int))
 have n12 : L1 ≠ L2:=ao ab hL2
 refine ⟨L1,L2,_,_,rfl,rfl,by rw [ae n12,ab],ab,by simp; exact small (by omega),fun L hL => ?_⟩
 have s3:=(s1.trans s2).trans (ak hL (HO.lst ([V.int (ns.getD (0 : Int).toNat 0 / 2)] ++ ms.map V.int)))
 have fL : H L = none:=(s1.trans s2).free hL
 refine ⟨(by show 0 <= sizeLine; decide),fun Fo hFo => ?_⟩
 have s4:=s3.trans (ak hFo (HO.lst []))
 have fF : H Fo = none:=s3.free hFo
 have nLF : L ≠ Fo:=ao ab hFo
 try dsimp only [bt]
 refine cG (t:=km _ _) (fun σ' H' => ∃ (xs ls : LI) (v1 v2 : OV),σ' = [some (.ref a),some (.ref L),some (.ref Fo),v1,v2] /\ Same H H' /\ H' L = some (.lst (ls.map V.int)) /\ ls.length <= 64 /\ H' Fo = some (.lst (xs.map V.int)) /\ 330 <= xs.length /\ ∀ z ∈ xs,0 <= z /\ z < 2147483629) ?_ (fun nxt => ?_)
 rotate_left
 ·refine kG (fun mm σ' H' => ∃ (xs ls : LI) (v1 v2 : OV),mm = 1000 - xs.length /\ xs.length <= 780 /\ σ' = [some (.ref a),some (.ref L),some (.ref Fo),v1,v2] /\ Same H H' /\ H' L = some (.lst (ls.map V.int)) /\ 1 <= ls.length /\ ls.length <= 64 /\ H' Fo = some (.lst (xs.map V.int)) /\ ∀ z ∈ xs,0 <= z /\ z < 2147483629)
   ⟨_,[],(ns.getD (0 : Int).toNat 0 / 2) :: ms,none,none,rfl,by decide,rfl,s4,by rw [ae nLF,ab]; rfl,by simp,by simp; omega,ab,(fun z h => by cases h)⟩ ?_
  rintro mm σ' H1 ⟨xs,ls,v1,v2,rfl,lx,rfl,t1,hL1',l1,l64,hF1,hx⟩
  refine ⟨_,rfl,Fo,_,rfl,.inl (qL_ hF1),_,_,rfl,rfl,_,rfl,um (fun c3 => ?_) (fun c3 => ?_)⟩
  ·rw [lm_] at c3
   refine ⟨fun σ' H' => ∃ m',m' < 1000 - xs.length /\ ∃ (xs ls : LI) (v1 v2 : OV),m' = 1000 - xs.length /\ xs.length <= 780 /\ σ' = [some (.ref a),some (.ref L),some (.ref Fo),v1,v2] /\ Same H H' /\ H' L = some (.lst (ls.map V.int)) /\ 1 <= ls.length /\ ls.length <= 64 /\ H' Fo = some (.lst (xs.map V.int)) /\ ∀ z ∈ xs,0 <= z /\ z < 2147483629,fun σ' H' h => h,?_⟩
   refine ⟨_,rfl,L,_,rfl,.inl (qL_ hL1'),?_⟩
   rw [lm_]
   refine ⟨(ls.length : Int),rfl,by omega,by omega,gn (fun i σ' H' => ∃ (ys ms : LI) (v1 v2 : OV),ys.length = xs.length + i /\ σ' = [some (.ref a),some (.ref L),some (.ref Fo),v1,v2] /\ Same H H' /\ H' L = some (.lst (ms.map V.int)) /\ ms.length = ls.length /\ H' Fo = some (.lst (ys.map V.int)) /\ ∀ z ∈ ys,0 <= z /\ z < 2147483629)
    ⟨xs,ls,v1,v2,rfl,rfl,t1,hL1',rfl,hF1,hx⟩ ?_ ?_⟩
   ·rintro i σ' H2 hi ⟨ys,ms,v1,v2,ly,rfl,t2,hL2',lm,hF2,hy⟩
    have hi' : i < ls.length:=by omega
    have z0 : (0 : Int) + (i : Int) = (i : Int):=Int.zero_add _
    rw [z0]
    have at1:=bU (ns:=ms) (k:=(i : Int)) (by omega) (by omega)
    have ix : ixN (ms.map V.int).length (i : Int) = some i:=by
     rw [lm_]
     unfold ixN
     rw [if_pos (by omega),if_pos (by omega),Int.toNat_natCast]
    have rm:=cj (a:=ms.getD ((i : Int)).toNat 0) (b:=2147483629) (by decide)
    refine ⟨_,rfl,_,rfl,L,_,_,_,rfl,rfl,qL_ hL2',at1,_,_,rfl,⟨by decide,by decide +kernel⟩,fun p hp => ?_⟩
    have np : L ≠ p:=ao hL2' hp
    have npF : Fo ≠ p:=ao hF2 hp
    refine ⟨p,_,rfl,qT_ ab,rfl,_,_,rfl,_,rfl,_,rfl,L,_,_,_,rfl,rfl,by rw [ae np]; exact hL2',ix,_,_,rfl,rfl,?_⟩
    have hF3 : (upd (upd H2 p (HO.tup [V.int (ms.getD ((i : Int)).toNat 0 / 2147483629),V.int (ms.getD ((i : Int)).toNat 0 % 2147483629)])) L (HO.lst ((ms.map V.int).set i (V.int (ms.getD ((i : Int)).toNat 0 / 2147483629))))) Fo = some (.lst (ys.map V.int)):=by
     rw [ae (Ne.symm nLF),ae npF]
     exact hF2
    refine ⟨_,rfl,.inl ⟨rfl,_,qL_ hF3⟩,_,rfl,Fo,_,_,rfl,rfl,hF3,aw (by rw [lm_]; omega),?_⟩
    refine ⟨ys ++ [ms.getD ((i : Int)).toNat 0 % 2147483629],ms.set i (ms.getD ((i : Int)).toNat 0 / 2147483629),_,_,by simp [ly]; omega,rfl,av (av (av t2 (t2.free hp)) fL) fF,?_,by simp [lm],by rw [ab,List.map_append]; rfl,?_⟩
    ·rw [ae nLF,ab,List.map_set]
    ·intro z hz
     rcases ma_.mp hz with q | q
     ·exact hy z q
     ·rw [List.mem_singleton.mp q]; exact rm
   ·rintro σ' H2 ⟨ys,ms,v1,v2,ly,rfl,t2,hL2',lm,hF2,hy⟩
    rw [Int.toNat_natCast] at ly
    exact ⟨1000 - ys.length,by omega,ys,ms,_,_,rfl,by omega,rfl,t2,hL2',by omega,by omega,hF2,hy⟩
  ·rw [lm_] at c3
   exact nxt _ _ ⟨xs,ls,_,_,rfl,t1,hL1',l64,hF1,by omega,hx⟩
 rintro σ' H1 ⟨xs,ls,v1,v2,rfl,t1,hL1',l64,hF1,lx,hx⟩
 refine ⟨_,rfl,_,rfl,(by show 2 <= sizeLine; decide),fun a' ha' => ?_⟩
 have sn:=ak ha' (HO.lst [V.ref Fo,V.ref L])
 exact k a' _ xs (t1.trans sn) ⟨Fo,L,ls,ab,sn _ _ hF1,hx,qL_ (sn _ _ hL1'),l64⟩ lx
end
def FewV (wide : Nat) (rows : LL) (signs : LI) (n : Nat) : Prop := ∃ vs : LL,vs.length <= n /\ ∀ v,InF wide v -> plW (cn rows) signs v ∈ vs
section
variable {wide n : Nat} {rows rowsL : LL} {signs signsL : LI}
theorem FewV.gen {cs : LI} (R : RowsOk rows.length wide rows) (ls : signs.length = rows.length) (hs : ∀ z ∈ signs,z ∈ cs) : FewV wide rows signs (cs.length ^ rows.length):=
 ⟨Ck cs rows.length,Nat.le_of_eq (tQ _ _),fun v hv => by
  have:=tR (xA R v signs hv ls hs)
  rw [gh v signs ls] at this
  exact this⟩
theorem InF.rev {v : LI} (h : InF wide v) : InF wide v.reverse:=fun x hx => h x (List.mem_reverse.mp hx)
theorem InF.app {u v : LI} (h : InF wide u) (h' : InF wide v) : InF wide (u ++ v):=fun x hx => by
 rcases ma_.mp hx with z | z
 ·exact h x z
 ·exact h' x z
theorem vq (R : RowsOk rowsL.length wide rowsL) (O : InOrder rowsL) : ∃ us : Nat -> LI,∀ q,q < rowsL.length -> InF wide (us q) /\ aG rowsL (us q) 0 = (q : Int):=
 ⟨fun q => if h : q < rowsL.length then Classical.choose (O.reached R q h) else [],fun q h => by
  have:=Classical.choose_spec (O.reached R q h)
  dsimp only
  rw [dif_pos h]
  exact this⟩
theorem CL (RM : RowsOk rows.length wide rows) (n0 : 0 < rows.length) (ls : signs.length = rows.length) (R : RowsOk rowsL.length wide rowsL) (O : InOrder rowsL) (ll : signsL.length = rowsL.length) (t : Tells wide rows rowsL signs signsL 0 0) (h : FewV wide rows signs n)
  {ps : LL} (nd : ps.Nodup) (re : ∀ p ∈ ps,∃ v,InF wide v /\ plW (cn rowsL) signsL v = p) : ps.length <= n:=by
 obtain ⟨vs,hn,hv⟩:=h
 obtain ⟨us,hus⟩:=vq R O
 have:=mE nd (vs:=vs.map fun u => (List.range rowsL.length).map fun q => sgn u (aG rows (us q) 0)) fun p hp => by
  obtain ⟨v,iv,rfl⟩:=re p hp
  refine List.mem_map.mpr ⟨_,hv v iv,?_⟩
  refine xC (n:=rowsL.length) (by rw [lm_,List.length_range]) (gh v _ ll) fun q hq => ?_
  obtain ⟨iu,eu⟩:=hus q hq
  have wi:=fq RM iu (show (0 : Int) <= 0 by omega) (by omega)
  have e1 : sgn ((List.range rowsL.length).map fun q => sgn (plW (cn rows) signs v) (aG rows (us q) 0)) (q : Int) = sgn (plW (cn rows) signs v) (aG rows (us q) 0):=by
   unfold sgn
   rw [Int.toNat_natCast,getD_at (by rw [lm_,List.length_range]; exact hq),List.getElem_map,List.getElem_range]
  have e2 : sgn (plW (cn rows) signs v) (aG rows (us q) 0) = sgn signs (aG rows v.reverse (aG rows (us q) 0)):=hZ RM v signs _ iv wi
  have e3 : sgn (plW (cn rowsL) signsL v) (q : Int) = sgn signsL (aG rowsL v.reverse (q : Int)):=hZ R v signsL _ iv ⟨by omega,by omega⟩
  rw [e1,e2,e3,<- eu,<- bE,<- bE]
  exact t _ (iu.app iv.rev)
 rw [lm_] at this
 omega
variable {rowsF : LL} {signsF : LI} {many : Nat}
theorem twice_few (RM : RowsOk many wide rows) (m0 : 1 <= many) (T : TurOf wide rows rowsF signs signsF) (L : LeastOf wide rowsF rowsL signsF signsL) {ps : LL} (nd : ps.Nodup) (re : ∀ p ∈ ps,∃ v,InF wide v /\ plW (cn rowsL) signsL v = p) : ps.length <= many:=by
 obtain ⟨us,hus⟩:=vq L.ok L.ord
 have:=mE nd (vs:=(List.range many).map fun x : Nat => (List.range rowsL.length).map fun q => sgn signs (aG rows (us q).reverse (x : Int))) fun p hp => by
  obtain ⟨v,iv,rfl⟩:=re p hp
  have wi:=fq RM iv (show (0 : Int) <= 0 by omega) (by omega)
  obtain ⟨x,ex⟩:=gU wi.1
  refine List.mem_map.mpr ⟨x,List.mem_range.mpr (by omega),?_⟩
  refine xC (n:=rowsL.length) (by rw [lm_,List.length_range]) (gh v _ L.sgn) fun q hq => ?_
  obtain ⟨iu,eu⟩:=hus q hq
  have e1 : sgn ((List.range rowsL.length).map fun q => sgn signs (aG rows (us q).reverse (x : Int))) (q : Int) = sgn signs (aG rows (us q).reverse (x : Int)):=by
   unfold sgn
   rw [Int.toNat_natCast,getD_at (by rw [lm_,List.length_range]; exact hq),List.getElem_map,List.getElem_range]
  have e3 : sgn (plW (cn rowsL) signsL v) (q : Int) = sgn signsL (aG rowsL v.reverse (q : Int)):=hZ L.ok v signsL _ iv ⟨by omega,by omega⟩
  rw [e1,e3,<- eu,<- bE,<- L.tells _ (iu.app iv.rev),<- T.turned _ (iu.app iv.rev),List.reverse_append,List.reverse_reverse,bE,ex]
 rw [lm_,List.length_range] at this
 exact this
theorem TurOf.self (T : TurOf wide rows rowsF signs signsF) : LeastOf wide rowsF rowsF signsF signsF:=LeastOf.self T.ok T.pos T.sgn T.ord T.apart
variable {rowsG : LL} {signsG : LI}
theorem TurOf.twice (T : TurOf wide rows rowsF signs signsF) (T' : TurOf wide rowsF rowsG signsF signsG) : LeastOf wide rows rowsG signs signsG:=
 ⟨T'.ok,T'.pos,T'.sgn,T'.ord,T'.apart,fun v hv => by
  have:=T.turned v.reverse hv.rev
  rw [List.reverse_reverse] at this
  rw [this]
  exact T'.turned v hv⟩
theorem TurOf.least {rowsS : LL} {signsS : LI} (T : TurOf wide rows rowsF signs signsF) (L : LeastOf wide rows rowsS signs signsS) (T' : TurOf wide rowsS rowsG signsS signsG) : LeastOf wide rowsF rowsG signsF signsG:=
 ⟨T'.ok,T'.pos,T'.sgn,T'.ord,T'.apart,fun v hv => by
  rw [<- T.turned v hv,L.tells _ hv.rev]
  exact T'.turned v hv⟩
end
def fV (many : Nat) : LL:=((List.range (many - 1)).map fun q : Nat => [(q : Int) + 1,(q : Int) + 1]) ++ [[(many : Int),(many : Int) + 1],[(many : Int),(many : Int)],[(many : Int) + 1,(many : Int) + 1]]
def hU (many : Nat) (one other : Int) : LI:=List.replicate (many + 1) one ++ [other]
theorem gp {many : Nat} (h : 1 <= many) : (fV many).length = many + 2:=by
 unfold fV
 rw [List.length_append,lm_,List.length_range]
 show many - 1 + 3 = _
 omega
theorem vo (many : Nat) (one other : Int) : (hU many one other).length = many + 2:=by
 unfold hU
 rw [List.length_append,List.length_replicate]
 rfl
theorem x9 {many : Nat} (h : 1 <= many) : RowsOk (many + 2) 2 (fV many):=by
 refine ⟨gp h,fun r hr => ?_,fun r hr v hv => ?_⟩
 ·rcases ma_.mp hr with z | z
  ·obtain ⟨q,_,rfl⟩:=List.mem_map.mp z
   rfl
  ·simp only [List.mem_cons,List.not_mem_nil,or_false] at z
   rcases z with rfl | rfl | rfl <;> rfl
 ·rcases ma_.mp hr with z | z
  ·obtain ⟨q,hq,rfl⟩:=List.mem_map.mp z
   have:=List.mem_range.mp hq
   simp only [List.mem_cons,List.not_mem_nil,or_false] at hv
   omega
  ·simp only [List.mem_cons,List.not_mem_nil,or_false] at z
   rcases z with rfl | rfl | rfl <;> simp only [List.mem_cons,List.not_mem_nil,or_false] at hv <;> omega
theorem AO {many j : Nat} (h : 1 <= many) : (fV many).getD (many - 1 + j) [] = [[(many : Int),(many : Int) + 1],[(many : Int),(many : Int)],[(many : Int) + 1,(many : Int) + 1]].getD j []:=by
 unfold fV
 rw [List.getD_eq_getElem?_getD,List.getElem?_append_right (by rw [lm_,List.length_range]; omega),lm_,List.length_range,Nat.add_sub_cancel_left,List.getD_eq_getElem?_getD]
theorem vp {many : Nat} (h : 1 <= many) {q : Int} (hq : q = (many : Int) \/ q = (many : Int) + 1) : ∀ {v : LI},InF 2 v -> aG (fV many) v q = q
 | [],_ => rfl
 | f :: v,hv => by
  have hf:=hv f List.mem_cons_self
  have e : stepI (fV many) q f = q:=by
   have f2 : f.toNat = 0 \/ f.toNat = 1:=by omega
   unfold stepI
   rcases hq with rfl | rfl
   ·rw [show ((many : Int)).toNat = many - 1 + 1 by omega,AO h]
    rcases f2 with z | z <;> rw [z] <;> rfl
   ·rw [show ((many : Int) + 1).toNat = many - 1 + 2 by omega,AO h]
    rcases f2 with z | z <;> rw [z] <;> rfl
  show aG (fV many) v (stepI (fV many) q f) = q
  rw [e]
  exact vp h hq fun x hx => hv x (List.mem_cons_of_mem _ hx)
theorem C3 {many : Nat} {one other : Int} (h : 1 <= many) : FewV 2 (fV many) (hU many one other) (2 ^ many):=by
 have R:=x9 h
 have R' : RowsOk (fV many).length 2 (fV many):=by rw [gp h]; exact R
 have ls : (hU many one other).length = (fV many).length:=by rw [vo,gp h]
 have hs : ∀ z ∈ hU many one other,z ∈ [one,other]:=fun z hz => by
  rcases ma_.mp hz with y | y
  ·rw [List.eq_of_mem_replicate y]; exact List.mem_cons_self
  ·rw [List.mem_singleton.mp y]; exact List.mem_cons_of_mem _ List.mem_cons_self
 refine ⟨(Ck [one,other] many).map fun u => u ++ [one,other],by rw [lm_,tQ]; exact Nat.le_refl _,fun v hv => List.mem_map.mpr ?_⟩
 obtain ⟨p,ep⟩ : ∃ p,plW (cn (fV many)) (hU many one other) v = p:=⟨_,rfl⟩
 have lp : p.length = many + 2:=by rw [<- ep,<- gp h]; exact gh v _ ls
 have en : ∀ z ∈ p,z ∈ [one,other]:=by rw [<- ep]; exact xA R' v _ hv ls hs
 have at_ : ∀ q : Int,(q = (many : Int) \/ q = (many : Int) + 1) -> sgn p q = sgn (hU many one other) q:=fun q hq => by
  rw [<- ep]
  have:=hZ R' v (hU many one other) q hv ⟨by omega,by rw [gp h]; omega⟩
  rw [vp h hq hv.rev] at this
  exact this
 have a1:=at_ many (.inl rfl)
 have a2:=at_ (many + 1) (.inr rfl)
 rw [ep]
 refine ⟨p.take many,?_,?_⟩
 ·have:=tR (v:=p.take many) fun z hz => en z (List.mem_of_mem_take hz)
  rw [List.length_take,Nat.min_eq_left (by omega)] at this
  exact this
 ·have e1 : p[many]'(by omega) = one:=by
   unfold sgn hU at a1
   rw [Int.toNat_natCast,getD_at (by omega),List.getD_eq_getElem?_getD,List.getElem?_append_left (by rw [List.length_replicate]; omega),List.getElem?_replicate,if_pos (by omega)] at a1
   exact a1
  have e2 : p[many + 1]'(by omega) = other:=by
   unfold sgn hU at a2
   rw [show ((many : Int) + 1).toNat = many + 1 by omega,getD_at (by omega),List.getD_eq_getElem?_getD,List.getElem?_append_right (by rw [List.length_replicate]; omega),List.length_replicate,Nat.sub_self] at a2
   exact a2
  have d1 : p.drop many = p[many]'(by omega) :: p.drop (many + 1):=List.drop_eq_getElem_cons (by omega)
  have d2 : p.drop (many + 1) = p[many + 1]'(by omega) :: p.drop (many + 2):=List.drop_eq_getElem_cons (by omega)
  have d3 : p.drop (many + 2) = []:=List.drop_eq_nil_iff.mpr (by omega)
  have:=List.take_append_drop many p
  rw [d1,d2,d3,e1,e2] at this
  exact this
def Af : Sp:=fun vs H Q _ => ∃ (many : Nat) (one other : Int),vs = [.int many,.int one,.int other] /\ (1 <= many /\ many <= 8) /\
 ∀ (m r g : Addr) (H' : Hp),Same H H' -> MachAt H' m r g 2 (fV many) (hU many one other) -> Q (.ref m) H'
def xj (K : PySem.W.Frag) : Sp:=fun vs H Q _ => ∃ (m r g m' r' g' b : Addr) (many wide : Nat) (rows rows' : LL) (signs signs' ns : LI),vs = [.ref m,.ref m',.ref b] /\ MachAt H m r g wide rows signs /\ RowsOk many wide rows /\ signs.length = many /\ 1 <= many /\ MachAt H m' r' g' wide rows' signs' /\ TurOf wide rows rows' signs signs' /\ H b = some (.lst (ns.map V.int)) /\ ns.length <= 1000 /\ InF wide ns /\
 ∀ H' : Hp,Same H H' -> Q (.bl true) H'
section
variable {P : Program} {w : World} {K : PySem.W.Frag} {mg : Str -> Option Value} {base : Heap} {f : Addr} {fd : FuncData} {dV : Value}
theorem sc__law_late : FnScope ["_law_many","_law_one","_law_other","_law_rows"] ["_law_many","_law_one","_law_other"] (aj cu):=⟨rfl,rfl,rfl,by decide +kernel,rfl,by decide +kernel,by decide +kernel⟩
theorem bk__law_late_0 : BlkScope ["_law_many","_law_one","_law_other","_law_rows"] (aj cu) ["_law_q"] [none] { kind:=ScopeKind.function,names:=[(".0",NameKind.local),("_law_q",NameKind.local)],isGenerator:=false,isCoroutine:=false,more:=[] }:=⟨rfl,by decide +kernel,by decide +kernel,by decide +kernel,by decide +kernel,rfl,by decide +kernel⟩
theorem bk__law_late_1 : BlkScope ["_law_many","_law_one","_law_other","_law_rows"] (aj cu) ["_law_q","_law_one"] [none,some 1] { kind:=ScopeKind.function,names:=[(".0",NameKind.local),("_law_q",NameKind.local),("_law_one",NameKind.free)],isGenerator:=false,isCoroutine:=false,more:=[] }:=⟨rfl,by decide +kernel,by decide +kernel,by decide +kernel,by decide +kernel,rfl,by decide +kernel⟩
theorem og : FnScope ["_law_machine_here","_law_found","_law_row"] ["_law_machine_here","_law_found","_law_row"] (aj bT):=⟨rfl,rfl,rfl,by decide +kernel,rfl,by decide +kernel,by decide +kernel⟩
theorem Dk (F : FunD K "_law_backwards" "_law_backwards" bT dV f fd) (h8 : DefOk P w K mg base "told" 2 ["machine","row"] [] (tL K)) (dF : mg "list" = none) (fb : mg "reversed" = none) : FnOk P w K mg base CX0 3 f fd ["_law_machine_here","_law_found","_law_row"] (xj K):=by
 refine F.ok og (fun vs H Q E h => ?_) (fun cdv A outer s H vs Q E hr h => ?_)
 ·obtain ⟨m,r,g,m',r',g',b,many,wide,rows,rows',signs,signs',ns,rfl,_⟩:=h
  rfl
 obtain ⟨m,r,g,m',r',g',b,many,wide,rows,rows',signs,signs',ns,rfl,M,R,ls,m0,M',T,hb,ln,inf,k⟩:=h
 refine ⟨_,(au (aM (rj fj (aV h8 hr (aa (pv 1) (aa (pv 2) af))) (aV h8 hr (aa (pv 0) (aa (zS rfl rfl dF rfl fb (aa (pv 2) af)) af))) (bh _)))),?_⟩
 refine ⟨_,rfl,_,rfl,m',r',g',b,rows'.length,wide,rows',signs',ns,rfl,M',T.ok,T.sgn,T.pos,.inl (qL_ hb),inf,?_⟩
 refine ⟨_,rfl,_,rfl,b,_,rfl,qL_ hb,fun l hl => ?_⟩
 have sl:=ak hl (HO.lst (ns.map V.int).reverse)
 refine ⟨m,r,g,l,many,wide,rows,signs,ns.reverse,rfl,M.same (fun b xs e => sl _ _ e),R,ls,m0,.inl (qL_ (by rw [ab,List.map_reverse])),inf.rev,rfl,?_⟩
 have e:=T.turned ns inf
 unfold sgn at e
 rw [decide_eq_true (congrArg V.int e.symm)]
 exact k _ sl
theorem E3 (F : FunD K "_law_late" "_law_late" cu dV f fd) (aS : mg "range" = none) (aI : mg "tuple" = none) : FnOk P w K mg base CX0 1 f fd ["_law_many","_law_one","_law_other"] Af:=by
 refine F.ok sc__law_late (fun vs H Q E h => ?_) (fun cdv A outer s H vs Q E hr h => ?_)
 ·obtain ⟨many,one,other,rfl,_⟩:=h
  rfl
 obtain ⟨many,one,other,rfl,⟨m0,m1⟩,k⟩:=h
 refine ⟨_,(ah (ax (i:=3) sc__law_late.nd rfl (Or.inl rfl) (az zO (cB rfl bk__law_late_0 (bQ rfl aS (aa (az zQ (pv 0) aq) af)) (fun _ _ _ _ => (ay (i:=0) bk__law_late_0.nd rfl (Or.inl rfl))) (fun _ _ _ _ => (eD (aa (az aY (pv 0) aq) (aa (az aY (pv 0) aq) af))))) (bI (aa (eD (aa (pv 0) (aa (az aY (pv 0) aq) af))) (aa (eD (aa (pv 0) (aa (pv 0) af))) (aa (eD (aa (az aY (pv 0) aq) (aa (az aY (pv 0) aq) af))) af))))))
   (au (aM (eD (aa aq (aa (aL aF (by rfl) aI bG (aa (pv 3) af)) (aa (aL aF (by rfl) aI bG (aa (az zO (cB rfl bk__law_late_1 (bQ rfl aS (aa (az aY (pv 0) aq) af)) (fun _ _ _ _ => (ay (i:=0) bk__law_late_1.nd rfl (Or.inl rfl))) (fun _ _ _ _ => (pv 1))) (bI (aa (pv 2) af))) af)) af))))))),?_⟩
 have em : ((many : Int) - 1).toNat = many - 1:=by omega
 refine ⟨_,rfl,_,_,rfl,rfl,_,rfl,by omega,by omega,?_⟩
 refine cO (fun D i ys H' => Same H H' /\ ∃ as : List Addr,ys = as.map V.ref /\ RowsAt H' as ((List.range i).map fun q : Nat => [(q : Int) + 1,(q : Int) + 1])) (fun D hD => ⟨ak hD _,[],rfl,.nil⟩) ?_ ?_
 ·rintro D i ys H1 Q' hD hi hy ⟨s1,as,rfl,A1⟩ k'
  have la : as.length = i:=by rw [A1.length,lm_,List.length_range]
  refine ⟨_,rfl,_,_,rfl,rfl,_,rfl,_,_,rfl,rfl,(by show 2 <= sizeLine; decide),fun T hT => ?_⟩
  have sT:=ak hT (HO.tup [V.int (0 + (i : Int) + 1),V.int (0 + (i : Int) + 1)])
  have nD : D ≠ T:=ao hy hT
  refine k' _ _ (sT _ _ hy) (aw (by rw [lm_]; omega)) ⟨av (s1.trans sT) hD,as ++ [T],by rw [List.map_append]; rfl,?_⟩
  rw [List.range_succ,List.map_append]
  have up : ∀ b xs,H1 b = some (.tup xs) -> (upd (upd H1 T (.tup [V.int (0 + (i : Int) + 1),V.int (0 + (i : Int) + 1)])) D (.lst (as.map V.ref ++ [V.ref T]))) b = some (.tup xs):=fun b xs e => by
   rw [ae (aA e hy (by intro z; cases z))]; exact sT _ _ e
  refine RowsAt.snoc (A1.same up) ?_
  rw [ae (Ne.symm nD),ab,Int.zero_add]
  rfl
 rintro D ys H1 hD hy ⟨s1,as,rfl,A1⟩
 rw [em] at A1
 have la : as.length = many - 1:=by rw [A1.length,lm_,List.length_range]
 refine ⟨_,rfl,_,rfl,_,_,rfl,rfl,(by show 2 <= sizeLine; decide),fun T1 hT1 => ?_⟩
 have t1:=ak hT1 (HO.tup [V.int many,V.int ((many : Int) + 1)])
 refine ⟨_,rfl,_,rfl,(by show 2 <= sizeLine; decide),fun T2 hT2 => ?_⟩
 have t2:=ak hT2 (HO.tup [V.int many,V.int many])
 refine ⟨_,rfl,_,_,rfl,rfl,_,rfl,_,_,rfl,rfl,(by show 2 <= sizeLine; decide),fun T3 hT3 => ?_⟩
 have t3:=ak hT3 (HO.tup [V.int ((many : Int) + 1),V.int ((many : Int) + 1)])
 refine ⟨(by show 3 <= sizeLine; decide),fun B hB => ?_⟩
 have t4:=ak hB (HO.lst [V.ref T1,V.ref T2,V.ref T3])
 have t14:=t1.trans (t2.trans (t3.trans t4))
 refine ⟨D,B,_,_,rfl,rfl,t14 _ _ hy,ab,?_,fun R hR => ?_⟩
 ·rw [lm_,la]
  exact Nat.le_trans (show many - 1 + 3 <= 2000 by omega) (by decide)
 have t5:=ak hR (HO.lst (as.map V.ref ++ [V.ref T1,V.ref T2,V.ref T3]))
 have A5:=A1.same fun b xs e => t5 _ _ (t14 _ _ e)
 have A6:=RowsAt.snoc (RowsAt.snoc (RowsAt.snoc A5 (r:=[(many : Int),(many : Int) + 1]) (t5 _ _ (t4 _ _ (t3 _ _ (t2 _ _ ab))))) (r:=[(many : Int),(many : Int)]) (t5 _ _ (t4 _ _ (t3 _ _ ab)))) (r:=[(many : Int) + 1,(many : Int) + 1]) (t5 _ _ (t4 _ _ ab))
 rw [List.append_assoc,List.append_assoc,List.append_assoc,List.append_assoc] at A6
 obtain ⟨H5,e5⟩ : ∃ H5,upd (upd (upd (upd (upd H1 T1 (HO.tup [V.int many,V.int ((many : Int) + 1)])) T2 (HO.tup [V.int many,V.int many])) T3 (HO.tup [V.int ((many : Int) + 1),V.int ((many : Int) + 1)])) B (HO.lst [V.ref T1,V.ref T2,V.ref T3])) R (HO.lst (as.map V.ref ++ [V.ref T1,V.ref T2,V.ref T3])) = H5:=⟨_,rfl⟩
 have hR5 : H5 R = some (.lst ((as ++ [T1,T2,T3]).map V.ref)):=by rw [<- e5,ab,List.map_append]; rfl
 have s15 : Same H1 H5:=by rw [<- e5]; exact t14.trans t5
 rw [e5] at A6
 try dsimp only [bt,eG,List.set]
 rw [e5]
 refine ⟨_,rfl,R,_,rfl,.inl ⟨qL_ hR5,fun rt hrt => ?_⟩⟩
 have s6:=ak hrt (HO.tup ((as ++ [T1,T2,T3]).map V.ref))
 have en : ((many : Int) + 1).toNat = many + 1:=by omega
 refine ⟨_,rfl,_,_,rfl,rfl,_,rfl,by omega,by omega,?_⟩
 refine cO (fun D i ys H' => Same (upd H5 rt (HO.tup ((as ++ [T1,T2,T3]).map V.ref))) H' /\ ys = (List.replicate i one).map V.int) (fun D hD => ⟨ak hD _,rfl⟩) ?_ ?_
 ·rintro D i ys H7 Q' hD hi hy ⟨s7,rfl⟩ k'
  refine ⟨_,rfl,k' _ _ hy (aw (by rw [lm_,List.length_replicate]; omega)) ⟨av s7 hD,?_⟩⟩
  rw [List.replicate_succ',List.map_append]
  rfl
 rintro D2 ys H7 hD2 hy2 ⟨s7,rfl⟩
 rw [en] at hy2
 refine ⟨_,rfl,(by show 1 <= sizeLine; decide),fun B2 hB2 => ?_⟩
 have s8:=ak hB2 (HO.lst [V.int other])
 refine ⟨D2,B2,_,_,rfl,rfl,s8 _ _ hy2,ab,?_,fun C2 hC2 => ?_⟩
 ·rw [lm_,List.length_replicate]
  exact Nat.le_trans (show many + 1 + 1 <= 2000 by omega) (by decide)
 have s9:=ak hC2 (HO.lst ((List.replicate (many + 1) one).map V.int ++ [V.int other]))
 have eS : (List.replicate (many + 1) one).map V.int ++ [V.int other] = (hU many one other).map V.int:=by unfold hU; rw [List.map_append]; rfl
 rw [eS] at s9 ⊢
 refine ⟨C2,_,rfl,.inl ⟨qL_ ab,fun g hg => ?_⟩⟩
 have s10:=ak hg (HO.tup ((hU many one other).map V.int))
 refine ⟨(by show 3 <= sizeLine; decide),fun m hm => ?_⟩
 have s11:=ak hm (HO.tup [V.int 2,V.ref rt,V.ref g])
 have s611:=s7.trans (s8.trans (s9.trans (s10.trans s11)))
 refine k m rt g _ (((s1.trans s15).trans s6).trans s611) ⟨ab,⟨as ++ [T1,T2,T3],s611 _ _ ab,?_⟩,s11 _ _ ab⟩
 exact RowsAt.same A6 fun b xs e => s611 _ _ (s6 _ _ e)
end
def A0 (K : PySem.W.Frag) : Sp:=fun vs H Q _ => ∃ (a : Addr) (ns : LI),vs = [.ref a] /\ SqL K H a (ns.map V.int) /\ ns.length <= 63 /\ ∀ H',Q (.bl true) H'
theorem GR : (10 : Int) ^ 60 < NB:=by unfold NB; decide +kernel
section
variable {P : Program} {w : World} {K : PySem.W.Frag} {mg : Str -> Option Value} {base : Heap} {f : Addr} {fd : FuncData} {dV : Value}
theorem sc_law : FnScope ["_law_script","_law_spread_here","_law_machine_here","_law_one","_law_found","_law_small","_law_row","_law_many","_law_cell"] ["_law_script"] (aj lD):=⟨rfl,rfl,rfl,by decide +kernel,rfl,by decide +kernel,by decide +kernel⟩
theorem bk_law_0 : BlkScope ["_law_script","_law_spread_here","_law_machine_here","_law_one","_law_found","_law_small","_law_row","_law_many","_law_cell"] (aj lD) ["_law_k","_law_machine_here","_law_spread_here"] [none,some 2,some 1] { kind:=ScopeKind.function,names:=[(".0",NameKind.local),("_law_k",NameKind.local),("_law_draw",NameKind.globalImplicit),("_law_machine_here",NameKind.free),("_law_spread_here",NameKind.free)],isGenerator:=false,isCoroutine:=false,more:=[] }:=⟨rfl,by decide +kernel,by decide +kernel,by decide +kernel,by decide +kernel,rfl,by decide +kernel⟩
theorem Gr (F : FunD K "law" "law" lD dV f fd) (h6 : DefOk P w K mg base "_law_spread" 2 ["_law_script"] [] (tJ K)) (gy : DefOk P w K mg base "_law_machine" 3 ["_law_spread_here","_law_at","_law_most","_law_widest"] [] (pU K)) (aE : DefOk P w K mg base "_law_draw" 1 ["_law_spread_here","_law_k"] [] (pT K))
  (jK : DefOk P w K mg base "_law_late" 1 ["_law_many","_law_one","_law_other"] [] Af) (jM : DefOk P w K mg base "turned" 6 ["machine","most"] [] (tM K)) (iY : DefOk P w K mg base "least" 5 ["machine"] [] (rC K)) (cS : DefOk P w K mg base "_law_backwards" 3 ["_law_machine_here","_law_found","_law_row"] [] (xj K))
  (jL : DefOk P w K mg base "sign_down" 5 ["machine","number"] [] (pW K List.reverse)) (oy : DefOk P w K mg base "sign_at" 5 ["machine","number"] [] (pW K id)) (aS : mg "range" = none) (tU : mg "min" = none) (bB : mg "len" = none) : FnOk P w K mg base CX0 7 f fd ["_law_script"] (A0 K):=by
 refine F.ok sc_law (fun vs H Q E h => ?_) (fun cdv A outer s H vs Q E hr h => ?_)
 ·obtain ⟨a,ns,rfl,_⟩:=h
  rfl
 obtain ⟨a,ns,rfl,hS,h63,k⟩:=h
 have hu3:=Ga hr
 refine yS (bF (PSW.mk (ax (i:=1) sc_law.nd rfl (Or.inr rfl) (aV h6 hr (aa (pv 0) af))))
   (bF (PSW.mk (ax (i:=2) sc_law.nd rfl (Or.inr rfl) (aV gy hr (aa (pv 1) (aa aq (aa aq (aa aq af)))))))
   (bF (PSW.mk (cL (a8 fj (az bw (aV aE hr (aa (pv 1) (aa aq af))) aq) aq (bh _)) (ah (ax (i:=3) sc_law.nd rfl (Or.inl rfl) (az bw (aV aE hr (aa (pv 1) (aa aq af))) aq))
   (au (ax (i:=2) sc_law.nd rfl (Or.inr rfl) (aV jK hr (aa (az aY aq (az bw (aV aE hr (aa (pv 1) (aa aq af))) aq)) (aa (az aY (pv 3) aq) (aa (pv 3) af))))))) bx))
   (bF (PSW.mk (ax (i:=4) sc_law.nd rfl (Or.inl rfl) (aV jM hr (aa (pv 2) (aa aq af)))))
   (bF (PSW.mk (ax (i:=5) sc_law.nd rfl (Or.inl rfl) (aV iY hr (aa (pv 2) af))))
   (bF (PSW.mk (cL (PW.pt (AX (a8 ((zP 2 hu3)) (aV jM hr (aa (pv 4) (aa aq af))) (pv 5) (bh _)) (AX (a8 ((zP 2 hu3)) (aV jM hr (aa (pv 5) (aa aq af))) (pv 4) (bh _)) (z5 (a8 ((zP 2 hu3)) (aV iY hr (aa (pv 4) af)) (pv 4) (bh _)))))) (au (aM jJ)) bx))
   (bF (PSW.mk (e6 (i:=6) rfl sc_law.nd rfl (Or.inl rfl) bk_law_0 (bQ rfl aS (aa (aR (oO rfl) (by rfl) tU yT (aa (aR aU (by rfl) bB cw (aa (aW b9 (pv 1) aq (fun _ _ => rfl)) af)) (aa aq af))) af)) (fun _ _ _ _ => (ay (i:=0) bk_law_0.nd rfl (Or.inl rfl))) (fun _ _ _ _ => (az bw (az rh (aV aE hr (aa (pv 2) (aa (pv 0) af))) aq) (aW (nk K) (pv 1) aq (fun _ _ => rfl))))))
   (bF (PSW.mk (bN PassesOwn.never rfl (bQ rfl aS (aa (aR (oO rfl) (by rfl) tU yT (aa (aR aU (by rfl) bB cw (aa (pv 6) af)) (aa aq af))) af)) (ay (i:=7) sc_law.nd rfl (Or.inl rfl)) (au (cL (wZ (w4 (aV cS hr (aa (pv 2) (aa (pv 4) (aa (sU Ee (pv 6) nW (rA (pv 7))) af)))))) (au (aM jJ)) bx))))
   (bF (PSW.mk (cL (wZ (w4 (aV cS hr (aa (pv 2) (aa (pv 4) (aa (pv 6) af)))))) (au (aM jJ)) bx))
   (bF (PSW.mk (cL (a8 FK (aW bA (pv 2) aq (fun _ _ => rfl)) aq (bh _)) (au (bN PassesOwn.never rfl (cb (sU Ee (aW b9 (pv 1) aq (fun _ _ => rfl)) nW (rA aq))) (ay (i:=8) sc_law.nd rfl (Or.inl rfl)) (au (cL (a8 Hj (aV jL hr (aa (pv 4) (aa (az bw (pv 8) (az Dy aq aq)) af))) (aV oy hr (aa (pv 2) (aa (az bw (pv 8) (az Dy aq aq)) af))) (bh _)) (au (aM jJ)) bx)))) bx))
   (Ar (PSW.mk (aM jJ))))))))))))) ?_
 refine ⟨_,rfl,a,ns,rfl,hS,h63,fun sp H1 xs s1 SP lx => ?_⟩
 refine ⟨_,rfl,sp,3,5,3,xs,rfl,SP,lx,⟨by decide,by decide⟩,⟨by decide,by decide⟩,⟨by decide,by decide⟩,fun m0 r0 g0 H2 many0 wide0 rows0 signs0 s2 M0 R0 ls0 hcs mn0 mx0 wn0 wx0 => ?_⟩
 try dsimp only [bt,eG,List.set]
 refine dX (t:=Aj _ _ _) (fun σ' H' => ∃ (m r g : Addr) (wide : Nat) (rows : LL) (signs : LI) (v3 : OV),σ' = [some (.ref a),some (.ref sp),some (.ref m),v3,none,none,none,none,none] /\ Same H2 H' /\ MachAt H' m r g wide rows signs /\ RowsOk rows.length wide rows /\ signs.length = rows.length /\ (1 <= rows.length /\ rows.length <= 10) /\ (1 <= wide /\ wide <= 3) /\ FewV wide rows signs 300) ?_ (fun D' nxt => ?_)
 rotate_left
 ·refine ⟨_,rfl,sp,0,xs,rfl,SP.same s2,lx,by decide,by decide,fun v0 _ _ => ⟨_,_,rfl,rfl,(by show (0 : Int) < 8; decide),rfl,_,rfl,l6 (fun c => ?_) (fun c => ?_)⟩⟩
  ·refine ⟨_,rfl,sp,2,xs,rfl,SP.same s2,lx,by decide,by decide,fun v2 _ _ => ⟨_,_,rfl,rfl,(by show (0 : Int) < 999999; decide),?_⟩⟩
   refine ⟨_,rfl,sp,1,xs,rfl,SP.same s2,lx,by decide,by decide,fun v1 _ _ => ⟨_,_,rfl,rfl,(by show (0 : Int) < 7; decide),_,_,rfl,rfl,?_⟩⟩
   have d1:=cj (a:=v1) (b:=7) (by decide)
   obtain ⟨many,em⟩:=gU (x:=1 + v1 % 7) (by omega)
   have h1 : 1 <= many:=by omega
   have h7 : many <= 7:=by omega
   refine ⟨_,rfl,_,_,rfl,rfl,_,rfl,many,_,_,by show [V.int (1 + v1 % 7),_,_] = _; rw [em],⟨h1,by omega⟩,fun m r g H3 s3 M3 => ?_⟩
   have R:=x9 h1
   have ll:=gp h1
   obtain ⟨vs,e1,e2⟩:=C3 (one:=v2 % 999999 + 1) (other:=v2 % 999999) h1
   refine nxt _ _ ⟨m,r,g,2,fV many,_,_,rfl,s3,M3,by rw [ll]; exact R,by rw [vo,ll],by rw [ll]; omega,by decide,vs,Nat.le_trans e1 (Nat.le_trans (Nat.pow_le_pow_right (by decide) h7) (by decide)),e2⟩
  ·obtain ⟨cs,lc,hc⟩:=hcs
   have er:=R0.len
   subst er
   obtain ⟨vs,e1,e2⟩:=FewV.gen R0 ls0 hc
   rw [lc] at e1
   exact nxt _ _ ⟨m0,r0,g0,wide0,rows0,signs0,none,rfl,Same.refl _,M0,R0,ls0,by omega,by omega,vs,Nat.le_trans e1 (Nat.le_trans (Nat.pow_le_pow_right (by decide) (show rows0.length <= 5 by omega)) (by decide)),e2⟩
 rintro σ' H3 ⟨m,r,g,wide,rows,signs,v3,rfl,s3,M,R,ls,⟨n0,n1⟩,⟨w0,w1⟩,FV⟩
 have SP3:=SP.same (s2.trans s3)
 refine ⟨_,rfl,m,r,g,rows.length,wide,300,rows,signs,rfl,M,R,ls,⟨n0,by omega⟩,by omega,⟨by decide,by decide⟩,(fun rows' signs' LO ps nd re => CL R n0 ls LO.ok LO.ord LO.sgn LO.tells FV nd re),fun mF rF gF rowsF signsF H4 s4 MF TF lF => ?_⟩
 have p4 : ∀ b xs,H3 b = some (.tup xs) -> H4 b = some (.tup xs):=fun b xs e => s4 _ _ e
 refine ⟨_,rfl,m,r,g,rows.length,wide,rows,signs,rfl,M.same p4,R,ls,⟨n0,by omega⟩,by omega,fun mS rS gS rowsS signsS H5 s5 MS LS => ?_⟩
 have MF5:=MF.same fun b xs e => s5 _ _ e
 have lS:=LS.few R n0
 refine ⟨_,rfl,mF,rF,gF,rowsF.length,wide,300,rowsF,signsF,rfl,MF5,TF.ok,TF.sgn,⟨TF.pos,by omega⟩,by omega,⟨by decide,by decide⟩,(fun rows' signs' LO ps nd re => Nat.le_trans (twice_few R n0 TF LO nd re) (by omega)),fun mG rG gG rowsG signsG H6 s6 MG TG lG => ?_⟩
 obtain ⟨eg1,eg2⟩:=LeastOf.one (TF.twice TG) LS (fun _ _ => rfl)
 rw [eg1,eg2] at MG
 have MS6:=MS.same fun b xs e => s6 _ _ e
 refine ⟨_,rfl,mG,mS,_,_,rfl,rfl,qT_ MG.tup,qT_ MS6.tup,MachAt.eqD MG MS6,_,rfl,j9 ?_⟩
 refine ⟨_,rfl,mS,rS,gS,rowsS.length,wide,300,rowsS,signsS,rfl,MS6,LS.ok,LS.sgn,⟨LS.pos,by omega⟩,by omega,⟨by decide,by decide⟩,(fun rows' signs' LO ps nd re => CL R n0 ls LO.ok LO.ord LO.sgn (LS.tells.trans LO.tells) FV nd re),fun mI rI gI rowsI signsI H7 s7 MI TI lI => ?_⟩
 obtain ⟨ei1,ei2⟩:=LeastOf.one (TF.least LS TI) TF.self (fun _ _ => rfl)
 rw [ei1,ei2] at MI
 have MF7:=MF5.same fun b xs e => s7 _ _ (s6 _ _ e)
 refine ⟨_,rfl,mI,mF,_,_,rfl,rfl,qT_ MI.tup,qT_ MF7.tup,MachAt.eqD MI MF7,_,rfl,j9 ?_⟩
 refine ⟨_,rfl,mF,rF,gF,rowsF.length,wide,rowsF,signsF,rfl,MF7,TF.ok,TF.sgn,⟨TF.pos,by omega⟩,by omega,fun mJ rJ gJ rowsJ signsJ H8 s8 MJ LJ => ?_⟩
 obtain ⟨ej1,ej2⟩:=LeastOf.one LJ TF.self (fun _ _ => rfl)
 rw [ej1,ej2] at MJ
 have MF8:=MF7.same fun b xs e => s8 _ _ e
 refine ⟨_,rfl,mJ,mF,_,_,rfl,rfl,qT_ MJ.tup,qT_ MF8.tup,MachAt.eqD MJ MF8,_,rfl,j9 ?_⟩
 have s38:=s4.trans (s5.trans (s6.trans (s7.trans s8)))
 have M8:=M.same fun b xs e => s38 _ _ e
 have SP8:=SP3.same s38
 obtain ⟨l,t,ts,ha8,hl8,hxs,ht8,lt⟩:=SP8
 have e300 : ∀ (n : Nat) (b : Int),0 <= b -> b <= 300 -> (0 <= (if b < (n : Int) then b else (n : Int)) /\ (if b < (n : Int) then b else (n : Int)) <= 300) /\ (if b < (n : Int) then b else (n : Int)) <= (n : Int):=fun n b b0 b1 => by split <;> omega
 have q1:=e300 (ts.map V.int).length 300 (by decide) (by decide)
 refine ⟨_,rfl,sp,_,_,_,rfl,rfl,qL_ ha8,rfl,t,_,rfl,.inl ht8,_,_,rfl,_,rfl,by omega,by omega,?_⟩
 refine cO (fun D i ys H' => Same H8 H' /\ ∃ rw' : LI,ys = rw'.map V.int /\ rw'.length = i /\ InF wide rw') (fun D hD => ⟨ak hD _,[],rfl,rfl,fun z h => by cases h⟩) ?_ ?_
 ·rintro D i ys H9 Q' hD hi hy ⟨s9,rw',rfl,lr,inr⟩ k'
  refine ⟨_,rfl,_,rfl,sp,_,xs,rfl,SP3.same (s38.trans s9),lx,by omega,by omega,fun v v0 v1 => ⟨_,_,rfl,rfl,⟨by decide,by decide⟩,_,rfl,m,_,_,_,rfl,rfl,qT_ (s9 _ _ M8.tup),rfl,_,_,rfl,rfl,by omega,k' _ _ hy (aw (by rw [lm_]; omega)) ⟨av s9 hD,rw' ++ [v / 1009 % (wide : Int)],by rw [List.map_append]; rfl,by rw [List.length_append,lr]; rfl,fun z hz => ?_⟩⟩⟩
  rcases ma_.mp hz with y | y
  ·exact inr z y
  ·rw [List.mem_singleton.mp y]
   exact cj (by omega)
 rintro W ys H9 hW0 hW ⟨s9,rw',rfl,lr,inr⟩
 have lr3 : rw'.length <= 300:=by omega
 have M9:=M8.same fun b xs e => s9 _ _ e
 have MF9:=MF8.same fun b xs e => s9 _ _ e
 try dsimp only [bt,eG,List.set]
 refine dX (t:=tN _ _ _) (fun σ' H' => ∃ v7 : OV,σ' = [some (.ref a),some (.ref sp),some (.ref m),v3,some (.ref mF),some (.ref mS),some (.ref W),v7,none] /\ Same H9 H') ?_ (fun D' nxt => ?_)
 rotate_left
 ·have q2:=e300 (rw'.map V.int).length 40 (by decide) (by decide)
  refine ⟨_,rfl,W,_,rfl,.inl (qL_ hW),_,_,rfl,_,rfl,by omega,by omega,gn (fun i σ' H' => ∃ v7 : OV,σ' = [some (.ref a),some (.ref sp),some (.ref m),v3,some (.ref mF),some (.ref mS),some (.ref W),v7,none] /\ Same H9 H') ⟨none,rfl,Same.refl _⟩ ?_ (fun σ' H' h => nxt _ _ h)⟩
  rintro i σ' Ha hi ⟨v7,rfl,sa⟩
  refine ⟨_,rfl,_,rfl,_,rfl,_,rfl,_,rfl,W,_,rfl,.inl ⟨qL_ (sa _ _ hW),fun p hp => ?_⟩⟩
  have ec : jY (rw'.map V.int) none (some (0 + (i : Int))) = (rw'.take i).map V.int:=by rw [Int.zero_add]; exact vd
  rw [ec]
  have sb:=ak hp (HO.lst ((rw'.take i).map V.int))
  refine ⟨m,r,g,mF,rF,gF,p,rows.length,wide,rows,rowsF,signs,signsF,rw'.take i,rfl,M9.same (fun b xs e => sb _ _ (sa _ _ e)),R,ls,n0,MF9.same (fun b xs e => sb _ _ (sa _ _ e)),TF,ab,by rw [List.length_take]; omega,(fun z hz => inr z (List.mem_of_mem_take hz)),fun Hb sc => ⟨_,rfl,j9 ?_⟩⟩
  exact ⟨_,rfl,sa.trans (sb.trans sc)⟩
 rintro σ' Ha ⟨v7,rfl,sa⟩
 have Ma:=M9.same fun b xs e => sa _ _ e
 have MFa:=MF9.same fun b xs e => sa _ _ e
 refine ⟨_,rfl,_,rfl,_,rfl,m,r,g,mF,rF,gF,W,rows.length,wide,rows,rowsF,signs,signsF,rw',rfl,Ma,R,ls,n0,MFa,TF,sa _ _ hW,by omega,inr,fun Hb sb => ⟨_,rfl,j9 ?_⟩⟩
 have Mb:=Ma.same fun b xs e => sb _ _ e
 have MFb:=MFa.same fun b xs e => sb _ _ e
 have s8b:=s9.trans (sa.trans sb)
 try dsimp only [bt,eG,List.set]
 refine dX (t:=Aj _ _ _) (fun σ' H' => True) (fun _ _ _ => k _) (fun D' nxt => ?_)
 refine ⟨_,rfl,m,_,_,_,rfl,rfl,qT_ Mb.tup,rfl,_,_,rfl,rfl,_,rfl,um (fun c => ?_) (fun _ => nxt _ _ trivial)⟩
 refine ⟨_,rfl,sp,_,_,_,rfl,rfl,qL_ (s8b _ _ ha8),rfl,_,rfl,t,_,rfl,.inl ⟨s8b.seq ht8,fun p hp => ?_⟩⟩
 have e8 : jY (ts.map V.int) none (some 8) = (ts.take 8).map V.int:=vd (c:=8)
 rw [e8]
 have sp' := ak hp (HO.lst ((ts.take 8).map V.int))
 refine ⟨p,rfl,⟨_,qL_ ab⟩,cP (K:=K) (xs:=(ts.take 8).map V.int) (fun i σ' H' => ∃ v8 : OV,σ' = [some (.ref a),some (.ref sp),some (.ref m),v3,some (.ref mF),some (.ref mS),some (.ref W),v7,v8] /\ Same (upd Hb p (HO.lst ((ts.take 8).map V.int))) H') ⟨none,rfl,Same.refl _⟩ (fun i σ' H' _ ⟨_,_,e⟩ => qL_ (e _ _ ab)) ?_ (fun _ _ _ => nxt _ _ trivial)⟩
 rintro i y σ' Hc hi ⟨v8,rfl,sc⟩
 obtain ⟨z,rfl,hz⟩:=br hi
 have rm:=cj (a:=z) (b:=10 ^ 60) (by decide)
 have nb:=GR
 have hn : 0 <= z % 10 ^ 60 /\ z % 10 ^ 60 < NB:=⟨rm.1,by omega⟩
 have hw : 2 <= (wide : Int) /\ (wide : Int) < NB:=⟨by omega,by omega⟩
 have sbc:=sp'.trans sc
 refine ⟨_,rfl,_,rfl,_,_,rfl,rfl,⟨by decide,by decide,by decide⟩,_,_,rfl,rfl,(by show (0 : Int) < 10 ^ 60; decide),mF,rF,gF,_,rowsF.length,wide,rowsF,signsF,rfl,MFb.same (fun b xs e => sbc _ _ e),TF.ok,TF.sgn,TF.pos,hn,hw,fun Hd ds sd Fd => ?_⟩
 refine ⟨_,rfl,_,rfl,_,_,rfl,rfl,⟨by decide,by decide,by decide⟩,_,_,rfl,rfl,(by show (0 : Int) < 10 ^ 60; decide),m,r,g,_,rows.length,wide,rows,signs,rfl,Mb.same (fun b xs e => sd _ _ (sbc _ _ e)),R,ls,n0,hn,hw,fun He es se Fe => ?_⟩
 have ee:=xT hw.1 Fd Fe
 subst ee
 have inf : InF wide ds:=Fd.inb
 have eq:=TF.turned ds.reverse inf.rev
 rw [List.reverse_reverse] at eq
 unfold sgn at eq
 exact ⟨rfl,_,rfl,CS (fun z => absurd (congrArg V.int eq.symm) z) (fun _ => ⟨_,rfl,sc.trans (sd.trans se)⟩)⟩
end
@[elab_as_elim] theorem px {motive : List Value -> Prop} {us : List Value} (hl : us.length = 1) (h : ∀ a0,motive [a0]) : motive us:=match us,hl with | [a0],_ => h _
@[elab_as_elim] theorem kg {motive : List Value -> Prop} {us : List Value} (hl : us.length = 2) (h : ∀ a0 a1,motive [a0,a1]) : motive us:=match us,hl with | [a0,a1],_ => h _ _
@[elab_as_elim] theorem yb {motive : List Value -> Prop} {us : List Value} (hl : us.length = 3) (h : ∀ a0 a1 a2,motive [a0,a1,a2]) : motive us:=match us,hl with | [a0,a1,a2],_ => h _ _ _
@[elab_as_elim] theorem Hh {motive : List Value -> Prop} {us : List Value} (hl : us.length = 4) (h : ∀ a0 a1 a2 a3,motive [a0,a1,a2,a3]) : motive us:=match us,hl with | [a0,a1,a2,a3],_ => h _ _ _ _
@[elab_as_elim] theorem HS {motive : List Value -> Prop} {us : List Value} (hl : us.length = 5) (h : ∀ a0 a1 a2 a3 a4,motive [a0,a1,a2,a3,a4]) : motive us:=match us,hl with | [a0,a1,a2,a3,a4],_ => h _ _ _ _ _
@[elab_as_elim] theorem Ik {motive : List Value -> Prop} {us : List Value} (hl : us.length = 6) (h : ∀ a0 a1 a2 a3 a4 a5,motive [a0,a1,a2,a3,a4,a5]) : motive us:=match us,hl with | [a0,a1,a2,a3,a4,a5],_ => h _ _ _ _ _ _
@[elab_as_elim] theorem Il {motive : List Value -> Prop} {us : List Value} (hl : us.length = 7) (h : ∀ a0 a1 a2 a3 a4 a5 a6,motive [a0,a1,a2,a3,a4,a5,a6]) : motive us:=match us,hl with | [a0,a1,a2,a3,a4,a5,a6],_ => h _ _ _ _ _ _ _
theorem all_mk {l : PySem.W.OpenLaw} {w : World} {K : PySem.W.Frag} {h : Heap} {mg : Str -> Option Value} {fa : Addr} (X : K.In h) (G : h.Ns mainGlobals mg) (hfa : mg "law" = some (.ref fa))
  {l4 fH jm sk oZ zf zg o4 j5 fI jn jk oY b8 cU cI bL cy cV d4 wb bV dj dZ dY wa so jg ie jZ ji jh gN j4 eT CK : Addr} {ym xH pE oG uK tZ BP Ba zG yQ EW Eu EX Ew zH yR wQ vN pF oH uL t7 uJ tY zF yP mh lO nK mM mi lP iJ iq kR kH nM mN mj lQ Di Cr kS kI pD oE qN qr qM qq Dh Cp BQ Bb uG tV sS rP wN vL uI tX uH tW qO qt wO vM nN mO Gq Cq : Option Addr} {yF pR uX Cc Ab Fu Fv Ac xg pS uY uW Aa mB oh mC iQ kX oj mD Ed kY pQ qV qU Ec Cd uT tu xc uV uU qW xf oo GG : Array (Option Value)} {yl xY xQ yr p6 xP pB pb oV pI iy oS uE uv ui uQ k9 uc BN BC Bl B6 u6 Bg zD zo zb zX rY y6 EU EK ED Fj Ay EA EV EL EE Fl Az EB zE zp zc zY rZ y7 wM wq vZ wY mW vV pC pd oW pJ iz oT uF uw uj uR lh ud uD uu uh uP k8 ub zC zk y9 zW rX y4 md l7 lY mv gH lV nH nv m5 nS gZ mY me l8 lZ mw gK lW iI iG iB iK dG iA kP kN kL kT fT kJ nI ny m6 nU g4 mZ mf l9 l0 mx gL lX Dg CW CF DU xK CA kQ kO kM kU fU kK pA o8 oU pH ir oQ qK qE qz qQ jG qw qJ qD qy qP jF qv Df CU CC DS xJ Cy BO BD Bm B7 u7 Bh uA uo ue uM k3 t8 sQ sx r9 sW jW r8 wK wm vX wW mU vT uC ur ug uO k7 ua uB uq uf uN k6 t9 qL qF qA qR jH qx wL wo vY wX mV vU nJ nz m7 nV g5 m3 Gp CV CD DT yY Cz : Value}
  (lN : PySem.W.nsIn K mainGlobals "is_whole" = some (some (.ref l4))) (ma : K.lookup l4 = some ⟨yl,ym,.func (PySem.W.fnOf "is_whole" "is_whole" (aC e7) (aB e7) (aj e7) .none xY xQ yr xH p6 xP),yF⟩) (lR : PySem.W.codeIn K p6 "is_whole" = true) (jo : PySem.W.keepIn K (.ref l4) = true)
  (fx : PySem.W.nsIn K mainGlobals "is_whole_from" = some (some (.ref fH))) (fO : K.lookup fH = some ⟨pB,pE,.func (PySem.W.fnOf "is_whole_from" "is_whole_from" (aC b4) (aB b4) (aj b4) .none pb oV pI oG iy oS),pR⟩) (fA : PySem.W.codeIn K iy "is_whole_from" = true) (dm : PySem.W.keepIn K (.ref fH) = true)
  (i6 : PySem.W.nsIn K mainGlobals "need_whole" = some (some (.ref jm))) (jy : K.lookup jm = some ⟨uE,uK,.func (PySem.W.fnOf "need_whole" "need_whole" (aC c9) (aB c9) (aj c9) .none uv ui uQ tZ k9 uc),uX⟩) (jd : PySem.W.codeIn K k9 "need_whole" = true) (gd : PySem.W.keepIn K (.ref jm) = true)
  (rN : PySem.W.nsIn K mainGlobals "halved" = some (some (.ref sk))) (sH : K.lookup sk = some ⟨BN,BP,.func (PySem.W.fnOf "halved" "halved" (aC iO) (aB iO) (aj iO) .none BC Bl B6 Ba u6 Bg),Cc⟩) (rR : PySem.W.codeIn K u6 "halved" = true) (nA : PySem.W.keepIn K (.ref sk) = true)
  {T_figures tn_figures : Nat} {tc_figures : Value} {td_figures : Option Addr} {tsl_figures : Array (Option Value)} {tk0_figures : Tok}
  (oB : PySem.W.nsIn K mainGlobals "figures" = some (some (.ref oZ))) (pj : K.lookup oZ = some ⟨zD,zG,.func (PySem.W.fnOf "figures" "figures" (aC gw) (aB gw) (aj gw) (.ref T_figures) zo zb zX yQ rY y6),Ab⟩) (oK : PySem.W.codeIn K rY "figures" = true) (ky : PySem.W.keepIn K (.ref oZ) = true)
  (kF : K.lookup T_figures = some ⟨tc_figures,td_figures,.seq #[Value.int 10 tk0_figures] tn_figures,tsl_figures⟩)
  {T_room tn_room : Nat} {tc_room : Value} {td_room : Option Addr} {tsl_room : Array (Option Value)} {tk0_room : Tok}
  (yM : PySem.W.nsIn K mainGlobals "room" = some (some (.ref zf))) (zq : K.lookup zf = some ⟨EU,EW,.func (PySem.W.fnOf "room" "room" (aC pM) (aB pM) (aj pM) (.ref T_room) EK ED Fj Eu Ay EA),Fu⟩) (yU : PySem.W.codeIn K Ay "room" = true) (wu : PySem.W.keepIn K (.ref zf) = true)
  (xy : K.lookup T_room = some ⟨tc_room,td_room,.seq #[Value.int 0 tk0_room] tn_room,tsl_room⟩)
  (yN : PySem.W.nsIn K mainGlobals "told" = some (some (.ref zg))) (zr : K.lookup zg = some ⟨EV,EX,.func (PySem.W.fnOf "told" "told" (aC pN) (aB pN) (aj pN) .none EL EE Fl Ew Az EB),Fv⟩) (yV : PySem.W.codeIn K Az "told" = true) (wx : PySem.W.keepIn K (.ref zg) = true)
  (oC : PySem.W.nsIn K mainGlobals "sign_at" = some (some (.ref o4))) (pq : K.lookup o4 = some ⟨zE,zH,.func (PySem.W.fnOf "sign_at" "sign_at" (aC gx) (aB gx) (aj gx) .none zp zc zY yR rZ y7),Ac⟩) (oM : PySem.W.codeIn K rZ "sign_at" = true) (kA : PySem.W.keepIn K (.ref o4) = true)
  (jP : PySem.W.nsIn K mainGlobals "sign_down" = some (some (.ref j5))) (kf : K.lookup j5 = some ⟨wM,wQ,.func (PySem.W.fnOf "sign_down" "sign_down" (aC dJ) (aB dJ) (aj dJ) .none wq vZ wY vN mW vV),xg⟩) (jT : PySem.W.codeIn K mW "sign_down" = true) (hJ : PySem.W.keepIn K (.ref j5) = true)
  {T_reached_rooms tn_reached_rooms : Nat} {tc_reached_rooms : Value} {td_reached_rooms : Option Addr} {tsl_reached_rooms : Array (Option Value)} {tk0_reached_rooms : Tok}
  (fy : PySem.W.nsIn K mainGlobals "reached_rooms" = some (some (.ref fI))) (fP : K.lookup fI = some ⟨pC,pF,.func (PySem.W.fnOf "reached_rooms" "reached_rooms" (aC b7) (aB b7) (aj b7) (.ref T_reached_rooms) pd oW pJ oH iz oT),pS⟩) (fG : PySem.W.codeIn K iz "reached_rooms" = true) (dq : PySem.W.keepIn K (.ref fI) = true)
  (dr : K.lookup T_reached_rooms = some ⟨tc_reached_rooms,td_reached_rooms,.seq #[Value.int 0 tk0_reached_rooms] tn_reached_rooms,tsl_reached_rooms⟩)
  (i7 : PySem.W.nsIn K mainGlobals "with_rooms" = some (some (.ref jn))) (jz : K.lookup jn = some ⟨uF,uL,.func (PySem.W.fnOf "with_rooms" "with_rooms" (aC bD) (aB bD) (aj bD) .none uw uj uR t7 lh ud),uY⟩) (je : PySem.W.codeIn K lh "with_rooms" = true) (gf : PySem.W.keepIn K (.ref jn) = true)
  (i5 : PySem.W.nsIn K mainGlobals "columns_of" = some (some (.ref jk))) (jx : K.lookup jk = some ⟨uD,uJ,.func (PySem.W.fnOf "columns_of" "columns_of" (aC cE) (aB cE) (aj cE) .none uu uh uP tY k8 ub),uW⟩) (jc : PySem.W.codeIn K k8 "columns_of" = true) (gc : PySem.W.keepIn K (.ref jk) = true)
  (oA : PySem.W.nsIn K mainGlobals "back_of" = some (some (.ref oY))) (pf : K.lookup oY = some ⟨zC,zF,.func (PySem.W.fnOf "back_of" "back_of" (aC gu) (aB gu) (aj gu) .none zk y9 zW yP rX y4),Aa⟩) (oJ : PySem.W.codeIn K rX "back_of" = true) (kx : PySem.W.keepIn K (.ref oY) = true)
  (dR : PySem.W.nsIn K mainGlobals "unparted_groups" = some (some (.ref d4))) (eB : K.lookup d4 = some ⟨mf,mj,.func (PySem.W.fnOf "unparted_groups" "unparted_groups" (aC bg) (aB bg) (aj bg) .none l9 l0 mx lQ gL lX),mD⟩) (dW : PySem.W.codeIn K gL "unparted_groups" = true) (cK : PySem.W.keepIn K (.ref d4) = true)
  (vK : PySem.W.nsIn K mainGlobals "least" = some (some (.ref wb))) (wB : K.lookup wb = some ⟨Dg,Di,.func (PySem.W.fnOf "least" "least" (aC hX) (aB hX) (aj hX) .none CW CF DU Cr xK CA),Ed⟩) (vP : PySem.W.codeIn K xK "least" = true) (q8 : PySem.W.keepIn K (.ref wb) = true)
  {T_grown tn_grown : Nat} {tc_grown : Value} {td_grown : Option Addr} {tsl_grown : Array (Option Value)} {tk0_grown : Tok}
  (vJ : PySem.W.nsIn K mainGlobals "grown" = some (some (.ref wa))) (wA : K.lookup wa = some ⟨Df,Dh,.func (PySem.W.fnOf "grown" "grown" (aC jD) (aB jD) (aj jD) (.ref T_grown) CU CC DS Cp xJ Cy),Ec⟩) (vO : PySem.W.codeIn K xJ "grown" = true) (q5 : PySem.W.keepIn K (.ref wa) = true)
  (rE : K.lookup T_grown = some ⟨tc_grown,td_grown,.seq #[Value.int 200 tk0_grown] tn_grown,tsl_grown⟩)
  {T_turned tn_turned : Nat} {tc_turned : Value} {td_turned : Option Addr} {tsl_turned : Array (Option Value)} {tk0_turned : Tok}
  (rO : PySem.W.nsIn K mainGlobals "turned" = some (some (.ref so))) (sI : K.lookup so = some ⟨BO,BQ,.func (PySem.W.fnOf "turned" "turned" (aC iP) (aB iP) (aj iP) (.ref T_turned) BD Bm B7 Bb u7 Bh),Cd⟩) (rT : PySem.W.codeIn K u7 "turned" = true) (nB : PySem.W.keepIn K (.ref so) = true)
  (ou : K.lookup T_turned = some ⟨tc_turned,td_turned,.seq #[Value.int 200 tk0_turned] tn_turned,tsl_turned⟩)
  (iZ : PySem.W.nsIn K mainGlobals "_law_mixed" = some (some (.ref jg))) (jt : K.lookup jg = some ⟨uA,uG,.func (PySem.W.fnOf "_law_mixed" "_law_mixed" (aC cZ) (aB cZ) (aj cZ) .none uo ue uM tV k3 t8),uT⟩) (i8 : PySem.W.codeIn K k3 "_law_mixed" = true) (fZ : PySem.W.keepIn K (.ref jg) = true)
  (h9 : PySem.W.nsIn K mainGlobals "_law_spread" = some (some (.ref ie))) (ig : K.lookup ie = some ⟨sQ,sS,.func (PySem.W.fnOf "_law_spread" "_law_spread" (aC cc) (aB cc) (aj cc) .none sx r9 sW rP jW r8),tu⟩) (ic : PySem.W.codeIn K jW "_law_spread" = true) (fc : PySem.W.keepIn K (.ref ie) = true)
  (jN : PySem.W.nsIn K mainGlobals "_law_draw" = some (some (.ref jZ))) (kd : K.lookup jZ = some ⟨wK,wN,.func (PySem.W.fnOf "_law_draw" "_law_draw" (aC dI) (aB dI) (aj dI) .none wm vX wW vL mU vT),xc⟩) (jR : PySem.W.codeIn K mU "_law_draw" = true) (g8 : PySem.W.keepIn K (.ref jZ) = true)
  (i4 : PySem.W.nsIn K mainGlobals "_law_there" = some (some (.ref ji))) (jv : K.lookup ji = some ⟨uC,uI,.func (PySem.W.fnOf "_law_there" "_law_there" (aC c8) (aB c8) (aj c8) .none ur ug uO tX k7 ua),uV⟩) (jb : PySem.W.codeIn K k7 "_law_there" = true) (f9 : PySem.W.keepIn K (.ref ji) = true)
  (i0 : PySem.W.nsIn K mainGlobals "_law_signs" = some (some (.ref jh))) (ju : K.lookup jh = some ⟨uB,uH,.func (PySem.W.fnOf "_law_signs" "_law_signs" (aC cD) (aB cD) (aj cD) .none uq uf uN tW k6 t9),uU⟩) (i9 : PySem.W.codeIn K k6 "_law_signs" = true) (f7 : PySem.W.keepIn K (.ref jh) = true)
  (gB : PySem.W.nsIn K mainGlobals "_law_machine" = some (some (.ref gN))) (gR : K.lookup gN = some ⟨qL,qO,.func (PySem.W.fnOf "_law_machine" "_law_machine" (aC bX) (aB bX) (aj bX) .none qF qA qR qt jH qx),qW⟩) (gE : PySem.W.codeIn K jH "_law_machine" = true) (ed : PySem.W.keepIn K (.ref gN) = true)
  (jO : PySem.W.nsIn K mainGlobals "_law_late" = some (some (.ref j4))) (ke : K.lookup j4 = some ⟨wL,wO,.func (PySem.W.fnOf "_law_late" "_law_late" (aC cu) (aB cu) (aj cu) .none wo vY wX vM mV vU),xf⟩) (jS : PySem.W.codeIn K mV "_law_late" = true) (g9 : PySem.W.keepIn K (.ref j4) = true)
  (eL : PySem.W.nsIn K mainGlobals "_law_backwards" = some (some (.ref eT))) (eX : K.lookup eT = some ⟨nJ,nN,.func (PySem.W.fnOf "_law_backwards" "_law_backwards" (aC bT) (aB bT) (aj bT) .none nz m7 nV mO g5 m3),oo⟩) (eO : PySem.W.codeIn K g5 "_law_backwards" = true) (cY : PySem.W.keepIn K (.ref eT) = true)
  (Aw : PySem.W.nsIn K mainGlobals "law" = some (some (.ref CK))) (C1 : K.lookup CK = some ⟨Gp,Gq,.func (PySem.W.fnOf "law" "law" (aC lD) (aB lD) (aj lD) .none CV CD DT Cq yY Cz),GG⟩) (Cu : PySem.W.codeIn K yY "law" = true) (CY : PySem.W.keepIn K (.ref CK) = true)
  (En : PySem.W.nsIn K mainGlobals "len" = some none)
  (xE : PySem.W.nsIn K mainGlobals "range" = some none)
  (Au : PySem.W.nsIn K mainGlobals "list" = some none)
  (xF : PySem.W.nsIn K mainGlobals "tuple" = some none)
  (As : PySem.W.nsIn K mainGlobals "dict" = some none)
  (kn : PySem.W.nsIn K mainGlobals "enumerate" = some none)
  (Em : PySem.W.nsIn K mainGlobals "int" = some none)
  (jE : PySem.W.nsIn K mainGlobals "isinstance" = some none)
  (y_bool : PySem.W.nsIn K mainGlobals "bool" = some none)
  (mH : PySem.W.nsIn K mainGlobals "reversed" = some none)
  (Eo : PySem.W.nsIn K mainGlobals "min" = some none)
  (tS : PySem.W.nsIn K mainGlobals "divmod" = some none)
  {aD : Addr} (oP : PySem.W.nsIn K mainGlobals "Parted" = some (some (.ref aD)))
  {aN : Addr} (lU : PySem.W.nsIn K mainGlobals "Turning" = some (some (.ref aN)))
  (dP : PySem.W.findIn K (.ref aD) "__init__" = some (some (.ref b8))) (eh : K.lookup b8 = some ⟨md,mh,.func (PySem.W.fnOf "__init__" "Parted.__init__" (aC aX) (aB aX) (aj aX) .none l7 lY mv lO gH lV),mB⟩) (dS : PySem.W.codeIn K gH "Parted.__init__" = true) (d7 : PySem.W.keepIn K (.ref b8) = true)
  (eJ : PySem.W.findIn K (.ref aD) "is_done" = some (some (.ref cU))) (eV : K.lookup cU = some ⟨nH,nK,.func (PySem.W.fnOf "is_done" "Parted.is_done" (aC bR) (aB bR) (aj bR) .none nv m5 nS mM gZ mY),oh⟩) (eM : PySem.W.codeIn K gZ "Parted.is_done" = true) (cW : PySem.W.keepIn K (.ref cU) = true)
  (dQ : PySem.W.findIn K (.ref aD) "wait_for" = some (some (.ref cI))) (eA : K.lookup cI = some ⟨me,mi,.func (PySem.W.fnOf "wait_for" "Parted.wait_for" (aC bK) (aB bK) (aj bK) .none l8 lZ mw lP gK lW),mC⟩) (dU : PySem.W.codeIn K gK "Parted.wait_for" = true) (cJ : PySem.W.keepIn K (.ref cI) = true)
  (cv : PySem.W.findIn K (.ref aD) "next_splitter" = some (some (.ref bL))) (cA : K.lookup bL = some ⟨iI,iJ,.func (PySem.W.fnOf "next_splitter" "Parted.next_splitter" (aC bb) (aB bb) (aj bb) .none iG iB iK iq dG iA),iQ⟩) (cx : PySem.W.codeIn K dG "Parted.next_splitter" = true) (bM : PySem.W.keepIn K (.ref bL) = true)
  (dv : PySem.W.findIn K (.ref aD) "split_off" = some (some (.ref cy))) (dD : K.lookup cy = some ⟨kP,kR,.func (PySem.W.fnOf "split_off" "Parted.split_off" (aC bp) (aB bp) (aj bp) .none kN kL kT kH fT kJ),kX⟩) (dy : PySem.W.codeIn K fT "Parted.split_off" = true) (cz : PySem.W.keepIn K (.ref cy) = true)
  (eK : PySem.W.findIn K (.ref aD) "part_by" = some (some (.ref cV))) (eW : K.lookup cV = some ⟨nI,nM,.func (PySem.W.fnOf "part_by" "Parted.part_by" (aC bS) (aB bS) (aj bS) .none ny m6 nU mN g4 mZ),oj⟩) (eN : PySem.W.codeIn K g4 "Parted.part_by" = true) (cX : PySem.W.keepIn K (.ref cV) = true)
  (dw : PySem.W.findIn K (.ref aN) "__init__" = some (some (.ref bV))) (dE : K.lookup bV = some ⟨kQ,kS,.func (PySem.W.fnOf "__init__" "Turning.__init__" (aC bC) (aB bC) (aj bC) .none kO kM kU kI fU kK),kY⟩) (dz : PySem.W.codeIn K fU "Turning.__init__" = true) (dC : PySem.W.keepIn K (.ref bV) = true)
  (fu : PySem.W.findIn K (.ref aN) "begin" = some (some (.ref dj))) (fM : K.lookup dj = some ⟨pA,pD,.func (PySem.W.fnOf "begin" "Turning.begin" (aC bZ) (aB bZ) (aj bZ) .none o8 oU pH oE ir oQ),pQ⟩) (fz : PySem.W.codeIn K ir "Turning.begin" = true) (dk : PySem.W.keepIn K (.ref dj) = true)
  (gA : PySem.W.findIn K (.ref aN) "step" = some (some (.ref dZ))) (gQ : K.lookup dZ = some ⟨qK,qN,.func (PySem.W.fnOf "step" "Turning.step" (aC bW) (aB bW) (aj bW) .none qE qz qQ qr jG qw),qV⟩) (gD : PySem.W.codeIn K jG "Turning.step" = true) (d9 : PySem.W.keepIn K (.ref dZ) = true)
  (gz : PySem.W.findIn K (.ref aN) "sign" = some (some (.ref dY))) (gP : K.lookup dY = some ⟨qJ,qM,.func (PySem.W.fnOf "sign" "Turning.sign" (aC ck) (aB ck) (aj ck) .none qD qy qP qq jF qv),qU⟩) (gC : PySem.W.codeIn K jF "Turning.sign" = true) (d8 : PySem.W.keepIn K (.ref dY) = true)
  (d_pg : PySem.W.plainGet K aD Str.empty = true)
  (d_hd : PySem.W.hasDictIn K aD = true)
  (d_po : PySem.W.plainOver K aD = true)
  (d_sa : PySem.W.findIn K (.ref aD) "__setattr__" = some (some (.builtin "object.__setattr__")))
  (d_n1 : PySem.W.findIn K (.ref aD) "group_of" = some none)
  (d_n2 : PySem.W.findIn K (.ref aD) "members" = some none)
  (d_n3 : PySem.W.findIn K (.ref aD) "waiting" = some none)
  (d_n4 : PySem.W.findIn K (.ref aD) "is_waiting" = some none)
  (d_mk : PySem.W.makesIn K aD = true)
  (d_fi : PySem.W.isFn K (.ref b8) = true)
  (d_kp : PySem.W.keepIn K (.ref aD) = true)
  (d5 : PySem.W.isFn K (.ref cU) = true)
  (cg : PySem.W.isFn K (.ref bL) = true)
  (d6 : PySem.W.isFn K (.ref cV) = true)
  (df : PySem.W.isFn K (.ref cy) = true)
  (dB : PySem.W.isFn K (.ref cI) = true)
  (t_pg : PySem.W.plainGet K aN Str.empty = true)
  (t_hd : PySem.W.hasDictIn K aN = true)
  (t_po : PySem.W.plainOver K aN = true)
  (t_sa : PySem.W.findIn K (.ref aN) "__setattr__" = some (some (.builtin "object.__setattr__")))
  (t_n1 : PySem.W.findIn K (.ref aN) "signs" = some none)
  (t_n2 : PySem.W.findIn K (.ref aN) "columns" = some none)
  (t_mk : PySem.W.makesIn K aN = true)
  (t_fi : PySem.W.isFn K (.ref bV) = true)
  (t_kp : PySem.W.keepIn K (.ref aN) = true)
  (eU : PySem.W.isFn K (.ref dj) = true)
  (fK : PySem.W.isFn K (.ref dZ) = true)
  (fJ : PySem.W.isFn K (.ref dY) = true) :
  ∃ fd : FuncData,(∀ (s : Shared) (v : Value),BindsTo s fd ⟨[v],[]⟩ [("_law_script",v)]) /\ ∀ base : Heap,K.In base -> base.Ns mainGlobals mg -> FnOk l.prog w K mg base CX0 7 fa fd ["_law_script"] (A0 K):=by
 have e:=hfa.symm.trans (PySem.W.mg_of X G Aw)
 cases e
 have F_is_whole:=aK (st:=e7) ma lR jo
 have b_is_whole:=F_is_whole.binds (ps:=["thing"]) fun _ _ _ _ _ _ us hl => px hl fun _ => rfl
 have zu:=PySem.W.mg_of X G lN
 have F_is_whole_from:=aK (st:=b4) fO fA dm
 have b_is_whole_from:=F_is_whole_from.binds (ps:=["thing","least"]) fun _ _ _ _ _ _ us hl => kg hl fun _ _ => rfl
 have qG:=PySem.W.mg_of X G fx
 have F_need_whole:=aK (st:=c9) jy jd gd
 have b_need_whole:=F_need_whole.binds (ps:=["thing","least","called"]) fun _ _ _ _ _ _ us hl => yb hl fun _ _ _ => rfl
 have wH:=PySem.W.mg_of X G i6
 have F_halved:=aK (st:=iO) sH rR nA
 have b_halved:=F_halved.binds (ps:=["parts","middle"]) fun _ _ _ _ _ _ us hl => kg hl fun _ _ => rfl
 have C7:=PySem.W.mg_of X G rN
 have F_figures:=aK (st:=gw) pj oK ky
 have b_figures : Binds K _ ["number","wide"] []:=F_figures.bindsD kF rfl 2 rfl fun _ _ _ _ _ _ us hl => kg hl fun _ _ => ⟨_,rfl,rfl⟩
 have b_figures_d : Binds K _ ["number","wide"] [Value.int 10 tk0_figures]:=F_figures.bindsD kF rfl 1 rfl fun _ _ _ _ _ _ us hl => px hl fun _ => ⟨_,rfl,rfl⟩
 have BJ:=PySem.W.mg_of X G oB
 have F_room:=aK (st:=pM) zq yU wu
 have b_room : Binds K _ ["machine","row","start"] []:=F_room.bindsD xy rfl 3 rfl fun _ _ _ _ _ _ us hl => yb hl fun _ _ _ => ⟨_,rfl,rfl⟩
 have b_room_d : Binds K _ ["machine","row","start"] [Value.int 0 tk0_room]:=F_room.bindsD xy rfl 2 rfl fun _ _ _ _ _ _ us hl => kg hl fun _ _ => ⟨_,rfl,rfl⟩
 have Gm:=PySem.W.mg_of X G yM
 have F_told:=aK (st:=pN) zr yV wx
 have b_told:=F_told.binds (ps:=["machine","row"]) fun _ _ _ _ _ _ us hl => kg hl fun _ _ => rfl
 have Gn:=PySem.W.mg_of X G yN
 have F_sign_at:=aK (st:=gx) pq oM kA
 have b_sign_at:=F_sign_at.binds (ps:=["machine","number"]) fun _ _ _ _ _ _ us hl => kg hl fun _ _ => rfl
 have BK:=PySem.W.mg_of X G oC
 have F_sign_down:=aK (st:=dJ) kf jT hJ
 have b_sign_down:=F_sign_down.binds (ps:=["machine","number"]) fun _ _ _ _ _ _ us hl => kg hl fun _ _ => rfl
 have ye:=PySem.W.mg_of X G jP
 have F_reached_rooms:=aK (st:=b7) fP fG dq
 have b_reached_rooms : Binds K _ ["machine","start"] []:=F_reached_rooms.bindsD dr rfl 2 rfl fun _ _ _ _ _ _ us hl => kg hl fun _ _ => ⟨_,rfl,rfl⟩
 have b_reached_rooms_d : Binds K _ ["machine","start"] [Value.int 0 tk0_reached_rooms]:=F_reached_rooms.bindsD dr rfl 1 rfl fun _ _ _ _ _ _ us hl => px hl fun _ => ⟨_,rfl,rfl⟩
 have qH:=PySem.W.mg_of X G fy
 have F_with_rooms:=aK (st:=bD) jz je gf
 have b_with_rooms:=F_with_rooms.binds (ps:=["machine","kept","numbers"]) fun _ _ _ _ _ _ us hl => yb hl fun _ _ _ => rfl
 have wI:=PySem.W.mg_of X G i7
 have F_columns_of:=aK (st:=cE) jx jc gc
 have b_columns_of:=F_columns_of.binds (ps:=["machine"]) fun _ _ _ _ _ _ us hl => px hl fun _ => rfl
 have wG:=PySem.W.mg_of X G i5
 have F_back_of:=aK (st:=gu) pf oJ kx
 have b_back_of:=F_back_of.binds (ps:=["column"]) fun _ _ _ _ _ _ us hl => px hl fun _ => rfl
 have BI:=PySem.W.mg_of X G oA
 have F_Parted___init__:=aK (st:=aX) eh dS d7
 have b_Parted___init__:=F_Parted___init__.binds (ps:=["self","signs"]) fun _ _ _ _ _ _ us hl => kg hl fun _ _ => rfl
 have F_Parted_is_done:=aK (st:=bR) eV eM cW
 have b_Parted_is_done:=F_Parted_is_done.binds (ps:=["self"]) fun _ _ _ _ _ _ us hl => px hl fun _ => rfl
 have F_Parted_wait_for:=aK (st:=bK) eA dU cJ
 have b_Parted_wait_for:=F_Parted_wait_for.binds (ps:=["self","group"]) fun _ _ _ _ _ _ us hl => kg hl fun _ _ => rfl
 have F_Parted_next_splitter:=aK (st:=bb) cA cx bM
 have b_Parted_next_splitter:=F_Parted_next_splitter.binds (ps:=["self"]) fun _ _ _ _ _ _ us hl => px hl fun _ => rfl
 have F_Parted_split_off:=aK (st:=bp) dD dy cz
 have b_Parted_split_off:=F_Parted_split_off.binds (ps:=["self","group","inside"]) fun _ _ _ _ _ _ us hl => yb hl fun _ _ _ => rfl
 have F_Parted_part_by:=aK (st:=bS) eW eN cX
 have b_Parted_part_by:=F_Parted_part_by.binds (ps:=["self","leading"]) fun _ _ _ _ _ _ us hl => kg hl fun _ _ => rfl
 have F_unparted_groups:=aK (st:=bg) eB dW cK
 have b_unparted_groups:=F_unparted_groups.binds (ps:=["machine"]) fun _ _ _ _ _ _ us hl => px hl fun _ => rfl
 have nC:=PySem.W.mg_of X G dR
 have F_least:=aK (st:=hX) wB vP q8
 have b_least:=F_least.binds (ps:=["machine"]) fun _ _ _ _ _ _ us hl => px hl fun _ => rfl
 have ET:=PySem.W.mg_of X G vK
 have F_Turning___init__:=aK (st:=bC) dE dz dC
 have b_Turning___init__:=F_Turning___init__.binds (ps:=["self","machine"]) fun _ _ _ _ _ _ us hl => kg hl fun _ _ => rfl
 have F_Turning_begin:=aK (st:=bZ) fM fz dk
 have b_Turning_begin:=F_Turning_begin.binds (ps:=["self"]) fun _ _ _ _ _ _ us hl => px hl fun _ => rfl
 have F_Turning_step:=aK (st:=bW) gQ gD d9
 have b_Turning_step:=F_Turning_step.binds (ps:=["self","place","figure"]) fun _ _ _ _ _ _ us hl => yb hl fun _ _ _ => rfl
 have F_Turning_sign:=aK (st:=ck) gP gC d8
 have b_Turning_sign:=F_Turning_sign.binds (ps:=["self","place"]) fun _ _ _ _ _ _ us hl => kg hl fun _ _ => rfl
 have F_grown:=aK (st:=jD) wA vO q5
 have b_grown : Binds K _ ["walk","wide","most"] []:=F_grown.bindsD rE rfl 3 rfl fun _ _ _ _ _ _ us hl => yb hl fun _ _ _ => ⟨_,rfl,rfl⟩
 have b_grown_d : Binds K _ ["walk","wide","most"] [Value.int 200 tk0_grown]:=F_grown.bindsD rE rfl 2 rfl fun _ _ _ _ _ _ us hl => kg hl fun _ _ => ⟨_,rfl,rfl⟩
 have ES:=PySem.W.mg_of X G vJ
 have F_turned:=aK (st:=iP) sI rT nB
 have b_turned : Binds K _ ["machine","most"] []:=F_turned.bindsD ou rfl 2 rfl fun _ _ _ _ _ _ us hl => kg hl fun _ _ => ⟨_,rfl,rfl⟩
 have b_turned_d : Binds K _ ["machine","most"] [Value.int 200 tk0_turned]:=F_turned.bindsD ou rfl 1 rfl fun _ _ _ _ _ _ us hl => px hl fun _ => ⟨_,rfl,rfl⟩
 have C8:=PySem.W.mg_of X G rO
 have F__law_mixed:=aK (st:=cZ) jt i8 fZ
 have b__law_mixed:=F__law_mixed.binds (ps:=["_law_script","_law_k"]) fun _ _ _ _ _ _ us hl => kg hl fun _ _ => rfl
 have wC:=PySem.W.mg_of X G iZ
 have F__law_spread:=aK (st:=cc) ig ic fc
 have b__law_spread:=F__law_spread.binds (ps:=["_law_script"]) fun _ _ _ _ _ _ us hl => px hl fun _ => rfl
 have ux:=PySem.W.mg_of X G h9
 have F__law_draw:=aK (st:=dI) kd jR g8
 have b__law_draw:=F__law_draw.binds (ps:=["_law_spread_here","_law_k"]) fun _ _ _ _ _ _ us hl => kg hl fun _ _ => rfl
 have yc:=PySem.W.mg_of X G jN
 have F__law_there:=aK (st:=c8) jv jb f9
 have b__law_there:=F__law_there.binds (ps:=["_law_spread_here","_law_at","_law_place","_law_way"]) fun _ _ _ _ _ _ us hl => Hh hl fun _ _ _ _ => rfl
 have wF:=PySem.W.mg_of X G i4
 have F__law_signs:=aK (st:=cD) ju i9 f7
 have b__law_signs:=F__law_signs.binds (ps:=["_law_spread_here","_law_at","_law_many","_law_half","_law_way"]) fun _ _ _ _ _ _ us hl => HS hl fun _ _ _ _ _ => rfl
 have wD:=PySem.W.mg_of X G i0
 have F__law_machine:=aK (st:=bX) gR gE ed
 have b__law_machine:=F__law_machine.binds (ps:=["_law_spread_here","_law_at","_law_most","_law_widest"]) fun _ _ _ _ _ _ us hl => Hh hl fun _ _ _ _ => rfl
 have sM:=PySem.W.mg_of X G gB
 have F__law_late:=aK (st:=cu) ke jS g9
 have b__law_late:=F__law_late.binds (ps:=["_law_many","_law_one","_law_other"]) fun _ _ _ _ _ _ us hl => yb hl fun _ _ _ => rfl
 have yd:=PySem.W.mg_of X G jO
 have F__law_backwards:=aK (st:=bT) eX eO cY
 have b__law_backwards:=F__law_backwards.binds (ps:=["_law_machine_here","_law_found","_law_row"]) fun _ _ _ _ _ _ us hl => yb hl fun _ _ _ => rfl
 have pz:=PySem.W.mg_of X G eL
 have F_law:=aK (st:=lD) C1 Cu CY
 have b_law:=F_law.binds (ps:=["_law_script"]) fun _ _ _ _ _ _ us hl => px hl fun _ => rfl
 have Ij:=PySem.W.mg_of X G Aw
 have bB:=PySem.W.mg_none_of X G En
 have aS:=PySem.W.mg_none_of X G xE
 have dF:=PySem.W.mg_none_of X G Au
 have aI:=PySem.W.mg_none_of X G xF
 have fS:=PySem.W.mg_none_of X G As
 have bO:=PySem.W.mg_none_of X G kn
 have vF:=PySem.W.mg_none_of X G Em
 have gi:=PySem.W.mg_none_of X G jE
 have Av:=PySem.W.mg_none_of X G y_bool
 have fb:=PySem.W.mg_none_of X G mH
 have tU:=PySem.W.mg_none_of X G Eo
 have tT:=PySem.W.mg_none_of X G tS
 have CM:=PySem.W.mg_of X G oP
 have Bt:=PySem.W.mg_of X G lU
 refine ⟨PySem.W.fnOf "law" "law" (aC lD) (aB lD) (aj lD) .none CV CD DT Cq yY Cz,fun s v => .of_eq rfl,fun base _ _ => ?_⟩
 have dA:=(show Cls K aD from ⟨d_pg,d_hd,d_po,d_sa⟩)
 have BL:=(show Mk K aD b8 from ⟨d_mk,dP,d_fi,d_kp⟩)
 have pc:=(show PCls K aD from ⟨dA,d_n1,d_n2,d_n3,d_n4⟩)
 have ff:=(show Cls K aN from ⟨t_pg,t_hd,t_po,t_sa⟩)
 have zy:=(show Mk K aN bV from ⟨t_mk,dw,t_fi,t_kp⟩)
 have tc:=(show TCls K aN from ⟨ff,t_n1,t_n2⟩)
 have lM : DefOk l.prog w K mg base "is_whole" 1 ["thing"] [] (xv):=⟨_,_,[],zu,jo,.nil,b_is_whole,yn F_is_whole gi vF Av⟩
 have ft : DefOk l.prog w K mg base "is_whole_from" 2 ["thing","least"] [] (Ae):=⟨_,_,[],qG,dm,.nil,b_is_whole_from,E2 F_is_whole_from lM⟩
 have fW : DefOk l.prog w K mg base "need_whole" 3 ["thing","least","called"] [] (Ag):=⟨_,_,[],wH,gd,.nil,b_need_whole,E4 F_need_whole ft⟩
 have rK : DefOk l.prog w K mg base "halved" 1 ["parts","middle"] [] (tF K):=⟨_,_,[],C7,nA,.nil,b_halved,BU F_halved ⟩
 have gj : DefOk l.prog w K mg base "figures" 4 ["number","wide"] [] (kE K):=⟨_,_,[],BJ,ky,.nil,b_figures,zI F_figures fW rK fb aI⟩
 have rL : DefOk l.prog w K mg base "room" 1 ["machine","row","start"] [.int 0] (Ah K):=⟨_,_,_,Gm,wu,.cons ⟨_,rfl⟩ (.nil),b_room_d,E5 F_room ⟩
 have h8 : DefOk l.prog w K mg base "told" 2 ["machine","row"] [] (tL K):=⟨_,_,[],Gn,wx,.nil,b_told,E6 F_told rL⟩
 have oy : DefOk l.prog w K mg base "sign_at" 5 ["machine","number"] [] (pW K id):=⟨_,_,[],BK,kA,.nil,b_sign_at,zM F_sign_at h8 gj⟩
 have jL : DefOk l.prog w K mg base "sign_down" 5 ["machine","number"] [] (pW K List.reverse):=⟨_,_,[],ye,hJ,.nil,b_sign_down,wR F_sign_down h8 gj⟩
 have dM : DefOk l.prog w K mg base "reached_rooms" 1 ["machine","start"] [.int 0] (pV K):=⟨_,_,_,qH,dq,.cons ⟨_,rfl⟩ (.nil),b_reached_rooms_d,zL F_reached_rooms dF⟩
 have fX : DefOk l.prog w K mg base "with_rooms" 1 ["machine","kept","numbers"] [] (xw K):=⟨_,_,[],wI,gf,.nil,b_with_rooms,Dw F_with_rooms aI⟩
 have cT : DefOk l.prog w K mg base "columns_of" 1 ["machine"] [] (xk K):=⟨_,_,[],wG,gc,.nil,b_columns_of,EZ F_columns_of aS aI⟩
 have ox : DefOk l.prog w K mg base "back_of" 1 ["column"] [] (xi K):=⟨_,_,[],BI,kx,.nil,b_back_of,Dj F_back_of bO⟩
 have ow : DefMk l.prog w K mg base "Parted" aD 1 ["self","signs"] (tI aD):=⟨CM,dA,_,_,BL,b_Parted___init__,zK F_Parted___init__ pc bB dF aS fS bO⟩
 have lJ : DefMe l.prog w K mg base aD "is_done" 1 ["self"] (tG K aD):=⟨dA,_,_,⟨eJ,d5,cW⟩,b_Parted_is_done,BV F_Parted_is_done pc bB⟩
 have gY : DefMe l.prog w K mg base aD "wait_for" 1 ["self","group"] (Ai aD):=⟨dA,_,_,⟨dQ,dB,cJ⟩,b_Parted_wait_for,zN F_Parted_wait_for pc⟩
 have eI : DefMe l.prog w K mg base aD "next_splitter" 1 ["self"] (xn aD):=⟨dA,_,_,⟨cv,cg,bM⟩,b_Parted_next_splitter,Dp F_Parted_next_splitter pc dF⟩
 have iU : DefMe l.prog w K mg base aD "split_off" 2 ["self","group","inside"] (xp K aD):=⟨dA,_,_,⟨dv,df,cz⟩,b_Parted_split_off,Dr F_Parted_split_off pc gY bB fS⟩
 have lK : DefMe l.prog w K mg base aD "part_by" 3 ["self","leading"] (tH aD):=⟨dA,_,_,⟨eK,d6,cX⟩,b_Parted_part_by,BW F_Parted_part_by pc iU bB⟩
 have dN : DefOk l.prog w K mg base "unparted_groups" 4 ["machine"] [] (Eg K):=⟨_,_,[],nC,cK,.nil,b_unparted_groups,Gs F_unparted_groups pc cT ox ow lJ eI lK dF fS⟩
 have iY : DefOk l.prog w K mg base "least" 5 ["machine"] [] (rC K):=⟨_,_,[],ET,q8,.nil,b_least,Dm F_least dM fX dN bO fS bB⟩
 have lL : DefMk l.prog w K mg base "Turning" aN 2 ["self","machine"] (xq aN):=⟨Bt,ff,_,_,zy,b_Turning___init__,Dt F_Turning___init__ tc cT⟩
 have rH : DefMe l.prog w K mg base aN "begin" 1 ["self"] (tK aN):=⟨ff,_,_,⟨fu,eU,dk⟩,b_Turning_begin,BZ F_Turning_begin tc⟩
 have vH : DefMe l.prog w K mg base aN "step" 1 ["self","place","figure"] (xt aN):=⟨ff,_,_,⟨gA,fK,d9⟩,b_Turning_step,Dv F_Turning_step tc aI⟩
 have vG : DefMe l.prog w K mg base aN "sign" 1 ["self","place"] (xr):=⟨ff,_,_,⟨gz,fJ,d8⟩,b_Turning_sign,Du F_Turning_sign ⟩
 have vI : DefOk l.prog w K mg base "grown" 2 ["walk","wide","most"] [] (tE aN):=⟨_,_,[],ES,q5,.nil,b_grown,BS F_grown rH vH vG aS bB aI⟩
 have jM : DefOk l.prog w K mg base "turned" 6 ["machine","most"] [] (tM K):=⟨_,_,[],C8,nB,.nil,b_turned,B0 F_turned lL vI iY⟩
 have iV : DefOk l.prog w K mg base "_law_mixed" 1 ["_law_script","_law_k"] [] (xm K):=⟨_,_,[],wC,fZ,.nil,b__law_mixed,Dn F__law_mixed bB⟩
 have h6 : DefOk l.prog w K mg base "_law_spread" 2 ["_law_script"] [] (tJ K):=⟨_,_,[],ux,fc,.nil,b__law_spread,BX F__law_spread iV bB aS tT⟩
 have aE : DefOk l.prog w K mg base "_law_draw" 1 ["_law_spread_here","_law_k"] [] (pT K):=⟨_,_,[],yc,g8,.nil,b__law_draw,E1 F__law_draw ⟩
 have iX : DefOk l.prog w K mg base "_law_there" 2 ["_law_spread_here","_law_at","_law_place","_law_way"] [] (xu K):=⟨_,_,[],wF,f9,.nil,b__law_there,Ds F__law_there aE tU⟩
 have iW : DefOk l.prog w K mg base "_law_signs" 2 ["_law_spread_here","_law_at","_law_many","_law_half","_law_way"] [] (xo K):=⟨_,_,[],wD,f7,.nil,b__law_signs,Dq F__law_signs aE aS vF aI⟩
 have gy : DefOk l.prog w K mg base "_law_machine" 3 ["_law_spread_here","_law_at","_law_most","_law_widest"] [] (pU K):=⟨_,_,[],sM,ed,.nil,b__law_machine,zJ F__law_machine aE iX iW aS aI⟩
 have jK : DefOk l.prog w K mg base "_law_late" 1 ["_law_many","_law_one","_law_other"] [] (Af):=⟨_,_,[],yd,g9,.nil,b__law_late,E3 F__law_late aS aI⟩
 have cS : DefOk l.prog w K mg base "_law_backwards" 3 ["_law_machine_here","_law_found","_law_row"] [] (xj K):=⟨_,_,[],pz,cY,.nil,b__law_backwards,Dk F__law_backwards h8 dF fb⟩
 exact Gr F_law h6 gy aE jK jM iY cS jL oy aS tU bB
theorem walk {l : PySem.W.OpenLaw} {q : Program} {loose : List Str} {XP : (Str -> Option Value) -> Heap -> Prop} {YP : World -> Heap -> Prop} {d : DefRec} {K : Params -> PySem.W.Frag} (hn : l.most = some 63) (hdf : d.params.defaults = [])
  (hY : ∀ (w : World) (h : Heap),YP w h -> (K w.params).In h)
  (F : ∀ (w : World) (mg : Str -> Option Value) (fa : Addr) (h : Heap),(K w.params).In h -> h.Ns mainGlobals mg -> mg d.name = some (.ref fa) ->
   ∃ fd : FuncData,(∀ (s : Shared) (u : Value),BindsTo s fd ⟨[u],[]⟩ [("_law_script",u)]) /\ ∀ base : Heap,(K w.params).In base -> base.Ns mainGlobals mg -> FnOk l.prog w (K w.params) mg base CX0 7 fa fd ["_law_script"] (A0 (K w.params))) :
  PySem.W.WalkO q loose XP YP l.row.toRowW d [] (fun f vs => PySem.call f vs):=
 L2.walk_of (n:=63) (k:=7) (x := "_law_script") (CX:=fun _ => CX0) (sp:=fun w => A0 (K w.params)) hn (by decide) hdf ⟨rfl,by decide,by decide⟩ hY F (fun _ _ a ns hl _ hS => ⟨a,ns,rfl,hS,hl,fun _ => rfl⟩) fun _ _ _ _ _ z => z
end My
def PySem.W.Fast.tw14597036568436117907:=0
def PySem.W.Fast.tw5647337156563247531:=0
def PySem.W.Fast.tw8810399733380027677:=0
def PySem.W.Fast.tw13091510587228306249:=0
def PySem.W.Fast.tw18280112001072079654:=0
def PySem.W.Fast.tw3583810968267878161:=0
def PySem.W.Fast.tw17671530544545074865:=0
def PySem.W.Fast.tw6154670786972644353:=0
def PySem.W.Fast.tw11931397362313812808:=0
def PySem.W.Fast.tw9542882062990933909:=0
def PySem.W.Fast.tw8881558405893339627:=0
def PySem.W.Fast.tw12751440882833578871:=0
def PySem.W.Fast.tw12709470011865088084:=0
def PySem.W.Fast.tw13290024079140425272:=0
def PySem.W.Fast.tw11356120061302574409:=0
def PySem.W.Fast.tw9534555122752091579:=0
def PySem.W.Fast.tw2414326188350003655:=0
def PySem.W.Fast.tw4888767952977981872:=0
def PySem.W.Fast.tw4926954712497500135:=0
def PySem.W.Fast.tw4294726125136868265:=0
def PySem.W.Fast.tw9157533671517761938:=0
def PySem.W.Fast.tw7218990549365219923:=0
def PySem.W.Fast.tw15011146068498058796:=0
def PySem.W.Fast.tw1383101805257070716:=0
def PySem.W.Fast.tw8034179810408854353:=0
def PySem.W.Fast.tw2864314907878105567:=0
def PySem.W.Fast.tw13503983853870849570:=0
def PySem.W.Fast.tw11654213022365153584:=0
def PySem.W.Fast.tw1686234256404828073:=0
def PySem.W.Fast.tw9889113726860236865:=0
def PySem.W.Fast.tw1471525205488384546:=0
def PySem.W.Fast.tw17650552965843520245:=0
def PySem.W.Fast.tw15755884287642771927:=0
def PySem.W.Fast.tw11832853564743854720:=0
def PySem.W.Fast.tw14094858310656082744:=0
def PySem.W.Fast.tw12708334473642918028:=0
def PySem.W.Fast.tw8018790236172359990:=0
def PySem.W.Fast.tw15438120458509232820:=0
def PySem.W.Fast.tw15685310794747004384:=0
def PySem.W.Fast.tw16812647545574945513:=0
def PySem.W.Fast.tw4568017282976549127:=0
def PySem.W.Fast.tw14593481687328223423:=0
def PySem.W.Fast.tw11050198187331518418:=0
def PySem.W.Fast.tw1129870163151612530:=0
def PySem.W.Fast.tw7432436819682517139:=0
def PySem.W.Fast.tw17541514487235002349:=0
def PySem.W.Fast.tw5455903656077366204:=0
def PySem.W.Fast.tw5943113585779403693:=0
def PySem.W.Fast.tw11111720688003602862:=0
def PySem.W.Fast.tw9992106614822978920:=0
def PySem.W.Fast.tw14783528983664254112:=0
def PySem.W.Fast.tw4730009802678021356:=0
def PySem.W.Fast.tw8945961868637206664:=0
def PySem.W.Fast.tw7038796931726023919:=0
def PySem.W.Fast.tw2756433170698745359:=0
def PySem.W.Fast.tw12890818832606736766:=0
def PySem.W.Fast.tw14765444900074403950:=0
def PySem.W.Fast.tw4146949160379310338:=0
def PySem.W.Fast.tw16661265324335143798:=0
def PySem.W.Fast.tw1778353859086881703:=0
def PySem.W.Fast.tw6506707003786754074:=0
def PySem.W.Fast.tw2146114049112670434:=0
def PySem.W.Fast.tw3107086857688492091:=0
def PySem.W.Fast.tw14051086120117400014:=0
def PySem.W.Fast.tw6006745215860068872:=0
def PySem.W.Fast.tw7639518708463042879:=0
def PySem.W.Fast.tw5308045739615864419:=0
def PySem.W.Fast.tw5119351168063269858:=0
def PySem.W.Fast.tw8048932914408592692:=0
def PySem.W.Fast.tw12835808215658279785:=0
def PySem.W.Fast.tw11877195279964110215:=0
def PySem.W.Fast.tw6750819174928127245:=0
def PySem.W.Fast.tw619661650269365456:=0
def PySem.W.Fast.tw3372405058718250312:=0
def PySem.W.Fast.tw13513453009921176116:=0
def PySem.W.Fast.tw7810076392292429716:=0
def PySem.W.Fast.tw16490533559333674384:=0
def PySem.W.Fast.tw15496814620669330001:=0
def PySem.W.Fast.tw236025456603890224:=0
def PySem.W.Fast.tw14571603512488263094:=0
def PySem.W.Fast.tw10916798465445455665:=0
def PySem.W.Fast.tw13625586034349637347:=0
def PySem.W.Fast.tw4831240308083331903:=0
def PySem.W.Fast.tw6039674470017972055:=0
def PySem.W.Fast.tw9076855864947940343:=0
def PySem.W.Fast.tw2802791162808757149:=0
def PySem.W.Fast.tw16460505064565025855:=0
def PySem.W.Fast.tw12958763546172009287:=0
def PySem.W.Fast.tw13551685641111574710:=0
def PySem.W.Fast.tw3191497876086656425:=0
def PySem.W.Fast.tw9669331030293143082:=0
def PySem.W.Fast.tw12941910284209981430:=0
def PySem.W.Fast.tw18255108143724948625:=0
def PySem.W.Fast.tw16244984281586145639:=0
def PySem.W.Fast.tw1681139342208539182:=0
def PySem.W.Fast.tw1982164538899457041:=0
def PySem.W.Fast.tw5596583075020592300:=0
def PySem.W.Fast.tw4853763559760036957:=0
def PySem.W.Fast.tw1606166114289675976:=0
def PySem.W.Fast.tw17008252154850166504:=0
def PySem.W.Fast.tw5340258473931771454:=0
def PySem.W.Fast.tw11269715536306196931:=0
def PySem.W.Fast.tw12328012494042315778:=0
def PySem.W.Fast.tw12336466392667030704:=0
def PySem.W.Fast.tw7023619554939412804:=0
def PySem.W.Fast.tw8963863590670518054:=0
def PySem.W.Fast.tw15806524784237226542:=0
def PySem.W.Fast.tw17667367653971813591:=0
def PySem.W.Fast.tw5328067857604892789:=0
def PySem.W.Fast.tw7764258979013246302:=0
def PySem.W.Fast.tw4232658968955496935:=0
def PySem.W.Fast.tw5636159131512130840:=0
def PySem.W.Fast.tw14691231578369116278:=0
open PySem PySem.W PyProof.Rows
set_option maxRecDepth 100000 in
set_option maxHeartbeats 0 in
theorem PySem.Challenge.cw_figuretell_k32_whole_turned_twice_holds : PySem.Challenge.rw_figuretell_k32_whole_turned_twice.Holds := by
 w_on; o_law; k_head; (case hw => w_witness2)
 k_fill
 refine My.walk (l:=PySem.Challenge.rw_figuretell_k32_whole_turned_twice) rfl rfl (fun w h Y => PySem.W.kIn_of Y) ?F
 case F =>
  intro w mg fa h KX G hmg
  refine' My.all_mk KX G hmg ?lN ?ma ?lR ?jo ?fx ?fO ?fA ?dm ?i6 ?jy ?jd ?gd ?rN ?sH ?rR ?nA ?oB ?pj ?oK ?ky ?kF ?yM ?zq ?yU ?wu ?xy ?yN ?zr ?yV ?wx ?oC ?pq ?oM ?kA ?jP ?kf ?jT ?hJ ?fy ?fP ?fG ?dq ?dr ?i7 ?jz ?je ?gf ?i5 ?jx ?jc ?gc ?oA ?pf ?oJ ?kx ?dR ?eB ?dW ?cK ?vK ?wB ?vP ?q8 ?vJ ?wA ?vO ?q5 ?rE ?rO ?sI ?rT ?nB ?ou ?iZ ?jt ?i8 ?fZ ?h9 ?ig ?ic ?fc ?jN ?kd ?jR ?g8 ?i4 ?jv ?jb ?f9 ?i0 ?ju ?i9 ?f7 ?gB ?gR ?gE ?ed ?jO ?ke ?jS ?g9 ?eL ?eX ?eO ?cY ?Aw ?C1 ?Cu ?CY ?En ?xE ?Au ?xF ?As ?kn ?Em ?jE ?y_bool ?mH ?Eo ?tS ?oP ?lU ?dP ?eh ?dS ?d7 ?eJ ?eV ?eM ?cW ?dQ ?eA ?dU ?cJ ?cv ?cA ?cx ?bM ?dv ?dD ?dy ?cz ?eK ?eW ?eN ?cX ?dw ?dE ?dz ?dC ?fu ?fM ?fz ?dk ?gA ?gQ ?gD ?d9 ?gz ?gP ?gC ?d8 ?d_pg ?d_hd ?d_po ?d_sa ?d_n1 ?d_n2 ?d_n3 ?d_n4 ?d_mk ?d_fi ?d_kp ?d5 ?cg ?d6 ?df ?dB ?t_pg ?t_hd ?t_po ?t_sa ?t_n1 ?t_n2 ?t_mk ?t_fi ?t_kp ?eU ?fK ?fJ
  (case lN => k_is); (case ma => k_is); (case lR => k_is); (case jo => k_is)
  (case fx => k_is); (case fO => k_is); (case fA => k_is); (case dm => k_is)
  (case i6 => k_is); (case jy => k_is); (case jd => k_is); (case gd => k_is)
  (case rN => k_is); (case sH => k_is); (case rR => k_is); (case nA => k_is)
  (case oB => k_is); (case pj => k_is); (case oK => k_is); (case ky => k_is); (case kF => k_is)
  (case yM => k_is); (case zq => k_is); (case yU => k_is); (case wu => k_is); (case xy => k_is)
  (case yN => k_is); (case zr => k_is); (case yV => k_is); (case wx => k_is)
  (case oC => k_is); (case pq => k_is); (case oM => k_is); (case kA => k_is)
  (case jP => k_is); (case kf => k_is); (case jT => k_is); (case hJ => k_is)
  (case fy => k_is); (case fP => k_is); (case fG => k_is); (case dq => k_is); (case dr => k_is)
  (case i7 => k_is); (case jz => k_is); (case je => k_is); (case gf => k_is)
  (case i5 => k_is); (case jx => k_is); (case jc => k_is); (case gc => k_is)
  (case oA => k_is); (case pf => k_is); (case oJ => k_is); (case kx => k_is)
  (case dR => k_is); (case eB => k_is); (case dW => k_is); (case cK => k_is)
  (case vK => k_is); (case wB => k_is); (case vP => k_is); (case q8 => k_is)
  (case vJ => k_is); (case wA => k_is); (case vO => k_is); (case q5 => k_is); (case rE => k_is)
  (case rO => k_is); (case sI => k_is); (case rT => k_is); (case nB => k_is); (case ou => k_is)
  (case iZ => k_is); (case jt => k_is); (case i8 => k_is); (case fZ => k_is)
  (case h9 => k_is); (case ig => k_is); (case ic => k_is); (case fc => k_is)
  (case jN => k_is); (case kd => k_is); (case jR => k_is); (case g8 => k_is)
  (case i4 => k_is); (case jv => k_is); (case jb => k_is); (case f9 => k_is)
  (case i0 => k_is); (case ju => k_is); (case i9 => k_is); (case f7 => k_is)
  (case gB => k_is); (case gR => k_is); (case gE => k_is); (case ed => k_is)
  (case jO => k_is); (case ke => k_is); (case jS => k_is); (case g9 => k_is)
  (case eL => k_is); (case eX => k_is); (case eO => k_is); (case cY => k_is)
  (case Aw => k_is); (case C1 => k_is); (case Cu => k_is); (case CY => k_is)
  (case En => k_is); (case xE => k_is); (case Au => k_is); (case xF => k_is); (case As => k_is); (case kn => k_is); (case Em => k_is); (case jE => k_is); (case y_bool => k_is); (case mH => k_is); (case Eo => k_is); (case tS => k_is)
  (case oP => k_is)
  (case lU => k_is)
  (case dP => k_is); (case eh => k_is); (case dS => k_is); (case d7 => k_is)
  (case eJ => k_is); (case eV => k_is); (case eM => k_is); (case cW => k_is)
  (case dQ => k_is); (case eA => k_is); (case dU => k_is); (case cJ => k_is)
  (case cv => k_is); (case cA => k_is); (case cx => k_is); (case bM => k_is)
  (case dv => k_is); (case dD => k_is); (case dy => k_is); (case cz => k_is)
  (case eK => k_is); (case eW => k_is); (case eN => k_is); (case cX => k_is)
  (case dw => k_is); (case dE => k_is); (case dz => k_is); (case dC => k_is)
  (case fu => k_is); (case fM => k_is); (case fz => k_is); (case dk => k_is)
  (case gA => k_is); (case gQ => k_is); (case gD => k_is); (case d9 => k_is)
  (case gz => k_is); (case gP => k_is); (case gC => k_is); (case d8 => k_is)
  (case d_pg => first | k_is | k_exc | decide | kernel_rfl)
  (case d_hd => first | k_is | k_exc | decide | kernel_rfl)
  (case d_po => first | k_is | k_exc | decide | kernel_rfl)
  (case d_sa => first | k_is | k_exc | decide | kernel_rfl)
  (case d_n1 => first | k_is | k_exc | decide | kernel_rfl)
  (case d_n2 => first | k_is | k_exc | decide | kernel_rfl)
  (case d_n3 => first | k_is | k_exc | decide | kernel_rfl)
  (case d_n4 => first | k_is | k_exc | decide | kernel_rfl)
  (case d_mk => first | k_is | k_exc | decide | kernel_rfl)
  (case d_fi => first | k_is | k_exc | decide | kernel_rfl)
  (case d_kp => first | k_is | k_exc | decide | kernel_rfl)
  (case d5 => first | k_is | k_exc | decide | kernel_rfl)
  (case cg => first | k_is | k_exc | decide | kernel_rfl)
  (case d6 => first | k_is | k_exc | decide | kernel_rfl)
  (case df => first | k_is | k_exc | decide | kernel_rfl)
  (case dB => first | k_is | k_exc | decide | kernel_rfl)
  (case t_pg => first | k_is | k_exc | decide | kernel_rfl)
  (case t_hd => first | k_is | k_exc | decide | kernel_rfl)
  (case t_po => first | k_is | k_exc | decide | kernel_rfl)
  (case t_sa => first | k_is | k_exc | decide | kernel_rfl)
  (case t_n1 => first | k_is | k_exc | decide | kernel_rfl)
  (case t_n2 => first | k_is | k_exc | decide | kernel_rfl)
  (case t_mk => first | k_is | k_exc | decide | kernel_rfl)
  (case t_fi => first | k_is | k_exc | decide | kernel_rfl)
  (case t_kp => first | k_is | k_exc | decide | kernel_rfl)
  (case eU => first | k_is | k_exc | decide | kernel_rfl)
  (case fK => first | k_is | k_exc | decide | kernel_rfl)
  (case fJ => first | k_is | k_exc | decide | kernel_rfl)
