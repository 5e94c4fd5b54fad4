import PyProof.Rows.All
import Wide.All
import OpenK.AllK
import Wide.FinOn
import Lean
import PyProof.EqAt
import PyProof.EqKinds
import PyProof.TupleCall
import PyProof.NeKinds
import PyProof.ExcBaseAll.ValueError
import PyProof.ExcClass3
import OpenK.KOwn
import PyProof.Rows.FStr
import KE.KTryMore
import PyProof.ExcAttrAll.ValueError
import KE.KDictList
import PyProof.CompMap
import PyProof.Draws
import PyProof.ListRange
import PyProof.ZipIter
import PyProof.EnumMake
import PyProof.CollectIter
import PyProof.SetRoads
import PyProof.Rows.SortShell
import PyProof.Rows.SortWalk
import PyProof.ExcInit
import PyProof.InstStoreFacts
import Wide.Seal
import PySem.Challenge.RW_figuretell_k23_grown
set_option Elab.async false
set_option linter.all false
set_option maxRecDepth 100000
namespace L2
open PySem PySem.Spec PyProof.Rows
abbrev Key:=Sum Int Str
def yk : Key -> Value -> Bool
 | .inl k,v => Value.isInt k v
 | .inr x,v => Value.isStrOf x v
def NQ (w : World) : Key -> Int
 | .inl k => hashInt k
 | .inr x => hashStr w x
theorem bR : ∀ {k : Key} {v : Value},yk k v = true -> (∃ i t,k = Sum.inl i /\ v = Value.int i t) \/ (∃ x t,k = Sum.inr x /\ v = Value.str x t)
 | .inl i,v,h => by
  obtain ⟨t,e⟩:=Value.isInt_shape (k:=i) (v:=v) h
  exact .inl ⟨i,t,rfl,e⟩
 | .inr x,v,h => by
  obtain ⟨t,e⟩:=Value.isStrOf_shape (x:=x) (v:=v) h
  exact .inr ⟨x,t,rfl,e⟩
theorem Hn (i : Int) (t : Tok) : yk (.inl i) (.int i t) = true:=by simp [yk,Value.isInt]
theorem Ho (x : Str) (t : Tok) : yk (.inr x) (.str x t) = true:=by simp [yk,Value.isStrOf]
theorem L7 (a b : Int) : decide ((Sum.inl a : Key) = Sum.inl b) = (a == b):=by
 by_cases e : a = b
 ·subst e; simp
 ·have h : ¬ (Sum.inl a : Key) = Sum.inl b:=fun q => e (Sum.inl.inj q)
  rw [decide_eq_false h]
  exact (beq_eq_false_iff_ne.mpr e).symm
theorem Ma (a b : Str) : decide ((Sum.inr a : Key) = Sum.inr b) = decide (a = b):=by
 by_cases e : a = b
 ·subst e; simp
 ·have h : ¬ (Sum.inr a : Key) = Sum.inr b:=fun q => e (Sum.inr.inj q)
  rw [decide_eq_false h,decide_eq_false e]
theorem L8 (a : Int) (b : Str) : decide ((Sum.inl a : Key) = Sum.inr b) = false:=decide_eq_false (fun q => nomatch q)
theorem L9 (a : Str) (b : Int) : decide ((Sum.inr a : Key) = Sum.inl b) = false:=decide_eq_false (fun q => nomatch q)
def aX (prog : Program) (w : World) : PySem.KeyKind prog w Key where
 is:=yk
 hash:=NQ w
 inj:=fun v a b ha hb => by
  rcases bR ha with ⟨i,t,rfl,rfl⟩ | ⟨x,t,rfl,rfl⟩
  ·rcases bR hb with ⟨j,u,rfl,e⟩ | ⟨y,u,rfl,e⟩
   ·injection e with e1 _; rw [e1]
   ·exact nomatch e
  ·rcases bR hb with ⟨j,u,rfl,e⟩ | ⟨y,u,rfl,e⟩
   ·exact nomatch e
   ·injection e with e1 _; rw [e1]
 byValue:=fun k v h => by
  rcases bR h with ⟨i,t,rfl,rfl⟩ | ⟨x,t,rfl,rfl⟩ <;> rfl
 pyHash:=fun hv h => by
  rcases bR hv with ⟨i,t,rfl,rfl⟩ | ⟨x,t,rfl,rfl⟩
  ·exact wpAny_pyHash_int h
  ·exact wpAny_pyHash_str h
 eqBool:=fun hu hv h => by
  rcases bR hu with ⟨i,t,rfl,rfl⟩ | ⟨x,t,rfl,rfl⟩
  ·rcases bR hv with ⟨j,u,rfl,rfl⟩ | ⟨y,u,rfl,rfl⟩
   ·rw [L7] at h; exact wpAny_eqBool_int h
   ·rw [L8] at h; exact SeqAt.EqAt.int_str i t y u _ _ _ _ h
  ·rcases bR hv with ⟨j,u,rfl,rfl⟩ | ⟨y,u,rfl,rfl⟩
   ·rw [L9] at h; exact SeqAt.EqAt.str_int x t j u _ _ _ _ h
   ·rw [Ma] at h; exact wpAny_eqBool_str h
 «strs» := fun k x t v h => by
  rcases bR h with ⟨i,u,rfl,e⟩ | ⟨y,u,rfl,e⟩
  ·exact nomatch e
  ·injection e with e1 _
   subst e1
   cases v <;> rfl
theorem Eu (prog : Program) (w : World) (i : Int) (t : Tok) : (aX prog w).is (.inl i) (.int i t) = true:=Hn i t
theorem Ew (prog : Program) (w : World) (x : Str) (t : Tok) : (aX prog w).is (.inr x) (.str x t) = true:=Ho x t
end L2
namespace L2
open PySem PySem.Spec PyProof.Rows
inductive V where
 | non | bl (b : Bool) | int (i : Int) | str (x : Str) | byt (b : Array UInt8) | flt (b : UInt64) | ref (a : Addr) | ty (n : String)
 deriving DecidableEq
def RelV : V -> Value -> Prop
 | .non,u => u = Value.none
 | .bl b,u => u = Value.bool b
 | .int i,u => ∃ t,u = Value.int i t
 | .str x,u => ∃ t,u = Value.str x t
 | .byt b,u => ∃ t,u = Value.bytes b t
 | .flt b,u => ∃ t,u = Value.float b t
 | .ref a,u => u = Value.ref a
 | .ty n,u => u = Value.type n
abbrev Vals : List V -> List Value -> Prop:=Paired RelV
theorem Vals.length {xs : List V} {us : List Value} (r : Vals xs us) : xs.length = us.length:=Paired.length r
theorem Vals.get : ∀ {xs : List V} {us : List Value} {i : Nat} {x : V},Vals xs us -> xs[i]? = some x -> ∃ u,us[i]? = some u /\ RelV x u
 | _,_,_,_,.nil,e => by simp at e
 | _,_,0,_,.cons r _,e => by simp at e; subst e; exact ⟨_,rfl,r⟩
 | _,_,i + 1,x,.cons _ t,e => by
  obtain ⟨u,h1,h2⟩:=Vals.get (i:=i) (x:=x) t (by simpa using e)
  exact ⟨u,by simpa using h1,h2⟩
theorem Vals.set {x : V} {u : Value} (r : RelV x u) : ∀ {xs : List V} {us : List Value} (i : Nat),Vals xs us -> Vals (xs.set i x) (us.set i u)
 | _,_,_,.nil => .nil
 | _,_,0,.cons _ t => .cons r t
 | _,_,i + 1,.cons q t => .cons q (Vals.set r i t)
theorem Vals.append : ∀ {xs ys : List V} {us ws : List Value},Vals xs us -> Vals ys ws -> Vals (xs ++ ys) (us ++ ws)
 | _,_,_,_,.nil,s => s
 | _,_,_,_,.cons r t,s => .cons r (Vals.append t s)
theorem Vals.take : ∀ {xs : List V} {us : List Value} (n : Nat),Vals xs us -> Vals (xs.take n) (us.take n)
 | _,_,0,_ => .nil
 | _,_,_ + 1,.nil => .nil
 | _,_,n + 1,.cons r t => .cons r (Vals.take n t)
theorem Vals.drop : ∀ {xs : List V} {us : List Value} (n : Nat),Vals xs us -> Vals (xs.drop n) (us.drop n)
 | _,_,0,r => r
 | _,_,_ + 1,.nil => .nil
 | _,_,n + 1,.cons _ t => Vals.drop n t
def RelO : Option V -> Option Value -> Prop
 | some v,some u => RelV v u
 | none,none => True
 | _,_ => False
def KV {κ : Type} : List (κ × V) -> List (κ × Value) -> Prop:=Paired fun (p : κ × V) (q : κ × Value) => p.1 = q.1 /\ RelV p.2 q.2
def kV : Key -> V
 | .inl i => .int i
 | .inr x => .str x
inductive HO where
  | lst (xs : List V)
  | tup (xs : List V)
  | dK (kvs : List (Key × V)) | dT (kvs : List (List Key × V))
  | set (S : Int -> Bool) (n : Nat)
  | ins (C dx : Addr) (fs : List (Str × V))
  | own (x : Addr)
  | xd (fs : List (Str × V))
  | met (f x : Addr)
  | rng (lo hi : Int)
  | frz (o : Obj) (u : HO)
  | tbl (ps : Array Value)
  | ext (φ : Heap -> Prop)
abbrev Hp:=Addr -> Option HO
def upd (H : Hp) (a : Addr) (o : HO) : Hp:=fun b => if b = a then some o else H b
theorem ae {H : Hp} {a : Addr} {o : HO} : upd H a o a = some o:=by unfold upd; rw [if_pos rfl]
theorem aj {H : Hp} {a b : Addr} {o : HO} (h : b ≠ a) : upd H a o b = H b:=by unfold upd; rw [if_neg h]
theorem cb {H : Hp} {a b : Addr} {o u : HO} (h : H a = some o) (h' : H b = some u) (d : o ≠ u) : a ≠ b:=by
 intro e; subst e; rw [h] at h'; exact d (Option.some.inj h')
theorem aq {H : Hp} {a b : Addr} {o : HO} (h : H a = some o) (h' : H b = none) : a ≠ b:=by
 intro e; subst e; rw [h] at h'; cases h'
section
variable (P : Program) (w : World)
def ObjOk (H : Hp) (h : Heap) (a : Addr) : HO -> Prop
 | .lst xs => xs.length <= sizeLine /\ ∃ (its : List Value) (n : Nat),Vals xs its /\ h.get? a = some { cls:=.type "list",data:=.seq its.toArray n }
 | .tup xs => xs.length <= sizeLine /\ ∃ its : List Value,Vals xs its /\ IsTup h a its.toArray
 | .dK kvs => kvs.length <= sizeLine /\ (a == sysModules) = false /\ ∃ vs,KV kvs vs /\ h.DictOf (aX P w) a vs
 | .dT kvs => kvs.length <= sizeLine /\ (a == sysModules) = false /\ ∃ xs : List (List Key × Addr × Value),
   Paired (fun (p : List Key × V) (q : List Key × Addr × Value) => p.1 = q.1 /\ H q.2.1 = some (.tup (p.1.map kV)) /\ RelV p.2 q.2.2) kvs xs /\
   ∃ o es ep,h.get? a = some o /\ o.ExactDict /\ o.data = .dict es ep /\ es.toList = xs.map (entryOfKey (tupleKind (aX P w))) /\ (xs.map (·.1)).Nodup
 | .set S n => h.SetOf (intKind P w) a S n
 | .ins C dx fs => H dx = some (.own a) /\ fs.length <= 1000 /\ dx ≠ a /\ h.get? a = some (PySem.W.instObj C dx) /\
   ∃ mA,h.Ns1 dx mA /\ (∀ f,RelO (fs.lookup f) (mA f)) /\ PySem.Within mA (fs.map (·.1))
 | .own _ => ∃ o,h.get? a = some o
 | .xd fs => ∃ mA,h.Ns1 a mA /\ ∀ f,RelO (fs.lookup f) (mA f)
 | .rng lo hi => ∃ t u v,h.get? a = some { cls:=.type "range",data:=.fields #[.int lo t,.int hi u,.int 1 v] }
 | .frz o u => h.get? a = some o /\ ObjOk H h a u
 | .tbl ps => h.get? a = some { cls:=.none,data:=.fields ps }
 | .met f x => h.get? a = some (PySem.W.methodObj (.ref f) (.ref x))
 | .ext φ => φ h /\ (∃ o,h.get? a = some o) /\ ∀ h1 h2 : Heap,φ h1 -> (∀ o,h1.get? a = some o -> h2.get? a = some o) -> φ h2
def HOk (H : Hp) (h : Heap) : Prop := ∀ a o,H a = some o -> ObjOk P w H h a o
end
section
variable {P : Program} {w : World} {H H' : Hp} {h h' : Heap} {a : Addr} {o : HO}
theorem ObjOk.lt (x : ObjOk P w H h a o) : a < h.objs.size:=by
 cases o with
 | lst xs => obtain ⟨_,_,_,_,e⟩:=x; exact Heap.lt_size e
 | tup xs => obtain ⟨_,_,_,p⟩:=x; exact p.lt
 | dK kvs => obtain ⟨_,_,_,_,o,_,_,e,_⟩:=x; exact Heap.lt_size e
 | dT kvs => obtain ⟨_,_,_,_,o,_,_,e,_⟩:=x; exact Heap.lt_size e
 | set S n => obtain ⟨o,_,_,_,e,_⟩:=x; exact Heap.lt_size e
 | ins C dx fs => obtain ⟨_,_,_,e,_⟩:=x; exact Heap.lt_size e
 | own y => obtain ⟨_,e⟩:=x; exact Heap.lt_size e
 | xd fs => obtain ⟨_,⟨_,_,_,e,_⟩,_⟩:=x; exact Heap.lt_size e
 | rng lo hi => obtain ⟨_,_,_,e⟩:=x; exact Heap.lt_size e
 | frz ob u => obtain ⟨e,_⟩:=x; exact Heap.lt_size e
 | tbl ps => exact Heap.lt_size (show h.get? a = some _ from x)
 | met f y => exact Heap.lt_size (show h.get? a = some _ from x)
 | ext φ => obtain ⟨_,⟨_,e⟩,_⟩:=x; exact Heap.lt_size e
theorem Paired.mapP {α β : Type} {F G : α -> β -> Prop} : ∀ {l₁ : List α} {l₂ : List β},Paired F l₁ l₂ -> (∀ a b,F a b -> G a b) -> Paired G l₁ l₂
 | _,_,.nil,_ => .nil
 | _,_,.cons r t,f => .cons (f _ _ r) (Paired.mapP t f)
theorem ObjOk.stay (x : ObjOk P w H h a o) (k : ∀ b u,(b = a \/ H b = some (.own a)) -> h.get? b = some u -> h'.get? b = some u)
  (ho : ∀ b,H b = some (.own a) -> H' b = some (.own a)) (ht : ∀ b xs,H b = some (.tup xs) -> H' b = some (.tup xs)) : ObjOk P w H' h' a o:=by
 induction o with
 | lst xs => obtain ⟨z,its,n,r,e⟩:=x; exact ⟨z,its,n,r,k _ _ (.inl rfl) e⟩
 | tup xs => obtain ⟨z,its,r,ob,e,c⟩:=x; exact ⟨z,its,r,ob,k _ _ (.inl rfl) e,c⟩
 | dK kvs => obtain ⟨z,y,vs,r,ob,es,ep,e,c⟩:=x; exact ⟨z,y,vs,r,ob,es,ep,k _ _ (.inl rfl) e,c⟩
 | dT kvs =>
  obtain ⟨z,y,xs,r,ob,es,ep,e,c⟩:=x
  exact ⟨z,y,xs,Paired.mapP r fun p q z => ⟨z.1,ht _ _ z.2.1,z.2.2⟩,ob,es,ep,k _ _ (.inl rfl) e,c⟩
 | set S n => obtain ⟨ob,es,ep,t,e,c⟩:=x; exact ⟨ob,es,ep,t,k _ _ (.inl rfl) e,c⟩
 | ins C dx fs =>
  obtain ⟨d,z,ne,e,mA,⟨od,es,ep,e2,c⟩,r⟩:=x
  exact ⟨ho _ d,z,ne,k _ _ (.inl rfl) e,mA,⟨od,es,ep,k _ _ (.inr d) e2,c⟩,r⟩
 | own y => obtain ⟨ob,e⟩:=x; exact ⟨ob,k _ _ (.inl rfl) e⟩
 | xd fs => obtain ⟨mA,⟨od,es,ep,e,c⟩,r⟩:=x; exact ⟨mA,⟨od,es,ep,k _ _ (.inl rfl) e,c⟩,r⟩
 | rng lo hi => obtain ⟨t,u,v,e⟩:=x; exact ⟨t,u,v,k _ _ (.inl rfl) e⟩
 | frz ob u ih => obtain ⟨e,q⟩:=x; exact ⟨k _ _ (.inl rfl) e,ih q⟩
 | tbl ps =>
  have e : h.get? a = some { cls:=.none,data:=.fields ps }:=x
  show h'.get? a = some { cls:=.none,data:=.fields ps }
  exact k a _ (.inl rfl) e
 | met f y =>
  have e : h.get? a = some (PySem.W.methodObj (.ref f) (.ref y)):=x
  show h'.get? a = some (PySem.W.methodObj (.ref f) (.ref y))
  exact k a _ (.inl rfl) e
 | ext φ => obtain ⟨p,⟨o,e⟩,st⟩:=x; exact ⟨st _ _ p fun o q => k _ _ (.inl rfl) q,⟨o,k _ _ (.inl rfl) e⟩,st⟩
theorem HOk.lt (x : HOk P w H h) (e : H a = some o) : a < h.objs.size:=(x a o e).lt
theorem HOk.fresh (x : HOk P w H h) (e : h.objs.size <= a) : H a = none:=by
 cases q : H a with
 | none => rfl
 | some u => exact absurd (Nat.lt_of_lt_of_le (x.lt q) e) (Nat.lt_irrefl _)
theorem HOk.kept (x : HOk P w H h) (k : ∀ b u,h.get? b = some u -> h'.get? b = some u) : HOk P w H h' := fun a o e =>
 (x a o e).stay (fun b u _ q => k b u q) (fun _ q => q) fun _ _ q => q
theorem HOk.laid (x : HOk P w H h) (k : ∀ b u,h.get? b = some u -> h'.get? b = some u) (hp : h.objs.size <= a) (new : ObjOk P w (upd H a o) h' a o) : HOk P w (upd H a o) h' := fun b u e => by
 have hn:=x.fresh hp
 by_cases hb : b = a
 ·subst hb; rw [ae] at e; cases e; exact new
 ·rw [aj hb] at e
  exact (x b u e).stay (fun c v _ q => k c v q) (fun c q => by rw [aj (aq q hn)]; exact q) fun c xs q => by rw [aj (aq q hn)]; exact q
end
def Rd (H : Hp) (a : Addr) (u : HO) : Prop:=H a = some u \/ ∃ o,H a = some (.frz o u)
theorem Rd.ok {P : Program} {w : World} {H : Hp} {h : Heap} {a : Addr} {u : HO} (r : Rd H a u) (x : HOk P w H h) : ObjOk P w H h a u:=by
 rcases r with r | ⟨o,r⟩
 ·exact x a u r
 ·obtain ⟨_,q⟩:=x a _ r
  exact q
def Mut : Option HO -> Prop
 | some (.lst _) => True
 | some (.dK _) => True
 | some (.dT _) => True
 | some (.set _ _) => True
 | some (.ins _ _ _) => True
 | some (.ext _) => True
 | _ => False
section
variable {P : Program} {w : World} {H : Hp} {h h' : Heap} {x e : Addr} {o' : HO}
theorem HOk.write (ok : HOk P w H h) (mu : Mut (H x)) (he : e = x \/ H e = some (.own x)) (k : ∀ b u,b ≠ e -> h.get? b = some u -> h'.get? b = some u) (heo : ∃ u,h'.get? e = some u)
  (new : ObjOk P w (upd H x o') h' x o') : HOk P w (upd H x o') h' := fun b u q => by
 have nown : ∀ c y,H c = some (.own y) -> c ≠ x:=fun c y r z => by subst z; rw [r] at mu; exact mu
 have ntup : ∀ c xs,H c = some (.tup xs) -> c ≠ x:=fun c xs r z => by subst z; rw [r] at mu; exact mu
 by_cases hb : b = x
 ·subst hb; rw [ae] at q; cases q; exact new
 ·rw [aj hb] at q
  by_cases hbe : b = e
  ·have q' : H b = some (.own x):=by
    rcases he with z | z
    ·exact absurd (hbe.trans z) hb
    ·rw [hbe]; exact z
   rw [q] at q'; cases q'
   obtain ⟨v,hv⟩:=heo
   exact ⟨v,by rw [hbe]; exact hv⟩
  ·refine (ok b u q).stay (fun c v hc r => k c v ?_ r) (fun c r => by rw [aj (nown c b r)]; exact r) fun c xs r => by rw [aj (ntup c xs r)]; exact r
   rcases hc with rfl | hc
   ·exact hbe
   ·rintro rfl
    rcases he with z | z
    ·exact nown c b hc z
    ·rw [hc] at z; cases z; exact hb rfl
end
structure Un (fs ex : List Addr) (H H' : Hp) (h h' : Heap) : Prop where
 keep : ∀ b o,h.get? b = some o -> H b = none -> b ∉ fs -> b ∉ ex -> h'.get? b = some o
 slot : ∀ b o,h.get? b = some o -> H b = none -> b ∈ fs -> b ∉ ex -> ∃ sl,h'.get? b = some { o with slots:=sl }
 free : ∀ b o,h.get? b = some o -> H b = none -> b ∉ ex -> H' b = none
 there : ∀ b o,h.get? b = some o -> b ∉ ex -> ∃ o',h'.get? b = some o'
 tups : ∀ b xs,H b = some (.tup xs) -> H' b = some (.tup xs)
 frzs : ∀ b o u,H b = some (.frz o u) -> H' b = some (.frz o u)
 tbls : ∀ b ps,H b = some (.tbl ps) -> ∃ more,H' b = some (.tbl (ps ++ more))
section
variable {fs fs' ex ex' : List Addr} {H H1 H2 : Hp} {h h1 h2 h' : Heap} {a x e : Addr} {o : HO}
theorem Un.any (u : Un fs ex H H1 h h1) {b : Addr} {ob : Obj} (q : h.get? b = some ob) (n : H b = none) (hx : b ∉ ex) : ∃ sl,h1.get? b = some { ob with slots:=sl }:=by
 by_cases hb : b ∈ fs
 ·exact u.slot b ob q n hb hx
 ·exact ⟨ob.slots,u.keep b ob q n hb hx⟩
theorem Un.kept (k : ∀ b u,h.get? b = some u -> h'.get? b = some u) : Un fs ex H H h h' :=
 ⟨fun b ob q _ _ _ => k b ob q,fun b ob q _ _ _ => ⟨ob.slots,k b ob q⟩,fun _ _ _ n _ => n,fun b ob q _ => ⟨ob,k b ob q⟩,fun _ _ q => q,fun _ _ _ q => q,fun _ ps q => ⟨#[],by rw [q]; simp⟩⟩
theorem Un.refl : Un fs ex H H h h:=Un.kept fun _ _ q => q
theorem Un.laid (k : ∀ b u,h.get? b = some u -> h'.get? b = some u) (hp : h.objs.size <= a) (hn : H a = none) : Un fs ex H (upd H a o) h h' where
 keep:=fun b u q _ _ _ => k b u q
 slot:=fun b u q _ _ _ => ⟨u.slots,k b u q⟩
 free:=fun b u q n _ => by rw [aj (Nat.ne_of_lt (Nat.lt_of_lt_of_le (Heap.lt_size q) hp))]; exact n
 there:=fun b u q _ => ⟨u,k b u q⟩
 tups:=fun b xs q => by rw [aj (aq q hn)]; exact q
 frzs:=fun b u xs q => by rw [aj (aq q hn)]; exact q
 tbls:=fun b ps q => ⟨#[],by rw [aj (aq q hn),q]; simp⟩
theorem Un.write (mu : Mut (H x)) (he : e = x \/ H e = some (.own x)) (k : ∀ b u,b ≠ e -> h.get? b = some u -> h'.get? b = some u) (heo : ∃ u,h'.get? e = some u) : Un fs ex H (upd H x o) h h' := by
 have hx : ∀ b,H b = none -> b ≠ x:=fun b n z => by subst z; rw [n] at mu; exact mu
 have hb : ∀ b,H b = none -> b ≠ e:=fun b n z => by
  subst z
  rcases he with r | r
  ·exact hx b n r
  ·rw [n] at r; cases r
 have hm : ∀ b u,H b = some u -> ¬ Mut (some u) -> b ≠ x:=fun b u q nm z => by subst z; rw [q] at mu; exact nm mu
 refine ⟨fun b u q n _ _ => k b u (hb b n) q,fun b u q n _ _ => ⟨u.slots,k b u (hb b n) q⟩,fun b u q n _ => by rw [aj (hx b n)]; exact n,fun b u q _ => ?_,
  fun b xs q => by rw [aj (hm b _ q fun z => z)]; exact q,fun b u xs q => by rw [aj (hm b _ q fun z => z)]; exact q,fun b ps q => ⟨#[],by rw [aj (hm b _ q fun z => z),q]; simp⟩⟩
 by_cases hbe : b = e
 ·subst hbe; exact heo
 ·exact ⟨u,k b u hbe q⟩
end
def trk (h : Heap) (H : Hp) : List Addr:=(List.range h.objs.size).filter fun a => (H a).isSome
def BP (h : Heap) (H : Hp) : Heap:=PySem.W.hideAll h (trk h H)
theorem Hj (h : Heap) (H : Hp) : (BP h H).objs.size = h.objs.size:=PySem.W.hideAll_size _ _
theorem IG {h : Heap} {H : Hp} {b : Addr} {o : Obj} (e : h.get? b = some o) (n : H b = none) : (BP h H).get? b = some o:=
 PySem.W.hideAll_get _ e fun hm => by
  have q : (H b).isSome = true:=(List.mem_filter.mp hm).2
  rw [n] at q; simp at q
theorem KC {h : Heap} {H : Hp} {b : Addr} {o : Obj} (e : (BP h H).get? b = some o) : h.get? b = some o /\ H b = none:=by
 have e' : h.get? b = some o:=PySem.W.of_hideAll (trk h H) e
 refine ⟨e',?_⟩
 cases q : H b with
 | none => rfl
 | some x =>
  have hm : b ∈ trk h H:=List.mem_filter.mpr ⟨List.mem_range.mpr (Heap.lt_size e'),by simp [q]⟩
  have z : (BP h H).get? b = none:=PySem.W.hideAll_none (trk h H) hm
  rw [z] at e; cases e
def Ko (g h : Heap) (L : Addr) : List (Addr × Obj):=(List.range h.objs.size).filterMap fun a => if a = L \/ (g.get? a).isSome = true then none else (h.get? a).map fun o => (a,o)
def rest (g h : Heap) (L d : Addr) : List (Addr × Obj):=(Ko g h L).filter fun p => decide (p.1 ≠ d)
end L2
namespace L2
open PySem PySem.Spec PyProof.Rows
structure Mod (K : PySem.W.Frag) (mg : Str -> Option Value) (base : Heap) : Prop where
 kin : K.In base
 glob : base.Ns mainGlobals mg
 blt : ∃ mb,base.Ns builtinsNs mb /\ ∀ x : Str,x ≠ "__name__" -> mb x = bootBuiltins x
 nolimit : base.NoLimit
structure Cx where
 prog : Program
 w : World
 K : PySem.W.Frag
 mg : Str -> Option Value
 base : Heap
 A : Around
 N : List Str
 s₀ : Shared
 H₀ : Hp
 env : Env
 outer : List Env
 stack : List Env
 ex : List Addr
 fn : Str -> Bool
 calm : Bool
 pn : List (Addr × Obj)
 xe : Value -> Shared -> Prop
def frs (l : List Env) : List Addr:=l.filterMap (·.frame)
abbrev Cx.fs (X : Cx) : List Addr:=frs X.outer
def Vis (sc : Scope) (x : Str) : Prop:=sc.names.lookup x = some .local \/ sc.names.lookup x = some .cell \/ sc.names.lookup x = some .free
def Loc (sc : Scope) (x : Str) : Prop:=sc.names.lookup x = some .local \/ sc.names.lookup x = some .cell
def Look (env : Env) (h : Heap) (m : Str -> Option Value) (x : Str) (u : Value) : Prop:=
 (env.kindOf x = some .local /\ m x = some u) \/ ((env.kindOf x = some .cell \/ env.kindOf x = some .free) /\ ∃ c,env.cells.lookup x = some c /\ h.IsCell c (some u))
structure Cx.Ok (X : Cx) : Prop where
 mod : Mod X.K X.mg X.base
 kind : X.env.scope.kind = .function
 glob : X.env.globals = mainGlobals
 blt : X.env.builtins = builtinsNs
 above : X.s₀.heap.objs.size <= X.env.locals
 inj : ∀ x y c,X.env.cells.lookup x = some c -> X.env.cells.lookup y = some c -> x = y
 has : ∀ x,(X.env.kindOf x = some .cell \/ X.env.kindOf x = some .free) -> ∃ c,X.env.cells.lookup x = some c
 cab : ∀ x c,X.fn x = true -> X.env.cells.lookup x = some c -> X.s₀.heap.objs.size <= c
 hd : X.calm = true -> X.A.handled = none
 frames : X.A.frames = some X.stack
 stk : X.stack = X.outer \/ (X.stack = X.env :: X.outer /\ X.env.frame = some X.env.locals)
 exf : ∀ b ∈ X.ex,b ≠ X.env.locals /\ ∀ x c,X.env.cells.lookup x = some c -> c ≠ b
 bs : ∀ b o,X.base.get? b = some o -> X.s₀.heap.get? b = some o /\ X.H₀ b = none
 bsz : X.base.objs.size <= X.s₀.heap.objs.size
 noex : ∀ b o,X.base.get? b = some o -> b ∉ X.ex
 exfs : ∀ b ∈ X.ex,b ∉ X.fs
 funs : X.s₀.heap.FunFrames X.base X.outer
 frf : ∀ b ∈ X.fs,X.H₀ b = none
structure Inv (X : Cx) (pins : List (Addr × Obj)) (σ : List (Option V)) (H : Hp) (s : Shared) : Prop where
 ok : X.Ok
 os : s.os = X.s₀.os
 bare : AllBare s.gens
 base : Un X.fs X.ex X.H₀ H X.s₀.heap s.heap
 loc : ∃ m,s.heap.Ns X.env.locals m /\ ∀ (i : Nat) (x : Str) (v : V),X.N[i]? = some x -> σ[i]? = some (some v) -> Vis X.env.scope x -> ∃ u,RelV v u /\ Look X.env s.heap m x u
 cell : ∀ x c,X.env.cells.lookup x = some c -> ∃ v,s.heap.IsCell c v
 free : H X.env.locals = none
 freeC : ∀ x c,X.env.cells.lookup x = some c -> H c = none
 pin : ∀ p ∈ X.pn ++ pins,s.heap.get? p.1 = some p.2 /\ H p.1 = none /\ p.1 ≠ X.env.locals /\ p.1 ∉ X.fs /\ ∀ v,p.2.data ≠ .cell v
 hok : HOk X.prog X.w H s.heap
 len : σ.length = X.N.length
section
variable {X : Cx} {pins : List (Addr × Obj)} {σ : List (Option V)} {H H' : Hp} {s : Shared} {h' : Heap}
theorem Cx.Ok.nofr (ok : X.Ok) {b : Addr} {o : Obj} (e : X.base.get? b = some o) : b ∉ X.fs:=fun hb => by
 have:=(ok.funs.mem hb).1
 rw [e] at this; cases this
theorem Inv.bs (I : Inv X pins σ H s) : ∀ b o,X.base.get? b = some o -> s.heap.get? b = some o /\ H b = none:=fun b o e =>
 ⟨I.base.keep b o (I.ok.bs b o e).1 (I.ok.bs b o e).2 (I.ok.nofr e) (I.ok.noex b o e),I.base.free b o (I.ok.bs b o e).1 (I.ok.bs b o e).2 (I.ok.noex b o e)⟩
theorem Inv.bk (I : Inv X pins σ H s) : ∀ b o,X.base.get? b = some o -> s.heap.get? b = some o:=fun b o e => (I.bs b o e).1
theorem Inv.mod (I : Inv X pins σ H s) : Mod X.K X.mg X.base:=I.ok.mod
theorem Inv.kIn (I : Inv X pins σ H s) : X.K.In s.heap:=I.ok.mod.kin.keeps I.bk
theorem Inv.lt (I : Inv X pins σ H s) : X.env.locals < s.heap.objs.size:=let ⟨_,hn,_⟩:=I.loc; hn.lt
theorem Inv.sz (I : Inv X pins σ H s) : X.s₀.heap.objs.size <= s.heap.objs.size:=Nat.le_trans I.ok.above (Nat.le_of_lt I.lt)
theorem Inv.nofs (I : Inv X pins σ H s) {a : Addr} (h : s.heap.objs.size <= a) : a ∉ X.fs:=fun hb => by
 obtain ⟨_,o,ho,_⟩:=I.ok.funs.mem hb
 exact absurd (Nat.lt_of_lt_of_le (Heap.lt_size ho) (Nat.le_trans I.sz h)) (Nat.lt_irrefl _)
theorem Inv.cne (I : Inv X pins σ H s) : ∀ x c,X.env.cells.lookup x = some c -> c ≠ X.env.locals:=fun x c e z => by
 obtain ⟨v,o,ho,hd⟩:=I.cell x c e
 obtain ⟨m,⟨o',es,ep,ho',hd',_⟩,_⟩:=I.loc
 rw [z,ho'] at ho; cases ho; rw [hd'] at hd; cases hd
theorem Inv.funs (I : Inv X pins σ H s) : s.heap.FunFrames X.base X.outer:=by
 have all : ∀ (l : List Env),(∀ b ∈ frs l,b ∈ X.fs) -> X.s₀.heap.FunFrames X.base l -> s.heap.FunFrames X.base l:=by
  intro l
  induction l with
  | nil => intro _ _; trivial
  | cons env r ih =>
   intro hs hl
   obtain ⟨hk,⟨L,o,hf,hn,ho,hd⟩,hr⟩:=hl
   have hL : L ∈ X.fs:=hs L (by unfold frs; rw [List.filterMap_cons,hf]; exact List.mem_cons_self)
   obtain ⟨sl,e⟩:=I.base.slot L o ho (I.ok.frf L hL) hL fun z => I.ok.exfs L z hL
   exact ⟨hk,⟨L,_,hf,hn,e,hd⟩,ih (fun b hb => hs b (by unfold frs; rw [List.filterMap_cons,hf]; exact List.mem_cons_of_mem _ hb)) hr⟩
 exact all X.outer (fun _ hb => hb) I.ok.funs
theorem Inv.stack (I : Inv X pins σ H s) : s.heap.FunFrames X.base X.stack:=by
 rcases I.ok.stk with e | ⟨e,hf⟩
 ·rw [e]; exact I.funs
 ·rw [e]
  obtain ⟨m,hn,_⟩:=I.loc
  refine .cons (by rw [I.ok.kind]; decide) hf hn ?_ I.funs
  exact Heap.get?_none_of_le (Nat.le_trans I.ok.bsz I.ok.above)
theorem Inv.stkSub (I : Inv X pins σ H s) : ∀ b ∈ frs X.stack,b ∈ X.env.locals :: X.fs:=fun b hb => by
 rcases I.ok.stk with e | ⟨e,hf⟩
 ·rw [e] at hb; exact List.mem_cons_of_mem _ hb
 ·rw [e] at hb
  unfold frs at hb
  rw [List.filterMap_cons,hf] at hb
  exact hb
theorem Inv.stkFree (I : Inv X pins σ H s) : ∀ b ∈ frs X.stack,H b = none:=fun b hb => by
 rcases List.mem_cons.mp (I.stkSub b hb) with e | hb
 ·rw [e]; exact I.free
 ·obtain ⟨_,o,ho,_⟩:=I.ok.funs.mem hb
  exact I.base.free b o ho (I.ok.frf b hb) fun z => I.ok.exfs b z hb
theorem Inv.step {g' : Array GenState} {t' : Nat} {d' : Drawn} {ch : List Addr} (I : Inv X pins σ H s)
  (hch : ∀ b ∈ ch,(b ∈ X.ex \/ X.s₀.heap.objs.size <= b) /\ b ≠ X.env.locals /\ (∀ x c,X.env.cells.lookup x = some c -> c ≠ b) /\ ∀ p ∈ X.pn ++ pins,p.1 ≠ b)
  (keep : ∀ b o,b ≠ X.env.locals -> b ∉ X.fs -> b ∉ ch -> s.heap.get? b = some o -> H b = none -> h'.get? b = some o)
  (slot : ∀ b o,b ≠ X.env.locals -> b ∈ X.fs -> b ∉ ch -> s.heap.get? b = some o -> H b = none -> ∃ sl,h'.get? b = some { o with slots:=sl }) (free : ∀ b o,b ∉ ch -> s.heap.get? b = some o -> H b = none -> H' b = none)
  (there : ∀ b o,b ∉ ch -> s.heap.get? b = some o -> ∃ o',h'.get? b = some o')
  (tups : ∀ b xs,H b = some (.tup xs) -> H' b = some (.tup xs)) (frzs : ∀ b o u,H b = some (.frz o u) -> H' b = some (.frz o u)) (tbls : ∀ b ps,H b = some (.tbl ps) -> ∃ more,H' b = some (.tbl (ps ++ more)))
  (ns : ∀ m,s.heap.Ns X.env.locals m -> h'.Ns X.env.locals m) (hok : HOk X.prog X.w H' h') (hg : AllBare g') :
  Inv X pins σ H' { s with heap:=h',gens:=g',drawn:=d',toks:=t' }:=by
 have neL : ∀ b o,X.s₀.heap.get? b = some o -> b ≠ X.env.locals:=fun b o e => Nat.ne_of_lt (Nat.lt_of_lt_of_le (Heap.lt_size e) I.ok.above)
 have neC : ∀ b o,X.s₀.heap.get? b = some o -> b ∉ X.ex -> b ∉ ch:=fun b o e hx hb => by
  rcases (hch b hb).1 with z | z
  ·exact hx z
  ·exact absurd (Nat.lt_of_lt_of_le (Heap.lt_size e) z) (Nat.lt_irrefl _)
 have cellK : ∀ x c,X.env.cells.lookup x = some c -> ∀ v,s.heap.IsCell c v -> h'.IsCell c v:=fun x c e v ⟨o,ho,hd⟩ => by
  have nch : c ∉ ch:=fun z => (hch c z).2.2.1 x c e rfl
  by_cases hc : c ∈ X.fs
  ·obtain ⟨sl,q⟩:=slot c o (I.cne x c e) hc nch ho (I.freeC x c e)
   exact ⟨_,q,hd⟩
  ·exact ⟨o,keep c o (I.cne x c e) hc nch ho (I.freeC x c e),hd⟩
 refine ⟨I.ok,I.os,hg,⟨fun b o e n hb hx => ?_,fun b o e n hb hx => ?_,fun b o e n hx => ?_,fun b o e hx => ?_,fun b xs e => tups b xs (I.base.tups b xs e),fun b o xs e => frzs b o xs (I.base.frzs b o xs e),fun b ps e => ?_⟩,?_,fun x c e => ?_,?_,fun x c e => ?_,fun p hp => ?_,hok,I.len⟩
 ·exact keep b o (neL b o e) hb (neC b o e hx) (I.base.keep b o e n hb hx) (I.base.free b o e n hx)
 ·obtain ⟨sl,e1⟩:=I.base.slot b o e n hb hx
  obtain ⟨sl',e2⟩:=slot b _ (neL b o e) hb (neC b o e hx) e1 (I.base.free b o e n hx)
  exact ⟨sl',e2⟩
 ·obtain ⟨o',e1⟩:=I.base.there b o e hx
  exact free b o' (neC b o e hx) e1 (I.base.free b o e n hx)
 ·obtain ⟨o',e1⟩:=I.base.there b o e hx
  exact there b o' (neC b o e hx) e1
 ·obtain ⟨m1,e1⟩:=I.base.tbls b ps e
  obtain ⟨m2,e2⟩:=tbls b _ e1
  exact ⟨m1 ++ m2,by rw [e2,Array.append_assoc]⟩
 ·obtain ⟨m,hn,hl⟩:=I.loc
  refine ⟨m,ns m hn,fun i x v e1 e2 e3 => ?_⟩
  obtain ⟨u,r,l⟩:=hl i x v e1 e2 e3
  refine ⟨u,r,?_⟩
  rcases l with l | ⟨k,c,e,z⟩
  ·exact .inl l
  ·exact .inr ⟨k,c,e,cellK x c e _ z⟩
 ·obtain ⟨v,z⟩:=I.cell x c e
  exact ⟨v,cellK x c e v z⟩
 ·obtain ⟨m,⟨o,_,_,ho,_⟩,_⟩:=I.loc
  exact free _ o (fun z => (hch _ z).2.1 rfl) ho I.free
 ·obtain ⟨v,o,ho,hd⟩:=I.cell x c e
  exact free c o (fun z => (hch c z).2.2.1 x c e rfl) ho (I.freeC x c e)
 ·obtain ⟨e,n,ne,nf,d⟩:=I.pin p hp
  have nch : p.1 ∉ ch:=fun z => (hch p.1 z).2.2.2 p hp rfl
  exact ⟨keep p.1 p.2 ne nf nch e n,free p.1 p.2 nch e n,ne,nf,d⟩
theorem Inv.un {t' : Nat} (I : Inv X pins σ H s) (u : Un X.fs [] H H' s.heap h') (hok : HOk X.prog X.w H' h') : Inv X pins σ H' { s with heap:=h',toks:=t' }:=by
 obtain ⟨m,⟨o,es,ep,ho,r⟩,_⟩:=id I.loc
 obtain ⟨sl,hL⟩:=u.any ho I.free (by simp)
 exact I.step (g' := s.gens) (d' := s.drawn) (ch:=[]) (fun _ z => nomatch z) (fun b o _ hb _ e n => u.keep b o e n hb (by simp)) (fun b o _ hb _ e n => u.slot b o e n hb (by simp)) (fun b o _ e n => u.free b o e n (by simp)) (fun b o _ e => u.there b o e (by simp)) u.tups u.frzs u.tbls (fun m' hm => by
  obtain ⟨o',es',ep',ho',r'⟩:=hm
  rw [ho] at ho'; cases ho'
  exact ⟨_,es',ep',hL,r'⟩) hok I.bare
theorem Inv.call {g' : Array GenState} {t' : Nat} {d' : Drawn} {ch : List Addr} (I : Inv X pins σ H s) (u : Un (frs X.stack) ch H H' s.heap h') (hok : HOk X.prog X.w H' h') (hg : AllBare g')
  (hch : ∀ b ∈ ch,(b ∈ X.ex \/ X.s₀.heap.objs.size <= b) /\ b ≠ X.env.locals /\ (∀ x c,X.env.cells.lookup x = some c -> c ≠ b) /\ ∀ p ∈ X.pn ++ pins,p.1 ≠ b) :
  Inv X pins σ H' { s with heap:=h',gens:=g',drawn:=d',toks:=t' }:=by
 obtain ⟨m,⟨o,es,ep,ho,r⟩,_⟩:=id I.loc
 obtain ⟨sl,hL⟩:=u.any ho I.free fun z => (hch _ z).2.1 rfl
 exact I.step (ch:=ch) hch (fun b o hL hb hc e n => u.keep b o e n (fun z => (List.mem_cons.mp (I.stkSub b z)).elim hL hb) hc) (fun b o _ _ hc e n => u.any e n hc) (fun b o hc e n => u.free b o e n hc) (fun b o hc e => u.there b o e hc) u.tups u.frzs u.tbls (fun m' hm => by
  obtain ⟨o',es',ep',ho',r'⟩:=hm
  rw [ho] at ho'; cases ho'
  exact ⟨_,es',ep',hL,r'⟩) hok hg
theorem Inv.turned {t' : Nat} {it : Addr} (I : Inv X pins σ H s) (k : ∀ b o,b ≠ it -> s.heap.get? b = some o -> h'.get? b = some o) (hn : H it = none) (hL : it ≠ X.env.locals)
  (h1 : it ∈ X.ex \/ X.s₀.heap.objs.size <= it) (h2 : ∀ x c,X.env.cells.lookup x = some c -> c ≠ it) (h3 : ∀ p ∈ X.pn ++ pins,p.1 ≠ it) : Inv X pins σ H { s with heap:=h',toks:=t' }:=by
 have nit : ∀ b u,H b = some u -> b ≠ it:=fun b u e z => by rw [z,hn] at e; cases e
 refine I.step (g' := s.gens) (d' := s.drawn) (ch:=[it]) (fun b hb => ?_) (fun b o _ _ hc e _ => k b o (fun z => hc (by simp [z])) e) (fun b o _ _ hc e _ => ⟨o.slots,k b o (fun z => hc (by simp [z])) e⟩) (fun _ _ _ _ n => n)
  (fun b o hc e => ⟨o,k b o (fun z => hc (by simp [z])) e⟩) (fun _ _ e => e) (fun _ _ _ e => e) (fun b ps e => ⟨#[],by rw [e]; simp⟩) (fun m hm => ?_) (fun b u e => ?_) I.bare
 ·have e : b = it:=by simpa using hb
  subst e
  exact ⟨h1,hL,h2,h3⟩
 ·obtain ⟨o,es,ep,ho,r⟩:=hm
  exact ⟨o,es,ep,k _ o (Ne.symm hL) ho,r⟩
 ·refine (I.hok b u e).stay (fun c v hc q => k c v ?_ q) (fun _ q => q) fun _ _ q => q
  rcases hc with z | z
  ·rw [z]; exact nit b u e
  ·exact nit c _ z
theorem Inv.tok (I : Inv X pins σ H s) (t : Nat) : Inv X pins σ H { s with toks:=t }:=I.un (h' := s.heap) (t' := t) Un.refl I.hok
theorem Inv.kept {t' : Nat} (I : Inv X pins σ H s) (k : ∀ b u,s.heap.get? b = some u -> h'.get? b = some u) : Inv X pins σ H { s with heap:=h',toks:=t' }:=I.un (Un.kept k) (I.hok.kept k)
theorem Inv.laid {a : Addr} {o : HO} {t' : Nat} (I : Inv X pins σ H s) (k : ∀ b u,s.heap.get? b = some u -> h'.get? b = some u) (hp : s.heap.objs.size <= a) (new : ObjOk X.prog X.w (upd H a o) h' a o) :
  Inv X pins σ (upd H a o) { s with heap:=h',toks:=t' }:=I.un (Un.laid k hp (I.hok.fresh hp)) (I.hok.laid k hp new)
theorem Inv.write {x e : Addr} {o : HO} {t' : Nat} (I : Inv X pins σ H s) (mu : Mut (H x)) (he : e = x \/ H e = some (.own x)) (k : ∀ b u,b ≠ e -> s.heap.get? b = some u -> h'.get? b = some u) (heo : ∃ u,h'.get? e = some u)
  (new : ObjOk X.prog X.w (upd H x o) h' x o) : Inv X pins σ (upd H x o) { s with heap:=h',toks:=t' }:=I.un (Un.write mu he k heo) (I.hok.write mu he k heo new)
theorem Inv.pins_of {pins' : List (Addr × Obj)} (I : Inv X pins σ H s) (h : ∀ p ∈ pins',s.heap.get? p.1 = some p.2 /\ H p.1 = none /\ p.1 ≠ X.env.locals /\ p.1 ∉ X.fs /\ ∀ v,p.2.data ≠ .cell v) : Inv X pins' σ H s:=
 ⟨I.ok,I.os,I.bare,I.base,I.loc,I.cell,I.free,I.freeC,fun p hp => (List.mem_append.mp hp).elim (fun z => I.pin p (List.mem_append_left _ z)) (h p),I.hok,I.len⟩
theorem yx {N : List Str} (hN : N.Nodup) {i j : Nat} {x : Str} (a : N[i]? = some x) (b : N[j]? = some x) : i = j:=by
 obtain ⟨h1,e1⟩:=List.getElem?_eq_some_iff.mp a
 obtain ⟨h2,e2⟩:=List.getElem?_eq_some_iff.mp b
 exact (List.getElem_inj hN).mp (e1.trans e2.symm)
theorem AS {M : Model} {A : Around} {E : Value -> Shared -> Prop} {i : Nat} {x : Str} {v : V} {u : Value} {Q : Unit -> Shared -> Prop} (I : Inv X pins σ H s) (hN : X.N.Nodup) (hi : X.N[i]? = some x) (hx : Loc X.env.scope x) (r : RelV v u)
  (h : ∀ s',Inv X pins (σ.set i (some v)) H s' -> (∃ a,Heap.SameBut a s.heap s'.heap /\ (a = X.env.locals \/ X.env.cells.lookup x = some a)) -> Q () s') (hf : X.fn x = true \/ X.env.scope.names.lookup x = some .local:=by first | exact .inl rfl | exact .inr rfl | assumption) : wpAny M A (storeName X.env x u) Q E s:=by
 obtain ⟨m,hn,hl⟩:=id I.loc
 have hcls : (X.env.scope.kind == .class || (X.env.scope.kind == .module && X.env.locals != X.env.globals)) = false:=by rw [I.ok.kind]; rfl
 have hiσ : i < σ.length:=by rw [I.len]; exact (List.getElem?_eq_some_iff.mp hi).1
 have cne:=I.cne
 have tracked : ∀ {a : Addr} {h' : Heap},(∃ o,s.heap.get? a = some o /\ H a = none) -> Heap.SameBut a s.heap h' -> HOk X.prog X.w H h' := fun {a h'} ha hs b ob e => by
  obtain ⟨_,_,hfree⟩:=ha
  refine (I.hok b ob e).stay (fun c w' hc q => (hs.2 c ?_).trans q) (fun _ q => q) fun _ _ q => q
  rintro rfl
  rcases hc with rfl | hc
  ·rw [hfree] at e; cases e
  ·rw [hfree] at hc; cases hc
 rcases hx with hk | hk
 ·refine wpAny_storeName_local hk hn (fun h' hn' hs => ?_) hcls
  obtain ⟨oL,_,_,hoL,_⟩:=id hn
  refine h _ ⟨I.ok,I.os,I.bare,⟨fun b o e n hb hx => ?_,fun b o e n hb hx => ?_,I.base.free,fun b o e hx => ?_,I.base.tups,I.base.frzs,I.base.tbls⟩,⟨_,hn',fun j y v' e1 e2 e3 => ?_⟩,fun y c e => ?_,I.free,I.freeC,fun p hp => ?_,tracked ⟨oL,hoL,I.free⟩ hs,by simpa using I.len⟩ ⟨_,hs,.inl rfl⟩
  ·exact (hs.2 b (Nat.ne_of_lt (Nat.lt_of_lt_of_le (Heap.lt_size e) I.ok.above))).trans (I.base.keep b o e n hb hx)
  ·obtain ⟨sl,e1⟩:=I.base.slot b o e n hb hx
   exact ⟨sl,(hs.2 b (Nat.ne_of_lt (Nat.lt_of_lt_of_le (Heap.lt_size e) I.ok.above))).trans e1⟩
  ·obtain ⟨o',e1⟩:=I.base.there b o e hx
   exact ⟨o',(hs.2 b (Nat.ne_of_lt (Nat.lt_of_lt_of_le (Heap.lt_size e) I.ok.above))).trans e1⟩
  ·by_cases hj : j = i
   ·subst hj
    rw [hi] at e1; cases e1
    rw [List.getElem?_set_self hiσ] at e2
    cases e2
    exact ⟨u,r,.inl ⟨hk,by simp⟩⟩
   ·rw [List.getElem?_set_ne (Ne.symm hj)] at e2
    obtain ⟨u',r',q⟩:=hl j y v' e1 e2 e3
    refine ⟨u',r',?_⟩
    rcases q with ⟨k,e⟩ | ⟨k,c,e,z⟩
    ·refine .inl ⟨k,?_⟩
     have : y ≠ x:=fun e => hj (yx hN e1 (e ▸ hi))
     simp [this,e]
    ·exact .inr ⟨k,c,e,z.sameBut hs (cne y c e)⟩
  ·obtain ⟨w',z⟩:=I.cell y c e
   exact ⟨w',z.sameBut hs (cne y c e)⟩
  ·obtain ⟨e,n,ne,nf,d⟩:=I.pin p hp
   exact ⟨(hs.2 p.1 ne).trans e,n,ne,nf,d⟩
 ·have hfn : X.fn x = true:=by
   rcases hf with z | z
   ·exact z
   ·rw [z] at hk; cases hk
  obtain ⟨c,hc⟩:=I.ok.has x (.inl hk)
  obtain ⟨w',z⟩:=I.cell x c hc
  refine wpAny_storeName_cell I.ok.kind hk hc z (fun h' hc' hs => ?_)
  obtain ⟨oc,hoc,hocd⟩:=id z
  refine h { s with heap:=h' } ⟨I.ok,I.os,I.bare,⟨fun b o e n hb hx => ?_,fun b o e n hb hx => ?_,I.base.free,fun b o e hx => ?_,I.base.tups,I.base.frzs,I.base.tbls⟩,⟨m,hn.sameBut hs (Ne.symm (cne x c hc)),fun j y v' e1 e2 e3 => ?_⟩,fun y c' e => ?_,I.free,I.freeC,fun p hp => ?_,tracked ⟨oc,hoc,I.freeC x c hc⟩ hs,by simpa using I.len⟩ ⟨c,hs,.inr hc⟩
  ·exact (hs.2 b (Nat.ne_of_lt (Nat.lt_of_lt_of_le (Heap.lt_size e) (I.ok.cab x c hfn hc)))).trans (I.base.keep b o e n hb hx)
  ·obtain ⟨sl,e1⟩:=I.base.slot b o e n hb hx
   exact ⟨sl,(hs.2 b (Nat.ne_of_lt (Nat.lt_of_lt_of_le (Heap.lt_size e) (I.ok.cab x c hfn hc)))).trans e1⟩
  ·obtain ⟨o',e1⟩:=I.base.there b o e hx
   exact ⟨o',(hs.2 b (Nat.ne_of_lt (Nat.lt_of_lt_of_le (Heap.lt_size e) (I.ok.cab x c hfn hc)))).trans e1⟩
  ·by_cases hj : j = i
   ·subst hj
    rw [hi] at e1; cases e1
    rw [List.getElem?_set_self hiσ] at e2
    cases e2
    exact ⟨u,r,.inr ⟨.inl hk,c,hc,hc'⟩⟩
   ·rw [List.getElem?_set_ne (Ne.symm hj)] at e2
    obtain ⟨u',r',q⟩:=hl j y v' e1 e2 e3
    refine ⟨u',r',?_⟩
    rcases q with q | ⟨k,c',e,z'⟩
    ·exact .inl q
    ·refine .inr ⟨k,c',e,z'.sameBut hs ?_⟩
     rintro rfl
     exact hj (yx hN e1 (I.ok.inj _ _ _ e hc ▸ hi))
  ·by_cases hcc : c' = c
   ·subst hcc; exact ⟨_,hc'⟩
   ·obtain ⟨w2,z2⟩:=I.cell y c' e
    exact ⟨w2,z2.sameBut hs hcc⟩
  ·obtain ⟨e,n,ne,nf,d⟩:=I.pin p hp
   refine ⟨(hs.2 p.1 ?_).trans e,n,ne,nf,d⟩
   intro q
   rw [q,hoc] at e
   have q' : oc = p.2:=Option.some.inj e
   exact d w' (by rw [<- q']; exact hocd)
theorem pB {M : Model} {A : Around} {E : Value -> Shared -> Prop} {i : Nat} {x : Str} {v : V} {u : Value} {Q : Unit -> Shared -> Prop} (I : Inv X pins σ H s) (hN : X.N.Nodup) (hi : X.N[i]? = some x) (hx : Loc X.env.scope x) (r : RelV v u)
  (h : ∀ s',Inv X pins (σ.set i (some v)) H s' -> Q () s') (hf : X.fn x = true \/ X.env.scope.names.lookup x = some .local:=by first | exact .inl rfl | exact .inr rfl | assumption) : wpAny M A (storeName X.env x u) Q E s:=
 AS I hN hi hx r (fun s' I' _ => h s' I') hf
theorem Inv.call' {s' : Shared} {ch : List Addr} (I : Inv X pins σ H s) (ho : s'.os = s.os) (u : Un (frs X.stack) ch H H' s.heap s'.heap) (hok : HOk X.prog X.w H' s'.heap) (hg : AllBare s'.gens)
  (hch : ∀ b ∈ ch,(b ∈ X.ex \/ X.s₀.heap.objs.size <= b) /\ b ≠ X.env.locals /\ (∀ x c,X.env.cells.lookup x = some c -> c ≠ b) /\ ∀ p ∈ X.pn ++ pins,p.1 ≠ b) : Inv X pins σ H' s' := by
 obtain ⟨h',g',d',t',o'⟩:=s'
 have e : o' = s.os:=ho
 subst e
 exact I.call (g' := g') (t' := t') (d' := d') u hok hg hch
end
abbrev XK:=Value -> Option Addr -> Hp -> Prop
abbrev St:=List (Option V)
abbrev VK:=V -> Hp -> Prop
abbrev TE:=St -> Hp -> VK -> Prop
abbrev TT:=St -> Hp -> (Bool -> Hp -> Prop) -> Prop
abbrev TA:=St -> Hp -> (List V -> Hp -> Prop) -> Prop
structure Ends where
 nx : St -> Hp -> Prop
 rt : VK
 bk : St -> Hp -> Prop:=fun _ _ => False
 ct : St -> Hp -> Prop:=fun _ _ => False
abbrev TS:=Ends -> St -> Hp -> Prop
def EP (X : Cx) (pins : List (Addr × Obj)) (σ : St) (Q : VK) (u : Value) (s' : Shared) : Prop := ∃ v H',Inv X pins σ H' s' /\ RelV v u /\ Q v H'
def TP (X : Cx) (pins : List (Addr × Obj)) (σ : St) (Q : Bool -> Hp -> Prop) (b : Bool) (s' : Shared) : Prop := ∃ H',Inv X pins σ H' s' /\ Q b H'
def AP (X : Cx) (pins : List (Addr × Obj)) (σ : St) (Q : List V -> Hp -> Prop) (us : List Value) (s' : Shared) : Prop := ∃ vs H',Inv X pins σ H' s' /\ Vals vs us /\ Q vs H'
def SP (X : Cx) (pins : List (Addr × Obj)) (D : Ends) (f : Flow) (s' : Shared) : Prop:=
 match f with
 | .next => ∃ σ' H',Inv X pins σ' H' s' /\ D.nx σ' H'
 | .brk => ∃ σ' H',Inv X pins σ' H' s' /\ D.bk σ' H'
 | .cont => ∃ σ' H',Inv X pins σ' H' s' /\ D.ct σ' H'
 | .ret u => ∃ v σ' H',Inv X pins σ' H' s' /\ RelV v u /\ D.rt v H'
def PE (X : Cx) (e : Expr) (t : TE) : Prop:=
 ∀ (pins : List (Addr × Obj)) (s : Shared) (σ : St) (H : Hp) (Q : VK),Inv X pins σ H s -> t σ H Q -> wpAny (model X.prog X.w) X.A (eval e X.env) (EP X pins σ Q) X.xe s
def PT (X : Cx) (e : Expr) (t : TT) : Prop:=
 ∀ (pins : List (Addr × Obj)) (s : Shared) (σ : St) (H : Hp) (Q : Bool -> Hp -> Prop),Inv X pins σ H s -> t σ H Q -> wpAny (model X.prog X.w) X.A (isTrue e X.env (eval e X.env)) (TP X pins σ Q) X.xe s
def PW (X : Cx) (e : Expr) (t : TT) : Prop:=
 ∀ (whole : Sem Value) (pins : List (Addr × Obj)) (s : Shared) (σ : St) (H : Hp) (Q : Bool -> Hp -> Prop),Inv X pins σ H s -> t σ H Q -> wpAny (model X.prog X.w) X.A (isTrue e X.env whole) (TP X pins σ Q) X.xe s
theorem PW.pt {X : Cx} {e : Expr} {t : TT} (h : PW X e t) : PT X e t:=h _
def PA (X : Cx) (es : List Expr) (t : TA) : Prop:=
 ∀ (pos : Pos) (pins : List (Addr × Obj)) (s : Shared) (σ : St) (H : Hp) (Q : List V -> Hp -> Prop),Inv X pins σ H s -> t σ H Q -> wpAny (model X.prog X.w) X.A (spliced (backTo pos (starEach es X.env))) (AP X pins σ Q) X.xe s
def PS (X : Cx) (st : Stmt) (t : TS) : Prop:=
 ∀ (pins : List (Addr × Obj)) (s : Shared) (σ : St) (H : Hp) (D : Ends),Inv X pins σ H s -> t D σ H -> wpAny (model X.prog X.w) X.A (exec st X.env) (SP X pins D) X.xe s
def PSs (X : Cx) (st : List Stmt) (t : TS) : Prop:=
 ∀ (pins : List (Addr × Obj)) (s : Shared) (σ : St) (H : Hp) (D : Ends),Inv X pins σ H s -> t D σ H -> wpAny (model X.prog X.w) X.A (execs st X.env) (SP X pins D) X.xe s
theorem thn {α : Type} {t : Sem α} {Q Q' : α -> Shared -> Prop} {M : Model} {A : Around} {E : Value -> Shared -> Prop} {s : Shared} (h : wpAny M A t Q E s) (hQ : ∀ a s,Q a s -> Q' a s) : wpAny M A t Q' E s:=wpAny_mono h hQ fun _ _ x => x
end L2
namespace L2
open PySem PySem.Spec PyProof.Rows
section
variable {X : Cx}
def J0 (i : Nat) : TE:=fun σ H Q => ∃ v,σ[i]? = some (some v) /\ Q v H
def tC (v : V) : TE:=fun _ H Q => Q v H
theorem Mp {i : Nat} {x : Str} {pos : Pos} (hN : X.N[i]? = some x) (hv : Vis X.env.scope x) (hd : (x == ("__debug__" : Str)) = false:=by decide) (hcd : (x == ("__classdict__" : Str)) = false:=by decide) : PE X (.Name x pos) (J0 i):=by
 intro pins s σ H Q I h
 obtain ⟨v,e,h⟩:=h
 obtain ⟨m,hn,hl⟩:=I.loc
 obtain ⟨u,r,l⟩:=hl i x v hN e hv
 have fin : EP X pins σ Q u s:=⟨v,H,I,r,h⟩
 rcases l with ⟨hk,hm⟩ | ⟨hk,c,hc,hcell⟩
 ·exact wpAny_Name (wpAny_loadName_local I.ok.kind hk hn hm fin) hd
 ·rcases hk with hk | hk
  ·exact wpAny_Name (wpAny_loadName_cell I.ok.kind hk hc hcell fin) hd
  ·exact wpAny_Name (wpAny_loadName_free I.ok.kind hk hc hcell fin hcd) hd
theorem ah {i j pos} : PE X (.Constant (.int i) j pos) (tC (.int i)):=fun _ _ _ H _ I h => wpAny_Constant_int ⟨.int i,H,I.tok _,⟨_,rfl⟩,h⟩
theorem g9 {b j pos} : PE X (.Constant (.bool b) j pos) (tC (.bl b)):=fun _ _ _ H _ I h => Constant_bool ⟨.bl b,H,I,rfl,h⟩
theorem uE {j pos} : PE X (.Constant .none j pos) (tC .non):=fun _ _ _ H _ I h => Constant_none ⟨.non,H,I,rfl,h⟩
def Gl (X : Cx) (x : Str) : Prop:=X.env.kindOf x = some .globalImplicit
theorem iV {E : Value -> Shared -> Prop} {pins : List (Addr × Obj)} {s : Shared} {σ : St} {H : Hp} {x : Str} {u : Value} {pos : Pos} {Q : Value -> Shared -> Prop} (I : Inv X pins σ H s) (hg : Gl X x) (hm : X.mg x = some u) (h : Q u s)
  (hd : (x == ("__debug__" : Str)) = false:=by decide) : wpAny (model X.prog X.w) X.A (eval (.Name x pos) X.env) Q E s:=
 Calls.Name_function_global I.ok.kind hg (Calls.loadGlobal_global (by rw [I.ok.glob]; exact I.mod.glob.keeps I.bk) hm h) hd
theorem yn {E : Value -> Shared -> Prop} {pins : List (Addr × Obj)} {s : Shared} {σ : St} {H : Hp} {x : Str} {u : Value} {pos : Pos} {Q : Value -> Shared -> Prop} (I : Inv X pins σ H s) (hg : Gl X x) (hm : X.mg x = none) (hv : bootBuiltins x = some u) (h : Q u s)
  (hn : x ≠ "__name__" := by decide) (hd : (x == ("__debug__" : Str)) = false:=by decide) : wpAny (model X.prog X.w) X.A (eval (.Name x pos) X.env) Q E s:=by
 obtain ⟨mb,h1,h2⟩:=I.mod.blt
 exact Calls.Name_function_global I.ok.kind hg (Calls.loadGlobal_builtin (by rw [I.ok.glob]; exact I.mod.glob.keeps I.bk) hm (by rw [I.ok.blt]; exact h1.keeps I.bk) ((h2 x hn).trans hv) h) hd
theorem gP {x : Str} {v : V} {u : Value} {pos : Pos} (hg : Gl X x) (hm : X.mg x = some u) (r : RelV v u) (hd : (x == ("__debug__" : Str)) = false:=by decide) : PE X (.Name x pos) (tC v):=
 fun _ _ _ H _ I h => iV I hg hm ⟨v,H,I,r,h⟩ hd
theorem iW {x : Str} {v : V} {u : Value} {pos : Pos} (hg : Gl X x) (hm : X.mg x = none) (hv : bootBuiltins x = some u) (r : RelV v u) (hn : x ≠ "__name__" := by decide) (hd : (x == ("__debug__" : Str)) = false:=by decide) : PE X (.Name x pos) (tC v):=
 fun _ _ _ H _ I h => yn I hg hm hv ⟨v,H,I,r,h⟩ hn hd
variable {a b : Expr} {ta tb : TE} {pos : Pos}
def PC (X : Cx) (op : CmpOp) (a b : Expr) (t : TE) : Prop:=
 ∀ (pins : List (Addr × Obj)) (s : Shared) (σ : St) (H : Hp) (Q : VK),Inv X pins σ H s -> t σ H Q ->
  wpAny (model X.prog X.w) X.A (eval a X.env) (fun v s₁ => wpAny (model X.prog X.w) X.A (eval b X.env) (fun u s₂ => wpAny (model X.prog X.w) X.A (compareOp op v u) (EP X pins σ Q) X.xe s₂) X.xe s₁) X.xe s
theorem Ez (b : Expr) {op : CmpOp} (h : op ≠ .In) (h2 : op ≠ .NotIn) : behindInMarks op b = false:=by
 have e1 : (op == CmpOp.In) = false:=by cases op <;> first | rfl | exact absurd rfl h
 have e2 : (op == CmpOp.NotIn) = false:=by cases op <;> first | rfl | exact absurd rfl h2
 cases b <;> simp [behindInMarks,e1,e2]
def tB (t : TE) : TT:=fun σ H Q => t σ H fun x H1 => ∃ c,x = .bl c /\ Q c H1
theorem Mn {op : CmpOp} {t : TE} (h : PC X op a b t) (h1 : behindInMarks op b = false:=by first | exact Ez _ (by decide) (by decide) | rfl) : PE X (.Compare a [op] [b] pos) t:=fun pins s σ H Q I hw => wpAny_Compare1 (h pins s σ H Q I hw) h1
theorem FJ {op : CmpOp} {t : TE} (h : PC X op a b t) (h1 : behindInMarks op b = false:=by first | exact Ez _ (by decide) (by decide) | rfl) : PT X (.Compare a [op] [b] pos) (tB t):=by
 intro pins s σ H Q I hw
 refine wpAny_isTrue_Compare1 (thn (h pins s σ H _ I hw) fun v s1 h1 => thn h1 fun u s2 h2 => thn h2 fun c s3 ⟨x,H1,I1,r1,q1⟩ => ?_) h1
 obtain ⟨d,rfl,q⟩:=q1
 cases r1
 exact wpAny_truthy_bool ⟨H1,I1,q⟩
theorem gj {e : Expr} {t : TE} (h : PE X e t) (he : ∀ whole,isTrue e X.env whole = (do let v <- whole; standAt e.pos; holding [v] (truthy v)):=by intro _; rfl) : PT X e (tB t):=by
 intro pins s σ H Q I hw
 refine isTrue_plain (thn (h pins s σ H _ I hw) fun v s1 ⟨x,H1,I1,r1,q1⟩ => ?_) (he _)
 obtain ⟨d,rfl,q⟩:=q1
 cases r1
 exact wpAny_truthy_bool ⟨H1,I1,q⟩
variable {tA tB' : TT} {rest : List Expr}
def N5 (t u : TT) : TT:=fun σ H Q => t σ H fun c H1 => if c = true then u σ H1 Q else Q false H1
def tOr (t u : TT) : TT:=fun σ H Q => t σ H fun c H1 => if c = true then Q true H1 else u σ H1 Q
def Oa (t : TT) : TT:=fun σ H Q => t σ H fun c H1 => Q (!c) H1
theorem xu (ha : PT X a tA) : PW X (.BoolOp .And [a] pos) tA:=by
 intro wh pins s σ H Q I h
 refine isTrue_and (thn (ha pins s σ H Q I h) fun c s1 e => ?_)
 cases c with
 | true => exact isTrue_and_nil e
 | false => exact e
theorem uK (ha : PT X a tA) : PW X (.BoolOp .Or [a] pos) tA:=by
 intro wh pins s σ H Q I h
 refine isTrue_or (thn (ha pins s σ H Q I h) fun c s1 e => ?_)
 cases c with
 | false => exact isTrue_or_nil e
 | true => exact e
theorem C1 (ha : PT X a tA) (hb : PW X (.BoolOp .And (b :: rest) pos) tB') : PW X (.BoolOp .And (a :: b :: rest) pos) (N5 tA tB'):=by
 intro wh pins s σ H Q I h
 refine isTrue_and (thn (ha pins s σ H _ I h) fun c s1 ⟨H1,I1,q1⟩ => ?_)
 cases c with
 | true => exact hb wh pins s1 σ H1 Q I1 q1
 | false => exact ⟨H1,I1,q1⟩
theorem qv (ha : PT X a tA) (hb : PW X (.BoolOp .Or (b :: rest) pos) tB') : PW X (.BoolOp .Or (a :: b :: rest) pos) (tOr tA tB'):=by
 intro wh pins s σ H Q I h
 refine isTrue_or (thn (ha pins s σ H _ I h) fun c s1 ⟨H1,I1,q1⟩ => ?_)
 cases c with
 | true => exact ⟨H1,I1,q1⟩
 | false => exact hb wh pins s1 σ H1 Q I1 q1
theorem jI (ha : PT X a tA) : PT X (.UnaryOp .Not a pos) (Oa tA):=by
 intro pins s σ H Q I h
 exact isTrue_not (ha pins s σ H (fun c H1 => Q (!c) H1) I h)
def Nk (ta tb : TE) : TE:=fun σ H Q => ta σ H fun x H1 => ∃ c,x = .bl c /\ if c = true then tb σ H1 Q else Q (.bl false) H1
def Nv (ta : TE) : TE:=fun σ H Q => ta σ H fun x H1 => ∃ c,x = .bl c /\ Q (.bl (!c)) H1
theorem mw {op} {t : TE} (h : PE X a t) : PE X (.BoolOp op [a] pos) t:=fun pins s σ H Q I hw => BoolOp_one (h pins s σ H Q I hw)
theorem iB (ha : PE X a ta) (hb : PE X (.BoolOp .And (b :: rest) pos) tb) : PE X (.BoolOp .And (a :: b :: rest) pos) (Nk ta tb):=by
 intro pins s σ H Q I h
 refine BoolOp_and (thn (ha pins s σ H _ I h) fun v s1 ⟨x,H1,I1,r1,q1⟩ => ?_)
 obtain ⟨c,rfl,q1⟩:=q1
 cases r1
 refine wpAny_truthy_bool ?_
 cases c with
 | true => exact hb pins s1 σ H1 Q I1 q1
 | false => exact ⟨.bl false,H1,I1,rfl,q1⟩
theorem CI (ha : PE X a ta) : PE X (.UnaryOp .Not a pos) (Nv ta):=by
 intro pins s σ H Q I h
 refine UnaryOp_ (thn (ha pins s σ H _ I h) fun v s1 ⟨x,H1,I1,r1,q1⟩ => ?_)
 obtain ⟨c,rfl,q1⟩:=q1
 cases r1
 exact not_of (wpAny_truthy_bool ⟨.bl (!c),H1,I1,rfl,q1⟩)
def tIf (t : TT) (ta tb : TE) : TE:=fun σ H Q => t σ H fun c H1 => if c = true then ta σ H1 Q else tb σ H1 Q
theorem JF {c : Expr} (hc : PT X c tA) (ha : PE X a ta) (hb : PE X b tb) : PE X (.IfExp c a b pos) (tIf tA ta tb):=by
 intro pins s σ H Q I h
 refine wpAny_IfExp (thn (hc pins s σ H _ I h) fun d s1 ⟨H1,I1,q1⟩ => ?_)
 cases d with
 | true => exact ha pins s1 σ H1 Q I1 q1
 | false => exact hb pins s1 σ H1 Q I1 q1
end
end L2
namespace L2
open PySem PySem.Spec PyProof.Rows
def SqL (K : PySem.W.Frag) (H : Hp) (a : Addr) (xs : List V) : Prop:=
 Rd H a (.lst xs) \/
  ∃ (o : Obj) (its : Array Value) (n : Nat),K.lookup a = some o /\ o.cls = .type "list" /\ o.dict = none /\ o.data = .seq its n /\ its.size <= sizeLine /\ Vals xs its.toList
def SqT (K : PySem.W.Frag) (H : Hp) (a : Addr) (xs : List V) : Prop:=
 Rd H a (.tup xs) \/
  ∃ (o : Obj) (its : Array Value) (n : Nat),K.lookup a = some o /\ o.cls = .type "tuple" /\ o.data = .seq its n /\ its.size <= sizeLine /\ Vals xs its.toList
def NJ : Value -> Option V
 | .none => some .non
 | .bool b => some (.bl b)
 | .int i _ => some (.int i)
 | .str x _ => some (.str x)
 | .bytes b _ => some (.byt b)
 | .float b _ => some (.flt b)
 | .ref a => some (.ref a)
 | .type n => some (.ty n)
 | _ => none
theorem RelV.abs {x : V} {u : Value} (r : RelV x u) : NJ u = some x:=by
 cases x with
 | non => cases r; rfl
 | bl _ => cases r; rfl
 | int _ => obtain ⟨t,rfl⟩:=r; rfl
 | str _ => obtain ⟨t,rfl⟩:=r; rfl
 | byt _ => obtain ⟨t,rfl⟩:=r; rfl
 | flt _ => obtain ⟨t,rfl⟩:=r; rfl
 | ref _ => cases r; rfl
 | ty _ => cases r; rfl
theorem RelV.inj {x y : V} {u : Value} (r : RelV x u) (q : RelV y u) : x = y:=Option.some.inj (r.abs.symm.trans q.abs)
theorem Vals.inj : ∀ {xs ys : List V} {us : List Value},Vals xs us -> Vals ys us -> xs = ys
 | _,_,_,.nil,.nil => rfl
 | _,_,_,.cons r t,.cons r' t' => by rw [r.inj r',Vals.inj t t']
section
variable {X : Cx} {pins : List (Addr × Obj)} {σ : St} {H : Hp} {s : Shared} {a : Addr} {xs ys : List V}
theorem SqL.of {K : PySem.W.Frag} (h : H a = some (.lst xs)) : SqL K H a xs:=.inl (.inl h)
theorem SqT.of {K : PySem.W.Frag} (h : H a = some (.tup xs)) : SqT K H a xs:=.inl (.inl h)
theorem Inv.list (I : Inv X pins σ H s) (h : SqL X.K H a xs) : ∃ its : List Value,Vals xs its /\ PlainL s.heap a its.toArray /\ xs.length <= sizeLine:=by
 rcases h with h | ⟨o,its,n,hk,hc,hd,hs,hz,r⟩
 ·obtain ⟨z,its,n,r,e⟩:=h.ok I.hok
  exact ⟨its,r,⟨_,n,e,rfl,rfl,rfl⟩,z⟩
 ·refine ⟨its.toList,r,⟨o,n,I.kIn a o hk,hc,hd,by simpa using hs⟩,?_⟩
  have e:=r.length
  simp only [Array.length_toList] at e
  omega
theorem Inv.tuple (I : Inv X pins σ H s) (h : SqT X.K H a xs) : ∃ its : List Value,Vals xs its /\ IsTup s.heap a its.toArray /\ xs.length <= sizeLine:=by
 rcases h with h | ⟨o,its,n,hk,hc,hs,hz,r⟩
 ·obtain ⟨z,its,r,p⟩:=h.ok I.hok
  exact ⟨its,r,p,z⟩
 ·refine ⟨its.toList,r,⟨o,I.kIn a o hk,hc,n,by simpa using hs⟩,?_⟩
  have e:=r.length
  simp only [Array.length_toList] at e
  omega
theorem Inv.list_inj (I : Inv X pins σ H s) (h : SqL X.K H a xs) (h' : SqL X.K H a ys) : xs = ys:=by
 obtain ⟨its,r,⟨o,n,e,_,_,d⟩,_⟩:=I.list h
 obtain ⟨its',r',⟨o',n',e',_,_,d'⟩,_⟩:=I.list h'
 rw [e] at e'; cases e'
 rw [d] at d'
 injection d' with d1 _
 have : its = its' := by simpa using congrArg Array.toList d1
 subst this
 exact r.inj r'
theorem Inv.tuple_inj (I : Inv X pins σ H s) (h : SqT X.K H a xs) (h' : SqT X.K H a ys) : xs = ys:=by
 obtain ⟨its,r,⟨o,e,_,n,d⟩,_⟩:=I.tuple h
 obtain ⟨its',r',⟨o',e',_,n',d'⟩,_⟩:=I.tuple h'
 rw [e] at e'; cases e'
 rw [d] at d'
 injection d' with d1 _
 have : its = its' := by simpa using congrArg Array.toList d1
 subst this
 exact r.inj r'
end
abbrev Cx.wish (X : Cx) (E : Value -> Shared -> Prop) : Cx:={ X with xe:=E }
abbrev Cx.nox (X : Cx) : Cx:=X.wish fun _ _ => False
theorem Cx.Ok.wish {X : Cx} (ok : X.Ok) (E : Value -> Shared -> Prop) : (X.wish E).Ok:=
 ⟨ok.mod,ok.kind,ok.glob,ok.blt,ok.above,ok.inj,ok.has,ok.cab,ok.hd,ok.frames,ok.stk,ok.exf,ok.bs,ok.bsz,ok.noex,ok.exfs,ok.funs,ok.frf⟩
theorem Cx.Ok.unwish {X : Cx} {E : Value -> Shared -> Prop} (ok : (X.wish E).Ok) : X.Ok:=
 ⟨ok.mod,ok.kind,ok.glob,ok.blt,ok.above,ok.inj,ok.has,ok.cab,ok.hd,ok.frames,ok.stk,ok.exf,ok.bs,ok.bsz,ok.noex,ok.exfs,ok.funs,ok.frf⟩
section
variable {X : Cx} {pins : List (Addr × Obj)} {σ : St} {H : Hp} {s : Shared} {E : Value -> Shared -> Prop}
theorem Inv.wish (I : Inv X pins σ H s) (E : Value -> Shared -> Prop) : Inv (X.wish E) pins σ H s:=⟨I.ok.wish E,I.os,I.bare,I.base,I.loc,I.cell,I.free,I.freeC,I.pin,I.hok,I.len⟩
theorem Inv.unwish (I : Inv (X.wish E) pins σ H s) : Inv X pins σ H s:=⟨I.ok.unwish,I.os,I.bare,I.base,I.loc,I.cell,I.free,I.freeC,I.pin,I.hok,I.len⟩
theorem SP.unwish {D : Ends} {f : Flow} {s' : Shared} (h : SP (X.wish E) pins D f s') : SP X pins D f s' := by
 cases f with
 | next => obtain ⟨σ',H',I,q⟩:=h; exact ⟨σ',H',I.unwish,q⟩
 | brk => obtain ⟨σ',H',I,q⟩:=h; exact ⟨σ',H',I.unwish,q⟩
 | cont => obtain ⟨σ',H',I,q⟩:=h; exact ⟨σ',H',I.unwish,q⟩
 | ret u => obtain ⟨v,σ',H',I,r,q⟩:=h; exact ⟨v,σ',H',I.unwish,r,q⟩
theorem PSs.nox {st : List Stmt} {t : TS} (h : PSs X.nox st t) : PSs X st t:=fun pins s σ H D I hw =>
 wpAny_mono (h pins s σ H D (I.wish _) hw) (fun _ _ q => q.unwish) fun _ _ z => False.elim z
end
section
variable {X : Cx} {st : Stmt} {rest : List Stmt} {t u : TS} {e : Expr} {te : TE} {pos : Pos}
def cy : TS:=fun D σ H => D.nx σ H
def Lk (t u : TS) : TS:=fun D σ H => t { D with nx:=u D } σ H
theorem aP : PSs X [] cy:=fun _ _ σ H _ I h => wpAny_execs_nil ⟨σ,H,I,h⟩
theorem ak (h1 : PS X st t) (h2 : PSs X rest u) : PSs X (st :: rest) (Lk t u):=by
 intro pins s σ H D I h
 refine wpAny_execs_cons (thn (h1 pins s σ H { D with nx:=u D } I h) fun f s1 q => ?_)
 cases f with
 | next =>
  obtain ⟨σ',H',I',q⟩:=q
  exact h2 pins s1 σ' H' D I' q
 | ret v => exact q
 | brk => exact q
 | cont => exact q
theorem ai (h1 : PS X st t) : PSs X [st] t:=by
 intro pins s σ H D I h
 refine wpAny_execs_cons (thn (h1 pins s σ H D I h) fun f s1 q => ?_)
 cases f with
 | next => exact wpAny_execs_nil q
 | ret v => exact q
 | brk => exact q
 | cont => exact q
theorem Inv.quiet {pins : List (Addr × Obj)} {σ : St} {H : Hp} {s : Shared} (I : Inv X pins σ H s) : interactive X.env = false:=by simp [interactive,I.ok.kind]
def Nm (te : TE) : TS:=fun D σ H => te σ H fun _ H1 => D.nx σ H1
theorem iX (he : PE X e te) (hs : swapsWith e none pos.line X.env = pure false:=by rfl) : PS X (.Expr e pos) (Nm te):=by
 intro pins s σ H D I h
 exact wpAny_Expr_any (thn (he pins s σ H _ I h) fun v s1 ⟨x,H1,I1,r1,q1⟩ => ⟨σ,H1,I1,q1⟩) I.quiet hs
def Nx (te : TE) : TS:=fun D σ H => te σ H D.rt
theorem ax (he : PE X e te) : PS X (.Return (some e) pos) (Nx te):=by
 intro pins s σ H D I h
 exact wpAny_Return_some (thn (he pins s σ H _ I h) fun v s1 ⟨x,H1,I1,r1,q1⟩ => ⟨x,σ,H1,I1,r1,q1⟩)
def Nr (c : TT) (t u : TS) : TS:=fun D σ H => c σ H fun b H1 => if b = true then t D σ H1 else u D σ H1
theorem br {c : Expr} {a b : List Stmt} {tc : TT} (hc : PT X c tc) (ha : PSs X a t) (hb : PSs X b u) : PS X (.If c a b pos) (Nr tc t u):=by
 intro pins s σ H D I h
 refine wpAny_If (thn (hc pins s σ H _ I h) fun d s1 ⟨H1,I1,q1⟩ => ?_)
 cases d with
 | true => exact ha pins s1 σ H1 D I1 q1
 | false => exact hb pins s1 σ H1 D I1 q1
end
abbrev TG:=V -> St -> Hp -> (St -> Hp -> Prop) -> Prop
abbrev TGs:=List V -> St -> Hp -> (St -> Hp -> Prop) -> Prop
def PG (X : Cx) (target : Expr) (t : TG) : Prop:=
 ∀ (pins : List (Addr × Obj)) (s : Shared) (σ : St) (H : Hp) (v : V) (u : Value) (Q : St -> Hp -> Prop),Inv X pins σ H s -> RelV v u -> t v σ H Q ->
  wpAny (model X.prog X.w) X.A (assign target X.env u) (fun _ s' => ∃ σ' H',Inv X pins σ' H' s' /\ Q σ' H') X.xe s
def PGs (X : Cx) (ts : List Expr) (t : TGs) : Prop:=
 ∀ (pins : List (Addr × Obj)) (s : Shared) (σ : St) (H : Hp) (vs : List V) (us : List Value) (Q : St -> Hp -> Prop),Inv X pins σ H s -> Vals vs us -> t vs σ H Q ->
  wpAny (model X.prog X.w) X.A (assignInOrder ((assignEach ts X.env).map (·.2)) us) (fun _ s' => ∃ σ' H',Inv X pins σ' H' s' /\ Q σ' H') X.xe s
abbrev LJ:=V -> V -> V -> Hp -> (Hp -> Prop) -> Prop
def MS (X : Cx) (t : LJ) : Prop:=
 ∀ (pins : List (Addr × Obj)) (s : Shared) (σ : St) (H : Hp) (o i v : V) (ov iv u : Value) (Q : Hp -> Prop),Inv X pins σ H s -> RelV o ov -> RelV i iv -> RelV v u -> t o i v H Q ->
  wpAny (model X.prog X.w) X.A (setItem ov iv u) (fun _ s' => ∃ H',Inv X pins σ H' s' /\ Q H') X.xe s
section
variable {X : Cx} {pos : Pos}
def a7 (i : Nat) : TG:=fun v σ H Q => Q (σ.set i (some v)) H
theorem aL {i : Nat} {x : Str} (hN : X.N.Nodup) (hi : X.N[i]? = some x) (hx : Loc X.env.scope x) (hf : X.fn x = true \/ X.env.scope.names.lookup x = some .local:=by first | exact .inl rfl | exact .inr rfl | assumption) : PG X (.Name x pos) (a7 i):=by
 intro pins s σ H v u Q I r h
 exact wpAny_assign_Name (pB I hN hi hx r (fun s' I' => ⟨_,H,I',h⟩) hf)
def NM : TGs:=fun vs σ H Q => vs = [] /\ Q σ H
def MW (t : TG) (u : TGs) : TGs:=fun vs σ H Q => ∃ v r,vs = v :: r /\ t v σ H fun σ' H' => u r σ' H' Q
theorem xr : PGs X [] NM:=by
 intro pins s σ H vs us Q I r h
 obtain ⟨e,h⟩:=h
 subst e
 cases r
 exact assignInOrder_nil ⟨σ,H,I,h⟩
theorem dh {e : Expr} {es : List Expr} {t : TG} {u : TGs} (h1 : PG X e t) (h2 : PGs X es u)
  (hs : (assignEach (e :: es) X.env).map (·.2) = assign e X.env :: (assignEach es X.env).map (·.2):=by rfl) : PGs X (e :: es) (MW t u):=by
 intro pins s σ H vs us Q I r h
 obtain ⟨v,vr,e1,h⟩:=h
 subst e1
 cases r with
 | cons r rr =>
  rw [hs]
  refine assignInOrder_cons (thn (h1 pins s σ H _ _ _ I r h) fun _ s1 ⟨σ1,H1,I1,q1⟩ => ?_)
  exact h2 pins s1 σ1 H1 _ _ Q I1 rr q1
def MX (K : PySem.W.Frag) (n : Nat) (t : TGs) : TG:=fun v σ H Q => ∃ a xs,v = .ref a /\ SqT K H a xs /\ xs.length = n /\ t xs σ H Q
theorem CJ {es : List Expr} {k : Nat} {t : TGs} {n : Nat} (hc : X.calm = true) (h : PGs X es t)
  (hn : (assignEach es X.env).length = n:=by rfl) (hst : (assignEach es X.env).findIdx? (·.1) = none:=by rfl) : PG X (.Tuple es k pos) (MX X.K n t):=by
 intro pins s σ H v u Q I r hw
 obtain ⟨a,xs,e1,hq,hl,hw⟩:=hw
 subst e1
 cases r
 obtain ⟨its,rv,ht,hz⟩:=I.tuple hq
 refine assign_Tuple_tuple (I.ok.hd hc) ht (by simp [hn,<- hl,rv.length]) hst fun h' hx => ?_
 have I1 : Inv X pins σ H { s with heap:=h' }:=I.kept (t' := s.toks) fun b o e => hx b o (Nat.ne_of_lt (Heap.lt_size e)) e
 exact h pins _ σ H xs _ Q I1 (by simpa using rv) hw
def NN (to ti : TE) (t : LJ) : TG:=fun v σ H Q => to σ H fun o H1 => ti σ H1 fun i H2 => t o i v H2 fun H3 => Q σ H3
theorem Ms {o i : Expr} {to ti : TE} {t : LJ} (ho : PE X o to) (hi : PE X i ti) (hs : MS X t)
  (ha : ∀ v,assign (.Subscript o i pos) X.env v = (do
   let ov <- holding [v] (eval o X.env)
   let iv <- holding [v,ov] (eval i X.env)
   standAt pos
   holding [v,ov,iv] (setItem ov iv v)
   release [v,ov,iv] []):=by intro _; rfl) : PG X (.Subscript o i pos) (NN to ti t):=by
 intro pins s σ H v u Q I r h
 rw [ha]
 refine wpAny_bind (wpAny_holding (thn (ho pins s σ H _ I h) fun ov s1 ⟨x,H1,I1,r1,q1⟩ => ?_))
 refine wpAny_bind (wpAny_holding (thn (hi pins s1 σ H1 _ I1 q1) fun iv s2 ⟨y,H2,I2,r2,q2⟩ => ?_))
 refine wpAny_bind (wpAny_standAt (wpAny_bind (wpAny_holding (thn (hs pins s2 σ H2 x y v ov iv u _ I2 r1 r2 r q2) fun _ s3 ⟨H3,I3,q3⟩ => ?_))))
 exact wpAny_release ⟨σ,H3,I3,q3⟩
def Li (te : TE) (g : TG) : TS:=fun D σ H => te σ H fun x H1 => g x σ H1 D.nx
theorem FI {tg e : Expr} {te : TE} {g : TG} (he : PE X e te) (hg : PG X tg g) (hs : swapsWithSole [tg] e pos.line X.env = pure false:=by rfl) (hw : swappedStores [tg] e X.env = pure none:=by rfl)
  (h1 : (assignEach [tg] X.env).map (·.2) = [assign tg X.env]:=by rfl) : PS X (.Assign [tg] e pos) (Li te g):=by
 intro pins s σ H D I h
 refine wpAny_Assign_stores (thn (he pins s σ H _ I h) fun v s1 ⟨x,H1,I1,r1,q1⟩ => ?_) hs hw
 rw [h1]
 exact thn (hg pins s1 σ H1 x v _ I1 r1 q1) fun _ s2 q => q
theorem aC {i : Nat} {x : Str} {e : Expr} {te : TE} {pos' : Pos} (hN : X.N.Nodup) (hi : X.N[i]? = some x) (hx : Loc X.env.scope x) (he : PE X e te) (hs : swapsWith e (some (.Name x pos')) pos.line X.env = pure false:=by rfl) (hf : X.fn x = true \/ X.env.scope.names.lookup x = some .local:=by first | exact .inl rfl | exact .inr rfl | assumption) :
  PS X (.Assign [.Name x pos'] e pos) (Li te (a7 i)):=by
 intro pins s σ H D I h
 refine wpAny_Assign_Name (thn (he pins s σ H _ I h) fun v s1 ⟨y,H1,I1,r1,q1⟩ => ?_) hs
 exact pB I1 hN hi hx r1 (fun s2 I2 => ⟨_,H1,I2,q1⟩) hf
end
section
variable {X : Cx} {pos : Pos}
def DI (c : TT) (tb : TS) : TS:=fun D σ H => ∃ W : Nat -> St -> Hp -> Prop,(∃ m,W m σ H) /\ ∀ m σ H,W m σ H ->
 c σ H fun b H1 => if b = true then ∃ N : St -> Hp -> Prop,(∀ σ' H',N σ' H' -> ∃ m',m' < m /\ W m' σ' H') /\ tb { D with nx:=N,ct:=N,bk:=D.nx } σ H1 else D.nx σ H1
theorem ES {c : Expr} {body : List Stmt} {tc : TT} {tb : TS} (hp : PassesOwn (model X.prog X.w) X.A X.env X.xe) (hc : PT X c tc) (hb : PSs X body tb) : PS X (.While c body [] pos) (DI tc tb):=by
 intro pins s σ H D I h
 obtain ⟨W,⟨m0,w0⟩,turn⟩:=h
 refine wpAny_While (codeAny_whileLoop (fun n s' => ∃ σ' H',Inv X pins σ' H' s' /\ W n σ' H') ?_ m0 ⟨σ,H,I,w0⟩)
 rintro n s1 ⟨σ1,H1,I1,w1⟩
 refine wpAny_passesOwn hp (thn (hc pins s1 σ1 H1 _ I1 (turn n σ1 H1 w1)) fun b s2 ⟨H2,I2,q2⟩ => ?_)
 cases b with
 | true =>
  obtain ⟨N,hN,q2⟩:=q2
  rw [if_pos rfl]
  refine wpAny_passesOwn hp (thn (hb pins s2 σ1 H2 _ I2 q2) fun f s3 q3 => ?_)
  cases f with
  | next =>
   obtain ⟨σ3,H3,I3,n3⟩:=q3
   obtain ⟨m',hm,w3⟩:=hN σ3 H3 n3
   exact ⟨m',hm,σ3,H3,I3,w3⟩
  | cont =>
   obtain ⟨σ3,H3,I3,n3⟩:=q3
   obtain ⟨m',hm,w3⟩:=hN σ3 H3 n3
   exact ⟨m',hm,σ3,H3,I3,w3⟩
  | brk => exact q3
  | ret v => exact q3
 | false =>
  rw [if_neg Bool.false_ne_true]
  exact wpAny_execs_nil ⟨σ1,H2,I2,q2⟩
end
structure It where
 go : Nat -> Hp -> Prop
 yld : Nat -> Hp -> V -> Hp -> Prop
 stop : Nat -> Hp -> Prop
def pM (X : Cx) (pins : List (Addr × Obj)) (H : Hp) (b : Addr) : Prop:=
 H b = none /\ b ≠ X.env.locals /\ b ∉ X.fs /\ (b ∈ X.ex \/ X.s₀.heap.objs.size <= b) /\ (∀ x c,X.env.cells.lookup x = some c -> c ≠ b) /\ ∀ p ∈ X.pn ++ pins,p.1 ≠ b
theorem Inv.fpOk {X : Cx} {pins : List (Addr × Obj)} {σ : St} {H H' : Hp} {s : Shared} {b : Addr} (I : Inv X pins σ H s) (hb : s.heap.objs.size <= b) (hn : H' b = none) : pM X pins H' b:=by
 refine ⟨hn,Nat.ne_of_gt (Nat.lt_of_lt_of_le I.lt hb),I.nofs hb,.inr (Nat.le_trans I.sz hb),fun x c e z => ?_,fun p hp z => ?_⟩
 ·obtain ⟨v,q⟩:=I.cell x c e
  exact absurd (Nat.lt_of_lt_of_le q.lt (by rw [z]; exact hb)) (Nat.lt_irrefl _)
 ·exact absurd (Nat.lt_of_lt_of_le (Heap.lt_size (I.pin p hp).1) (by rw [z]; exact hb)) (Nat.lt_irrefl _)
structure Turn (P : Program) (w : World) (K : PySem.W.Frag) (tg : Expr) (J : It) (fp : List Addr) (it : Addr) (tn : Nat -> Heap -> Prop) : Prop where
 mem : it ∈ fp
 obj : ∀ i h,tn i h -> ∀ b ∈ fp,∃ o,h.get? b = some o /\ ∀ v,o.data ≠ .cell v
 keep : ∀ i h h',tn i h -> (∀ b ∈ fp,∀ o,h.get? b = some o -> h'.get? b = some o) -> tn i h'
 item : ∀ (X : Cx),X.prog = P -> X.w = w -> X.K = K -> X.calm = true -> ∀ (i : Nat) (pins : List (Addr × Obj)) (s : Shared) (σ : St) (H : Hp) (E : Value -> Shared -> Prop),Inv X pins σ H s -> (∀ b ∈ fp,pM X pins H b) -> tn i s.heap -> J.go i H ->
  wpAny (model P w) X.A (pyNext (.ref it)) (fun r s1 => ∃ u,r = some u /\
   wpAny (model P w) X.A (letOwnedTupleGo tg (.ref it) u) (fun _ s2 => ∃ x H',Inv X pins σ H' s2 /\ RelV x u /\ J.yld i H x H' /\ tn (i + 1) s2.heap /\ ∀ b ∈ fp,H' b = none) E s1) E s
 done : ∀ (X : Cx),X.prog = P -> X.w = w -> X.K = K -> X.calm = true -> ∀ (i : Nat) (pins : List (Addr × Obj)) (s : Shared) (σ : St) (H : Hp) (E : Value -> Shared -> Prop),Inv X pins σ H s -> (∀ b ∈ fp,pM X pins H b) -> tn i s.heap -> J.stop i H ->
  wpAny (model P w) X.A (pyNext (.ref it)) (fun r s1 => r = none /\ Inv X pins σ H s1) E s
 self : ∀ (A : Around) (i : Nat) (s : Shared) (Q : Value -> Shared -> Prop) (E : Value -> Shared -> Prop),tn i s.heap -> Q (.ref it) s -> wpAny (model P w) A (pyIter (.ref it)) Q E s
abbrev TI:=St -> Hp -> (It -> Hp -> Prop) -> Prop
def PIE (X : Cx) (pins : List (Addr × Obj)) (σ : St) (tg : Expr) (R : It -> Hp -> Prop) (itv : Value) (s2 : Shared) : Prop:=
 ∃ (it : Addr) (fp : List Addr) (tn : Nat -> Heap -> Prop) (J : It) (H' : Hp),itv = .ref it /\ Inv X pins σ H' s2 /\ Turn X.prog X.w X.K tg J fp it tn /\ tn 0 s2.heap /\ (∀ b ∈ fp,pM X pins H' b) /\ R J H'
def PI (X : Cx) (tg iter : Expr) (wi : TI) : Prop:=
 ∀ (pins : List (Addr × Obj)) (s : Shared) (σ : St) (H : Hp) (R : It -> Hp -> Prop),Inv X pins σ H s -> wi σ H R ->
  wpAny (model X.prog X.w) X.A (eval iter X.env) (fun v s1 => wpAny (model X.prog X.w) X.A (pyIter v) (PIE X pins σ tg R) X.xe s1) X.xe s
theorem AE {M : Model} {A : Around} {E : Value -> Shared -> Prop} {s : Shared} {tg : Expr} {it : Addr} {u : Value} {o : Obj} {n : String} {vs : Array Value} {Q : Unit -> Shared -> Prop} (ho : s.heap.get? it = some o) (hc : o.cls = .type n) (hd : o.data = .fields vs)
  (hn : ["enumerate","zip","dict_itemiterator","dict_reverseitemiterator","odict_iterator","itertools.zip_longest","itertools.pairwise"].contains n = false) (hQ : Q () s) : wpAny M A (letOwnedTupleGo tg (.ref it) u) Q E s:=by
 unfold letOwnedTupleGo
 cases tg <;> first
  | exact wpAny_pure hQ
  | (cases u <;> first
    | exact wpAny_pure hQ
    | (refine wpAny_bind (wpAny_load ho ?_)
       rw [hc,hd]
       show wpAny M A (if (["enumerate","zip","dict_itemiterator","dict_reverseitemiterator","odict_iterator","itertools.zip_longest","itertools.pairwise"].contains n && vs[0]? == some (rawInt _)) = true then _ else _) Q E s
       rw [if_neg (by intro h; rw [hn,Bool.false_and] at h; cases h)]
       exact wpAny_pure hQ))
def Itl (K : PySem.W.Frag) (a : Addr) : It:=
 ⟨fun i H => ∃ xs x,SqL K H a xs /\ xs[i]? = some x,fun i H x H' => H' = H /\ ∀ xs,SqL K H a xs -> xs[i]? = some x,fun i H => ∃ xs,SqL K H a xs /\ xs.length <= i⟩
def Itt (K : PySem.W.Frag) (a : Addr) : It:=
 ⟨fun i H => ∃ xs x,SqT K H a xs /\ xs[i]? = some x,fun i H x H' => H' = H /\ ∀ xs,SqT K H a xs -> xs[i]? = some x,fun i H => ∃ xs,SqT K H a xs /\ xs.length <= i⟩
def Itr (lo : Int) (n : Nat) : It:=⟨fun i _ => i < n,fun i H x H' => H' = H /\ x = .int (lo + i),fun i _ => n <= i⟩
theorem AV {P : Program} {w : World} {K : PySem.W.Frag} {tg : Expr} (a it : Addr) : Turn P w K tg (Itl K a) [it] it (fun i h => h.IsListIter it a i) where
 mem:=by simp
 obj:=fun i h st b hb => by
  have e : b = it:=by simpa using hb
  subst e
  obtain ⟨o,e,c,d⟩:=st
  exact ⟨o,e,fun v z => by rw [d] at z; cases z⟩
 keep:=fun i h h' st k => st.at fun o e => k it (by simp) o e
 item:=by
  intro X hP hw hK hc i pins s σ H E I hf st hg
  subst hP hw hK
  obtain ⟨xs,x,hq,hx⟩:=hg
  obtain ⟨its,rv,p,hz⟩:=I.list hq
  obtain ⟨u,hu,ru⟩:=rv.get hx
  obtain ⟨f0,f1,f2,f3,f4,f5⟩:=hf it (by simp)
  refine wpAny_pyNext_list_item st p.isList (x:=u) (by simpa using hu) fun h' st' sb => ?_
  have I1 : Inv X pins σ H { s with heap:=h' }:=I.turned (t' := s.toks) (fun b o hb e => (sb.2 b hb).trans e) f0 f1 f3 f4 f5
  obtain ⟨o,e,c,d⟩:=id st'
  exact ⟨u,rfl,AE (s:={ s with heap:=h' }) e c d (by decide) ⟨x,H,I1,ru,⟨rfl,fun ys hy => by rw [I.list_inj hy hq]; exact hx⟩,st',fun b hb => (hf b hb).1⟩⟩
 done:=by
  intro X hP hw hK hc i pins s σ H E I hf st hg
  subst hP hw hK
  obtain ⟨xs,hq,hx⟩:=hg
  obtain ⟨its,rv,p,hz⟩:=I.list hq
  obtain ⟨f0,f1,f2,f3,f4,f5⟩:=hf it (by simp)
  have hl:=rv.length
  exact wpAny_pyNext_list_end (I.ok.hd hc) st p.isList (by simp; omega) fun h' eb => ⟨rfl,I.turned (t' := s.toks) (fun b o hb e => eb b o hb e) f0 f1 f3 f4 f5⟩
 self:=fun _ _ _ _ _ st h => wpAny_pyIter_listiter st h
theorem za {P : Program} {w : World} {K : PySem.W.Frag} {tg : Expr} (a it : Addr) : Turn P w K tg (Itt K a) [it] it (fun i h => h.IsTupleIter it a i) where
 mem:=by simp
 obj:=fun i h st b hb => by
  have e : b = it:=by simpa using hb
  subst e
  obtain ⟨o,e,c,d⟩:=st
  exact ⟨o,e,fun v z => by rw [d] at z; cases z⟩
 keep:=fun i h h' st k => st.at fun o e => k it (by simp) o e
 item:=by
  intro X hP hw hK hc i pins s σ H E I hf st hg
  subst hP hw hK
  obtain ⟨xs,x,hq,hx⟩:=hg
  obtain ⟨its,rv,p,hz⟩:=I.tuple hq
  obtain ⟨u,hu,ru⟩:=rv.get hx
  obtain ⟨f0,f1,f2,f3,f4,f5⟩:=hf it (by simp)
  refine wpAny_pyNext_tuple_item st (show s.heap.IsTuple a its.toArray from p) (x:=u) (by simpa using hu) fun h' st' sb => ?_
  have I1 : Inv X pins σ H { s with heap:=h' }:=I.turned (t' := s.toks) (fun b o hb e => (sb.2 b hb).trans e) f0 f1 f3 f4 f5
  obtain ⟨o,e,c,d⟩:=id st'
  exact ⟨u,rfl,AE (s:={ s with heap:=h' }) e c d (by decide) ⟨x,H,I1,ru,⟨rfl,fun ys hy => by rw [I.tuple_inj hy hq]; exact hx⟩,st',fun b hb => (hf b hb).1⟩⟩
 done:=by
  intro X hP hw hK hc i pins s σ H E I hf st hg
  subst hP hw hK
  obtain ⟨xs,hq,hx⟩:=hg
  obtain ⟨its,rv,p,hz⟩:=I.tuple hq
  obtain ⟨f0,f1,f2,f3,f4,f5⟩:=hf it (by simp)
  have hl:=rv.length
  exact wpAny_pyNext_tuple_end (I.ok.hd hc) st (show s.heap.IsTuple a its.toArray from p) (by simp; omega) fun h' eb => ⟨rfl,I.turned (t' := s.toks) (fun b o hb e => eb b o hb e) f0 f1 f3 f4 f5⟩
 self:=fun _ _ _ _ _ st h => wpAny_pyIter_tupleiter st h
theorem FZ {P : Program} {w : World} {K : PySem.W.Frag} {tg : Expr} (it : Addr) (lo : Int) (n : Nat) : Turn P w K tg (Itr lo n) [it] it (fun i h => IsRangeIter h it (lo + (i : Nat) * 1) ((n : Int) - (i : Nat)) 1) where
 mem:=by simp
 obj:=fun i h st b hb => by
  have e : b = it:=by simpa using hb
  subst e
  exact ⟨_,st,fun v z => by
   have z' : Data.fields _ = Data.cell v:=z
   cases z'⟩
 keep:=fun i h h' st k => k it (by simp) _ st
 item:=by
  intro X hP hw hK hc i pins s σ H E I hf st hg
  subst hP hw hK
  obtain ⟨f0,f1,f2,f3,f4,f5⟩:=hf it (by simp)
  have W:=Walks.range (prog:=X.prog) (w:=X.w) (I.ok.hd hc) it lo 1 n
  refine W.item i s _ _ hg st fun v h' tk hv st' kk => ?_
  obtain ⟨t,rfl⟩:=hv
  have I1 : Inv X pins σ H { s with heap:=h',toks:=tk }:=I.turned (fun b o hb e => kk b o (by simpa using hb) e) f0 f1 f3 f4 f5
  refine ⟨_,rfl,AE (s:={ s with heap:=h',toks:=tk }) (n := "range_iterator") st' rfl rfl (by decide) ⟨.int (lo + i),H,I1,⟨t,?_⟩,⟨rfl,rfl⟩,st',fun b hb => (hf b hb).1⟩⟩
  rw [Int.mul_one]
 done:=by
  intro X hP hw hK hc i pins s σ H E I hf st hg
  subst hP hw hK
  obtain ⟨f0,f1,f2,f3,f4,f5⟩:=hf it (by simp)
  exact wpAny_pyNext_range_end (I.ok.hd hc) st (by have : n <= i:=hg; omega) fun h' eb => ⟨rfl,I.turned (t' := s.toks) (fun b o hb e => eb b o hb e) f0 f1 f3 f4 f5⟩
 self:=fun _ _ _ _ _ st h => wpAny_pyIter_rangeiter st h
end L2
namespace L2
open PySem PySem.Spec PyProof.Rows
section
variable {X : Cx} {tg : Expr}
def MY (K : PySem.W.Frag) (tl : TE) : TI:=fun σ H R => tl σ H fun x H1 => ∃ a,x = .ref a /\ (∃ xs,SqL K H1 a xs) /\ R (Itl K a) H1
def NP (K : PySem.W.Frag) (tl : TE) : TI:=fun σ H R => tl σ H fun x H1 => ∃ a,x = .ref a /\ (∃ xs,SqT K H1 a xs) /\ R (Itt K a) H1
theorem CK {l : Expr} {tl : TE} (hl : PE X l tl) : PI X tg l (MY X.K tl):=by
 intro pins s σ H R I h
 refine thn (hl pins s σ H _ I h) fun v s1 ⟨x,H1,I1,r1,q1⟩ => ?_
 obtain ⟨a,e,⟨xs,hq⟩,q⟩:=q1
 subst e
 cases r1
 obtain ⟨its,rv,p,hz⟩:=I1.list hq
 refine wpAny_pyIter_list p.isList ?_
 refine ⟨s1.heap.objs.size,[s1.heap.objs.size],_,_,H1,rfl,I1.kept (t' := s1.toks) fun b o e => Heap.get?_push_of_some _ e,AV a _,⟨_,Heap.get?_push_size _ rfl,rfl,rfl⟩,fun b hb => ?_,q⟩
 have e : b = s1.heap.objs.size:=by simpa using hb
 subst e
 exact I1.fpOk (Nat.le_refl _) (I1.hok.fresh (Nat.le_refl _))
theorem pd {l : Expr} {tl : TE} (hl : PE X l tl) : PI X tg l (NP X.K tl):=by
 intro pins s σ H R I h
 refine thn (hl pins s σ H _ I h) fun v s1 ⟨x,H1,I1,r1,q1⟩ => ?_
 obtain ⟨a,e,⟨xs,hq⟩,q⟩:=q1
 subst e
 cases r1
 obtain ⟨its,rv,p,hz⟩:=I1.tuple hq
 refine wpAny_pyIter_tuple (show s1.heap.IsTuple a its.toArray from p) ?_
 refine ⟨s1.heap.objs.size,[s1.heap.objs.size],_,_,H1,rfl,I1.kept (t' := s1.toks) fun b o e => Heap.get?_push_of_some _ e,za a _,⟨_,Heap.get?_push_size _ rfl,rfl,rfl⟩,fun b hb => ?_,q⟩
 have e : b = s1.heap.objs.size:=by simpa using hb
 subst e
 exact I1.fpOk (Nat.le_refl _) (I1.hok.fresh (Nat.le_refl _))
theorem JO {pins : List (Addr × Obj)} {σ : St} {H : Hp} {s : Shared} {R : It -> Hp -> Prop} {E : Value -> Shared -> Prop} {lo hi : Int} {t u v : Tok} {tk : Nat} (I : Inv X pins σ H s) (h1 : -(2 ^ 62) <= lo) (h2 : lo < 2 ^ 62) (h3 : -(2 ^ 62) <= hi) (h4 : hi < 2 ^ 62)
  (q : R (Itr lo (hi - lo).toNat) H) : wpAny (model X.prog X.w) X.A (pyIter (.ref s.heap.objs.size)) (PIE X pins σ tg R) E { s with heap:=s.heap.push { cls:=.type "range",data:=.fields #[.int lo t,.int hi u,.int 1 v] },toks:=tk }:=by
 refine wpAny_pyIter_range (IsRange.new ..) (small_one h1 h2 h3 h4) ?_
 have I1 : Inv X pins σ H { s with heap:=s.heap.push { cls:=.type "range",data:=.fields #[.int lo t,.int hi u,.int 1 v] },toks:=tk }:=I.kept fun b o e => Heap.get?_push_of_some _ e
 refine ⟨(s.heap.push { cls:=.type "range",data:=.fields #[.int lo t,.int hi u,.int 1 v] }).objs.size,[(s.heap.push { cls:=.type "range",data:=.fields #[.int lo t,.int hi u,.int 1 v] }).objs.size],_,_,H,rfl,
  I1.kept (t' := tk) fun b o e => Heap.get?_push_of_some _ e,FZ _ lo (hi - lo).toNat,?_,fun b hb => ?_,q⟩
 ·have e1 : lo + ((0 : Nat) : Int) * 1 = lo:=by simp
  have e2 : (((hi - lo).toNat : Nat) : Int) - ((0 : Nat) : Int) = Builtin.Range.rangeSize lo hi 1:=by rw [rangeSize_one]; split <;> omega
  show IsRangeIter _ _ (lo + ((0 : Nat) : Int) * 1) ((((hi - lo).toNat : Nat) : Int) - ((0 : Nat) : Int)) 1
  rw [e1,e2]
  exact Heap.get?_push_size _ rfl
 ·have e : b = (s.heap.push { cls:=.type "range",data:=.fields #[.int lo t,.int hi u,.int 1 v] }).objs.size:=by simpa using hb
  subst e
  exact I1.fpOk (Nat.le_refl _) (I1.hok.fresh (Nat.le_refl _))
def M4 (ta : TA) : TI:=fun σ H R => ta σ H fun vs H1 => ∃ j : Int,vs = [.int j] /\ -(2 ^ 62) <= j /\ j < 2 ^ 62 /\ R (Itr 0 j.toNat) H1
theorem ba {a : Expr} {ta : TA} {p pos : Pos} (hg : Gl X "range") (hm : X.mg "range" = none) (ha : PA X [a] ta) (hs : starEach [a] X.env = [(false,eval a X.env)]:=by rfl) : PI X tg (.Call (.Name "range" p) [a] [] pos) (M4 ta):=by
 intro pins s σ H R I h
 refine Call_ (yn I hg hm boot_range (PyProof.Rows.callWith_type1 (thn (ha pos pins s σ H _ I h) fun us s1 ⟨vs,H1,I1,r1,q1⟩ => ?_) hs rfl))
 obtain ⟨j,e,q1,q2,q⟩:=q1
 subst e
 cases r1 with
 | cons r rr =>
  cases rr
  obtain ⟨t,rfl⟩:=r
  exact call_range_1 (JO I1 (by omega) (by omega) q1 q2 (by simpa using q))
def FV (wi : TI) (g : TG) (tb : TS) : TS:=fun D σ H => wi σ H fun J H1 => ∃ W : Nat -> Nat -> St -> Hp -> Prop,(∃ m,W 0 m σ H1) /\ ∀ i m σ H,W i m σ H ->
 (J.stop i H /\ D.nx σ H) \/ (J.go i H /\ ∃ N : St -> Hp -> Prop,(∀ σ' H',N σ' H' -> ∃ m',m' < m /\ W (i + 1) m' σ' H') /\ ∀ x H',J.yld i H x H' -> g x σ H' fun σ2 H2 => tb { D with nx:=N,ct:=N,bk:=D.nx } σ2 H2)
def CL (fp : List Addr) (h : Heap) : List (Addr × Obj):=fp.filterMap fun b => (h.get? b).map fun o => (b,o)
theorem df {fp : List Addr} {h : Heap} {b : Addr} {o : Obj} (hb : b ∈ fp) (e : h.get? b = some o) : (b,o) ∈ CL fp h:=List.mem_filterMap.mpr ⟨b,hb,by rw [e]; rfl⟩
theorem Ht {fp : List Addr} {h : Heap} {p : Addr × Obj} (hp : p ∈ CL fp h) : p.1 ∈ fp /\ h.get? p.1 = some p.2:=by
 obtain ⟨b,hb,e⟩:=List.mem_filterMap.mp hp
 cases q : h.get? b with
 | none => rw [q] at e; cases e
 | some o =>
  rw [q] at e
  have e' : (b,o) = p:=Option.some.inj e
  subst e'
  exact ⟨hb,q⟩
theorem Inv.pinned {pins : List (Addr × Obj)} {σ : St} {H : Hp} {s : Shared} {fp : List Addr} (I : Inv X pins σ H s) (hf : ∀ b ∈ fp,pM X pins H b) (ho : ∀ b ∈ fp,∃ o,s.heap.get? b = some o /\ ∀ v,o.data ≠ .cell v) : Inv X (pins ++ CL fp s.heap) σ H s:=
 I.pins_of fun p hp => (List.mem_append.mp hp).elim (fun z => I.pin p (List.mem_append_right _ z)) fun z => by
  obtain ⟨hb,e⟩:=Ht z
  obtain ⟨f0,f1,f2,_⟩:=hf p.1 hb
  obtain ⟨o,e',d⟩:=ho p.1 hb
  rw [e] at e'; cases e'
  exact ⟨e,f0,f1,f2,d⟩
theorem Inv.unpinned {pins pl : List (Addr × Obj)} {σ : St} {H : Hp} {s : Shared} (I : Inv X (pins ++ pl) σ H s) : Inv X pins σ H s:=I.pins_of fun p hp => I.pin p (List.mem_append_right _ (List.mem_append_left _ hp))
theorem cD {iter : Expr} {body : List Stmt} {wi : TI} {g : TG} {tb : TS} {pos : Pos} (hp : PassesOwn (model X.prog X.w) X.A X.env X.xe) (hc : X.calm = true) (hi : PI X tg iter wi) (hg : PG X tg g) (hb : PSs X body tb)
  (hs : ∀ x,foldedSetIterable iter X.env x = pure x:=by intro _; rfl) : PS X (.For tg iter body [] pos) (FV wi g tb):=by
 intro pins s σ H D I h
 refine wpAny_For (thn (hi pins s σ H _ I h) fun v s1 h1 => thn h1 fun itv s2 h2 => ?_) hs
 obtain ⟨it,fp,tn,J,H2,e,I2,T,st2,f2,W,⟨m0,w0⟩,turn⟩:=h2
 subst e
 have stat : ∀ {H' : Hp},(∀ b ∈ fp,H' b = none) -> ∀ b ∈ fp,pM X pins H' b:=fun hn b hb => ⟨hn b hb,(f2 b hb).2⟩
 refine codeAny_forLoop_any (fun n s' => ∃ i σ' H',Inv X pins σ' H' s' /\ tn i s'.heap /\ (∀ b ∈ fp,H' b = none) /\ W i n σ' H') ?_ m0 ⟨0,σ,H2,I2,st2,fun b hb => (f2 b hb).1,w0⟩
 rintro n s3 ⟨i,σ3,H3,I3,st3,fr3,w3⟩
 rcases turn i n σ3 H3 w3 with ⟨stop,qn⟩ | ⟨go,N,hN,step⟩
 ·refine wpAny_passesOwn hp (thn (T.done X rfl rfl rfl hc i pins s3 σ3 H3 X.xe I3 (stat fr3) st3 stop) fun r s4 ⟨hr,I4⟩ => ?_)
  subst hr
  exact wpAny_execs_nil ⟨σ3,H3,I4,qn⟩
 ·refine wpAny_passesOwn hp (thn (T.item X rfl rfl rfl hc i pins s3 σ3 H3 X.xe I3 (stat fr3) st3 go) fun r s4 ⟨u,hr,h4⟩ => ?_)
  subst hr
  refine wpAny_passesOwn hp (thn h4 fun _ s5 ⟨x,H5,I5,r5,y5,st5,fr5⟩ => ?_)
  have I5' := I5.pinned (stat fr5) (T.obj _ _ st5)
  refine wpAny_passesOwn hp (thn (hg _ s5 σ3 H5 x u _ I5' r5 (step x H5 y5)) fun _ s6 ⟨σ6,H6,I6,q6⟩ => ?_)
  refine wpAny_passesOwn hp (thn (hb _ s6 σ6 H6 _ I6 q6) fun f s7 q7 => ?_)
  have again : ∀ {σ7 : St} {H7 : Hp},Inv X (pins ++ CL fp s5.heap) σ7 H7 s7 -> N σ7 H7 -> ∃ m,m < n /\ ∃ i σ' H',Inv X pins σ' H' s7 /\ tn i s7.heap /\ (∀ b ∈ fp,H' b = none) /\ W i m σ' H' := fun {σ7 H7} I7 n7 => by
   obtain ⟨m',hm,w7⟩:=hN σ7 H7 n7
   refine ⟨m',hm,i + 1,σ7,H7,I7.unpinned,T.keep _ _ _ st5 fun b hb o e => (I7.pin (b,o) (List.mem_append_right _ (List.mem_append_right _ (df hb e)))).1,fun b hb => ?_,w7⟩
   obtain ⟨o,e,d⟩:=T.obj _ _ st5 b hb
   exact (I7.pin (b,o) (List.mem_append_right _ (List.mem_append_right _ (df hb e)))).2.1
  cases f with
  | next => obtain ⟨σ7,H7,I7,n7⟩:=q7; exact again I7 n7
  | cont => obtain ⟨σ7,H7,I7,n7⟩:=q7; exact again I7 n7
  | brk => obtain ⟨σ7,H7,I7,q7⟩:=q7; exact ⟨σ7,H7,I7.unpinned,q7⟩
  | ret v => obtain ⟨x7,σ7,H7,I7,r7,q7⟩:=q7; exact ⟨x7,σ7,H7,I7.unpinned,r7,q7⟩
end
theorem xY {K : PySem.W.Frag} {a : Addr} {xs : List V} {g : TG} {tb : TS} {D : Ends} {σ : St} {H : Hp} (Pv : Nat -> St -> Hp -> Prop) (h0 : Pv 0 σ H) (hl : ∀ i σ H,i <= xs.length -> Pv i σ H -> SqL K H a xs)
  (hs : ∀ i x σ H,xs[i]? = some x -> Pv i σ H -> g x σ H fun σ2 H2 => tb { D with nx:=Pv (i + 1),ct:=Pv (i + 1),bk:=D.nx } σ2 H2) (hd : ∀ σ H,Pv xs.length σ H -> D.nx σ H) :
  ∃ W : Nat -> Nat -> St -> Hp -> Prop,(∃ m,W 0 m σ H) /\ ∀ i m σ H,W i m σ H ->
   ((Itl K a).stop i H /\ D.nx σ H) \/ ((Itl K a).go i H /\ ∃ N : St -> Hp -> Prop,(∀ σ' H',N σ' H' -> ∃ m',m' < m /\ W (i + 1) m' σ' H') /\ ∀ x H',(Itl K a).yld i H x H' -> g x σ H' fun σ2 H2 => tb { D with nx:=N,ct:=N,bk:=D.nx } σ2 H2):=by
 refine ⟨fun i m σ H => m = xs.length - i /\ i <= xs.length /\ Pv i σ H,⟨xs.length,by simp,Nat.zero_le _,h0⟩,?_⟩
 rintro i m σ H ⟨rfl,hi,p⟩
 have q:=hl i σ H hi p
 by_cases hlt : i < xs.length
 ·refine .inr ⟨⟨xs,xs[i],q,by simp [hlt]⟩,Pv (i + 1),fun σ' H' p' => ⟨xs.length - (i + 1),by omega,rfl,hlt,p'⟩,fun x H' y => ?_⟩
  obtain ⟨e,y⟩:=y
  subst e
  exact hs i x σ _ (y xs q) p
 ·have e : i = xs.length:=by omega
  subst e
  exact .inl ⟨⟨xs,q,Nat.le_refl _⟩,hd σ H p⟩
theorem pH {K : PySem.W.Frag} {a : Addr} {xs : List V} {g : TG} {tb : TS} {D : Ends} {σ : St} {H : Hp} (Pv : Nat -> St -> Hp -> Prop) (h0 : Pv 0 σ H) (hl : ∀ i σ H,i <= xs.length -> Pv i σ H -> SqT K H a xs)
  (hs : ∀ i x σ H,xs[i]? = some x -> Pv i σ H -> g x σ H fun σ2 H2 => tb { D with nx:=Pv (i + 1),ct:=Pv (i + 1),bk:=D.nx } σ2 H2) (hd : ∀ σ H,Pv xs.length σ H -> D.nx σ H) :
  ∃ W : Nat -> Nat -> St -> Hp -> Prop,(∃ m,W 0 m σ H) /\ ∀ i m σ H,W i m σ H ->
   ((Itt K a).stop i H /\ D.nx σ H) \/ ((Itt K a).go i H /\ ∃ N : St -> Hp -> Prop,(∀ σ' H',N σ' H' -> ∃ m',m' < m /\ W (i + 1) m' σ' H') /\ ∀ x H',(Itt K a).yld i H x H' -> g x σ H' fun σ2 H2 => tb { D with nx:=N,ct:=N,bk:=D.nx } σ2 H2):=by
 refine ⟨fun i m σ H => m = xs.length - i /\ i <= xs.length /\ Pv i σ H,⟨xs.length,by simp,Nat.zero_le _,h0⟩,?_⟩
 rintro i m σ H ⟨rfl,hi,p⟩
 have q:=hl i σ H hi p
 by_cases hlt : i < xs.length
 ·refine .inr ⟨⟨xs,xs[i],q,by simp [hlt]⟩,Pv (i + 1),fun σ' H' p' => ⟨xs.length - (i + 1),by omega,rfl,hlt,p'⟩,fun x H' y => ?_⟩
  obtain ⟨e,y⟩:=y
  subst e
  exact hs i x σ _ (y xs q) p
 ·have e : i = xs.length:=by omega
  subst e
  exact .inl ⟨⟨xs,q,Nat.le_refl _⟩,hd σ H p⟩
theorem cC {lo : Int} {n : Nat} {g : TG} {tb : TS} {D : Ends} {σ : St} {H : Hp} (Pv : Nat -> St -> Hp -> Prop) (h0 : Pv 0 σ H)
  (hs : ∀ i σ H,i < n -> Pv i σ H -> g (.int (lo + i)) σ H fun σ2 H2 => tb { D with nx:=Pv (i + 1),ct:=Pv (i + 1),bk:=D.nx } σ2 H2) (hd : ∀ σ H,Pv n σ H -> D.nx σ H) :
  ∃ W : Nat -> Nat -> St -> Hp -> Prop,(∃ m,W 0 m σ H) /\ ∀ i m σ H,W i m σ H ->
   ((Itr lo n).stop i H /\ D.nx σ H) \/ ((Itr lo n).go i H /\ ∃ N : St -> Hp -> Prop,(∀ σ' H',N σ' H' -> ∃ m',m' < m /\ W (i + 1) m' σ' H') /\ ∀ x H',(Itr lo n).yld i H x H' -> g x σ H' fun σ2 H2 => tb { D with nx:=N,ct:=N,bk:=D.nx } σ2 H2):=by
 refine ⟨fun i m σ H => m = n - i /\ i <= n /\ Pv i σ H,⟨n,by simp,Nat.zero_le _,h0⟩,?_⟩
 rintro i m σ H ⟨rfl,hi,p⟩
 by_cases hlt : i < n
 ·refine .inr ⟨hlt,Pv (i + 1),fun σ' H' p' => ⟨n - (i + 1),by omega,rfl,hlt,p'⟩,fun x H' y => ?_⟩
  obtain ⟨e,y⟩:=y
  subst e y
  exact hs i σ _ hlt p
 ·have e : i = n:=by omega
  subst e
  exact .inl ⟨Nat.le_refl _,hd σ H p⟩
end L2
namespace L2
open PySem PySem.Spec PyProof.Rows
abbrev R2:=V -> V -> Hp -> VK -> Prop
def OpR (X : Cx) (f : Value -> Value -> Sem Value) (r : R2) : Prop:=
 ∀ (pins : List (Addr × Obj)) (s : Shared) (σ : St) (H : Hp) (x y : V) (v u : Value) (Q : VK),Inv X pins σ H s -> RelV x v -> RelV y u -> r x y H Q ->
  wpAny (model X.prog X.w) X.A (f v u) (EP X pins σ Q) X.xe s
def iE (X : Cx) (f : Value) (r : List V -> Hp -> VK -> Prop) : Prop:=
 ∀ (pins : List (Addr × Obj)) (s : Shared) (σ : St) (H : Hp) (xs : List V) (us : List Value) (Q : VK),Inv X pins σ H s -> Vals xs us -> r xs H Q ->
  wpAny (model X.prog X.w) X.A (call f us) (EP X pins σ Q) X.xe s
def NI (X : Cx) (r : V -> Hp -> (Bool -> Hp -> Prop) -> Prop) : Prop:=
 ∀ (pins : List (Addr × Obj)) (s : Shared) (σ : St) (H : Hp) (x : V) (v : Value) (Q : Bool -> Hp -> Prop),Inv X pins σ H s -> RelV x v -> r x H Q ->
  wpAny (model X.prog X.w) X.A (truthy v) (TP X pins σ Q) X.xe s
def tOp (r : R2) (ta tb : TE) : TE:=fun σ H Q => ta σ H fun x H1 => tb σ H1 fun y H2 => r x y H2 Q
def rI (C : Int -> Int -> Prop) (g : Int -> Int -> V) : R2:=fun x y H Q => ∃ i j,x = .int i /\ y = .int j /\ C i j /\ Q (g i j) H
def rI0 (g : Int -> Int -> V) : R2:=fun x y H Q => ∃ i j,x = .int i /\ y = .int j /\ Q (g i j) H
section
variable {X : Cx} {a b c : Expr} {ta tb tc : TE} {pos : Pos}
theorem LS (ha : PE X a ta) (hb : PE X b tb) {pins : List (Addr × Obj)} {s : Shared} {σ : St} {H : Hp} {R : V -> V -> Hp -> Prop} (I : Inv X pins σ H s)
  (h : ta σ H fun x H1 => tb σ H1 fun y H2 => R x y H2) {Q : Value -> Shared -> Prop} {f : Value -> Value -> Sem Value}
  (hf : ∀ v u s2 x y H2,Inv X pins σ H2 s2 -> RelV x v -> RelV y u -> R x y H2 -> wpAny (model X.prog X.w) X.A (f v u) Q X.xe s2) :
  wpAny (model X.prog X.w) X.A (eval a X.env) (fun v s₁ => wpAny (model X.prog X.w) X.A (eval b X.env) (fun u s₂ => wpAny (model X.prog X.w) X.A (f v u) Q X.xe s₂) X.xe s₁) X.xe s:=by
 refine thn (ha pins s σ H _ I h) fun v s1 ⟨x,H1,I1,r1,q1⟩ => ?_
 refine thn (hb pins s1 σ H1 _ I1 q1) fun u s2 ⟨y,H2,I2,r2,q2⟩ => ?_
 exact hf v u s2 x y H2 I2 r1 r2 q2
theorem ay {op : Operator} {r : R2} (ho : OpR X (binaryOp op) r) (ha : PE X a ta) (hb : PE X b tb) : PE X (.BinOp a op b pos) (tOp r ta tb):=by
 intro pins s σ H Q I h
 exact wpAny_BinOp (LS ha hb I h fun v u s2 x y H2 I2 rx ry q => ho pins s2 σ H2 x y v u Q I2 rx ry q)
theorem opI {f : Value -> Value -> Sem Value} {C : Int -> Int -> Prop} {g : Int -> Int -> Int}
  (rule : ∀ (i j : Int) (t u : Tok) (s : Shared) (Q : Value -> Shared -> Prop) (E : Value -> Shared -> Prop),C i j -> Q (.int (g i j) s.toks) { s with toks:=s.toks + 1 } -> wpAny (model X.prog X.w) X.A (f (.int i t) (.int j u)) Q E s) :
  OpR X f (rI C fun i j => .int (g i j)):=by
 intro pins s σ H x y v u Q I rx ry h
 obtain ⟨i,j,rfl,rfl,hc,q⟩:=h
 obtain ⟨t,rfl⟩:=rx
 obtain ⟨t',rfl⟩:=ry
 exact rule i j t t' s _ _ hc ⟨.int (g i j),H,I.tok _,⟨_,rfl⟩,q⟩
theorem Na {f : Value -> Value -> Sem Value} {g : Int -> Int -> Int}
  (rule : ∀ (i j : Int) (t u : Tok) (s : Shared) (Q : Value -> Shared -> Prop) (E : Value -> Shared -> Prop),Q (.int (g i j) s.toks) { s with toks:=s.toks + 1 } -> wpAny (model X.prog X.w) X.A (f (.int i t) (.int j u)) Q E s) :
  OpR X f (rI0 fun i j => .int (g i j)):=by
 intro pins s σ H x y v u Q I rx ry h
 obtain ⟨i,j,rfl,rfl,q⟩:=h
 obtain ⟨t,rfl⟩:=rx
 obtain ⟨t',rfl⟩:=ry
 exact rule i j t t' s _ _ ⟨.int (g i j),H,I.tok _,⟨_,rfl⟩,q⟩
theorem Mj {f : Value -> Value -> Sem Value} {g : Int -> Int -> Bool}
  (rule : ∀ (i j : Int) (t u : Tok) (s : Shared) (Q : Value -> Shared -> Prop) (E : Value -> Shared -> Prop),Q (.bool (g i j)) s -> wpAny (model X.prog X.w) X.A (f (.int i t) (.int j u)) Q E s) :
  OpR X f (rI0 fun i j => .bl (g i j)):=by
 intro pins s σ H x y v u Q I rx ry h
 obtain ⟨i,j,rfl,rfl,q⟩:=h
 obtain ⟨t,rfl⟩:=rx
 obtain ⟨t',rfl⟩:=ry
 exact rule i j t t' s _ _ ⟨.bl (g i j),H,I,rfl,q⟩
def NH (i j : Int) : Prop:=0 < j /\ j < 1073741824
def CMul (i j : Int) : Prop:=(-(2 ^ 64) < i /\ i < 2 ^ 64) \/ (-(2 ^ 64) < j /\ j < 2 ^ 64)
theorem CMul.ok {i j : Int} (h : CMul i j) : IntMulOk i j:=by
 rcases h with ⟨h1,h2⟩ | ⟨h1,h2⟩
 ·exact .of_left (intBits_le_64 h1 h2)
 ·exact .of_right (intBits_le_64 h1 h2)
theorem bD : OpR X (binaryOp .Add) (rI0 fun i j => .int (i + j)):=Na fun _ _ _ _ _ _ _ q => add_int q
theorem Jy : OpR X (binaryOp .Sub) (rI0 fun i j => .int (i - j)):=Na fun _ _ _ _ _ _ _ q => sub_int q
theorem bK : OpR X (binaryOp .Mult) (rI CMul fun i j => .int (i * j)):=opI fun _ _ _ _ _ _ _ hc q => mul_int q hc.ok
theorem mj : OpR X (binaryOp .FloorDiv) (rI NH fun i j => .int (i / j)):=opI fun i j _ _ _ _ _ hc q => by
 have h1 : (0 : Int) < j:=hc.1
 have h2 : j < 1073741824:=hc.2
 exact floordiv_int (by omega) (by rw [Int.fdiv_eq_ediv_of_nonneg i (by omega)]; exact q) (.inl (PyProof.noPylong_small (by omega)))
theorem bu : OpR X (binaryOp .Mod) (rI (fun _ j => 0 < j) fun i j => .int (i % j)):=opI fun i j _ _ _ _ _ hc q => by
 have h1 : (0 : Int) < j:=hc
 exact mod_int' (by omega) (by rw [Int.fmod_eq_emod_of_nonneg i (by omega)]; exact q)
end
def Nj : V -> V -> Bool
 | .non,.non => true | .non,.int _ => true | .int _,.non => true | .non,.bl _ => true | .bl _,.non => true | .non,.str _ => true | .str _,.non => true
 | .int _,.int _ => true | .bl _,.bl _ => true | .str _,.str _ => true | .byt _,.byt _ => true
 | .int _,.str _ => true | .str _,.int _ => true | .bl _,.str _ => true | .str _,.bl _ => true
 | _,_ => false
def rEq : R2:=fun x y H Q => Nj x y = true /\ Q (.bl (decide (x = y))) H
def rNe : R2:=fun x y H Q => Nj x y = true /\ Q (.bl (!decide (x = y))) H
theorem Gn {i j : Int} : decide (V.int i = V.int j) = (i == j):=by
 rw [Bool.eq_iff_iff]
 simp
theorem Iw {i j : Bool} : decide (V.bl i = V.bl j) = (i == j):=by
 rw [Bool.eq_iff_iff]
 simp
theorem Gp {i j : Str} : decide (V.str i = V.str j) = (i == j):=by
 rw [Bool.eq_iff_iff]
 simp
theorem Gm {i j : Array UInt8} : decide (V.byt i = V.byt j) = (i.toList == j.toList):=by
 rw [Bool.eq_iff_iff]
 cases i
 cases j
 simp
section
variable {X : Cx} {a b c : Expr} {ta tb tc : TE} {pos : Pos}
theorem a8 {pins : List (Addr × Obj)} {σ : St} {H : Hp} {s : Shared} {Q : VK} {k k' : Bool} (I : Inv X pins σ H s) (q : Q (.bl k) H) (e : k = k') : EP X pins σ Q (.bool k') s:=by
 subst e
 exact ⟨.bl k,H,I,rfl,q⟩
theorem cK : OpR X (compareOp .Eq) rEq:=by
 intro pins s σ H x y v u Q I rx ry h
 obtain ⟨hs,q⟩:=h
 cases x with
 | non =>
  cases rx
  cases y with
  | non => cases ry; exact PySem.EqNone.eq_none_none (a8 I q (by simp))
  | bl j => cases ry; exact PySem.EqNone.eq_none_bool (a8 I q (by simp))
  | int j => obtain ⟨t',rfl⟩:=ry; exact PySem.EqNone.eq_none_int (a8 I q (by simp))
  | str j => obtain ⟨t',rfl⟩:=ry; exact PySem.EqNone.eq_none_str (a8 I q (by simp))
  | _ => exact absurd (show false = true from hs) Bool.false_ne_true
 | bl i =>
  cases rx
  cases y with
  | non => cases ry; exact PySem.EqNone.eq_bool_none (a8 I q (by simp))
  | bl j => cases ry; exact eq_bool (a8 I q Iw)
  | str j => obtain ⟨t',rfl⟩:=ry; exact PySem.EqMixed.eq_bool_str (a8 I q (by simp))
  | _ => exact absurd (show false = true from hs) Bool.false_ne_true
 | int i =>
  obtain ⟨t,rfl⟩:=rx
  cases y with
  | non => cases ry; exact PySem.EqNone.eq_int_none (a8 I q (by simp))
  | int j => obtain ⟨t',rfl⟩:=ry; exact eq_int (a8 I q Gn)
  | str j => obtain ⟨t',rfl⟩:=ry; exact PySem.EqMixed.eq_int_str (a8 I q (by simp))
  | _ => exact absurd (show false = true from hs) Bool.false_ne_true
 | str i =>
  obtain ⟨t,rfl⟩:=rx
  cases y with
  | non => cases ry; exact PySem.EqNone.eq_str_none (a8 I q (by simp))
  | bl j => cases ry; exact PySem.EqMixed.eq_str_bool (a8 I q (by simp))
  | int j => obtain ⟨t',rfl⟩:=ry; exact PySem.EqMixed.eq_str_int (a8 I q (by simp))
  | str j => obtain ⟨t',rfl⟩:=ry; exact eq_str (a8 I q Gp)
  | _ => exact absurd (show false = true from hs) Bool.false_ne_true
 | byt i =>
  obtain ⟨t,rfl⟩:=rx
  cases y with
  | byt j => obtain ⟨t',rfl⟩:=ry; exact PySem.W.eq_bytes (a8 I q Gm)
  | _ => exact absurd (show false = true from hs) Bool.false_ne_true
 | _ => cases y <;> exact absurd (show false = true from hs) Bool.false_ne_true
theorem AO : OpR X (compareOp .NotEq) rNe:=by
 intro pins s σ H x y v u Q I rx ry h
 obtain ⟨hs,q⟩:=h
 cases x with
 | non =>
  cases rx
  cases y with
  | non => cases ry; exact PySem.EqNone.ne_none_none (a8 I q (by simp))
  | bl j => cases ry; exact PySem.EqNone.ne_none_bool (a8 I q (by simp))
  | int j => obtain ⟨t',rfl⟩:=ry; exact PySem.EqNone.ne_none_int (a8 I q (by simp))
  | str j => obtain ⟨t',rfl⟩:=ry; exact PySem.EqNone.ne_none_str (a8 I q (by simp))
  | _ => exact absurd (show false = true from hs) Bool.false_ne_true
 | bl i =>
  cases rx
  cases y with
  | non => cases ry; exact PySem.EqNone.ne_bool_none (a8 I q (by simp))
  | bl j => cases ry; exact ne_bool (a8 I q (congrArg not Iw))
  | str j => obtain ⟨t',rfl⟩:=ry; exact PySem.EqMixed.ne_bool_str (a8 I q (by simp))
  | _ => exact absurd (show false = true from hs) Bool.false_ne_true
 | int i =>
  obtain ⟨t,rfl⟩:=rx
  cases y with
  | non => cases ry; exact PySem.EqNone.ne_int_none (a8 I q (by simp))
  | int j => obtain ⟨t',rfl⟩:=ry; exact ne_int (a8 I q (congrArg not Gn))
  | str j => obtain ⟨t',rfl⟩:=ry; exact PySem.EqMixed.ne_int_str (a8 I q (by simp))
  | _ => exact absurd (show false = true from hs) Bool.false_ne_true
 | str i =>
  obtain ⟨t,rfl⟩:=rx
  cases y with
  | non => cases ry; exact PySem.EqNone.ne_str_none (a8 I q (by simp))
  | bl j => cases ry; exact PySem.EqMixed.ne_str_bool (a8 I q (by simp))
  | int j => obtain ⟨t',rfl⟩:=ry; exact PySem.EqMixed.ne_str_int (a8 I q (by simp))
  | str j => obtain ⟨t',rfl⟩:=ry; exact ne_str (a8 I q (congrArg not Gp))
  | _ => exact absurd (show false = true from hs) Bool.false_ne_true
 | byt i =>
  obtain ⟨t,rfl⟩:=rx
  cases y with
  | byt j => obtain ⟨t',rfl⟩:=ry; exact PySem.W.ne_bytes (a8 I q (congrArg not Gm))
  | _ => exact absurd (show false = true from hs) Bool.false_ne_true
 | _ => cases y <;> exact absurd (show false = true from hs) Bool.false_ne_true
theorem Jx : OpR X (compareOp .Lt) (rI0 fun i j => .bl (decide (i < j))):=Mj fun _ _ _ _ _ _ _ q => lt_int q
theorem GC : OpR X (compareOp .Gt) (rI0 fun i j => .bl (decide (j < i))):=Mj fun _ _ _ _ _ _ _ q => gt_int q
theorem Jw : OpR X (compareOp .GtE) (rI0 fun i j => .bl (decide (j <= i))):=Mj fun _ _ _ _ _ _ _ q => ge_int q
theorem Ml : OpR X (compareOp .Is) (fun x y H Q => y = .non /\ Q (.bl (decide (x = .non))) H):=by
 intro pins s σ H x y v u Q I rx ry h
 obtain ⟨rfl,q⟩:=h
 cases ry
 refine is_none_gen (a8 I q ?_)
 cases x <;> first
  | (cases rx; rfl)
  | (obtain ⟨t,rfl⟩:=rx; rfl)
theorem aQ (b : Expr) {op : CmpOp} (h : op ≠ .In:=by decide) (h2 : op ≠ .NotIn:=by decide) : behindInMarks op b = false:=by
 have e1 : (op == CmpOp.In) = false:=by cases op <;> first | rfl | exact absurd rfl h
 have e2 : (op == CmpOp.NotIn) = false:=by cases op <;> first | rfl | exact absurd rfl h2
 cases b <;> simp [behindInMarks,e1,e2]
theorem mn {op : CmpOp} {r : R2} (ho : OpR X (compareOp op) r) (ha : PE X a ta) (hb : PE X b tb) (hm : behindInMarks op b = false) : PE X (.Compare a [op] [b] pos) (tOp r ta tb):=by
 intro pins s σ H Q I h
 exact wpAny_Compare1 (LS ha hb I h fun v u s2 x y H2 I2 rx ry q => ho pins s2 σ H2 x y v u Q I2 rx ry q) hm
def Ny (t : TE) : TT:=fun σ H Q => t σ H fun x H' => ∃ k,x = .bl k /\ Q k H'
theorem aO {op : CmpOp} {r : R2} (ho : OpR X (compareOp op) r) (ha : PE X a ta) (hb : PE X b tb) (hm : behindInMarks op b = false) : PT X (.Compare a [op] [b] pos) (Ny (tOp r ta tb)):=by
 intro pins s σ H Q I h
 refine wpAny_isTrue_Compare1 (thn (ha pins s σ H _ I h) fun v s1 ⟨x,H1,I1,r1,q1⟩ => thn (hb pins s1 σ H1 _ I1 q1) fun u s2 ⟨y,H2,I2,r2,q2⟩ =>
  thn (ho pins s2 σ H2 x y v u _ I2 r1 r2 q2) fun c s3 ⟨z,H3,I3,r3,k,e,q3⟩ => ?_) hm
 subst e
 cases r3
 exact wpAny_truthy_bool ⟨H3,I3,q3⟩
def MT (K : PySem.W.Frag) (x : V) (H : Hp) (k : Bool) : Prop:=
 match x with
 | .non => k = false
 | .bl b => k = b
 | .int i => k = (i != 0)
 | .str y => y.length <= sizeLine /\ k = ((y.length : Int) != 0)
 | .byt y => y.size <= sizeLine /\ k = ((y.size : Int) != 0)
 | .ref p => (∃ xs,SqL K H p xs /\ k = !xs.isEmpty) \/ (∃ xs,SqT K H p xs /\ k = !xs.isEmpty) \/ ∃ kvs,H p = some (.dK kvs) /\ k = !kvs.isEmpty
 | _ => False
theorem Fo {κ : Type} {kvs : List (κ × V)} {vs : List (κ × Value)} (r : KV kvs vs) : (!vs.isEmpty) = !kvs.isEmpty:=by
 cases r <;> rfl
theorem yd {xs : List V} {its : List Value} (r : Vals xs its) : (!its.toArray.isEmpty) = !xs.isEmpty:=by
 cases r <;> simp
theorem yo : (sizeLine : Nat) < 2 ^ 63:=by rw [sizeLine_eq]; decide
theorem MI : NI X (fun x H Q => ∃ k,MT X.K x H k /\ Q k H):=by
 intro pins s σ H x v Q I rx h
 obtain ⟨k,e,q⟩:=h
 have hl:=yo
 have hs : sizeLine = 16777216:=sizeLine_eq
 cases x with
 | non =>
  cases rx
  have e' : k = false:=e
  subst e'
  exact truthy_none ⟨H,I,q⟩
 | bl b =>
  cases rx
  have e' : k = b:=e
  subst e'
  exact wpAny_truthy_bool ⟨H,I,q⟩
 | int i =>
  obtain ⟨t,rfl⟩:=rx
  have e' : k = (i != 0):=e
  subst e'
  exact PySem.P.truthy_int ⟨H,I,q⟩
 | str y =>
  obtain ⟨t,rfl⟩:=rx
  obtain ⟨hy,e'⟩ : y.length <= sizeLine /\ k = ((y.length : Int) != 0):=e
  subst e'
  exact PySem.P.truthy_str (by omega) ⟨H,I.tok _,q⟩
 | byt y =>
  obtain ⟨t,rfl⟩:=rx
  obtain ⟨hy,e'⟩ : y.size <= sizeLine /\ k = ((y.size : Int) != 0):=e
  subst e'
  exact PySem.W.truthy_bytes (by omega) ⟨H,I.tok _,q⟩
 | ref p =>
  cases rx
  have e' : (∃ xs,SqL X.K H p xs /\ k = !xs.isEmpty) \/ (∃ xs,SqT X.K H p xs /\ k = !xs.isEmpty) \/ ∃ kvs,H p = some (.dK kvs) /\ k = !kvs.isEmpty:=e
  rcases e' with ⟨xs,hx,e'⟩ | ⟨xs,hx,e'⟩ | ⟨kvs,hx,e'⟩
  ·subst e'
   obtain ⟨its,r,pl,hz⟩:=I.list hx
   have hlen:=r.length
   exact wpAny_truthy_list pl.isList (by simp only [List.size_toArray]; omega) ⟨H,I.tok _,by rw [yd r]; exact q⟩
  ·subst e'
   obtain ⟨its,r,pl,hz⟩:=I.tuple hx
   have hlen:=r.length
   exact truthy_tuple pl (by simp only [List.size_toArray]; omega) ⟨H,I.tok _,by rw [yd r]; exact q⟩
  ·subst e'
   obtain ⟨hz,hS,vs,r,m⟩ : kvs.length <= sizeLine /\ (p == sysModules) = false /\ ∃ vs,KV kvs vs /\ s.heap.DictOf (aX X.prog X.w) p vs:=I.hok p _ hx
   have hlen : kvs.length = vs.length:=Paired.length r
   exact wpAny_truthy_dict hS m (by omega) ⟨H,I.tok _,by rw [Fo r]; exact q⟩
 | _ => exact (show False from e).elim
theorem ET (ha : PE X a ta) (he : ∀ whole,isTrue a X.env whole = (do let v <- whole; standAt a.pos; holding [v] (truthy v))) :
  PT X a (fun σ H Q => ta σ H fun x H' => ∃ k,MT X.K x H' k /\ Q k H'):=by
 intro pins s σ H Q I h
 exact isTrue_plain (thn (ha pins s σ H _ I h) fun v s1 ⟨x,H1,I1,r1,q1⟩ => MI pins s1 σ H1 x v Q I1 r1 q1) (he _)
theorem vals1 {x : V} {us : List Value} (r : Vals [x] us) : ∃ u,us = [u] /\ RelV x u:=by
 cases r with
 | cons r1 r2 => cases r2; exact ⟨_,rfl,r1⟩
theorem vals2 {x y : V} {us : List Value} (r : Vals [x,y] us) : ∃ u w',us = [u,w'] /\ RelV x u /\ RelV y w' := by
 cases r with
 | cons r1 r2 =>
  cases r2 with
  | cons r3 r4 => cases r4; exact ⟨_,_,rfl,r1,r3⟩
theorem G0 (hc : X.calm = true) : iE X (.builtin "max") (fun xs H Q => ∃ i j,xs = [.int i,.int j] /\ Q (.int (if j > i then j else i)) H):=by
 intro pins s σ H xs us Q I r h
 obtain ⟨i,j,rfl,q⟩:=h
 obtain ⟨u,w',rfl,⟨t,rfl⟩,⟨t',rfl⟩⟩:=vals2 r
 refine max_two_ints (I.ok.hd hc) fun h' tk k => ⟨_,H,I.kept k,?_,q⟩
 by_cases hj : j > i
 ·rw [if_pos hj,if_pos hj]; exact ⟨_,rfl⟩
 ·rw [if_neg hj,if_neg hj]; exact ⟨_,rfl⟩
end
end L2
namespace L2
open PySem PySem.Spec PyProof.Rows
structure ObjM (h : Heap) (x dx C : Addr) (mA : Str -> Option Value) : Prop where
 obj : h.get? x = some (PySem.W.instObj C dx)
 ns : h.Ns1 dx mA
 ne : dx ≠ x
theorem AM {h : Heap} {dx : Addr} {mA : Str -> Option Value} (n : h.Ns1 dx mA) : ∃ od,h.get? dx = some od /\ ∀ name,PySem.W.lookIn name od = some (mA name):=by
 obtain ⟨o,es,ep,ho,hd,hk,_,hm⟩:=n
 refine ⟨o,ho,fun name => ?_⟩
 have e:=hm name
 unfold nsFind findBy at e
 rw [<- Array.find?_toList] at e
 unfold PySem.W.lookIn
 rw [hd]
 dsimp only
 split
 ·rename_i y q
  rw [q] at e
  exact congrArg some e
 ·rename_i q
  rw [q] at e
  have a : es.toList.any (·.refKey) = false:=by
   rw [List.any_eq_false]
   intro y hy
   obtain ⟨z,t,hkey⟩:=hk y (Array.mem_toList_iff.mp hy)
   simp [DictEntry.refKey,hkey]
  have a' : ¬ es.toList.any (·.refKey) = true:=by rw [a]; exact Bool.false_ne_true
  rw [if_neg a']
  exact congrArg some e
theorem ObjM.look {h : Heap} {x dx C : Addr} {mA : Str -> Option Value} (I : ObjM h x dx C mA) : ∃ od,PySem.W.InstAt h x (PySem.W.instObj C dx) C (some od) /\ ∀ name,PySem.W.lookIn name od = some (mA name):=
 let ⟨od,ho,hl⟩:=AM I.ns
 ⟨od,⟨I.obj,rfl,rfl,ho⟩,hl⟩
section
variable {prog : Program} {w : World} {A : Around} {E : Value -> Shared -> Prop} {s : Shared} {K : PySem.W.Frag} {x dx C f : Addr} {mA : Str -> Option Value} {name : Str} {v : Value}
theorem get_map {expr : Bool} {Q : Value -> Shared -> Prop} (X : K.In s.heap) (I : ObjM s.heap x dx C mA) (hg : PySem.W.plainGet K C name = true) (hh : PySem.W.hasDictIn K C = true)
  (ha : PySem.W.findIn K (.ref C) name = some none) (hv : mA name = some v) (hv' : PySem.W.handedIn v = true) (h : Q v { s with toks:=s.toks + 1 }) :
  wpAny (model prog w) A (getAttr (.ref x) name expr) Q E s:=by
 obtain ⟨od,J,hl⟩:=I.look
 exact PySem.W.get_value X J (PySem.W.plainGet_of hg).1 (PySem.W.findObj_own hh ha rfl (by rw [hl,hv])) hv' h
theorem IE {pl : Sem Bool} {Q : Value × List Value -> Shared -> Prop} (X : K.In s.heap) (I : ObjM s.heap x dx C mA) (hg : PySem.W.plainGet K C name = true)
  (hf : PySem.W.findIn K (.ref C) name = some (some (.ref f))) (ht : PySem.W.isFn K (.ref f) = true) (hv : mA name = none) (h : Q (.ref f,[.ref x]) s) :
  wpAny (model prog w) A (getMethod (.ref x) name pl) Q E s:=by
 obtain ⟨od,J,hl⟩:=I.look
 exact PySem.W.method_fn X J (PySem.W.plainGet_of hg).1 (PySem.W.plainGet_of hg).2 hf (beq_iff_eq.mp ht) (by show (PySem.W.lookIn name od).map (·.isSome) = some false; rw [hl,hv]; rfl) h
theorem La {ns : List Str} {Q : Unit -> Shared -> Prop} (X : K.In s.heap) (I : ObjM s.heap x dx C mA)
  (hs : PySem.W.findIn K (.ref C) "__setattr__" = some (some (.builtin "object.__setattr__"))) (hp : PySem.W.plainOver K C = true) (ht : PySem.W.takerIn K C name = some none) (hh : PySem.W.hasDictIn K C = true)
  (hw : PySem.Within mA ns) (hsz : ns.length <= sizeLine)
  (h : ∀ h',ObjM h' x dx C (fun y => if y = name then some v else mA y) -> Heap.SameBut dx s.heap h' -> Q () { s with heap:=h',toks:=s.toks + 2 }) :
  wpAny (model prog w) A (setAttr (.ref x) name v) Q E s:=by
 obtain ⟨od,J,hl⟩:=I.look
 refine PySem.W.set_plain X J hs (PySem.W.osa_open (s:={ s with toks:=s.toks + 1 }) (r:=none) X J hp ht fun b => ?_)
 obtain ⟨cd,hc,hd'⟩:=PySem.W.any_some hh
 have hx : s.heap.get? x = some ⟨.ref C,some dx,.plain,#[]⟩:=I.obj
 refine wpAny_bind (wpAny_pure (wpAny_bind (wpAny_bind (wpAny_loadPart hx (wpAny_bind (PySem.W.Looks.here (s:={ s with toks:=s.toks + 1 }) (PySem.W.looks_clsIn X hc) ?_))))))
 rw [hd']
 refine wpAny_pure (a:=some dx) (wpAny_bind (wpAny_pure (wpAny_bind ?_)))
 refine wpAny_nsSet1 (s:={ s with toks:=s.toks + 1 }) I.ns fun h' hn2 hs2 => ?_
 obtain ⟨oD,esD,epD,hoD,hdD,hcD⟩:=hn2.count (PySem.Within.cons name v hw)
 refine wpAny_bind (wpAny_lookBehind hoD (by rw [hdD]; exact pastItsLine_dict (Nat.le_trans hcD (by rw [List.length_cons]; omega))) ?_)
 exact wpAny_pure (h _ ⟨(hs2.2 _ (Ne.symm I.ne)).trans I.obj,hn2,I.ne⟩ hs2)
theorem IX {R : Result -> Shared -> Prop} {vs : List Value} {kw : List (Str × Value)} (X : K.In s.heap) (hm : PySem.W.makesIn K C = true)
  (hi : PySem.W.findIn K (.ref C) "__init__" = some (some (.ref f))) (hf : PySem.W.typeIn K (.ref f) = some (.type "function"))
  (h : codeAny (model prog w) (A.under (.builtin "type.__call__" ⟨.ref C :: vs,kw⟩)) (.call (.ref f) ⟨.ref (s.heap.objs.size + 1) :: vs,kw⟩) (PySem.W.InitBack (s.heap.objs.size + 1) R)
   { s with heap:=(s.heap.push PySem.W.emptyDict).push (PySem.W.instObj C s.heap.objs.size) }) :
  codeAny (model prog w) A (.call (.ref C) ⟨vs,kw⟩) R s:=by
 obtain ⟨hh,g,d,t,os⟩:=s
 exact PySem.W.make_core (PySem.W.makes_of X hm) (PySem.W.looks_findIn X hi) (fun self => PySem.W.bind_fn X self hf) (.inl rfl) h
theorem Hq {R : Result -> Shared -> Prop} (X : K.In s.heap) (hm : PySem.W.makesIn K C = true)
  (hi : PySem.W.findIn K (.ref C) "__init__" = some (some (.builtin "object.__init__")))
  (hb : ∀ self,PySem.W.Looks (model prog w) s.heap (bindSpecial (.builtin "object.__init__") self) (.builtin "object.__init__",[self]))
  (h : codeAny (model prog w) (A.under (.builtin "type.__call__" ⟨[.ref C],[]⟩)) (.call (.builtin "object.__init__") ⟨[.ref (s.heap.objs.size + 1)],[]⟩) (PySem.W.InitBack (s.heap.objs.size + 1) R)
   { s with heap:=(s.heap.push PySem.W.emptyDict).push (PySem.W.instObj C s.heap.objs.size) }) :
  codeAny (model prog w) A (.call (.ref C) ⟨[],[]⟩) R s:=by
 obtain ⟨hh,g,d,t,os⟩:=s
 exact PySem.W.make_core (PySem.W.makes_of X hm) (PySem.W.looks_findIn X hi) hb (.inr ⟨rfl,rfl⟩) h
end
def jK (f : Str) (v : V) : List (Str × V) -> List (Str × V)
 | [] => [(f,v)]
 | (g,x) :: r => if g = f then (g,v) :: r else (g,x) :: jK f v r
theorem vi (f g : Str) (v : V) : ∀ fs : List (Str × V),(jK f v fs).lookup g = if g = f then some v else fs.lookup g
 | [] => by
  show List.lookup g [(f,v)] = _
  by_cases h : g = f
  ·have hb : (g == f) = true:=beq_iff_eq.mpr h
   simp only [List.lookup,hb,if_pos h]
  ·have hb : (g == f) = false:=beq_eq_false_iff_ne.mpr h
   simp only [List.lookup,hb,if_neg h]
 | (k,x) :: r => by
  have ih:=vi f g v r
  rw [show jK f v ((k,x) :: r) = (if k = f then (k,v) :: r else (k,x) :: jK f v r) from rfl]
  by_cases hk : k = f
  ·rw [if_pos hk]
   by_cases h : g = k
   ·have hb : (g == k) = true:=beq_iff_eq.mpr h
    simp only [List.lookup,hb,if_pos (h.trans hk)]
   ·have hb : (g == k) = false:=beq_eq_false_iff_ne.mpr h
    simp only [List.lookup,hb,if_neg (fun e : g = f => h (e.trans hk.symm))]
  ·rw [if_neg hk]
   by_cases h : g = k
   ·have hb : (g == k) = true:=beq_iff_eq.mpr h
    simp only [List.lookup,hb,if_neg (fun e : g = f => hk (h.symm.trans e))]
   ·have hb : (g == k) = false:=beq_eq_false_iff_ne.mpr h
    simp only [List.lookup,hb]
    exact ih
theorem uu (f : Str) (v : V) : ∀ fs : List (Str × V),f ∈ (jK f v fs).map (·.1) /\ ∀ g,g ∈ fs.map (·.1) -> g ∈ (jK f v fs).map (·.1)
 | [] => ⟨by simp [jK],fun g h => by simp at h⟩
 | (k,x) :: r => by
  obtain ⟨i1,i2⟩:=uu f v r
  rw [show jK f v ((k,x) :: r) = (if k = f then (k,v) :: r else (k,x) :: jK f v r) from rfl]
  by_cases hk : k = f
  ·rw [if_pos hk]
   subst hk
   exact ⟨by simp,fun g h => by simpa using h⟩
  ·rw [if_neg hk]
   refine ⟨?_,fun g h => ?_⟩
   ·rw [List.map_cons]
    exact List.mem_cons_of_mem _ i1
   ·rw [List.map_cons] at h ⊢
    rcases List.mem_cons.mp h with e | e
    ·exact List.mem_cons.mpr (.inl e)
    ·exact List.mem_cons_of_mem _ (i2 g e)
theorem vh (f : Str) (v : V) : ∀ fs : List (Str × V),(jK f v fs).length <= fs.length + 1
 | [] => by simp [jK]
 | (k,x) :: r => by
  have ih:=vh f v r
  rw [show jK f v ((k,x) :: r) = (if k = f then (k,v) :: r else (k,x) :: jK f v r) from rfl]
  by_cases hk : k = f
  ·rw [if_pos hk,List.length_cons,List.length_cons]; omega
  ·rw [if_neg hk,List.length_cons,List.length_cons]; omega
theorem RelO.some_of {v : V} {o : Option Value} (r : RelO (some v) o) : ∃ u,o = some u /\ RelV v u:=by
 cases o with
 | none => exact (show False from r).elim
 | some u => exact ⟨u,rfl,r⟩
theorem RelO.none_of {o : Option Value} (r : RelO none o) : o = none:=by
 cases o with
 | none => rfl
 | some u => exact (show False from r).elim
theorem AF {v : V} {u : Value} (r : RelV v u) : PySem.W.handedIn u = true:=by
 cases v with
 | non => cases (show u = Value.none from r); rfl
 | bl b => cases (show u = Value.bool b from r); rfl
 | int i => obtain ⟨t,e⟩:=(show ∃ t,u = Value.int i t from r); cases e; rfl
 | str x => obtain ⟨t,e⟩:=(show ∃ t,u = Value.str x t from r); cases e; rfl
 | byt b => obtain ⟨t,e⟩:=(show ∃ t,u = Value.bytes b t from r); cases e; rfl
 | flt b => obtain ⟨t,e⟩:=(show ∃ t,u = Value.float b t from r); cases e; rfl
 | ref a => cases (show u = Value.ref a from r); rfl
 | ty n => cases (show u = Value.type n from r); rfl
section
variable {P : Program} {w : World} {H H' : Hp} {h h' : Heap} {a C dx : Addr} {fs fs' : List (Str × V)}
theorem xp (hok : HOk P w H h) (e : H a = some (.ins C dx fs)) : ∃ mA,ObjM h a dx C mA /\ (∀ f,RelO (fs.lookup f) (mA f)) /\ PySem.Within mA (fs.map (·.1)) /\ fs.length <= 1000 /\ H dx = some (.own a):=by
 obtain ⟨d,z,ne,ob,mA,n,r,q⟩:=(show ObjOk P w H h a (.ins C dx fs) from hok a _ e)
 exact ⟨mA,⟨ob,n,ne⟩,r,q,z,d⟩
end
structure Cls (K : PySem.W.Frag) (C : Addr) : Prop where
 pg : PySem.W.plainGet K C Str.empty = true
 hd : PySem.W.hasDictIn K C = true
 po : PySem.W.plainOver K C = true
 sa : PySem.W.findIn K (.ref C) "__setattr__" = some (some (.builtin "object.__setattr__"))
theorem Cls.get {K : PySem.W.Frag} {C : Addr} (c : Cls K C) (f : Str) : PySem.W.plainGet K C f = true:=c.pg
def NoAttr (K : PySem.W.Frag) (C : Addr) (f : Str) : Prop:=PySem.W.findIn K (.ref C) f = some none
theorem NoAttr.taker {K : PySem.W.Frag} {C : Addr} {f : Str} (n : NoAttr K C f) : PySem.W.takerIn K C f = some none:=by
 unfold PySem.W.takerIn
 rw [show PySem.W.findIn K (.ref C) f = some none from n]
 rfl
structure Con (K : PySem.W.Frag) (C : Addr) (f : Str) (v : V) (u : Value) : Prop where
 at_ : PySem.W.findIn K (.ref C) f = some (some u)
 rel : RelV v u
 get : PySem.W.specialIn K u "__get__" = some none
 cp : PySem.W.copiedNames.contains f = false
structure Meth (K : PySem.W.Frag) (C : Addr) (m : Str) (f : Addr) : Prop where
 at_ : PySem.W.findIn K (.ref C) m = some (some (.ref f))
 fn : PySem.W.isFn K (.ref f) = true
 kp : PySem.W.keepIn K (.ref f) = true
section
variable {X : Cx} {pins : List (Addr × Obj)} {σ : St} {H : Hp} {s : Shared} {a C dx : Addr} {fs : List (Str × V)} {f : Str} {v : V} {A : Around} {E : Value -> Shared -> Prop}
theorem Fj {b : Bool} {Q : Value -> Shared -> Prop} (I : Inv X pins σ H s) (e : H a = some (.ins C dx fs)) (c : Cls X.K C) (n : NoAttr X.K C f) (l : fs.lookup f = some v)
  (h : ∀ u s',Inv X pins σ H s' -> RelV v u -> Q u s') : wpAny (model X.prog X.w) A (getAttr (.ref a) f b) Q E s:=by
 obtain ⟨mA,O,r,_,_,_⟩:=xp I.hok e
 obtain ⟨u,hu,ru⟩:=RelO.some_of (v:=v) (o:=mA f) (by rw [<- l]; exact r f)
 exact get_map I.kIn O (c.get f) c.hd n hu (AF ru) (h u _ (I.tok _) ru)
theorem yc {m : Str} {g : Addr} {pl : Sem Bool} {Q : Value × List Value -> Shared -> Prop} (I : Inv X pins σ H s) (e : H a = some (.ins C dx fs)) (c : Cls X.K C) (k : Meth X.K C m g) (l : fs.lookup m = none)
  (h : Q (.ref g,[.ref a]) s) : wpAny (model X.prog X.w) A (getMethod (.ref a) m pl) Q E s:=by
 obtain ⟨mA,O,r,_,_,_⟩:=xp I.hok e
 have hn : mA m = none:=RelO.none_of (by rw [<- l]; exact r m)
 exact IE I.kIn O (c.get m) k.at_ k.fn hn h
theorem FQ {y : V} {u : Value} {Q : Unit -> Shared -> Prop} (I : Inv X pins σ H s) (e : H a = some (.ins C dx fs)) (c : Cls X.K C) (n : NoAttr X.K C f) (hl : fs.length < 1000) (ry : RelV y u)
  (h : ∀ s',Inv X pins σ (upd H a (.ins C dx (jK f y fs))) s' -> Q () s') : wpAny (model X.prog X.w) A (setAttr (.ref a) f u) Q E s:=by
 obtain ⟨mA,O,r,wi,_,ho⟩:=xp I.hok e
 have hz : (fs.map (·.1)).length <= sizeLine:=by rw [List.length_map,sizeLine_eq]; omega
 refine La I.kIn O c.sa c.po n.taker c.hd wi hz fun h' O' sb => h _ ?_
 have hd : ∃ o,h'.get? dx = some o:=let ⟨o,_,_,e',_⟩:=O'.ns; ⟨o,e'⟩
 refine I.write (x:=a) (e:=dx) (by rw [e]; exact True.intro) (.inr ho) (fun b q hb z => (sb.2 b hb).trans z) hd ?_
 refine ⟨by rw [aj O.ne]; exact ho,?_,O.ne,O'.obj,_,O'.ns,fun g => ?_,fun g hg => ?_⟩
 ·have:=vh f y fs; omega
 ·show RelO ((jK f y fs).lookup g) (if g = f then some u else mA g)
  rw [vi]
  by_cases q : g = f
  ·rw [if_pos q,if_pos q]; exact ry
  ·rw [if_neg q,if_neg q]; exact r g
 ·by_cases q : g = f
  ·rw [q]; exact (uu f y fs).1
  ·refine (uu f y fs).2 g (wi g fun z => hg ?_)
   show (if g = f then some u else mA g) = none
   rw [if_neg q]; exact z
theorem Inv.made (I : Inv X pins σ H s) : Inv X pins σ (upd (upd H s.heap.objs.size (.own (s.heap.objs.size + 1))) (s.heap.objs.size + 1) (.ins C s.heap.objs.size []))
  { s with heap:=(s.heap.push PySem.W.emptyDict).push (PySem.W.instObj C s.heap.objs.size) }:=by
 have e1 : (s.heap.push PySem.W.emptyDict).get? s.heap.objs.size = some PySem.W.emptyDict:=Heap.get?_push_size s.heap rfl
 have e2 : ((s.heap.push PySem.W.emptyDict).push (PySem.W.instObj C s.heap.objs.size)).get? (s.heap.objs.size + 1) = some (PySem.W.instObj C s.heap.objs.size):=by
  have:=Heap.get?_push_size (s.heap.push PySem.W.emptyDict) (o:=PySem.W.instObj C s.heap.objs.size) rfl
  rwa [Heap.size_push] at this
 have e3 : (s.heap.push PySem.W.emptyDict).Ns s.heap.objs.size (fun _ => none):=⟨PySem.W.emptyDict,#[],_,e1,rfl,(fun e he => absurd he (by simp)),fun _ => rfl⟩
 have I1:=I.laid (a:=s.heap.objs.size) (o:=.own (s.heap.objs.size + 1)) (h' := s.heap.push PySem.W.emptyDict) (t' := s.toks) (fun b u q => Heap.get?_push_of_some _ q) (Nat.le_refl _) ⟨_,e1⟩
 refine I1.laid (a:=s.heap.objs.size + 1) (o:=.ins C s.heap.objs.size []) (t' := s.toks) (fun b u q => Heap.get?_push_of_some _ q) (Nat.le_of_eq (Heap.size_push _ _)) ?_
 have ne : s.heap.objs.size ≠ s.heap.objs.size + 1:=Nat.ne_of_lt (Nat.lt_succ_self _)
 refine ⟨by rw [aj ne,ae],Nat.zero_le _,ne,e2,fun _ => none,(Heap.Ns1.of_empty e3).at fun o q => Heap.get?_push_of_some _ q,fun _ => True.intro,fun y hy => absurd rfl hy⟩
theorem Gh {prog : Program} {w : World} {env : Env} {e : Expr} {f : Str} {pos : Pos} {s : Shared} {Q : Value -> Shared -> Prop} (hb : attributeBase e f env (eval e env) = eval e env)
  (h : wpAny (model prog w) A (eval e env) (fun o s₁ => wpAny (model prog w) A (getAttr o f true) Q E s₁) E s) : wpAny (model prog w) A (eval (.Attribute e f pos) env) Q E s:=
 Attribute_any_ h (by rw [arm_eval_Attribute,hb])
end
def Nn (K : PySem.W.Frag) (ta : TE) (f : Str) : TE:=fun σ H Q => ta σ H fun x H1 => ∃ a C dx fs v,x = .ref a /\ H1 a = some (.ins C dx fs) /\ Cls K C /\ NoAttr K C f /\ fs.lookup f = some v /\ Q v H1
def N1 (K : PySem.W.Frag) (ta tv : TE) (f : Str) : TS:=fun D σ H => tv σ H fun y H1 => ta σ H1 fun x H2 => ∃ a C dx fs,x = .ref a /\ H2 a = some (.ins C dx fs) /\ Cls K C /\ NoAttr K C f /\ fs.length < 1000 /\
 D.nx σ (upd H2 a (.ins C dx (jK f y fs)))
section
variable {X : Cx} {o e value : Expr} {f : Str} {pos pos' tpos : Pos} {ta tv : TE}
theorem cO (he : PE X e ta) (hb : attributeBase e f X.env (eval e X.env) = eval e X.env) : PE X (.Attribute e f pos) (Nn X.K ta f):=by
 intro pins s σ H Q I h
 refine Gh hb (thn (he pins s σ H _ I h) fun u s1 ⟨x,H1,I1,rx,a,C,dx,fs,v,ex,ea,c,n,l,q⟩ => ?_)
 subst ex
 obtain rfl : u = Value.ref a:=rx
 exact Fj I1 ea c n l fun u' s2 I2 ru => ⟨v,H1,I2,ru,q⟩
theorem iC (ha : PE X o ta) (hv : PE X value tv) (hs : swapsWith value (some (.Attribute o f pos')) pos.line X.env = pure false) : PS X (.Assign [.Attribute o f pos'] value pos) (N1 X.K ta tv f):=by
 intro pins s σ H D I h
 refine plainObj_wpAny_Assign_Attribute (thn (hv pins s σ H _ I h) fun u s1 ⟨y,H1,I1,ry,q⟩ => thn (ha pins s1 σ H1 _ I1 q) fun ov s2 ⟨x,H2,I2,rx,a,C,dx,fs,ex,ea,c,n,l,q2⟩ => ?_) hs
 subst ex
 obtain rfl : ov = Value.ref a:=rx
 exact FQ I2 ea c n l ry fun s3 I3 => ⟨σ,_,I3,q2⟩
end
section
variable {X : Cx} {pins : List (Addr × Obj)} {σ : St} {H : Hp} {s : Shared} {A : Around} {E : Value -> Shared -> Prop} {Q : Value -> Shared -> Prop} {c : Value} {b : Bool}
inductive TyOf (K : PySem.W.Frag) (H : Hp) : V -> Value -> Prop where
 | non : TyOf K H .non (.type "NoneType")
 | bl (x : Bool) : TyOf K H (.bl x) (.type "bool")
 | int (i : Int) : TyOf K H (.int i) (.type "int")
 | str (x : Str) : TyOf K H (.str x) (.type "str")
 | flt (x : UInt64) : TyOf K H (.flt x) (.type "float")
 | lst {a : Addr} {xs : List V} (e : H a = some (.lst xs)) : TyOf K H (.ref a) (.type "list")
 | frz {a : Addr} {o : Obj} {xs : List V} (e : H a = some (.frz o (.lst xs))) : TyOf K H (.ref a) (.type "list")
 | tup {a : Addr} {xs : List V} (e : H a = some (.tup xs)) : TyOf K H (.ref a) (.type "tuple")
 | dK {a : Addr} {kvs : List (Key × V)} (e : H a = some (.dK kvs)) : TyOf K H (.ref a) (.type "dict")
 | dT {a : Addr} {kvs : List (List Key × V)} (e : H a = some (.dT kvs)) : TyOf K H (.ref a) (.type "dict")
 | ins {a C dx : Addr} {fs : List (Str × V)} (e : H a = some (.ins C dx fs)) (cl : Cls K C) (ha : PySem.W.findIn K (.ref C) "__class__" = some (some (.builtin "object.__class__")))
   (hn : PySem.W.specialIn K (.builtin "object.__class__") "__get__" = some (some (.builtin "getset_descriptor.__get__"))) (htk : PySem.W.takesIn K (.builtin "object.__class__") = some true)
   (hm : PySem.W.mroIn K C (.type "object") = some true) : TyOf K H (.ref a) (.ref C)
theorem Hk {x : V} {u t : Value} (I : Inv X pins σ H s) (rx : RelV x u) (ty : TyOf X.K H x t) (e : PySem.W.kitOne X.K t c = some b) (h : ∀ tk,Q (.bool b) { s with toks:=tk }) :
  wpAny (model X.prog X.w) A (call (.builtin "isinstance") [u,c]) Q E s:=by
 cases ty with
 | non => cases (show u = Value.none from rx); exact PySem.W.kia_one PySem.W.kitx_none I.kIn True.intro e (fun z => nomatch z) h
 | bl y => cases (show u = Value.bool y from rx); exact PySem.W.kia_one PySem.W.kitx_bool I.kIn True.intro e (fun z => nomatch z) h
 | int i => obtain ⟨t,q⟩:=(show ∃ t,u = Value.int i t from rx); cases q; exact PySem.W.kia_one PySem.W.kitx_int I.kIn True.intro e (fun z => nomatch z) h
 | str y => obtain ⟨t,q⟩:=(show ∃ t,u = Value.str y t from rx); cases q; exact PySem.W.kia_one PySem.W.kitx_str I.kIn True.intro e (fun z => nomatch z) h
 | flt y => obtain ⟨t,q⟩:=(show ∃ t,u = Value.float y t from rx); cases q; exact PySem.W.kia_one PySem.W.kitx_float I.kIn True.intro e (fun z => nomatch z) h
 | @lst a xs ea =>
  cases (show u = Value.ref a from rx)
  obtain ⟨_,_,n,_,h1⟩:=(show ObjOk X.prog X.w H s.heap a (.lst xs) from I.hok a _ ea)
  exact PySem.W.kia_one PySem.W.kitx_list I.kIn ⟨_,h1,rfl⟩ e (fun z => nomatch z) h
 | @frz a ob xs ea =>
  cases (show u = Value.ref a from rx)
  obtain ⟨_,_,_,n,_,h1⟩:=(show ObjOk X.prog X.w H s.heap a (.frz ob (.lst xs)) from I.hok a _ ea)
  exact PySem.W.kia_one PySem.W.kitx_list I.kIn ⟨_,h1,rfl⟩ e (fun z => nomatch z) h
 | @tup a xs ea =>
  cases (show u = Value.ref a from rx)
  obtain ⟨_,_,_,p⟩:=(show ObjOk X.prog X.w H s.heap a (.tup xs) from I.hok a _ ea)
  obtain ⟨o,h1,h2,_⟩:=p
  exact PySem.W.kia_one PySem.W.kitx_tuple I.kIn ⟨o,h1,h2⟩ e (fun z => nomatch z) h
 | @dK a kvs ea =>
  cases (show u = Value.ref a from rx)
  obtain ⟨_,_,vs,_,p⟩:=(show ObjOk X.prog X.w H s.heap a (.dK kvs) from I.hok a _ ea)
  obtain ⟨o,es,ep,h1,h2,_⟩:=p
  exact PySem.W.kia_one PySem.W.kitx_dict I.kIn ⟨o,h1,h2.1⟩ e (fun z => nomatch z) h
 | @dT a kvs ea =>
  cases (show u = Value.ref a from rx)
  obtain ⟨_,_,xs,_,o,es,ep,h1,h2,_⟩:=(show ObjOk X.prog X.w H s.heap a (.dT kvs) from I.hok a _ ea)
  exact PySem.W.kia_one PySem.W.kitx_dict I.kIn ⟨o,h1,h2.1⟩ e (fun z => nomatch z) h
 | @ins a C dx fs ea cl ha hn htk hm =>
  cases (show u = Value.ref a from rx)
  obtain ⟨mA,O,_⟩:=xp I.hok ea
  obtain ⟨od,J,_⟩:=O.look
  exact PySem.W.kia_one (PySem.W.kitx_own (cl.get _) cl.hd ha hn htk hm) I.kIn J e (fun z => nomatch z) h
end
end L2
namespace L2
open PySem PySem.Spec PyProof.Rows
structure Room (k : Nat) (A : Around) : Prop where
 hd : A.handled = none
 dp : A.depth + 3 * k + 5 < recursionLimit
 un : A.units + 16 * k + 200 < cLine
theorem Room.mono {j k : Nat} {A : Around} (r : Room k A) (h : j <= k) : Room j A:=⟨r.hd,by have:=r.dp; omega,by have:=r.un; omega⟩
theorem Room.deeper {k : Nat} {A : Around} (r : Room (k + 1) A) (env : Env) : Room k (A.deeper env):=
 ⟨r.hd,by have:=r.dp; show A.depth + 1 + 3 * k + 5 < _; omega,by have:=r.un; show A.units + 3 + 16 * k + 200 < _; omega⟩
theorem Ft {A : Around} {C : Addr} {us : List Value} {kw : List (Str × Value)} : (A.under (.builtin "type.__call__" ⟨.ref C :: us,kw⟩)).depth = A.depth + 1:=by
 first | rfl | simp [Around.under,Code.weight,Code.isCreation,Code.isGuard,Code.isCaller,Code.frames,Code.isFrame,guardIds]
theorem Fu {A : Around} {C : Addr} {us : List Value} {kw : List (Str × Value)} : (A.under (.builtin "type.__call__" ⟨.ref C :: us,kw⟩)).units = A.units + 1:=by
 first | rfl | simp [Around.under,Code.cUnits,Code.frames,Code.isFrame]
theorem Room.make {k : Nat} {A : Around} (r : Room (k + 1) A) (C : Addr) (us : List Value) (kw : List (Str × Value)) : Room k (A.under (.builtin "type.__call__" ⟨.ref C :: us,kw⟩)):=
 ⟨r.hd,by have:=r.dp; rw [Ft]; omega,by have:=r.un; rw [Fu]; omega⟩
theorem Room.depth {k : Nat} {A : Around} (r : Room k A) : A.depth < recursionLimit:=by have:=r.dp; omega
theorem Room.units {k : Nat} {A : Around} (r : Room k A) : A.units + 64 < cLine:=by have:=r.un; omega
def JZ : TA:=fun _ H Q => Q [] H
def AU (ta : TE) (tr : TA) : TA:=fun σ H Q => ta σ H fun x H1 => tr σ H1 fun xs H2 => Q (x :: xs) H2
section
variable {X : Cx} {e : Expr} {es : List Expr} {te : TE} {t : TA} {pos : Pos}
theorem ag : PA X [] JZ:=fun _ _ _ _ H Q I h => Calls.spliced_nil ⟨[],H,I,.nil,h⟩
theorem aa (ha : PE X e te) (hr : PA X es t) (hs : starEach (e :: es) X.env = (false,eval e X.env) :: starEach es X.env:=by rfl) : PA X (e :: es) (AU te t):=by
 intro pos pins s σ H Q I h
 rw [hs]
 show wpAny _ _ (spliced ((false,eval e X.env) :: backTo pos (starEach es X.env))) _ _ s
 refine Calls.spliced_cons (thn (ha pins s σ H _ I h) fun u s1 ⟨x,H1,I1,r1,q1⟩ => ?_)
 exact thn (hr pos pins s1 σ H1 _ I1 q1) fun us s2 ⟨xs,H2,I2,r2,q2⟩ => ⟨x :: xs,H2,I2,.cons r1 r2,q2⟩
def NA (t : TA) : TE:=fun σ H Q => t σ H fun xs H1 => xs.length <= sizeLine /\ ∀ p,H1 p = none -> Q (.ref p) (upd H1 p (.tup xs))
def Nu (t : TA) : TE:=fun σ H Q => t σ H fun xs H1 => xs.length <= sizeLine /\ ∀ p,H1 p = none -> Q (.ref p) (upd H1 p (.lst xs))
theorem cw {x1} (h : PA X es t) : PE X (.Tuple es x1 pos) (NA t):=by
 intro pins s σ H Q I hq
 refine wpAny_Tuple_spliced (thn (h pos pins s σ H _ I hq) fun us s1 ⟨xs,H1,I1,r,z,q⟩ => ⟨by rw [<- r.length]; exact z,?_⟩)
 have hf : H1 s1.heap.objs.size = none:=I1.hok.fresh (Nat.le_refl _)
 refine ⟨.ref s1.heap.objs.size,upd H1 s1.heap.objs.size (.tup xs),I1.laid (t' := s1.toks) (fun b u e => Heap.get?_push_of_some _ e) (Nat.le_refl _) ?_,rfl,q _ hf⟩
 exact ⟨z,us,r,⟨_,Heap.get?_push_size _ rfl,rfl,_,rfl⟩⟩
theorem mv (h : PA X es t) : PE X (.List es pos) (Nu t):=by
 intro pins s σ H Q I hq
 refine wpAny_List_spliced (thn (h pos pins s σ H _ I hq) fun us s1 ⟨xs,H1,I1,r,z,q⟩ => ⟨by rw [<- r.length]; exact z,?_⟩)
 have hf : H1 s1.heap.objs.size = none:=I1.hok.fresh (Nat.le_refl _)
 refine ⟨.ref s1.heap.objs.size,upd H1 s1.heap.objs.size (.lst xs),I1.laid (t' := s1.toks) (fun b u e => Heap.get?_push_of_some _ e) (Nat.le_refl _) ?_,rfl,q _ hf⟩
 exact ⟨z,us,0,r,Heap.get?_push_size _ rfl⟩
end
abbrev Sp:=List V -> Hp -> VK -> XK -> Prop
abbrev CXT:=List Env -> Hp -> Shared -> XK -> Value -> Shared -> Prop
structure Env0 (P : Program) (w : World) (K : PySem.W.Frag) (mg : Str -> Option Value) (base : Heap) (A : Around) (outer : List Env) (s : Shared) (H : Hp) : Prop where
 frames : A.frames = some outer
 mod : Mod K mg base
 bs : ∀ b o,base.get? b = some o -> s.heap.get? b = some o /\ H b = none
 bsz : base.objs.size <= s.heap.objs.size
 funs : s.heap.FunFrames base outer
 frf : ∀ b ∈ frs outer,H b = none
 hok : HOk P w H s.heap
 bare : AllBare s.gens
def CE (outer : List Env) (P : Program) (w : World) (H : Hp) (s : Shared) (Q : VK) (u : Value) (s' : Shared) : Prop:=
 ∃ v H',s'.os = s.os /\ AllBare s'.gens /\ Un (frs outer) [] H H' s.heap s'.heap /\ HOk P w H' s'.heap /\ RelV v u /\ Q v H'
def CR (CX : CXT) (outer : List Env) (P : Program) (w : World) (H : Hp) (s : Shared) (Q : VK) (E : XK) (r : Result) (s' : Shared) : Prop:=
 match r with
 | .ok (.ret u) => CE outer P w H s Q u s'
 | .ok _ => False
 | .error e => CX outer H s E e s'
structure FnOk (P : Program) (w : World) (K : PySem.W.Frag) (mg : Str -> Option Value) (base : Heap) (CX : CXT) (k : Nat) (f : Addr) (fd : FuncData) (ps : List Str) (sp : Sp) : Prop where
 len : ∀ vs H Q E,sp vs H Q E -> vs.length = ps.length
 run : ∀ (A : Around) (outer : List Env) (s : Shared) (H : Hp) (args : Args) (us : List Value) (vs : List V) (Q : VK) (E : XK),Room k A -> Env0 P w K mg base A outer s H -> BindsTo s fd args (ps.zip us) -> Vals vs us -> sp vs H Q E ->
  codeAny (model P w) A (.call (.ref f) args) (CR CX outer P w H s Q E) s
theorem FnOk.mono {P : Program} {w : World} {K : PySem.W.Frag} {mg : Str -> Option Value} {base : Heap} {CX : CXT} {j k : Nat} {f : Addr} {fd : FuncData} {ps : List Str} {sp : Sp} (F : FnOk P w K mg base CX j f fd ps sp) (h : j <= k) :
  FnOk P w K mg base CX k f fd ps sp:=⟨F.len,fun A outer s H args us vs Q E hr => F.run A outer s H args us vs Q E (hr.mono h)⟩
theorem Env0.make {P : Program} {w : World} {K : PySem.W.Frag} {mg : Str -> Option Value} {base : Heap} {A : Around} {outer : List Env} {s : Shared} {H : Hp} (e : Env0 P w K mg base A outer s H) (C : Addr) (us : List Value) (kw : List (Str × Value)) :
  Env0 P w K mg base (A.under (.builtin "type.__call__" ⟨.ref C :: us,kw⟩)) outer s H:=⟨by first | exact e.frames | (simpa [Around.under,Code.envs,Code.isFrame,pushEnvs] using e.frames),e.mod,e.bs,e.bsz,e.funs,e.frf,e.hok,e.bare⟩
section
variable {X : Cx} {pins : List (Addr × Obj)} {σ : St} {H : Hp} {s s' : Shared}
theorem Inv.env0 (I : Inv X pins σ H s) : Env0 X.prog X.w X.K X.mg X.base X.A X.stack s H:=
 ⟨I.ok.frames,I.ok.mod,I.bs,Nat.le_trans I.ok.bsz I.sz,I.stack,I.stkFree,I.hok,I.bare⟩
theorem Inv.after {Q : VK} {u : Value} (I : Inv X pins σ H s) (h : CE X.stack X.prog X.w H s Q u s') : EP X pins σ Q u s' := by
 obtain ⟨v,H',os,bare,un,hok,r,q⟩:=h
 obtain ⟨hh,g,d,t,os'⟩:=s'
 obtain rfl : os' = s.os:=os
 exact ⟨v,H',I.call (h' := hh) (g' := g) (d' := d) (t' := t) (ch:=[]) un hok bare (fun b z => absurd z (by simp)),r,q⟩
end
def JW (sp : Sp) (dvs : List V) (E : XK) (t : TA) : TE:=fun σ H Q => t σ H fun vs H1 => sp (vs ++ dvs) H1 Q E
def GO (C : Addr) (m : Str) (sp : Sp) (dvs : List V) (E : XK) (ta : TE) (t : TA) : TE:=fun σ H Q => ta σ H fun x H1 => ∃ a dx fs,x = .ref a /\ H1 a = some (.ins C dx fs) /\ fs.lookup m = none /\
 t σ H1 fun vs H2 => sp (x :: (vs ++ dvs)) H2 Q E
def GN (C : Addr) (sp : Sp) (dvs : List V) (E : XK) (t : TA) : TE:=fun σ H Q => t σ H fun vs H1 => ∀ x dx,H1 x = none -> H1 dx = none -> dx ≠ x ->
 sp (.ref x :: (vs ++ dvs)) (upd (upd H1 dx (.own x)) x (.ins C dx [])) (fun v H2 => v = .non /\ Q (.ref x) H2) E
def Binds (K : PySem.W.Frag) (fd : FuncData) (ps : List Str) (ds : List Value) : Prop:=
 ∀ (s : Shared) (us : List Value),K.In s.heap -> (us ++ ds).length = ps.length -> BindsTo s fd ⟨us,[]⟩ (ps.zip (us ++ ds))
theorem Binds.all {K : PySem.W.Frag} {fd : FuncData} {ps : List Str} (h : ∀ us : List Value,us.length = ps.length -> bindArgs fd ⟨us,[]⟩ = pure (ps.zip us)) : Binds K fd ps []:=fun s us _ hl => by
 rw [List.append_nil] at hl ⊢
 exact .of_eq (h us hl)
def Passes (CX : CXT) (X : Cx) (E : XK) : Prop := ∀ (pins : List (Addr × Obj)) (σ : St) (H : Hp) (s : Shared) (e : Value) (s' : Shared),Inv X pins σ H s -> CX X.stack H s E e s' -> X.xe e s'
section
variable {X : Cx} {CX : CXT} {k : Nat} {f C : Addr} {fd : FuncData} {ps : List Str} {sp : Sp} {dvs : List V} {ds : List Value} {E : XK} {x m : Str} {p pos apos : Pos} {e o : Expr} {es : List Expr} {ta : TE} {t : TA}
theorem C5 {pins : List (Addr × Obj)} {σ : St} {H : Hp} {s : Shared} {Q : VK} {us : List Value} {vs : List V} (F : FnOk X.prog X.w X.K X.mg X.base CX k f fd ps sp) (hr : Room k X.A) (hb : Binds X.K fd ps ds) (hd : Vals dvs ds) (hx : Passes CX X E)
  (I : Inv X pins σ H s) (r : Vals vs us) (h : sp (vs ++ dvs) H Q E) : wpAny (model X.prog X.w) X.A (call (.ref f) us) (EP X pins σ Q) X.xe s:=by
 have r2 : Vals (vs ++ dvs) (us ++ ds):=r.append hd
 have hl : (us ++ ds).length = ps.length:=by rw [<- r2.length]; exact F.len _ _ _ _ h
 refine wpAny_call (codeAny_mono (F.run X.A X.stack s H ⟨us,[]⟩ (us ++ ds) (vs ++ dvs) Q E hr I.env0 (hb s us I.kIn hl) r2 h) fun r s' hq => ?_)
 cases r with
 | error e => exact hx pins σ H s e s' I hq
 | ok fl =>
  cases fl with
  | ret u => exact I.after hq
  | next => exact False.elim hq
  | brk => exact False.elim hq
  | cont => exact False.elim hq
theorem KL (F : FnOk X.prog X.w X.K X.mg X.base CX k f fd ps sp) (hr : Room k X.A) (hg : Gl X x) (hm : X.mg x = some (.ref f)) (hk : PySem.W.keepIn X.K (.ref f) = true) (hb : Binds X.K fd ps ds) (hd : Vals dvs ds) (hx : Passes CX X E)
  (ha : PA X (e :: es) t) (hdb : (x == ("__debug__" : Str)) = false:=by decide) (he : starEach (e :: es) X.env = (false,eval e X.env) :: starEach es X.env:=by rfl) (hpl : (backTo pos (starEach es X.env)).any (·.1) = false:=by rfl) :
  PE X (.Call (.Name x p) (e :: es) [] pos) (JW sp dvs E t):=by
 intro pins s σ H Q I h
 refine wpAny_Call_Name_kw (iV I hg hm ?_ hdb)
 refine PySem.W.callWith_K (h₀:=X.base) I.ok.mod.kin hk (thn (ha pos pins s σ H _ I h) fun us s1 ⟨vs,H1,I1,r,q⟩ => ⟨I1.kIn,?_⟩) he hpl
 exact C5 F hr hb hd hx I1 r q
theorem KU {pl : Sem Bool} (he : PE X o ta) (c : Cls X.K C) (hm : Meth X.K C m f) (F : FnOk X.prog X.w X.K X.mg X.base CX k f fd ps sp) (hr : Room k X.A) (hb : Binds X.K fd ps ds) (hd : Vals dvs ds) (hx : Passes CX X E) (ha : PA X (e :: es) t)
  (hst : starEach (e :: es) X.env = (false,eval e X.env) :: starEach es X.env:=by rfl) (hpl : (backTo pos (starEach es X.env)).any (·.1) = false:=by rfl)
  (ht : eval (.Call (.Attribute o m apos) (e :: es) [] pos) X.env = (do
   let ov <- eval o X.env
   standAt apos.atName
   let (f,first) <- holding [ov] (getMethod ov m pl)
   callWith pos f first (backTo pos (starEach (e :: es) X.env)) (backToKw pos (keywordEach [] X.env))):=by rfl) :
  PE X (.Call (.Attribute o m apos) (e :: es) [] pos) (GO C m sp dvs E ta t):=by
 intro pins s σ H Q I h
 refine PySem.W.methodCall_KW (pl:=pl) (thn (he pins s σ H _ I h) fun u s1 ⟨x,H1,I1,rx,a,dx,fs,ex,ea,l,q⟩ => ?_) ht
 subst ex
 obtain rfl : u = Value.ref a:=rx
 refine yc I1 ea c hm l ?_
 refine PySem.W.callWith_K (first:=[.ref a]) (h₀:=X.base) I.ok.mod.kin hm.kp (thn (ha pos pins s1 σ H1 _ I1 q) fun us s2 ⟨vs,H2,I2,r,q2⟩ => ⟨I2.kIn,?_⟩) hst hpl
 exact C5 (us:=.ref a :: us) (vs:=.ref a :: vs) F hr hb hd hx I2 (.cons rfl r) q2
theorem JG {pl : Sem Bool} (he : PE X o ta) (c : Cls X.K C) (hm : Meth X.K C m f) (F : FnOk X.prog X.w X.K X.mg X.base CX k f fd ps sp) (hr : Room k X.A) (hb : Binds X.K fd ps ds) (hd : Vals dvs ds) (hx : Passes CX X E)
  (ht : eval (.Call (.Attribute o m apos) [] [] pos) X.env = (do
   let ov <- eval o X.env
   standAt apos.atName
   let (f,first) <- holding [ov] (getMethod ov m pl)
   callWith pos f first (backTo pos (starEach [] X.env)) (backToKw pos (keywordEach [] X.env))):=by rfl) :
  PE X (.Call (.Attribute o m apos) [] [] pos) (GO C m sp dvs E ta JZ):=by
 intro pins s σ H Q I h
 refine PySem.W.methodCall_KW (pl:=pl) (thn (he pins s σ H _ I h) fun u s1 ⟨x,H1,I1,rx,a,dx,fs,ex,ea,l,q⟩ => ?_) ht
 subst ex
 obtain rfl : u = Value.ref a:=rx
 refine yc I1 ea c hm l ?_
 exact PySem.W.callWith_K0 (first:=[.ref a]) I1.kIn hm.kp (C5 (us:=[.ref a]) (vs:=[.ref a]) F hr hb hd hx I1 (.cons rfl .nil) q)
structure Mk (K : PySem.W.Frag) (C f : Addr) : Prop where
 makes : PySem.W.makesIn K C = true
 init : PySem.W.findIn K (.ref C) "__init__" = some (some (.ref f))
 fn : PySem.W.isFn K (.ref f) = true
 kp : PySem.W.keepIn K (.ref C) = true
theorem JR {pins : List (Addr × Obj)} {σ : St} {H : Hp} {s : Shared} {Q : VK} {us : List Value} {vs : List V} (M : Mk X.K C f) (F : FnOk X.prog X.w X.K X.mg X.base CX k f fd ps sp) (hr : Room (k + 1) X.A) (hb : Binds X.K fd ps ds) (hd : Vals dvs ds)
  (hx : Passes CX X E) (I : Inv X pins σ H s) (r : Vals vs us)
  (h : ∀ x dx,H x = none -> H dx = none -> dx ≠ x -> sp (.ref x :: (vs ++ dvs)) (upd (upd H dx (.own x)) x (.ins C dx [])) (fun v H2 => v = .non /\ Q (.ref x) H2) E) :
  wpAny (model X.prog X.w) X.A (call (.ref C) us) (EP X pins σ Q) X.xe s:=by
 have hq:=h (s.heap.objs.size + 1) s.heap.objs.size (I.hok.fresh (Nat.le_succ _)) (I.hok.fresh (Nat.le_refl _)) (Nat.ne_of_lt (Nat.lt_succ_self _))
 have I2:=Inv.made (C:=C) I
 have r2 : Vals (V.ref (s.heap.objs.size + 1) :: (vs ++ dvs)) (Value.ref (s.heap.objs.size + 1) :: (us ++ ds)):=.cons rfl (r.append hd)
 have hl : (Value.ref (s.heap.objs.size + 1) :: us ++ ds).length = ps.length:=by
  have e:=r2.length
  rw [F.len _ _ _ _ hq] at e
  exact e.symm
 refine wpAny_call (IX (f:=f) I.kIn M.makes M.init (beq_iff_eq.mp M.fn) (codeAny_mono (F.run _ X.stack _ _ ⟨Value.ref (s.heap.objs.size + 1) :: us,[]⟩ (Value.ref (s.heap.objs.size + 1) :: (us ++ ds)) _ _ E (hr.make C us [])
  (I2.env0.make C us []) (hb _ (Value.ref (s.heap.objs.size + 1) :: us) I2.kIn hl) r2 hq) fun r s' hq' => ?_))
 cases r with
 | error e => exact hx pins σ _ _ e s' I2 hq'
 | ok fl =>
  cases fl with
  | ret u =>
   obtain ⟨v,H',I3,rv,ev,q3⟩:=I2.after hq'
   subst ev
   exact ⟨rv,⟨V.ref (s.heap.objs.size + 1),H',I3,rfl,q3⟩⟩
  | next => exact False.elim hq'
  | brk => exact False.elim hq'
  | cont => exact False.elim hq'
theorem KS (M : Mk X.K C f) (F : FnOk X.prog X.w X.K X.mg X.base CX k f fd ps sp) (hr : Room (k + 1) X.A) (hg : Gl X x) (hm : X.mg x = some (.ref C)) (hb : Binds X.K fd ps ds) (hd : Vals dvs ds) (hx : Passes CX X E)
  (ha : PA X (e :: es) t) (hdb : (x == ("__debug__" : Str)) = false:=by decide) (he : starEach (e :: es) X.env = (false,eval e X.env) :: starEach es X.env:=by rfl) (hpl : (backTo pos (starEach es X.env)).any (·.1) = false:=by rfl) :
  PE X (.Call (.Name x p) (e :: es) [] pos) (GN C sp dvs E t):=by
 intro pins s σ H Q I h
 refine wpAny_Call_Name_kw (iV I hg hm ?_ hdb)
 refine PySem.W.callWith_K (h₀:=X.base) I.ok.mod.kin M.kp (thn (ha pos pins s σ H _ I h) fun us s1 ⟨vs,H1,I1,r,q⟩ => ⟨I1.kIn,?_⟩) he hpl
 exact JR M F hr hb hd hx I1 r q
end
section
variable {X : Cx} {CX : CXT} {k : Nat} {f C : Addr} {fd : FuncData} {ps ks : List Str} {sp : Sp} {E : XK} {x m : Str} {p pos apos kpos : Pos} {e o : Expr} {es : List Expr} {kws : List Keyword} {te ta : TE} {t tk : TA} {nm : Option Str}
structure KBinds (K : PySem.W.Frag) (fd : FuncData) (ps ks : List Str) (g : List Value -> List Value -> List Value) (gV : List V -> List V -> List V) : Prop where
 to : ∀ (s : Shared) (us ws : List Value),K.In s.heap -> (g us ws).length = ps.length -> BindsTo s fd ⟨us,ks.zip ws⟩ (ps.zip (g us ws))
 rel : ∀ {vs : List V} {us : List Value} {zs : List V} {ws : List Value},Vals vs us -> Vals zs ws -> Vals (gV vs zs) (g us ws)
variable {g : List Value -> List Value -> List Value} {gV : List V -> List V -> List V}
end
structure FnScope (N P : List Str) (sc : Scope) : Prop where
 kind : sc.kind = .function
 co : sc.isCoroutine = false
 gen : sc.isGenerator = false
 nd : N.Nodup
 pre : N.take P.length = P
 par : ∀ x ∈ P,sc.names.lookup x = some .local \/ sc.names.lookup x = some .cell
 nofree : ∀ y ∈ sc.names,y.2 ≠ .free
theorem Aw {kindOf : Str -> Option NameKind} {x : Str} : ∀ {binds : List (Str × Value)} {m : Str -> Option Value},(∀ v,(x,v) ∉ binds) -> bindL kindOf binds m x = m x
 | [],_,_ => rfl
 | (n,v) :: r,m,h => by
  unfold bindL
  rw [Aw fun w hw => h w (List.mem_cons_of_mem _ hw)]
  split
  ·have : x ≠ n:=by rintro rfl; exact h v List.mem_cons_self
   simp [this]
  ·rfl
theorem Au {kindOf : Str -> Option NameKind} {x : Str} : ∀ {binds : List (Str × Value)} {m : Str -> Option Value},(∀ v,(x,v) ∉ binds) -> bindC kindOf binds m x = m x
 | [],_,_ => rfl
 | (n,v) :: r,m,h => by
  unfold bindC
  rw [Au fun w hw => h w (List.mem_cons_of_mem _ hw)]
  split
  ·rfl
  ·have : x ≠ n:=by rintro rfl; exact h v List.mem_cons_self
   simp [this]
theorem Av {kindOf : Str -> Option NameKind} {x : Str} {v : Value} : ∀ {P : List Str} {vs : List Value} {i : Nat} {m : Str -> Option Value},P.Nodup -> P[i]? = some x -> vs[i]? = some v -> kindOf x = some .local ->
  bindL kindOf (P.zip vs) m x = some v
 | [],_,_,_,_,h,_,_ => by simp at h
 | _ :: _,[],_,_,_,_,h,_ => by simp at h
 | p :: P,w :: vs,0,m,nd,h1,h2,hk => by
  simp at h1 h2; subst h1; subst h2
  show bindL kindOf ((p,w) :: P.zip vs) m p = _
  unfold bindL
  rw [Aw fun v hv => (List.nodup_cons.mp nd).1 (List.of_mem_zip hv).1,if_pos hk]
  simp
 | p :: P,w :: vs,i + 1,m,nd,h1,h2,hk => by
  show bindL kindOf ((p,w) :: P.zip vs) m x = _
  unfold bindL
  exact Av (i:=i) (List.nodup_cons.mp nd).2 (by simpa using h1) (by simpa using h2) hk
theorem As {kindOf : Str -> Option NameKind} {x : Str} {v : Value} : ∀ {P : List Str} {vs : List Value} {i : Nat} {m : Str -> Option Value},P.Nodup -> P[i]? = some x -> vs[i]? = some v -> kindOf x ≠ some .local ->
  bindC kindOf (P.zip vs) m x = some v
 | [],_,_,_,_,h,_,_ => by simp at h
 | _ :: _,[],_,_,_,_,h,_ => by simp at h
 | p :: P,w :: vs,0,m,nd,h1,h2,hk => by
  simp at h1 h2; subst h1; subst h2
  show bindC kindOf ((p,w) :: P.zip vs) m p = _
  unfold bindC
  rw [Au fun v hv => (List.nodup_cons.mp nd).1 (List.of_mem_zip hv).1,if_neg hk]
  simp
 | p :: P,w :: vs,i + 1,m,nd,h1,h2,hk => by
  show bindC kindOf ((p,w) :: P.zip vs) m x = _
  unfold bindC
  exact As (i:=i) (List.nodup_cons.mp nd).2 (by simpa using h1) (by simpa using h2) hk
def start (N : List Str) (vs : List V) : St:=vs.map some ++ List.replicate (N.length - vs.length) none
def Bz (CX : CXT) (P : Program) (w : World) (K : PySem.W.Frag) (mg : Str -> Option Value) (base : Heap) (N : List Str) (qual : Str) (scope : Scope) (f : Addr) (cd : Value) (A : Around) (outer : List Env) (s : Shared) (H : Hp) (E : XK) : Cx where
 prog:=P
 w:=w
 K:=K
 mg:=mg
 base:=base
 A:=A.deeper (envOfC qual scope s.heap.objs.size f cd)
 N:=N
 s₀:=s
 H₀:=H
 env:=envOfC qual scope s.heap.objs.size f cd
 outer:=outer
 stack:=envOfC qual scope s.heap.objs.size f cd :: outer
 ex:=[]
 calm:=true
 fn:=fun _ => true
 pn:=[]
 xe:=fun e s' => wpAny (model P w) (A.deeper (envOfC qual scope s.heap.objs.size f cd)) (leaving (envOfC qual scope s.heap.objs.size f cd) e) (fun _ s'' => CX outer H s E e s'') (fun e' s'' => CX outer H s E e' s'') s'
theorem DV {sc : Scope} {n : Nat} {x : Str} (h : sc.names.lookup x = some .cell) : ∃ c,(cellsFrom n sc.names []).lookup x = some c:=by
 have q:=PySem.W.cellsFrom_some sc.names n [] (.inl h)
 exact Option.isSome_iff_exists.mp q
theorem AJ {CX : CXT} {P : Program} {w : World} {K : PySem.W.Frag} {mg : Str -> Option Value} {base : Heap} {N ps : List Str} {qual : Str} {scope : Scope} {f : Addr} {cd : Value} {A : Around} {outer : List Env} {s s1 : Shared} {H : Hp} {E : XK} {us : List Value} {vs : List V}
  (S : FnScope N ps scope) (hd : A.handled = none) (e0 : Env0 P w K mg base A outer s H) (hl : vs.length = ps.length) (r : Vals vs us)
  (x : InCallC s s.heap.objs.size (bindL (envOfC qual scope s.heap.objs.size f cd).kindOf (ps.zip us) fun _ => none) (cellsFrom (s.heap.objs.size + 1) scope.names []) (bindC (envOfC qual scope s.heap.objs.size f cd).kindOf (ps.zip us) fun _ => none) s1) :
  Inv (Bz CX P w K mg base N qual scope f cd A outer s H E) [] (start N vs) H s1:=by
 have hpl : ps.length <= N.length:=by have:=congrArg List.length S.pre; rw [List.length_take] at this; omega
 obtain ⟨h1,tk,rfl,hk⟩:=x.done
 have noA : ∀ b : Addr,b ∉ (Bz CX P w K mg base N qual scope f cd A outer s H E).ex:=fun b z => absurd (show b ∈ ([] : List Addr) from z) (by simp)
 refine ⟨⟨e0.mod,S.kind,rfl,rfl,Nat.le_refl _,fun y z c h1 h2 => ?_,fun y hy => ?_,fun y c _ h => ?_,fun _ => hd,Around.frames_deeper e0.frames,.inr ⟨rfl,rfl⟩,fun b z => absurd z (noA b),e0.bs,e0.bsz,fun b _ _ => noA b,fun b z => absurd z (noA b),e0.funs,e0.frf⟩,
  rfl,e0.bare,Un.kept hk,⟨_,x.toInCall.ns,fun i y v h1 h2 h3 => ?_⟩,fun y c h => ⟨_,x.cell y c h⟩,e0.hok.fresh (Nat.le_refl _),fun y c h => ?_,fun p hp => absurd (show p ∈ ([] : List (Addr × Obj)) from hp) (by simp),e0.hok.kept hk,?_⟩
 ·exact name_of_addr x.apart (PySem.mem_of_lookup h1) (PySem.mem_of_lookup h2)
 ·have hy : scope.names.lookup y = some .cell \/ scope.names.lookup y = some .free:=hy
  rcases hy with hy | hy
  ·exact DV hy
  ·exact absurd rfl (S.nofree _ (PySem.mem_of_lookup hy))
 ·exact Nat.le_of_lt (x.above y c (PySem.mem_of_lookup h))
 ·have hi : i < vs.length:=by
   unfold start at h2
   by_cases hi : i < vs.length
   ·exact hi
   ·rw [List.getElem?_append_right (by simpa using hi)] at h2
    rw [List.getElem?_replicate] at h2
    split at h2 <;> cases h2
  have ha : vs[i]? = some v:=by
   unfold start at h2
   rw [List.getElem?_append_left (by simpa using hi),List.getElem?_map] at h2
   cases e : vs[i]? with
   | none => rw [e] at h2; cases h2
   | some a => rw [e] at h2; cases h2; rfl
  obtain ⟨u,hu,rv⟩:=r.get ha
  have hp : ps[i]? = some y:=by
   rw [<- S.pre,List.getElem?_take_of_lt (by omega)]; exact h1
  have ndP : ps.Nodup:=by rw [<- S.pre]; exact S.nd.sublist (List.take_sublist _ _)
  refine ⟨u,rv,?_⟩
  rcases S.par y (List.mem_of_getElem? hp) with k | k
  ·exact .inl ⟨k,Av ndP hp hu k⟩
  ·obtain ⟨c,e⟩:=DV (n:=s.heap.objs.size + 1) k
   refine .inr ⟨.inl k,c,e,?_⟩
   have q:=x.cell y c e
   rw [As ndP hp hu (by show scope.names.lookup y ≠ _; rw [k]; decide)] at q
   exact q
 ·exact e0.hok.fresh (Nat.le_of_lt (x.above y c (PySem.mem_of_lookup h)))
 ·unfold start
  show _ = N.length
  rw [List.length_append,List.length_map,List.length_replicate]
  omega
theorem Lr {CX : CXT} {P : Program} {w : World} {K : PySem.W.Frag} {mg : Str -> Option Value} {base : Heap} {k : Nat} {f : Addr} {name qual : Str} {params : Arguments} {body : List Stmt} {scope : Scope} {dV kV doc pm cdv ct oc : Value} {an od : Option Addr}
  {osl : Array (Option Value)} {N ps : List Str} {sp : Sp} (lk : K.lookup f = some ⟨oc,od,.func (PySem.W.fnOf name qual params body scope dV kV doc pm an cdv ct),osl⟩) (hcd : PySem.W.codeIn K cdv qual = true) (S : FnScope N ps scope)
  (len : ∀ vs H Q E,sp vs H Q E -> vs.length = ps.length)
  (hbody : ∀ (A : Around) (outer : List Env) (s : Shared) (H : Hp) (vs : List V) (Q : VK) (E : XK),Room k (A.deeper (envOfC qual scope s.heap.objs.size f cdv)) -> sp vs H Q E ->
   ∃ t,PSs (Bz CX P w K mg base N qual scope f cdv A outer s H E) body t /\ t { nx:=fun _ H' => Q .non H',rt:=Q } (start N vs) H) :
  FnOk P w K mg base CX (k + 1) f (PySem.W.fnOf name qual params body scope dV kV doc pm an cdv ct) ps sp:=by
 refine ⟨len,fun A outer s H args us vs Q E hr e0 hb r hsp => ?_⟩
 have hl:=len _ _ _ _ hsp
 have KX : K.In s.heap:=e0.mod.kin.keeps fun b o e => (e0.bs b o e).1
 have lim : s.heap.NoLimit:=e0.mod.nolimit.keeps fun b o e => (e0.bs b o e).1
 have hkind : ∀ y ∈ ps.zip us,scope.names.lookup y.1 = some .local \/ (scope.names.lookup y.1 = some .cell /\ ((cellsFrom (s.heap.objs.size + 1) scope.names []).lookup y.1).isSome = true):=fun ⟨n,v⟩ hy => by
  rcases S.par n (List.of_mem_zip hy).1 with q | q
  ·exact .inl q
  ·exact .inr ⟨q,PySem.W.cellsFrom_some _ _ _ (.inl q)⟩
 refine codeAny_call_function hr.depth (KX _ _ lk) rfl S.co S.gen rfl (PySem.W.codeRec_of KX hcd) (hb _ _ _ _ ?_)
 refine wpAny_newFunctionEnv_cells S.kind hkind fun env he s1 x => ?_
 subst he
 refine ⟨lim.keeps x.toInCall.keep,codeAny_func ?_⟩
 obtain ⟨t,ht,hq⟩:=hbody A outer s H vs Q E (hr.deeper _) hsp
 have I : Inv (Bz CX P w K mg base N qual scope f cdv A outer s H E) [] (start N vs) H s1:=AJ S hr.hd e0 hl r x
 refine wpAny_mono (ht [] s1 (start N vs) H _ I hq) (fun fl s' hs => ?_) fun e s' hs => hs
 have fin : ∀ {σ' : St} {H' : Hp} {v : V} {u : Value},Inv (Bz CX P w K mg base N qual scope f cdv A outer s H E) [] σ' H' s' -> RelV v u -> Q v H' -> CE outer P w H s Q u s' :=
  fun {σ' H' v u} J rv q => ⟨v,H',J.os,J.bare,J.base,J.hok,rv,q⟩
 cases fl with
 | ret u =>
  obtain ⟨v,σ',H',J,rv,q⟩:=hs
  exact fin J rv q
 | next =>
  obtain ⟨σ',H',J,q⟩:=hs
  exact fin (v:=V.non) (u:=Value.none) J rfl q
 | brk =>
  obtain ⟨_,_,_,q⟩:=hs
  exact False.elim q
 | cont =>
  obtain ⟨_,_,_,q⟩:=hs
  exact False.elim q
end L2
namespace L2
open PySem PySem.Spec PyProof.Rows
section
variable {X : Cx} {x : Str} {p pos : Pos} {e : Expr} {es : List Expr} {t : TA} {id T : String} {r : List V -> Hp -> VK -> Prop}
def tCB (r : List V -> Hp -> VK -> Prop) (t : TA) : TE:=fun σ H Q => t σ H fun vs H1 => r vs H1 Q
theorem aK (hc : iE X (.builtin id) r) (hg : Gl X x) (hm : X.mg x = none) (hv : bootBuiltins x = some (.builtin id)) (ha : PA X (e :: es) t) (hn : x ≠ "__name__" := by decide) (hdb : (x == ("__debug__" : Str)) = false:=by decide)
  (he : starEach (e :: es) X.env = (false,eval e X.env) :: starEach es X.env:=by rfl) (hpl : (backTo pos (starEach es X.env)).any (·.1) = false:=by rfl) : PE X (.Call (.Name x p) (e :: es) [] pos) (tCB r t):=by
 intro pins s σ H Q I h
 refine wpAny_Call_Name_kw (yn I hg hm hv ?_ hn hdb)
 exact PyProof.Rows.callWith_builtin1 (thn (ha pos pins s σ H _ I h) fun us s1 ⟨vs,H1,I1,r1,q1⟩ => hc pins s1 σ H1 vs us Q I1 r1 q1) he hpl
theorem bS (hc : iE X (.type T) r) (hg : Gl X x) (hm : X.mg x = none) (hv : bootBuiltins x = some (.type T)) (ha : PA X (e :: es) t) (hn : x ≠ "__name__" := by decide) (hdb : (x == ("__debug__" : Str)) = false:=by decide)
  (he : starEach (e :: es) X.env = (false,eval e X.env) :: starEach es X.env:=by rfl) (hpl : (backTo pos (starEach es X.env)).any (·.1) = false:=by rfl) : PE X (.Call (.Name x p) (e :: es) [] pos) (tCB r t):=by
 intro pins s σ H Q I h
 refine wpAny_Call_Name_kw (yn I hg hm hv ?_ hn hdb)
 exact PyProof.Rows.callWith_type1 (thn (ha pos pins s σ H _ I h) fun us s1 ⟨vs,H1,I1,r1,q1⟩ => hc pins s1 σ H1 vs us Q I1 r1 q1) he hpl
end
end L2
namespace HT
open PySem PyProof.Rows
section
open PySem.SeqAt
open PySem.AutoSeq1 (wpAny_loadPart')
open PySem.MeetsSeq PySem.MeetsSeq2 PySem.MeetsSeq3
end
section
variable {prog : Program} {w : World} {A : Around} {E : Value -> Shared -> Prop} {s : Shared}
def sIx (n d : Nat) : Option Int -> Nat
 | none => d
 | some v => if v < 0 then (v + (n : Int)).toNat else min v.toNat n
theorem sIx_none (n d : Nat) : sIx n d none = d:=rfl
theorem sIx_nat (n d k : Nat) : sIx n d (some (k : Int)) = min k n:=by
 show (if (k : Int) < 0 then ((k : Int) + (n : Int)).toNat else min (k : Int).toNat n) = min k n
 rw [if_neg (by omega),Int.toNat_natCast]
theorem Mw (n d : Nat) (hd : d <= n) (o : Option Int) : sIx n d o <= n:=by
 cases o with
 | none => exact hd
 | some v =>
  show (if v < 0 then (v + (n : Int)).toNat else min v.toNat n) <= n
  by_cases hv : v < 0
  ·rw [if_pos hv]; omega
  ·rw [if_neg hv]; exact Nat.min_le_right _ _
theorem Gk (v : Int) (n d : Nat) : (if v < 0 then max (v + (n : Int)) 0 else min v (n : Int)) = ((sIx n d (some v) : Nat) : Int):=by
 show (if v < 0 then max (v + (n : Int)) 0 else min v (n : Int)) = (((if v < 0 then (v + (n : Int)).toNat else min v.toNat n) : Nat) : Int)
 by_cases hv : v < 0
 ·simp only [if_pos hv]; omega
 ·simp only [if_neg hv]; omega
theorem E4 (lo hi : Option Int) (n : Nat) : Builtin.Slice.sliceAdjust lo hi 1 (n : Int) = (((sIx n 0 lo : Nat) : Int),((sIx n n hi : Nat) : Int)):=by
 have h1 : ¬ ((1 : Int) < 0):=by omega
 unfold Builtin.Slice.sliceAdjust
 simp only [h1,if_false]
 refine Prod.ext ?_ ?_
 ·cases lo with
  | none => rfl
  | some v => exact Gk v n 0
 ·cases hi with
  | none => rfl
  | some v => exact Gk v n n
theorem FH (i j : Nat) : Builtin.Slice.slicePlaces (i : Int) (j : Int) 1 = j - i:=by
 unfold Builtin.Slice.slicePlaces
 have h1 : (1 : Int) > 0:=by omega
 simp only [h1,if_true,Int.ediv_one]
 split <;> omega
theorem yQ {v : Value} {o : Option Int} {Q : Option Int -> Shared -> Prop} (p : IsPart v o) (h : Q o s) : wpAny (model prog w) A (Builtin.Slice.slicePartIndex v) Q E s:=by
 cases p with
 | none => exact slicePart_none h
 | int i t => exact slicePart_int h
theorem kU {sl : Addr} {vl vu : Value} {lo hi : Option Int} {n : Nat} {Q : Int × Int × Nat -> Shared -> Prop} (hs : s.heap.IsSliceOf sl vl vu .none) (pl : IsPart vl lo) (pu : IsPart vu hi)
  (h : Q (((sIx n 0 lo : Nat) : Int),1,sIx n n hi - sIx n 0 lo) s) : wpAny (model prog w) A (Builtin.Slice.sliceApplied (.ref sl) (pure (n : Int))) Q E s:=by
 obtain ⟨os,hos,hcs,hds⟩:=id hs
 unfold Builtin.Slice.sliceApplied Builtin.Slice.sliceFields
 refine wpAny_bind (wpAny_bind (wpAny_field hos hds (x:=vl) rfl (wpAny_bind (wpAny_field hos hds (x:=vu) rfl (wpAny_bind (wpAny_field hos hds (x:=.none) rfl (wpAny_pure ?_)))))))
 refine wpAny_bind (slicePart_none ?_)
 show wpAny _ _ (if ((1 : Int) == 0) = true then _ else _) _ _ s
 rw [if_neg (by decide)]
 refine wpAny_bind (yQ pl (wpAny_bind (yQ pu (wpAny_bind (wpAny_pure ?_)))))
 show wpAny _ _ (match Builtin.Slice.sliceAdjust lo hi 1 (n : Int) with | (lo,hi) => pure (lo,(1 : Int),Builtin.Slice.slicePlaces lo hi 1)) _ _ s
 rw [E4 lo hi n]
 show wpAny _ _ (pure (((sIx n 0 lo : Nat) : Int),(1 : Int),Builtin.Slice.slicePlaces ((sIx n 0 lo : Nat) : Int) ((sIx n n hi : Nat) : Int) 1)) _ _ s
 rw [FH]
 exact wpAny_pure h
theorem JJ (xs : Array Value) (i k : Nat) : ((List.range k).filterMap fun (m : Nat) => xs[((i : Int) + (m : Int) * 1).toNat]?).toArray = ((xs.toList.drop i).take k).toArray:=by
 have e : (fun (m : Nat) => xs[((i : Int) + (m : Int) * 1).toNat]?) = fun m => xs[i + m]? := by
  funext m
  have : ((i : Int) + (m : Int) * 1).toNat = i + m:=by omega
  rw [this]
 rw [e]
 have:=pick_run xs i k
 rw [List.filterMap_map] at this
 have e2 : ((fun x => xs[x]?) ∘ fun x => i + x) = fun m => xs[i + m]? := rfl
 rw [e2] at this
 rw [this]
theorem getItem_tuple_cut {t sl : Addr} {items : Array Value} {vl vu : Value} {lo hi : Option Int} {Q : Value -> Shared -> Prop} (ht : IsTup s.heap t items) (hs : s.heap.IsSliceOf sl vl vu .none) (pl : IsPart vl lo) (pu : IsPart vu hi)
  (hw : ¬ (sIx items.size 0 lo = 0 /\ sIx items.size items.size hi = items.size))
  (h : Q (.ref s.heap.objs.size) { s with heap:=s.heap.push { cls:=.type "tuple",data:=.seq ((items.toList.drop (sIx items.size 0 lo)).take (sIx items.size items.size hi - sIx items.size 0 lo)).toArray } })
  (hsz : items.size <= sizeLine) : wpAny (model prog w) A (getItem (.ref t) (.ref sl)) Q E s:=by
 have htake : sizeOk (.seq ((items.toList.drop (sIx items.size 0 lo)).take (sIx items.size items.size hi - sIx items.size 0 lo)).toArray):=by
  show ((items.toList.drop (sIx items.size 0 lo)).take (sIx items.size items.size hi - sIx items.size 0 lo)).toArray.size <= sizeLine
  rw [List.size_toArray,List.length_take,List.length_drop,Array.length_toList]
  omega
 have hj : sIx items.size items.size hi <= items.size:=Mw _ _ (Nat.le_refl _) hi
 obtain ⟨os,hos,hcs,hds⟩:=id hs
 have hTs : s.TypeIs (.ref sl) "slice" := ⟨os,hos,hcs⟩
 unfold getItem
 try with_reducible refine wpAny_holding ?_
 first | refine wpAny_bind (wpAny_pure ?_) | skip
 refine wpAny_bind (wpAny_sequenceKey ht.typeIs (by decide) ?_)
 refine wpAny_bind (wpAny_callSpecial?_slot (name:=Str.ofString "__getitem__") ht.typeIs PyProof.Rows.slot_tuple_getitem
  (wpAny_call_entry PyProof.Rows.slot_tuple_getitem ht.typeIs entry_tuple_getitem ?_ (args_tuple_getitem _ _)))
 show wpAny _ _ (Builtin.Tuple.tupleItemsOf (.ref t) >>= _) _ _ s
 refine wpAny_bind (tupleItemsOf_ ht ?_)
 refine wpAny_bind (wpAny_typeOf hTs ?_)
 rw [if_pos (by decide)]
 refine wpAny_bind (kU hs pl pu ?_)
 have hno : ¬ ((((sIx items.size 0 lo : Nat) : Int) == 0 && (1 : Int) == 1 && (sIx items.size items.size hi - sIx items.size 0 lo) == items.size) = true):=by
  intro q
  rw [Bool.and_eq_true,Bool.and_eq_true] at q
  have q1 : ((sIx items.size 0 lo : Nat) : Int) = 0:=eq_of_beq q.1.1
  have q2 : sIx items.size items.size hi - sIx items.size 0 lo = items.size:=eq_of_beq q.2
  exact hw ⟨by omega,by omega⟩
 show wpAny _ _ (if (((sIx items.size 0 lo : Nat) : Int) == 0 && (1 : Int) == 1 && (sIx items.size items.size hi - sIx items.size 0 lo) == items.size) = true then _ else _) _ _ s
 rw [if_neg hno,JJ]
 first
  | exact wpAny_bind (m:=Builtin.Tuple.tupleExact _) (wpAny_newObj_type (wpAny_pure ⟨_,rfl,wpAny_pure h⟩) htake)
  | exact wpAny_bind (m:=Builtin.Tuple.tupleExact _) (wpAny_newObj_type (wpAny_bind (wpAny_pure (wpAny_pure ⟨_,rfl,wpAny_pure h⟩))) htake)
  | exact wpAny_bind (wpAny_bind (m:=Builtin.Tuple.tupleExact _) (wpAny_newObj_type (wpAny_pure (wpAny_pure ⟨_,rfl,wpAny_pure h⟩)) htake))
  | exact wpAny_bind (wpAny_bind (m:=Builtin.Tuple.tupleExact _) (wpAny_newObj_type (wpAny_pure ⟨_,rfl,wpAny_pure h⟩) htake))
end
end HT
namespace L2
open PySem PySem.Spec PyProof.Rows
abbrev TO:=St -> Hp -> (Option Int -> Hp -> Prop) -> Prop
def PO (X : Cx) (e : Option Expr) (t : TO) : Prop:=
 ∀ (pins : List (Addr × Obj)) (s : Shared) (σ : St) (H : Hp) (Q : Option Int -> Hp -> Prop),Inv X pins σ H s -> t σ H Q ->
  wpAny (model X.prog X.w) X.A (evalPart e X.env) (fun u s' => ∃ o H',Inv X pins σ H' s' /\ IsPart u o /\ Q o H') X.xe s
def Lj : TO:=fun _ H Q => Q none H
def Nw (t : TE) : TO:=fun σ H Q => t σ H fun x H1 => ∃ i,x = .int i /\ Q (some i) H1
section
variable {X : Cx} {e : Expr} {te : TE} {lo hi : Option Expr} {tl th : TO} {pos p2 : Pos}
theorem K1 : PO X none Lj:=by
 intro pins s σ H Q I h
 rw [evalPart_none]
 exact wpAny_pure ⟨none,H,I,.none,h⟩
theorem K2 (h : PE X e te) : PO X (some e) (Nw te):=by
 intro pins s σ H Q I hw
 rw [evalPart_some]
 refine thn (h pins s σ H _ I hw) fun u s1 ⟨x,H1,I1,r1,q1⟩ => ?_
 obtain ⟨i,rfl,q⟩:=q1
 obtain ⟨t,rfl⟩:=r1
 exact ⟨some i,H1,I1,.int i t,q⟩
def SlR (X : Cx) (r : V -> Option Int -> Option Int -> Hp -> VK -> Prop) : Prop:=
 ∀ (pins : List (Addr × Obj)) (s : Shared) (σ : St) (H : Hp) (x : V) (v vl vu : Value) (lo hi : Option Int) (sl : Addr) (Q : VK),Inv X pins σ H s -> RelV x v -> s.heap.IsSliceOf sl vl vu .none -> IsPart vl lo -> IsPart vu hi -> r x lo hi H Q ->
  ∃ T id,typeLookup (.type T) "__getitem__" = pure (some (.builtin id)) /\ s.TypeIs v T /\ wpAny (model X.prog X.w) X.A (getItem v (.ref sl)) (EP X pins σ Q) X.xe s
def tSl (r : V -> Option Int -> Option Int -> Hp -> VK -> Prop) (te : TE) (tl th : TO) : TE:=fun σ H Q => te σ H fun x H1 => tl σ H1 fun l H2 => th σ H2 fun u H3 => r x l u H3 Q
theorem JH {r : V -> Option Int -> Option Int -> Hp -> VK -> Prop} (hr : SlR X r) (he : PE X e te) (hl : PO X lo tl) (hu : PO X hi th) : PE X (.Subscript e (.Slice lo hi none p2) pos) (tSl r te tl th):=by
 intro pins s σ H Q I h
 refine Subscript_ (thn (he pins s σ H _ I h) fun v s1 ⟨x,H1,I1,r1,q1⟩ => ?_)
 refine wpAny_Slice (thn (hl pins s1 σ H1 _ I1 q1) fun vl s2 ⟨l,H2,I2,pl,q2⟩ => thn (hu pins s2 σ H2 _ I2 q2) fun vu s3 ⟨u,H3,I3,pu,q3⟩ => ?_)
 rw [evalPart_none]
 refine wpAny_pure ?_
 have I4 : Inv X pins σ H3 { s3 with heap:=s3.heap.push { cls:=.type "slice",data:=.fields #[vl,vu,.none] } }:=I3.kept (t' := s3.toks) fun b ob q => Heap.get?_push_of_some _ q
 obtain ⟨T,id,hT,ht,hg⟩:=hr pins { s3 with heap:=s3.heap.push { cls:=.type "slice",data:=.fields #[vl,vu,.none] } } σ H3 x v vl vu l u s3.heap.objs.size Q I4 r1 (Heap.IsSliceOf.new ..) pl pu q3
 show wpAny (model X.prog X.w) X.A (subscriptTail e (.Slice lo hi none p2) v (.ref s3.heap.objs.size)) (EP X pins σ Q) X.xe { s3 with heap:=s3.heap.push { cls:=.type "slice",data:=.fields #[vl,vu,.none] } }
 exact tail_any (ops:=[.ref s3.heap.objs.size,v]) ht hT hg (by with_unfolding_all rfl)
def ud (xs : List V) (lo hi : Option Int) : List V:=(xs.drop (HT.sIx xs.length 0 lo)).take (HT.sIx xs.length xs.length hi - HT.sIx xs.length 0 lo)
theorem ve (xs : List V) (lo hi : Option Int) : (ud xs lo hi).length <= xs.length:=by
 unfold ud
 rw [List.length_take,List.length_drop]
 omega
def N0 (K : PySem.W.Frag) : V -> Option Int -> Option Int -> Hp -> VK -> Prop:=fun x lo hi H Q => ∃ a xs,x = .ref a /\ SqT K H a xs /\
 ¬ (HT.sIx xs.length 0 lo = 0 /\ HT.sIx xs.length xs.length hi = xs.length) /\ ∀ p,H p = none -> Q (.ref p) (upd H p (.tup (ud xs lo hi)))
theorem MA : SlR X (N0 X.K):=by
 intro pins s σ H x v vl vu lo hi sl Q I rx hs pl pu h
 obtain ⟨a,xs,rfl,hx,hw,q⟩:=h
 cases rx
 obtain ⟨its,r,ht,hz⟩:=I.tuple hx
 have hlen : its.toArray.size = xs.length:=by rw [List.size_toArray]; exact r.length.symm
 refine ⟨"tuple",_,PyProof.Rows.slot_tuple_getitem.lookup,ht.typeIs,?_⟩
 refine HT.getItem_tuple_cut ht hs pl pu (by rw [hlen]; exact hw) ?_ (by rw [hlen]; exact hz)
 rw [hlen]
 refine ⟨.ref s.heap.objs.size,_,I.laid (t' := s.toks) (o:=.tup (ud xs lo hi)) (fun b ob q => Heap.get?_push_of_some _ q) (Nat.le_refl _) ?_,rfl,q _ (I.hok.fresh (Nat.le_refl _))⟩
 exact ⟨Nat.le_trans (ve xs lo hi) hz,_,(r.drop (HT.sIx xs.length 0 lo)).take (HT.sIx xs.length xs.length hi - HT.sIx xs.length 0 lo),IsTup.new _ _⟩
end
end L2
namespace L2
open PySem PySem.Spec PyProof.Rows
def ixN (n : Nat) (i : Int) : Option Nat:=if 0 <= i then (if i < n then some i.toNat else none) else if -(n : Int) <= i then some (i + n).toNat else none
def atI {α : Type} (xs : List α) (i : Int) : Option α:=(ixN xs.length i).bind fun j => xs[j]?
theorem Gw {n : Nat} {i : Int} {j : Nat} (h : ixN n i = some j) : seqIndex? i n = some j /\ j < n /\ -(n : Int) <= i /\ i < n:=by
 unfold ixN at h
 by_cases h0 : 0 <= i
 ·rw [if_pos h0] at h
  by_cases h1 : i < n
  ·rw [if_pos h1] at h
   have e : i.toNat = j:=Option.some.inj h
   exact ⟨by rw [seqIndex_of h0 h1,e],by omega,by omega,h1⟩
  ·rw [if_neg h1] at h; cases h
 ·rw [if_neg h0] at h
  by_cases h1 : -(n : Int) <= i
  ·rw [if_pos h1] at h
   have e : (i + n).toNat = j:=Option.some.inj h
   exact ⟨by rw [seqIndex_neg (by omega) h1,e],by omega,h1,by omega⟩
  ·rw [if_neg h1] at h; cases h
theorem Gg {α : Type} {xs : List α} {i : Int} {v : α} (h : atI xs i = some v) : ∃ j,seqIndex? i xs.length = some j /\ xs[j]? = some v /\ j < xs.length /\ -(xs.length : Int) <= i /\ i < xs.length:=by
 unfold atI at h
 cases e : ixN xs.length i with
 | none => rw [e] at h; cases h
 | some j =>
  rw [e] at h
  obtain ⟨h1,h2,h3,h4⟩:=Gw e
  exact ⟨j,h1,h,h2,h3,h4⟩
theorem rZ {α : Type} {xs : List α} {j : Nat} {v : α} (h : xs[j]? = some v) : atI xs (j : Int) = some v:=by
 have hj : j < xs.length:=(List.getElem?_eq_some_iff.mp h).1
 have e : ixN xs.length (j : Int) = some j:=by
  unfold ixN
  rw [if_pos (by omega),if_pos (by omega)]; simp
 unfold atI; rw [e]; exact h
def F8 (b : Expr) : Prop := ∀ o i,subscripted b false o i = operate [o,i] (getItem o i)
def IxR (X : Cx) (r : R2) : Prop:=
 ∀ (value slice : Expr) (pins : List (Addr × Obj)) (s : Shared) (σ : St) (H : Hp) (x y : V) (v u : Value) (Q : VK),Inv X pins σ H s -> RelV x v -> RelV y u -> r x y H Q ->
  subscripted slice false v u = operate [v,u] (getItem v u) -> wpAny (model X.prog X.w) X.A (subscriptTail value slice v u) (EP X pins σ Q) X.xe s
def MtR (X : Cx) (id : String) (r : V -> List V -> Hp -> VK -> Prop) : Prop:=
 ∀ (pins : List (Addr × Obj)) (s : Shared) (σ : St) (H : Hp) (x : V) (xs : List V) (v : Value) (us : List Value) (Q : VK),Inv X pins σ H s -> RelV x v -> Vals xs us -> r x xs H Q ->
  wpAny (model X.prog X.w) X.A (call (.builtin id) (v :: us)) (EP X pins σ Q) X.xe s
section
variable {X : Cx} {a b : Expr} {ta tb : TE} {pos : Pos}
theorem aH {r : R2} (hr : IxR X r) (ha : PE X a ta) (hb : PE X b tb) (hs : F8 b) : PE X (.Subscript a b pos) (tOp r ta tb):=by
 intro pins s σ H Q I h
 exact Subscript_ (LS ha hb I h fun v u s2 x y H2 I2 rx ry q => hr a b pins s2 σ H2 x y v u Q I2 rx ry q (hs _ _))
def NW (K : PySem.W.Frag) : R2:=fun x y H Q => ∃ p xs i v,x = .ref p /\ y = .int i /\ SqL K H p xs /\ atI xs i = some v /\ Q v H
def Nd (K : PySem.W.Frag) : R2:=fun x y H Q => ∃ p xs i v,x = .ref p /\ y = .int i /\ SqT K H p xs /\ atI xs i = some v /\ Q v H
theorem iO : IxR X (NW X.K):=by
 intro value slice pins s σ H x y v u Q I rx ry h hs
 obtain ⟨p,xs,i,z,rfl,rfl,hq,he,q⟩:=h
 cases rx
 obtain ⟨t,rfl⟩:=ry
 obtain ⟨its,r,pl,hz⟩:=I.list hq
 obtain ⟨j,h1,h2,h3,h4,h5⟩:=Gg he
 obtain ⟨w,ew,rw'⟩:=r.get h2
 have hl:=r.length
 have hn:=yo
 have fin : EP X pins σ Q w s:=⟨z,H,I,rw',q⟩
 by_cases h0 : 0 <= i
 ·have hj : i.toNat = j:=by
   rw [seqIndex_of h0 h5] at h1
   exact Option.some.inj h1
  exact item_listR pl.isList h0 (by omega) (by rw [hj]; simpa using ew) fin hs
 ·have hj : (i + (its.toArray.size : Int)).toNat = j:=by
   rw [seqIndex_neg (by omega) h4] at h1
   rw [List.size_toArray,<- hl]
   exact Option.some.inj h1
  exact subscriptTail_builtinR (x:=w) pl.isList.typeIs slot_list_getitem.lookup
   (wpAny_getItem_list_neg (Q:=fun r s' => r = w /\ EP X pins σ Q r s') pl.isList (by omega) (by rw [List.size_toArray] <;> omega) (by omega) (by rw [hj]; simpa using ew) ⟨rfl,fin⟩) hs
theorem az : IxR X (Nd X.K):=by
 intro value slice pins s σ H x y v u Q I rx ry h hs
 obtain ⟨p,xs,i,z,rfl,rfl,hq,he,q⟩:=h
 cases rx
 obtain ⟨t,rfl⟩:=ry
 obtain ⟨its,r,pl,hz⟩:=I.tuple hq
 obtain ⟨j,h1,h2,h3,h4,h5⟩:=Gg he
 obtain ⟨w,ew,rw'⟩:=r.get h2
 have hl:=r.length
 have hn:=yo
 have fin : EP X pins σ Q w s:=⟨z,H,I,rw',q⟩
 exact subscriptTail_builtinR (x:=w) pl.typeIs slot_tuple_getitem.lookup
  (getItem_tuple (j:=j) (Q:=fun r s' => r = w /\ EP X pins σ Q r s') pl (by omega) (by omega) (by rw [List.size_toArray,<- hl]; exact h1) (by simpa using ew) ⟨rfl,fin⟩) hs
theorem Fv (its : List Value) (n j : Nat) (u : Value) : Obj.mapSeq (·.setIfInBounds j u) { cls:=.type "list",data:=.seq its.toArray n } = { cls:=.type "list",data:=.seq (its.set j u).toArray n }:=by
 simp [Obj.mapSeq]
theorem Inv.lst {pins : List (Addr × Obj)} {σ : St} {H : Hp} {s : Shared} {p : Addr} {xs : List V} (I : Inv X pins σ H s) (h : H p = some (.lst xs)) :
  ∃ (its : List Value) (n : Nat),Vals xs its /\ s.heap.get? p = some { cls:=.type "list",data:=.seq its.toArray n } /\ xs.length <= sizeLine:=by
 obtain ⟨z,its,n,r,e⟩:=I.hok p _ h
 exact ⟨its,n,r,e,z⟩
theorem Inv.lstUpd {pins : List (Addr × Obj)} {σ : St} {H : Hp} {s : Shared} {p : Addr} {xs ys : List V} {its its' : List Value} {n n' : Nat} {f : Obj -> Obj} (I : Inv X pins σ H s) (h : H p = some (.lst xs))
  (ho : s.heap.get? p = some { cls:=.type "list",data:=.seq its.toArray n }) (hf : f { cls:=.type "list",data:=.seq its.toArray n } = { cls:=.type "list",data:=.seq its'.toArray n' }) (r : Vals ys its') (hz : ys.length <= sizeLine) (t : Nat) :
  Inv X pins σ (upd H p (.lst ys)) { s with heap:=s.heap.update p f,toks:=t }:=by
 have e : (s.heap.update p f).get? p = some { cls:=.type "list",data:=.seq its'.toArray n' }:=by
  rw [Heap.get?_update_self f ho (by rw [hf] <;> rfl),hf]
 refine I.write (x:=p) (e:=p) (by rw [h]; trivial) (.inl rfl) (fun b u hb q => (Heap.get?_update_other _ _ (Ne.symm hb)).trans q) ⟨_,e⟩ ?_
 exact ⟨hz,its',n',r,e⟩
def Nf : V -> V -> V -> Hp -> (Hp -> Prop) -> Prop:=fun o i v H Q => ∃ p xs k j,o = .ref p /\ i = .int k /\ H p = some (.lst xs) /\ ixN xs.length k = some j /\ Q (upd H p (.lst (xs.set j v)))
theorem set_list : MS X Nf:=by
 intro pins s σ H o i v ov iv u Q I ro ri rv h
 obtain ⟨p,xs,k,j,rfl,rfl,hp,hj,q⟩:=h
 cases ro
 obtain ⟨t,rfl⟩:=ri
 obtain ⟨its,n,r,ho,hz⟩:=I.lst hp
 obtain ⟨h1,h2,h3,h4⟩:=Gw hj
 have hl:=r.length
 have hn:=yo
 have I' : Inv X pins σ (upd H p (.lst (xs.set j v))) { s with heap:=s.heap.update p (Obj.mapSeq (·.setIfInBounds j u)) }:=
  I.lstUpd hp ho (Fv its n j u) (r.set rv j) (by rw [List.length_set]; exact hz) s.toks
 by_cases h0 : 0 <= k
 ·have hk : k.toNat = j:=by
   rw [seqIndex_of h0 h4] at h1
   exact Option.some.inj h1
  exact PySem.W.ki_setAt ho h0 (by omega) (by rw [List.size_toArray,<- hl]; exact h4) (by rw [hk]; exact ⟨_,I',q⟩)
 ·have hk : (k + (its.toArray.size : Int)).toNat = j:=by
   rw [seqIndex_neg (by omega) h3] at h1
   rw [List.size_toArray,<- hl]
   exact Option.some.inj h1
  exact PySem.W.ki_setBack ho (by omega) (by rw [List.size_toArray,<- hl]; exact h3) (by omega) (by rw [hk]; exact ⟨_,I',q⟩)
theorem Dp (lo hi : Option Int) (n : Nat) : (sliceBounds lo hi none n).1 = ((HT.sIx n 0 lo : Nat) : Int) /\ (sliceBounds lo hi none n).2.1 = ((HT.sIx n n hi : Nat) : Int) /\ (sliceBounds lo hi none n).2.2 = 1:=by
 refine ⟨?_,?_,rfl⟩
 ·cases lo with
  | none => simp [sliceBounds,HT.sIx]
  | some i =>
   simp only [sliceBounds,HT.sIx,Option.getD_none,show (1 : Int) > 0 by decide,if_true]
   by_cases h : i < 0
   ·simp only [h,if_true] <;> omega
   ·simp only [h,if_false] <;> omega
 ·cases hi with
  | none => simp [sliceBounds,HT.sIx]
  | some i =>
   simp only [sliceBounds,HT.sIx,Option.getD_none,show (1 : Int) > 0 by decide,if_true]
   by_cases h : i < 0
   ·simp only [h,if_true] <;> omega
   ·simp only [h,if_false] <;> omega
theorem Ap (its : List Value) (lo hi : Option Int) : slicePick its.toArray lo hi none = ((its.drop (HT.sIx its.length 0 lo)).take (HT.sIx its.length its.length hi - HT.sIx its.length 0 lo)).toArray:=by
 obtain ⟨h1,h2,h3⟩:=Dp lo hi its.toArray.size
 unfold slicePick
 rw [h1,h2,h3]
 simp only [sliceRange_one,pick_run,List.size_toArray] <;> rfl
def NZ (K : PySem.W.Frag) : V -> Option Int -> Option Int -> Hp -> VK -> Prop:=fun x lo hi H Q => ∃ a xs,x = .ref a /\ SqL K H a xs /\ ∀ p,H p = none -> Q (.ref p) (upd H p (.lst (ud xs lo hi)))
theorem Lb : SlR X (NZ X.K):=by
 intro pins s σ H x v vl vu lo hi sl Q I rx hs pl pu h
 obtain ⟨a,xs,rfl,hx,q⟩:=h
 cases rx
 obtain ⟨its,r,ht,hz⟩:=I.list hx
 have hlen:=r.length
 refine ⟨"list",_,slot_list_getitem.lookup,ht.isList.typeIs,?_⟩
 refine wpAny_getItem_list_slice ht.isList hs pl pu .none (by simp) ?_ (by rw [List.size_toArray] <;> omega)
 rw [Ap,<- hlen]
 refine ⟨.ref s.heap.objs.size,_,I.laid (t' := s.toks) (o:=.lst (ud xs lo hi)) (fun b ob q => Heap.get?_push_of_some _ q) (Nat.le_refl _) ?_,rfl,q _ (I.hok.fresh (Nat.le_refl _))⟩
 exact ⟨Nat.le_trans (ve xs lo hi) hz,_,0,(r.drop (HT.sIx xs.length 0 lo)).take (HT.sIx xs.length xs.length hi - HT.sIx xs.length 0 lo),Heap.get?_push_size _ rfl⟩
theorem aN : iE X (.builtin "len") (fun xs H Q => ∃ p ys,xs = [.ref p] /\ (SqL X.K H p ys \/ SqT X.K H p ys) /\ Q (.int ys.length) H):=by
 intro pins s σ H xs us Q I r h
 obtain ⟨p,ys,rfl,hq,q⟩:=h
 obtain ⟨u,rfl,rx⟩:=vals1 r
 cases rx
 have hn:=yo
 rcases hq with hq | hq
 ·obtain ⟨its,r',pl,hz⟩:=I.list hq
  have hlen:=r'.length
  exact Calls.call_len_list pl.isList (by simp only [List.size_toArray] <;> omega) ⟨.int ys.length,H,I.tok _,⟨s.toks + 1,by rw [List.size_toArray,hlen]⟩,q⟩
 ·obtain ⟨its,r',pl,hz⟩:=I.tuple hq
  have hlen:=r'.length
  exact len_tuple pl (by simp only [List.size_toArray] <;> omega) ⟨.int ys.length,H,I.tok _,⟨s.toks + 1,by rw [List.size_toArray,hlen]⟩,q⟩
theorem Bk : iE X (.type "list") (fun xs H Q => ∃ p ys,xs = [.ref p] /\ (SqL X.K H p ys \/ SqT X.K H p ys) /\ ∀ l,H l = none -> Q (.ref l) (upd H l (.lst ys))):=by
 intro pins s σ H xs us Q I r h
 obtain ⟨p,ys,rfl,hq,q⟩:=h
 obtain ⟨u,rfl,rx⟩:=vals1 r
 cases rx
 have fin : ∀ (its : List Value),Vals ys its -> ys.length <= sizeLine -> ∀ (h' : Heap) (c' : Nat),(∀ b o',s.heap.get? b = some o' -> h'.get? b = some o') ->
   h'.get? s.heap.objs.size = some { cls:=.type "list",dict:=none,data:=.seq its.toArray c',slots := #[] } -> EP X pins σ Q (.ref s.heap.objs.size) { s with heap:=h' }:=fun its r' hz h' c' kp e =>
  ⟨.ref s.heap.objs.size,_,I.laid (t' := s.toks) kp (Nat.le_refl _) (show ObjOk X.prog X.w _ h' _ (.lst ys) from ⟨hz,its,c',r',e⟩),rfl,q _ (I.hok.fresh (Nat.le_refl _))⟩
 rcases hq with hq | hq
 ·obtain ⟨its,r',pl,hz⟩:=I.list hq
  have hlen:=r'.length
  obtain ⟨o,ho,hc,n,hd⟩:=pl.isList
  exact call_list_seq p (.inl rfl) ho hc hd (fun h' c' kp e => fin its r' hz h' c' kp e) (by simp only [List.size_toArray] <;> omega)
 ·obtain ⟨its,r',pl,hz⟩:=I.tuple hq
  have hlen:=r'.length
  obtain ⟨o,ho,hc,n,hd⟩:=pl
  exact call_list_seq p (.inr rfl) ho hc hd (fun h' c' kp e => fin its r' hz h' c' kp e) (by simp only [List.size_toArray] <;> omega)
theorem bf : iE X (.type "tuple") (fun xs H Q => ∃ p ys,xs = [.ref p] /\ ((SqL X.K H p ys /\ ∀ l,H l = none -> Q (.ref l) (upd H l (.tup ys))) \/ (SqT X.K H p ys /\ Q (.ref p) H))):=by
 intro pins s σ H xs us Q I r h
 obtain ⟨p,ys,rfl,h⟩:=h
 obtain ⟨u,rfl,rx⟩:=vals1 r
 cases rx
 rcases h with ⟨hq,q⟩ | ⟨hq,q⟩
 ·obtain ⟨its,r',pl,hz⟩:=I.list hq
  have hlen:=r'.length
  refine call_tuple_list pl.isList (fun h' kp => ?_) (by simp only [List.size_toArray] <;> omega)
  have I1 : Inv X pins σ H { s with heap:=h' }:=I.kept (t' := s.toks) kp
  have I2 : Inv X pins σ (upd H h'.objs.size (.tup ys)) { s with heap:=h'.push { cls:=.type "tuple",data:=.seq its.toArray } }:=
   I1.laid (t' := s.toks) (fun b o e => Heap.get?_push_of_some _ e) (Nat.le_refl _) (show ObjOk X.prog X.w _ _ _ (.tup ys) from ⟨hz,its,r',IsTup.new _ _⟩)
  exact ⟨.ref h'.objs.size,_,I2,rfl,q _ (I1.hok.fresh (Nat.le_refl _))⟩
 ·obtain ⟨its,r',pl,hz⟩:=I.tuple hq
  exact call_tuple_same pl ⟨.ref p,H,I,rfl,q⟩
def tyV (K : PySem.W.Frag) (T : String) (x : V) (H : Hp) : Prop:=match x with
 | .str _ => T = "str"
 | .int _ => T = "int"
 | .ref p => (T = "list" /\ ∃ xs,SqL K H p xs) \/ (T = "tuple" /\ ∃ o,K.lookup p = some o /\ o.cls = .type "tuple" /\ o.dict = none) \/
   (T = "dict" /\ ((∃ kvs,H p = some (.dK kvs)) \/ ∃ kvs,H p = some (.dT kvs))) \/ (T = "set" /\ ∃ S n,H p = some (.set S n))
 | _ => False
theorem J4 {pins : List (Addr × Obj)} {σ : St} {H : Hp} {s : Shared} {T : String} {x : V} {v : Value} (I : Inv X pins σ H s) (r : RelV x v) (ty : tyV X.K T x H) :
  s.TypeIs v T /\ ∀ a,v = .ref a -> ∃ ob,s.heap.get? a = some ob /\ ob.dict = none:=by
 cases x with
 | str z =>
  obtain ⟨t,rfl⟩:=r
  cases (show T = "str" from ty)
  exact ⟨typeIs_str s z t,fun _ e => nomatch e⟩
 | int i =>
  obtain ⟨t,rfl⟩:=r
  cases (show T = "int" from ty)
  exact ⟨typeIs_int s i t,fun _ e => nomatch e⟩
 | ref p =>
  cases r
  rcases ty with ⟨rfl,xs,hq⟩ | ⟨rfl,o,hk,hc,hd⟩ | ⟨rfl,hk⟩ | ⟨rfl,S,n,hk⟩
  ·obtain ⟨its,_,pl,_⟩:=I.list hq
   refine ⟨pl.isList.typeIs,fun a e => ?_⟩
   cases e
   obtain ⟨o,n,e,c,hd,_⟩:=pl
   exact ⟨o,e,hd⟩
  ·refine ⟨⟨o,I.kIn p o hk,hc⟩,fun a e => ?_⟩
   cases e
   exact ⟨o,I.kIn _ o hk,hd⟩
  ·have z : ∃ o,s.heap.get? p = some o /\ o.ExactDict:=by
    rcases hk with ⟨kvs,hk⟩ | ⟨kvs,hk⟩
    ·obtain ⟨_,_,_,_,o,_,_,e,ex,_⟩:=I.hok p _ hk
     exact ⟨o,e,ex⟩
    ·obtain ⟨_,_,_,_,o,_,_,e,ex,_⟩:=I.hok p _ hk
     exact ⟨o,e,ex⟩
   obtain ⟨o,e,ex⟩:=z
   refine ⟨⟨o,e,ex.1⟩,fun a e2 => ?_⟩
   cases e2
   exact ⟨o,e,ex.2.1⟩
  ·obtain ⟨o,_,_,_,e,ex,_⟩:=I.hok p _ hk
   refine ⟨⟨o,e,ex.1⟩,fun a e2 => ?_⟩
   cases e2
   exact ⟨o,e,ex.2.1⟩
 | _ => exact False.elim ty
def N6 (K : PySem.W.Frag) (T : String) (r : V -> List V -> Hp -> VK -> Prop) (to : TE) : TE:=fun σ H Q => to σ H fun x H1 => tyV K T x H1 /\ r x [] H1 Q
def tBM (K : PySem.W.Frag) (T : String) (r : V -> List V -> Hp -> VK -> Prop) (to : TE) (t : TA) : TE:=fun σ H Q => to σ H fun x H1 => tyV K T x H1 /\ t σ H1 fun xs H2 => r x xs H2 Q
variable {o e : Expr} {es : List Expr} {to : TE} {t : TA} {name : Str} {apos cpos : Pos} {T id : String} {r : V -> List V -> Hp -> VK -> Prop}
theorem Mm (pa : PlainAttrs T) (slot : Slot T name id) (hty : typeOf (.builtin id) = pure (.type "method_descriptor")) (hm : MtR X id r) (ho : PE X o to)
  (hbase : attributeBase o name X.env (eval o X.env) = eval o X.env:=by rfl) (hline : (apos.endLine == cpos.line) = true:=by rfl) : PE X (.Call (.Attribute o name apos) [] [] cpos) (N6 X.K T r to):=by
 intro pins s σ H Q I h
 refine wpAny_Call_method0_late hbase hline (thn (ho pins s σ H _ I h) fun v s1 ⟨x,H1,I1,r1,ty,q1⟩ => ?_)
 obtain ⟨h1,h2⟩:=J4 I1 r1 ty
 exact ⟨T,id,pa,slot,hty,h1,h2,Calls.callWith_builtin rfl (PySem.evalArgs_none (hm pins s1 σ H1 x [] v [] Q I1 r1 .nil q1))⟩
theorem vo (pa : PlainAttrs T) (slot : Slot T name id) (hty : typeOf (.builtin id) = pure (.type "method_descriptor")) (hm : MtR X id r) (ho : PE X o to) (ha : PA X (e :: es) t)
  (hbase : attributeBase o name X.env (eval o X.env) = eval o X.env:=by rfl)
  (hfew : ((backTo cpos (starEach (e :: es) X.env)).all (fun x => !x.1) && (backToKw cpos (keywordEach [] X.env)).all (fun x => x.1.isSome)
   && decide ((e :: es).length + ([] : List Keyword).length + (if ([] : List Keyword).isEmpty then 0 else 1) < 30)) = true:=by rfl)
  (hline : (apos.endLine == cpos.line) = true:=by rfl) (hs : starEach (e :: es) X.env = (false,eval e X.env) :: starEach es X.env:=by rfl) (hplain : (backTo cpos (starEach es X.env)).any (·.1) = false:=by rfl) :
  PE X (.Call (.Attribute o name apos) (e :: es) [] cpos) (tBM X.K T r to t):=by
 intro pins s σ H Q I h
 refine wpAny_Call_method_late hbase hfew hline rfl (thn (ho pins s σ H _ I h) fun v s1 ⟨x,H1,I1,r1,ty,q1⟩ => ?_)
 obtain ⟨h1,h2⟩:=J4 I1 r1 ty
 refine ⟨T,id,pa,slot,hty,h1,h2,?_⟩
 have hA:=ha cpos pins s1 σ H1 _ I1 q1
 rw [hs] at hA ⊢
 refine Calls.callWith_builtin (by show (false || (backTo cpos (starEach es X.env)).any (·.1)) = false; rw [hplain] <;> rfl) (Calls.evalArgs_plain ?_)
 exact thn hA fun us s2 ⟨vs,H2,I2,r2,q2⟩ => hm pins s2 σ H2 x vs v us Q I2 r1 r2 q2
/- xs.append(e),list.index on a module's tuple .. are MtR facts of 06m -/
end
end L2
namespace L2
open PySem PySem.Spec PyProof.Rows
def MtM (X : Cx) (id : String) (r : V -> List V -> Hp -> VK -> Prop) : Prop:=
 ∀ (pins : List (Addr × Obj)) (s : Shared) (σ : St) (H : Hp) (x : V) (xs : List V) (v : Value) (us : List Value) (Q : VK),Inv X pins σ H s -> RelV x v -> Vals xs us -> r x xs H Q ->
  wpAny (model X.prog X.w) X.A (call (.builtin id) (v :: us)) (EP X pins σ Q) X.xe s
theorem Vals.one : ∀ {x : V} {us : List Value},Vals [x] us -> ∃ u,us = [u] /\ RelV x u
 | _,_,.cons r .nil => ⟨_,rfl,r⟩
theorem Vals.two : ∀ {x y : V} {us : List Value},Vals [x,y] us -> ∃ u v,us = [u,v] /\ RelV x u /\ RelV y v
 | _,_,_,.cons r (.cons q .nil) => ⟨_,_,rfl,r,q⟩
theorem Vals.zero : ∀ {us : List Value},Vals [] us -> us = []
 | _,.nil => rfl
theorem Vals.dropLast {xs : List V} {us : List Value} (h : Vals xs us) : Vals xs.dropLast us.dropLast:=by
 induction h with
 | nil => exact .nil
 | cons r t ih =>
  cases t with
  | nil => exact .nil
  | cons q t' => exact .cons r ih
theorem Fg {α : Type} (l : List α) : l.eraseIdx (l.length - 1) = l.dropLast:=by
 induction l with
 | nil => rfl
 | cons a r ih =>
  cases r with
  | nil => rfl
  | cons b r =>
   have e : (a :: b :: r).length - 1 = ((b :: r).length - 1) + 1:=by
    have h1 : (a :: b :: r).length = r.length + 2:=rfl
    have h2 : (b :: r).length = r.length + 1:=rfl
    omega
   rw [e,List.eraseIdx_cons_succ,ih]
   all_goals rfl
section
variable {X : Cx} {pins : List (Addr × Obj)} {σ : St} {H : Hp} {s : Shared} {l b : Addr} {xs ys zs : List V}
theorem Inv.lset {its its' : List Value} {n : Nat} {f : Array Value -> Array Value} {t' : Nat} (I : Inv X pins σ H s) (hH : H l = some (.lst xs))
  (e : s.heap.get? l = some { cls:=.type "list",data:=.seq its.toArray n }) (hf : f its.toArray = its'.toArray) (hv : Vals ys its') (hz : ys.length <= sizeLine) :
  Inv X pins σ (upd H l (.lst ys)) { s with heap:=s.heap.update l (Obj.mapSeq f),toks:=t' }:=by
 have q:=PySem.IsL.update e f
 rw [hf] at q
 refine I.write (x:=l) (e:=l) (by rw [hH]; exact trivial) (.inl rfl) (fun b' u hb hu => (Heap.get?_update_other s.heap (Obj.mapSeq f) (Ne.symm hb)).trans hu) ⟨_,q⟩ ?_
 exact ⟨hz,its',_,hv,q⟩
theorem Inv.lstM (I : Inv X pins σ H s) (hH : H l = some (.lst xs)) : xs.length <= sizeLine /\ ∃ (its : List Value) (n : Nat),Vals xs its /\ xs.length = its.length /\ s.heap.get? l = some { cls:=.type "list",data:=.seq its.toArray n }:=by
 obtain ⟨z,its,n,r,e⟩:=I.hok l _ hH
 exact ⟨z,its,n,r,r.length,e⟩
theorem Ja {n : Nat} (h : n <= sizeLine) : Builtin.List.listTooLong n = false:=by
 unfold Builtin.List.listTooLong
 exact decide_eq_false (by omega)
end
section
variable {X : Cx}
def K5 : V -> List V -> Hp -> VK -> Prop:=fun x vs H Q => ∃ l xs y,x = .ref l /\ vs = [y] /\ H l = some (.lst xs) /\ xs.length < sizeLine /\ Q .non (upd H l (.lst (xs ++ [y])))
theorem dA : MtM X "list.append" K5:=by
 intro pins s σ H x vs v us Q I rx rv h
 obtain ⟨l,xs,y,rfl,rfl,hH,hz,q⟩:=h
 cases rx
 obtain ⟨u,rfl,ru⟩:=rv.one
 obtain ⟨z,its,n,r,hl,e⟩:=I.lstM hH
 refine call_meets F.slot_list_append ⟨_,e,rfl⟩ F.entry_list_append (F.args_list_append_2 _ _) (PySem.list_append l its.toArray n u (by rw [List.size_toArray]; omega)) ⟨e,?_⟩
 refine ⟨.non,_,I.lset (its' := its ++ [u]) hH e (by simp) (r.append (.cons ru .nil)) ?_,rfl,q⟩
 rw [List.length_append,List.length_singleton]
 omega
def K7 : V -> List V -> Hp -> VK -> Prop:=fun x vs H Q => ∃ l b xs zs,x = .ref l /\ vs = [.ref b] /\ H l = some (.lst xs) /\ H b = some (.lst zs) /\ xs.length + zs.length <= sizeLine /\ Q .non (upd H l (.lst (xs ++ zs)))
theorem Hs : MtM X "list.extend" K7:=by
 intro pins s σ H x vs v us Q I rx rv h
 obtain ⟨l,b,xs,zs,rfl,rfl,hH,hB,hz,q⟩:=h
 cases rx
 obtain ⟨u,rfl,ru⟩:=rv.one
 cases ru
 obtain ⟨z,its,n,r,hl,e⟩:=I.lstM hH
 obtain ⟨z2,its2,n2,r2,hl2,e2⟩:=I.lstM hB
 have hsz : its.toArray.size + its2.toArray.size <= sizeLine:=by rw [List.size_toArray,List.size_toArray]; omega
 have hlong : ¬ (!its.toArray.isEmpty && Builtin.List.listTooLong (its.toArray.size + its2.toArray.size)) = true:=by
  rw [Ja hsz,Bool.and_false]
  exact Bool.false_ne_true
 refine call_meets F.slot_list_extend ⟨_,e,rfl⟩ F.entry_list_extend (F.args_list_extend_2 _ _)
  (AutoSeq1.list_extend_list_list_0 l its.toArray n b its2.toArray n2 hlong (by rw [List.size_toArray]; omega) (by omega)) ⟨e,e2,?_⟩
 refine ⟨.non,_,I.lset (its' := its ++ its2) hH e (by simp) (r.append r2) ?_,rfl,q⟩
 rw [List.length_append]
 omega
def NY : V -> List V -> Hp -> VK -> Prop:=fun x vs H Q => ∃ l xs y,x = .ref l /\ vs = [] /\ H l = some (.lst xs) /\ xs[xs.length - 1]? = some y /\ Q y (upd H l (.lst xs.dropLast))
theorem Me : MtM X "list.pop" NY:=by
 intro pins s σ H x vs v us Q I rx rv h
 obtain ⟨l,xs,y,rfl,rfl,hH,hy,q⟩:=h
 cases rx
 have hus:=rv.zero
 subst hus
 obtain ⟨z,its,n,r,hl,e⟩:=I.lstM hH
 obtain ⟨u,hu,ru⟩:=r.get hy
 have hy' : its.toArray[its.toArray.size - 1]? = some u:=by
  show its.toArray[its.length - 1]? = some u
  rw [<- Array.getElem?_toList,<- hl]
  exact hu
 refine call_meets F.slot_list_pop ⟨_,e,rfl⟩ F.entry_list_pop (F.args_list_pop_1 _) (MeetsSeq.list_pop_last l its.toArray n u hy' (by rw [List.size_toArray]; omega)) ⟨e,?_⟩
 refine ⟨y,_,I.lset (its' := its.dropLast) hH e ?_ r.dropLast ?_,ru,q⟩
 ·show its.toArray.eraseIdxIfInBounds (its.toArray.size - 1) = its.dropLast.toArray
  rw [List.size_toArray,List.eraseIdxIfInBounds_toArray,Fg]
 ·rw [List.length_dropLast]
  omega
end
section
variable {prog : Program} {w : World} {A : Around} {E : Value -> Shared -> Prop} {s : Shared}
end
section
variable {X : Cx}
end
end L2
namespace Att
open PySem PySem.W PySem.Calls PyProof.Rows
theorem vU {P : Params} {h : Heap} : ∀ (ns : List Int) (vs : List Value),WellAll P h vs (ns.map WData.int) -> IntsAre vs ns:=by
 intro ns
 induction ns with
 | nil =>
  intro vs w
  rw [List.map_nil] at w
  cases w
  exact .nil
 | cons n ns ih =>
  intro vs w
  rw [List.map_cons] at w
  cases w with
  | cons a b =>
   cases a
   exact .cons _ _ (ih _ b)
theorem HP {l : OpenLaw} {n : Nat} (hn : l.most = some n) {P : Params} {h : Heap} {args : List WData} {vals : List Value}
  (hpre : l.row.toRowW.claim.pre args = true) (hwl : WellAll P h vals args) :
  ∃ a vs ns,vals = [Value.ref a] /\ args = [WData.list (ns.map WData.int)] /\ h.get? a = some { cls:=.type "list",data:=.seq vs.toArray } /\ IntsAre vs ns /\ ns.length <= n:=by
 have hsh : WShape.hasAll [] args [.list .int] = true:=(pre_splitW hpre).1
 have hc : l.pre.holds [] { args:=args } = true:=(pre_splitW hpre).2
 obtain ⟨d,r,rfl,h1,h2⟩:=hasAllW_cons hsh
 obtain rfl:=hasAllW_nil h2
 obtain ⟨xs,rfl,h3⟩:=hasW_list h1
 obtain ⟨ns,rfl⟩:=items_int h3
 have hlen : ns.length <= n:=by
  unfold OpenLaw.pre at hc
  have h4 : (WTm.not (.lt (.lit (.int (n : Int))) (.len (.arg 0)))).holds [] { args:=[.list (ns.map .int)] } = true:=by
   have h4:=(holds_andW hc).1
   rw [hn] at h4
   exact h4
  have h5:=condW_of h4 (w_not (w_lt w_lit (w_len_list (w_arg rfl))))
  rw [List.length_map] at h5
  refine Nat.le_of_not_lt fun q => ?_
  have q' : (n : Int) < ((ns.length : Nat) : Int):=by omega
  first
   | (rw [decide_eq_true q'] at h5; exact absurd h5 (by decide))
   | (simp at h5; omega)
 cases hwl with
 | cons w1 w2 =>
  cases w2
  cases w1 with
  | list ho hall => exact ⟨_,_,ns,rfl,rfl,ho,vU ns _ hall,hlen⟩
theorem HL (l : OpenLaw) (args : List WData) : l.row.toRowW.claim.post args (.bool true) args = true:=
 postW_of (r:=l.row.toRowW) (X:=(true == true))
  (show WShape.has [] (.bool true) .bool = true by first | rfl | decide | simp [WShape.has,WShape.arms,WShape.armsAll])
  (show (WTm.eq .res (.lit (.bool true))).value [] { args:=args,res:=some (.bool true),after:=args } = some (.bool (true == true)) from w_eq_bool (w_res rfl) w_lit) rfl
theorem attach_call {l : OpenLaw} {n : Nat} {q : Program} {loose : List Str} {XP : (Str -> Option Value) -> Heap -> Prop} {YP : World -> Heap -> Prop} {d : DefRec}
  (hn : l.most = some n) (hdf : d.params.defaults = [])
  (call : ∀ (w : World) (s₀ s₁ : Shared) (mg mb : Str -> Option Value) (fa : Addr) (o : Obj) (pm cd doc : Value) (a : Addr) (vs : List Value) (ns : List Int),
   Ground q loose [] XP w s₀ mg mb s₁.heap -> YP w s₁.heap ->
   s₁.heap.get? fa = some o -> o.data = .func (docDef d.name d.params d.body d.scope pm cd doc) -> s₁.heap.CodeRec cd d.name -> mg d.name = some (.ref fa) ->
   s₁.heap.get? a = some { cls:=.type "list",data:=.seq vs.toArray } -> IntsAre vs ns -> ns.length <= n -> s₁.gens = #[] ->
   codeAny (model l.prog w) callerA (.call (.ref fa) ⟨[.ref a],[]⟩) (fun r s' => r = .ok (.ret (.bool true)) /\ OldK s₁.heap s'.heap /\ s'.os = s₁.os /\ AllBare s'.gens) s₁) :
  WalkO q loose XP YP l.row.toRowW d [] (fun f vs => PySem.call f vs):=by
 intro w s₀ s₁ mg mb G Y fa o pm cd doc dV kV ho hd hcd hD hmg hg args vals as hpre hlay hrd hwl hlo
 obtain rfl : dV = .none:=Dflts.none hD hdf
 obtain rfl : kV = .none:=Dflts.noKw hD
 obtain ⟨a,vs,ns,rfl,rfl,hobj,hints,hlen⟩:=HP hn hpre hwl
 refine enter_call (codeAny_mono (call w s₀ s₁ mg mb fa o pm cd doc a vs ns G Y ho (fd_plain hd) hcd hmg hobj hints hlen hg) fun r s' hq => ?_)
 obtain ⟨rfl,h2,h3,h4⟩:=hq
 exact ⟨.inl ⟨.bool true,.bool true,[],rfl,fun _ => rfl,.bool true,HL l _,fun _ => ⟨List.Pairwise.nil,fun _ hm => (nomatch hm)⟩⟩,h2,h3,h4⟩
section
variable {prog : Program} {w : World} {A : Around} {E : Value -> Shared -> Prop} {s : Shared} {K : Frag}
def ledger (h : Heap) (L d : Addr) : List (Addr × Obj):=(List.range h.objs.size).filterMap fun a => if a = L \/ a = d then none else (h.get? a).map fun o => (a,o)
end
end Att
namespace L2
open PySem PySem.Spec PyProof.Rows
theorem AW : ∀ {vs : List Value} {ns : List Int},IntsAre vs ns -> Vals (ns.map V.int) vs
 | _,_,.nil => .nil
 | _,_,.cons n t h => .cons ⟨t,rfl⟩ (AW h)
def LD (H : Hp) : Prop := ∀ b,H b = none \/ ∃ o xs,H b = some (.frz o (.lst xs))
theorem IV {P : Program} {w : World} {K : PySem.W.Frag} {mg mb : Str -> Option Value} {CX : CXT} {k : Nat} {fa a : Addr} {fd : FuncData} {x : Str} {sp : Sp} {s₁ : Shared} {vs : List Value} {ns : List Int}
  (KX : K.In s₁.heap) (hns : s₁.heap.Ns mainGlobals mg) (hb : s₁.heap.Ns builtinsNs mb) (hbb : ∀ x : Str,x ≠ "__name__" -> mb x = bootBuiltins x) (hlim : s₁.heap.NoLimit) (hg : s₁.gens = #[])
  (ha : s₁.heap.get? a = some { cls:=.type "list",data:=.seq vs.toArray }) (hi : IntsAre vs ns) (hl : ns.length <= sizeLine) (hr : Room k callerA)
  (F : ∀ base : Heap,K.In base -> base.Ns mainGlobals mg -> FnOk P w K mg base CX k fa fd [x] sp) (hbind : ∀ (s : Shared) (u : Value),BindsTo s fd ⟨[u],[]⟩ [(x,u)])
  (hsp : ∀ H : Hp,LD H -> SqL K H a (ns.map V.int) -> sp [.ref a] H (fun v _ => v = .bl true) fun _ _ _ => False)
  (hCX : ∀ H e s',CX [] H s₁ (fun _ _ _ => False) e s' -> False) :
  codeAny (model P w) callerA (.call (.ref fa) ⟨[.ref a],[]⟩) (fun r s' => r = .ok (.ret (.bool true)) /\ OldK s₁.heap s'.heap /\ s'.os = s₁.os /\ AllBare s'.gens) s₁:=by
 have rv:=AW hi
 have lenV:=hi.length
 have core : ∀ H : Hp,LD H -> SqL K H a (ns.map V.int) -> HOk P w H s₁.heap -> (∀ b,H b ≠ none -> b = a) -> (H a ≠ none -> K.lookup a = none) ->
   codeAny (model P w) callerA (.call (.ref fa) ⟨[.ref a],[]⟩) (fun r s' => r = .ok (.ret (.bool true)) /\ OldK s₁.heap s'.heap /\ s'.os = s₁.os /\ AllBare s'.gens) s₁:=by
  intro H hO hS hok hA hK
  have base_of : ∀ {b : Addr} {o : Obj},s₁.heap.get? b = some o -> H b = none -> (BP s₁.heap H).get? b = some o:=fun e n => IG e n
  have noA : ∀ {b : Addr} {o : Obj} {es : Array DictEntry} {ep : Nat},s₁.heap.get? b = some o -> o.data = .dict es ep -> H b = none:=fun {b o es ep} e d => by
   cases q : H b with
   | none => rfl
   | some u =>
    have e' : b = a:=hA b (by rw [q]; simp)
    subst e'
    rw [ha] at e; cases e
    have d' : Data.seq vs.toArray _ = Data.dict es ep:=d
    cases d'
  have nsK : ∀ {b : Addr} {m : Str -> Option Value},s₁.heap.Ns b m -> (BP s₁.heap H).Ns b m:=fun {b m} ⟨o,es,ep,e,d,r⟩ => ⟨o,es,ep,base_of e (noA e d),d,r⟩
  have hKb : K.In (BP s₁.heap H):=fun b o e => base_of (KX b o e) (by
   cases q : H b with
   | none => rfl
   | some u =>
    have e' : b = a:=hA b (by rw [q]; simp)
    subst e'
    rw [hK (by rw [q]; simp)] at e; cases e)
  have hM : Mod K mg (BP s₁.heap H):=⟨hKb,nsK hns,⟨mb,nsK hb,hbb⟩,let ⟨mc,h1,h2⟩:=hlim; ⟨mc,nsK h1,h2⟩⟩
  have e0 : Env0 P w K mg (BP s₁.heap H) callerA [] s₁ H:=⟨rfl,hM,fun b o e => KC e,Nat.le_of_eq (Hj _ _),trivial,fun b hb => absurd (show b ∈ ([] : List Addr) from hb) (by simp),hok,.of_eq hg⟩
  refine codeAny_mono ((F _ hKb (nsK hns)).run callerA [] s₁ H ⟨[.ref a],[]⟩ [.ref a] [.ref a] _ _ hr e0 (hbind s₁ (.ref a)) (.cons rfl .nil) (hsp H hO hS)) fun r s' h => ?_
  cases r with
  | error e => exact (hCX H e s' h).elim
  | ok fl =>
   cases fl with
   | next => exact False.elim h
   | brk => exact False.elim h
   | cont => exact False.elim h
   | ret u =>
    obtain ⟨v,H',os,bare,un,hok',r',q⟩:=h
    have q' : v = .bl true:=q
    subst q'
    obtain rfl : u = Value.bool true:=r'
    refine ⟨rfl,OldK.of_keep fun b o e => ?_,os,bare⟩
    cases q : H b with
    | none => exact un.keep b o e q (by intro z; exact absurd (show b ∈ ([] : List Addr) from z) (by simp)) (by simp)
    | some u =>
     rcases hO b with z | ⟨ob,xs,z⟩
     ·rw [q] at z; cases z
     ·have z2:=un.frzs b ob _ z
      obtain ⟨e1,_⟩:=hok b _ z
      obtain ⟨e2,_⟩:=hok' b _ z2
      rw [e] at e1; cases e1
      exact e2
 cases hk : K.lookup a with
 | some o =>
  have e:=KX a o hk
  rw [ha] at e
  cases e
  refine core (fun _ => none) (fun _ => .inl rfl) (.inr ⟨_,vs.toArray,_,hk,rfl,rfl,rfl,by rw [List.size_toArray,lenV]; exact hl,by simpa using rv⟩) (fun b u z => by have z' : (none : Option HO) = some u:=z; cases z') (fun b z => absurd rfl z) fun z => absurd rfl z
 | none =>
  refine core (fun b => if b = a then some (.frz { cls:=.type "list",data:=.seq vs.toArray } (.lst (ns.map V.int))) else none) (fun b => ?_) (.inl (.inr ⟨{ cls:=.type "list",data:=.seq vs.toArray },if_pos rfl⟩)) (fun b u z => ?_) (fun b z => ?_) fun _ => hk
  ·by_cases hb : b = a
   ·exact .inr ⟨_,_,if_pos hb⟩
   ·exact .inl (if_neg hb)
  ·by_cases hb : b = a
   ·have z' := (if_pos hb).symm.trans z
    cases z'
    subst hb
    exact ⟨ha,by rw [List.length_map]; exact hl,vs,_,rv,ha⟩
   ·have z' := (if_neg hb).symm.trans z
    cases z'
  ·by_cases hb : b = a
   ·exact hb
   ·exact absurd (if_neg hb) z
end L2
namespace L2
open PySem PySem.Spec PyProof.Rows
theorem walk_of {l : PySem.W.OpenLaw} {n k : Nat} {q : Program} {loose : List Str} {XP : (Str -> Option Value) -> Heap -> Prop} {YP : World -> Heap -> Prop} {d : DefRec} {K : Params -> PySem.W.Frag} {CX : World -> CXT} {sp : World -> Sp} {x : Str}
  (hn : l.most = some n) (hn2 : n <= sizeLine) (hdf : d.params.defaults = []) (hr : Room k callerA)
  (hY : ∀ (w : World) (h : Heap),YP w h -> (K w.params).In h)
  (F : ∀ (w : World) (mg : Str -> Option Value) (fa : Addr) (h : Heap),(K w.params).In h -> h.Ns mainGlobals mg -> mg d.name = some (.ref fa) ->
   ∃ fd : FuncData,(∀ (s : Shared) (u : Value),BindsTo s fd ⟨[u],[]⟩ [(x,u)]) /\
    ∀ base : Heap,(K w.params).In base -> base.Ns mainGlobals mg -> FnOk l.prog w (K w.params) mg base (CX w) k fa fd [x] (sp w))
  (hsp : ∀ (w : World) (H : Hp) (a : Addr) (ns : List Int),ns.length <= n -> LD H -> SqL (K w.params) H a (ns.map V.int) -> sp w [.ref a] H (fun v _ => v = .bl true) fun _ _ _ => False)
  (hCX : ∀ (w : World) (H : Hp) (s : Shared) (e : Value) (s' : Shared),CX w [] H s (fun _ _ _ => False) e s' -> False) :
  PySem.W.WalkO q loose XP YP l.row.toRowW d [] (fun f vs => PySem.call f vs):=by
 refine Att.attach_call hn hdf fun w s₀ s₁ mg mb fa o pm cd doc a vs ns G Y ho hd hcd hmg hobj hints hlen hg => ?_
 have KX:=hY w _ Y
 obtain ⟨fd,hb,hF⟩:=F w mg fa _ KX G.T.g hmg
 exact IV KX G.T.g G.T.b G.T.builtins G.T.nolimit hg hobj hints (Nat.le_trans hlen hn2) hr hF hb (fun H hO hS => hsp w H a ns hlen hO hS) fun H e s' => hCX w H s₁ e s'
end L2
namespace L2
open PySem PySem.Spec PyProof.Rows
def inClass (s : Stmt) (j : Nat) : Stmt:=match s with
 | .ClassDef _ _ _ body _ _ _ _ _ _ _ => body.getD j (.Pass ⟨0,0,0,0⟩)
 | _ => .Pass ⟨0,0,0,0⟩
def aw (s : Stmt) : Arguments:=match s with
 | .FunctionDef _ a _ _ _ _ _ _ _ _ => a
 | _ => { posonlyargs:=[],args:=[],vararg:=none,kwonlyargs:=[],kw_defaults:=[],kwarg:=none,defaults:=[] }
def au (s : Stmt) : List Stmt:=match s with
 | .FunctionDef _ _ b _ _ _ _ _ _ _ => b
 | _ => []
def af (s : Stmt) : Scope:=match s with
 | .FunctionDef _ _ _ _ _ _ sc _ _ _ => sc
 | _ => { kind:=.function,names:=[],isGenerator:=false,isCoroutine:=false }
abbrev CX0 : CXT:=fun _ _ _ _ _ _ => False
abbrev E0 : XK:=fun _ _ _ => False
theorem Jz {X : Cx} : Passes CX0 X E0:=fun _ _ _ _ _ _ _ h => h.elim
structure Fun (K : PySem.W.Frag) (x qual : Str) (st : Stmt) (f : Addr) (fd : FuncData) : Prop where
 ex : ∃ (oc : Value) (od : Option Addr) (kV doc pm : Value) (an : Option Addr) (cdv ct : Value) (osl : Array (Option Value)),
  fd = PySem.W.fnOf x qual (aw st) (au st) (af st) .none kV doc pm an cdv ct /\ K.lookup f = some ⟨oc,od,.func fd,osl⟩ /\ PySem.W.codeIn K cdv qual = true
 kp : PySem.W.keepIn K (.ref f) = true
section
variable {P : Program} {w : World} {K : PySem.W.Frag} {mg : Str -> Option Value} {base : Heap}
end
theorem Eg {A : Around} {k : Nat} (hr : Room k A) : A.units + 1 < cLine:=Nat.lt_of_le_of_lt (Nat.add_le_add_left (by decide : 1 <= 64) _) hr.units
theorem aR {n : Nat} (h : n <= 1000) : n < sizeLine:=Nat.lt_of_le_of_lt h (by decide)
section
variable {X : Cx}
theorem pv (i : Nat) {x : Str} {pos : Pos} (hN : X.N[i]? = some x:=by rfl) (hv : Vis X.env.scope x:=by first | exact Or.inl rfl | exact Or.inr (Or.inl rfl) | exact Or.inr (Or.inr rfl)) (hd : (x == ("__debug__" : Str)) = false:=by decide)
  (hcd : (x == ("__classdict__" : Str)) = false:=by decide) : PE X (.Name x pos) (J0 i):=Mp hN hv hd hcd
end
theorem kD {A B : Prop} (h : B) : if false = true then A else B:=by
 rw [if_neg Bool.false_ne_true]
 exact h
theorem lY {A B : Prop} (h : A) : if true = true then A else B:=by
 rw [if_pos rfl]
 exact h
theorem Hl {c A B : Prop} [Decidable c] (h1 : c -> A) (h2 : ¬ c -> B) : if c then A else B:=by
 by_cases h : c
 ·rw [if_pos h]
  exact h1 h
 ·rw [if_neg h]
  exact h2 h
def Same (H H' : Hp) : Prop := ∀ b o,H b = some o -> H' b = some o
theorem Same.refl (H : Hp) : Same H H:=fun _ _ h => h
theorem Same.trans {H H1 H2 : Hp} (a : Same H H1) (b : Same H1 H2) : Same H H2:=fun c o h => b c o (a c o h)
theorem Same.free {H H' : Hp} (e : Same H H') {l : Addr} (h : H' l = Option.none) : H l = Option.none:=by
 cases q : H l with
 | none => rfl
 | some o =>
  rw [e l o q] at h
  cases h
theorem Same.seq {K : PySem.W.Frag} {H H' : Hp} {a : Addr} {xs : List V} (e : Same H H') (h : SqL K H a xs) : SqL K H' a xs:=by
 rcases h with (h | ⟨o,h⟩) | h
 ·exact .inl (.inl (e _ _ h))
 ·exact .inl (.inr ⟨o,e _ _ h⟩)
 ·exact .inr h
end L2
set_option Elab.async false
set_option linter.all false
set_option maxRecDepth 100000
namespace L2
open PySem PySem.Spec PyProof.Rows
def cB (cells : List (Str × Addr)) : List (Str × NameKind) -> List (Str × Addr) -> List (Str × Addr)
 | [],cs => cs
 | (n,k) :: r,cs => cB cells r (if k == .free then (n,(cells.lookup n).getD 0) :: cs else cs)
theorem ku {scope : Scope} {env : Env} (h : ∀ y ∈ scope.names,y.2 = .free -> ∃ c,env.cells.lookup y.1 = some c) :
  closureFor scope env = pure (cB env.cells scope.names []):=by
 have all : ∀ (ns : List (Str × NameKind)) (cs : List (Str × Addr)),(∀ y ∈ ns,y.2 = .free -> ∃ c,env.cells.lookup y.1 = some c) ->
   (forIn ns cs (fun (x : Str × NameKind) (r : List (Str × Addr)) => (match x with
    | (name,kind) => if (kind == NameKind.free) = true then (do let c <- cellOf env name; pure (ForInStep.yield ((name,c) :: r))) else pure (ForInStep.yield r) : Sem (ForInStep (List (Str × Addr))))) : Sem (List (Str × Addr)))
   = pure (cB env.cells ns cs):=by
  intro ns
  induction ns with
  | nil => intro cs _; rfl
  | cons y r ih =>
   intro cs hy
   obtain ⟨n,k⟩:=y
   rw [List.forIn_cons]
   by_cases hk : k = .free
   ·subst hk
    obtain ⟨c,e⟩:=hy (n,.free) List.mem_cons_self rfl
    have e' : env.cells.lookup n = some c:=e
    have e1 : cellOf env n = pure c:=by unfold cellOf; rw [e']
    simp only [beq_self_eq_true,if_true,e1,pure_bind]
    rw [ih _ fun z hz => hy z (List.mem_cons_of_mem _ hz)]
    simp only [cB,beq_self_eq_true,if_true,e',Option.getD_some]
   ·have hb : (k == NameKind.free) = false:=by simpa using hk
    simp only [hb,Bool.false_eq_true,if_false,pure_bind]
    rw [ih _ fun z hz => hy z (List.mem_cons_of_mem _ hz)]
    simp only [cB,hb,Bool.false_eq_true,if_false]
 unfold closureFor
 have q:=all scope.names [] h
 simp only [bind_pure]
 exact q
theorem qr (cells : List (Str × Addr)) {x : Str} {c : Addr} : ∀ (ns : List (Str × NameKind)) (cs : List (Str × Addr)),(cB cells ns cs).lookup x = some c ->
  ((x,NameKind.free) ∈ ns /\ (cells.lookup x).getD 0 = c) \/ cs.lookup x = some c
 | [],_,h => .inr h
 | (n,k) :: r,cs,h => by
  rcases qr cells r _ h with ⟨h1,h2⟩ | h1
  ·exact .inl ⟨List.mem_cons_of_mem _ h1,h2⟩
  ·by_cases hk : k = .free
   ·subst hk
    simp only [beq_self_eq_true,if_true] at h1
    by_cases hx : x = n
    ·subst hx
     simp only [List.lookup_cons,beq_self_eq_true] at h1
     exact .inl ⟨List.mem_cons_self,Option.some.inj h1⟩
    ·have hb : (x == n) = false:=by simpa using hx
     simp only [List.lookup_cons,hb] at h1
     exact .inr h1
   ·have hb : (k == NameKind.free) = false:=by simpa using hk
    simp only [hb,Bool.false_eq_true,if_false] at h1
    exact .inr h1
theorem lP (cells : List (Str × Addr)) {x : Str} {c : Addr} (e : cells.lookup x = some c) : ∀ (ns : List (Str × NameKind)) (cs : List (Str × Addr)),((x,NameKind.free) ∈ ns \/ cs.lookup x = some c) ->
  (cB cells ns cs).lookup x = some c
 | [],_,h => by
  rcases h with h | h
  ·cases h
  ·exact h
 | (n,k) :: r,cs,h => by
  refine lP cells e r _ ?_
  rcases h with h | h
  ·rcases List.mem_cons.mp h with z | z
   ·cases z
    right
    simp only [beq_self_eq_true,if_true,List.lookup_cons,e,Option.getD_some]
   ·exact .inl z
  ·right
   by_cases hk : (k == NameKind.free) = true
   ·rw [if_pos hk]
    by_cases hx : x = n
    ·subst hx
     simp only [List.lookup_cons,beq_self_eq_true,e,Option.getD_some]
    ·have hb : (x == n) = false:=by simpa using hx
     simp only [List.lookup_cons,hb]
     exact h
   ·rw [if_neg hk]
    exact h
theorem tF {env : Env} : ∀ {names : List (Str × NameKind)} {x : Str},names.lookup x = some .free ->
  (names.map fun (n,k) => if (k == NameKind.free && env.scope.kind == .function && env.kindOf n == some .cell) then (n,NameKind.cell) else (n,k)).lookup x = some .cell \/
  (names.map fun (n,k) => if (k == NameKind.free && env.scope.kind == .function && env.kindOf n == some .cell) then (n,NameKind.cell) else (n,k)).lookup x = some .free
 | [],_,h => by simp at h
 | (n,k) :: r,x,h => by
  have ih:=@tF env r x
  show List.lookup x ((if (k == NameKind.free && env.scope.kind == .function && env.kindOf n == some .cell) = true then (n,NameKind.cell) else (n,k)) :: _) = _ \/
   List.lookup x ((if (k == NameKind.free && env.scope.kind == .function && env.kindOf n == some .cell) = true then (n,NameKind.cell) else (n,k)) :: _) = _
  cases hx : x == n with
  | true =>
   simp only [List.lookup_cons,hx] at h
   cases h
   by_cases hc : (NameKind.free == NameKind.free && env.scope.kind == .function && env.kindOf n == some .cell) = true
   ·rw [if_pos hc]; simp only [List.lookup_cons,hx]; first | exact .inl trivial | exact .inl rfl
   ·rw [if_neg hc]; simp only [List.lookup_cons,hx]; first | exact .inr trivial | exact .inr rfl
  | false =>
   simp only [List.lookup_cons,hx] at h
   by_cases hc : (k == NameKind.free && env.scope.kind == .function && env.kindOf n == some .cell) = true
   ·rw [if_pos hc]; simp only [List.lookup_cons,hx]; exact ih h
   ·rw [if_neg hc]; simp only [List.lookup_cons,hx]; exact ih h
theorem mx {env : Env} : ∀ {names : List (Str × NameKind)} {x : Str} {k' : NameKind},k' = .cell \/ k' = .free -> (∀ y ∈ names,y.2 ≠ .cell) ->
  (names.map fun (n,k) => if (k == NameKind.free && env.scope.kind == .function && env.kindOf n == some .cell) then (n,NameKind.cell) else (n,k)).lookup x = some k' -> (x,NameKind.free) ∈ names
 | [],_,_,_,_,h => by simp at h
 | (n,k) :: r,x,k',hk',hn,h => by
  have ih:=@mx env r x k' hk' (fun y hy => hn y (List.mem_cons_of_mem _ hy))
  have h' : List.lookup x ((if (k == NameKind.free && env.scope.kind == .function && env.kindOf n == some .cell) = true then (n,NameKind.cell) else (n,k)) :: (r.map fun (n,k) => if (k == NameKind.free && env.scope.kind == .function && env.kindOf n == some .cell) then (n,NameKind.cell) else (n,k))) = some k' := h
  have hkc : k ≠ .cell:=hn (n,k) List.mem_cons_self
  cases hx : x == n with
  | true =>
   have hxn : x = n:=by simpa using hx
   subst hxn
   by_cases hc : (k == NameKind.free && env.scope.kind == .function && env.kindOf x == some .cell) = true
   ·have hk : k = .free:=by
     simp only [Bool.and_eq_true,beq_iff_eq] at hc
     exact hc.1.1
    subst hk
    exact List.mem_cons_self
   ·rw [if_neg hc] at h'
    simp only [List.lookup_cons,beq_self_eq_true] at h'
    have hk : k = k' := Option.some.inj h'
    rcases hk' with z | z
    ·exact absurd (hk.trans z) hkc
    ·rw [hk,z]; exact List.mem_cons_self
  | false =>
   refine List.mem_cons_of_mem _ (ih ?_)
   by_cases hc : (k == NameKind.free && env.scope.kind == .function && env.kindOf n == some .cell) = true
   ·rw [if_pos hc] at h'
    simpa only [List.lookup_cons,hx] using h'
   ·rw [if_neg hc] at h'
    simpa only [List.lookup_cons,hx] using h'
def aJ (ix : List (Option Nat)) (σ : St) : St:=ix.map fun o => match o with
 | none => none
 | some i => (σ[i]?).join
structure BlkScope (NX : List Str) (scX : Scope) (N : List Str) (ix : List (Option Nat)) (sc : Scope) : Prop where
 kind : sc.kind = .function
 nd : N.Nodup
 nocell : ∀ y ∈ sc.names,y.2 ≠ .cell
 locs : ∀ y ∈ sc.names,y.2 = .local -> sc.names.lookup y.1 = some .local
 free : ∀ y ∈ sc.names,y.2 = .free -> scX.names.lookup y.1 = some .cell \/ scX.names.lookup y.1 = some .free
 len : ix.length = N.length
 at_ : ∀ p ∈ N.zip ix,∀ i,p.2 = some i -> NX[i]? = some p.1 /\ sc.names.lookup p.1 = some .free
def bJ (X : Cx) (N : List Str) (scope : Scope) (fp : List Addr) (s : Shared) (H : Hp) (C : Addr) : Cx:=
 { prog:=X.prog,w:=X.w,K:=X.K,mg:=X.mg,base:=X.base,A:=X.A,N:=N,s₀:=s,H₀:=H,env:=compEnvC scope (cB X.env.cells scope.names []) C X.env,outer:=X.stack,stack:=X.stack,ex:=fp,fn:=fun _ => false,calm:=X.calm,pn:=X.pn,xe:=fun _ _ => False }
theorem wj {names : List (Str × NameKind)} {x : Str} (h : names.lookup x = some .free) : (x,NameKind.free) ∈ names:=PySem.mem_of_lookup h
section
variable {X : Cx} {pins : List (Addr × Obj)} {σ : St} {H : Hp} {s : Shared} {N : List Str} {ix : List (Option Nat)} {scope : Scope} {fp : List Addr}
theorem BlkScope.clos (S : BlkScope X.N X.env.scope N ix scope) (ok : X.Ok) : ∀ y ∈ scope.names,y.2 = .free -> ∃ c,X.env.cells.lookup y.1 = some c:=fun y hy hf => ok.has y.1 (S.free y hy hf)
theorem AI {D C : Addr} {h' : Heap} {tk : Nat} {m : Str -> Option Value} (I : Inv X pins σ H s) (S : BlkScope X.N X.env.scope N ix scope) (hf : ∀ b ∈ fp,pM X pins H b)
  (hfo : ∀ b ∈ fp,∃ o,s.heap.get? b = some o /\ ∀ v,o.data ≠ .cell v)
  (hD : s.heap.objs.size <= D) (hC : s.heap.objs.size <= C) (hDC : D ≠ C) (hk : ∀ b o,s.heap.get? b = some o -> h'.get? b = some o) (hns : h'.Ns C m)
  (hl : ∃ n,h'.get? D = some { cls:=.type "list",data:=.seq ([] : List Value).toArray n }) :
  Inv (bJ X N scope fp s H C) pins (aJ ix σ) (upd H D (.lst [])) { s with heap:=h',toks:=tk }:=by
 have fresh : ∀ {a : Addr},s.heap.objs.size <= a -> H a = none:=fun h => I.hok.fresh h
 have cl_of : ∀ x c,(cB X.env.cells scope.names []).lookup x = some c -> X.env.cells.lookup x = some c:=fun x c e => by
  rcases qr _ _ _ e with ⟨h1,h2⟩ | h1
  ·obtain ⟨c',e'⟩:=S.clos I.ok _ h1 rfl
   have e'' : X.env.cells.lookup x = some c' := e'
   rw [e''] at h2
   rw [e'']
   exact congrArg some h2
  ·simp at h1
 have ltO : ∀ {b : Addr} {o : Obj},s.heap.get? b = some o -> b < s.heap.objs.size:=fun e => Heap.lt_size e
 have neC : ∀ {b : Addr} {o : Obj},s.heap.get? b = some o -> b ≠ C:=fun e => Nat.ne_of_lt (Nat.lt_of_lt_of_le (ltO e) hC)
 have neD : ∀ {b : Addr} {o : Obj},s.heap.get? b = some o -> b ≠ D:=fun e => Nat.ne_of_lt (Nat.lt_of_lt_of_le (ltO e) hD)
 have cellG : ∀ x c,X.env.cells.lookup x = some c -> ∃ o,s.heap.get? c = some o:=fun x c e => by
  obtain ⟨v,o,ho,_⟩:=I.cell x c e
  exact ⟨o,ho⟩
 refine ⟨⟨I.ok.mod,?_,I.ok.glob,I.ok.blt,hC,fun x y c e1 e2 => I.ok.inj x y c (cl_of x c e1) (cl_of y c e2),fun x hx => ?_,fun x c h _ => ?_,I.ok.hd,I.ok.frames,.inl rfl,fun b hb => ?_,I.bs,Nat.le_trans I.ok.bsz I.sz,fun b o e hb => ?_,fun b hb hb2 => ?_,I.stack,I.stkFree⟩,
  rfl,I.bare,Un.laid hk hD (fresh hD),⟨m,hns,fun j x v e1 e2 e3 => ?_⟩,fun x c e => ?_,?_,fun x c e => ?_,fun p hp => ?_,I.hok.laid hk hD ?_,?_⟩
 ·exact S.kind
 ·have hx' : (x,NameKind.free) ∈ scope.names:=by
   rcases hx with hx | hx
   ·exact mx (.inl rfl) S.nocell hx
   ·exact mx (.inr rfl) S.nocell hx
  obtain ⟨c,e⟩:=S.clos I.ok _ hx' rfl
  exact ⟨c,lP _ e _ _ (.inl hx')⟩
 ·exact absurd (show false = true from h) Bool.false_ne_true
 ·obtain ⟨f0,f1,f2,f3,f4,f5⟩:=hf b hb
  obtain ⟨o,e,_⟩:=hfo b hb
  exact ⟨neC e,fun x c ec => f4 x c (cl_of x c ec)⟩
 ·obtain ⟨f0,f1,f2,f3,f4,f5⟩:=hf b hb
  rcases f3 with z | z
  ·exact I.ok.noex b o e z
  ·exact absurd (Nat.lt_of_lt_of_le (Heap.lt_size (I.ok.bs b o e).1) z) (Nat.lt_irrefl _)
 ·obtain ⟨f0,f1,f2,f3,f4,f5⟩:=hf b hb
  rcases List.mem_cons.mp (I.stkSub b hb2) with z | z
  ·exact f1 z
  ·exact f2 z
 ·-- a name's value
  obtain ⟨mX,hnX,hlX⟩:=id I.loc
  have hj : (aJ ix σ)[j]? = some (some v):=e2
  unfold aJ at hj
  rw [List.getElem?_map] at hj
  cases ej : ix[j]? with
  | none => rw [ej] at hj; cases hj
  | some o =>
   rw [ej] at hj
   cases o with
   | none => cases hj
   | some i =>
    have hj' : (σ[i]?).join = some v:=Option.some.inj hj
    have hz : (x,some i) ∈ N.zip ix:=List.mem_iff_getElem?.mpr ⟨j,by rw [List.getElem?_zip_eq_some]; exact ⟨e1,ej⟩⟩
    obtain ⟨hNi,hfr⟩:=S.at_ _ hz i rfl
    have hmem:=wj hfr
    have hσ : σ[i]? = some (some v):=by
     cases q : σ[i]? with
     | none => rw [q] at hj'; cases hj'
     | some w' =>
      rw [q] at hj'
      have q' : w' = some v:=hj'
      rw [q']
    have hvx : X.env.scope.names.lookup x = some .cell \/ X.env.scope.names.lookup x = some .free:=S.free _ hmem rfl
    obtain ⟨u,r,lk⟩:=hlX i x v hNi hσ (.inr hvx)
    refine ⟨u,r,.inr ⟨?_,?_⟩⟩
    ·exact tF hfr
    ·rcases lk with ⟨k,_⟩ | ⟨k,c,ec,ci⟩
     ·have k' : X.env.scope.names.lookup x = some .local:=k
      rcases hvx with z | z
      ·rw [z] at k'; cases k'
      ·rw [z] at k'; cases k'
     ·obtain ⟨oc,hoc,hocd⟩:=ci
      exact ⟨c,lP _ ec _ _ (.inl hmem),oc,hk c oc hoc,hocd⟩
 ·obtain ⟨v,o,ho,hd⟩:=I.cell x c (cl_of x c e)
  exact ⟨v,o,hk c o ho,hd⟩
 ·show upd H D (.lst []) C = none
  rw [aj (Ne.symm hDC)]
  exact fresh hC
 ·obtain ⟨o,ho⟩:=cellG x c (cl_of x c e)
  rw [aj (neD ho)]
  exact I.freeC x c (cl_of x c e)
 ·obtain ⟨e,n,ne,nf,d⟩:=I.pin p hp
  refine ⟨hk _ _ e,by rw [aj (neD e)]; exact n,neC e,fun z => ?_,d⟩
  rcases List.mem_cons.mp (I.stkSub p.1 z) with q | q
  ·exact ne q
  ·exact nf q
 ·obtain ⟨n,hl⟩:=hl
  exact ⟨Nat.zero_le _,[],n,.nil,hl⟩
 ·show (aJ ix σ).length = N.length
  unfold aJ
  rw [List.length_map]
  exact S.len
end
end L2
set_option Elab.async false
set_option linter.all false
set_option maxRecDepth 100000
namespace L2
open PySem PySem.Spec PyProof.Rows
theorem DW {prog : Program} {w : World} {A : Around} {R : Result -> Shared -> Prop} {s : Shared} {elt target iter : Expr} {scope : Scope} {pos : Pos} {it acc : Value} {env : Env} (I : Nat -> Shared -> Prop)
  (turn : ∀ n s,I n s -> wpAny (model prog w) A (pyNext it) (fun r s₁ => match r with
   | none => R (.ok .next) s₁
   | some v => wpAny (model prog w) A (letOwnedTupleGo target it v) (fun _ s₁' => wpAny (model prog w) A (assign target env v) (fun _ s₂ => wpAny (model prog w) A (eval elt env) (fun x s₃ =>
     wpAny (model prog w) A (call (.builtin "list.append") [acc,x]) (fun _ s₄ => ∃ m,m < n /\ I m s₄) (fun _ _ => False) s₃)
     (fun _ _ => False) s₂) (fun _ _ => False) s₁') (fun _ _ => False) s₁) (fun _ _ => False) s)
  (n : Nat) (h : I n s) :
  codeAny (model prog w) A (.compLoop (.ListComp elt [⟨target,iter,[],0⟩] scope pos) 0 it acc env) R s:=by
 refine codeAny_loop rfl I (fun n s hI => ?_) n h
 show wpAny _ _ ((compTurn (.ListComp elt [⟨target,iter,[],0⟩] scope pos) 0 it acc env).onRaise (fun x => do noteFrame x env; theTreesLotGoes x)) _ _ s
 refine wpAny_noted ?_
 rw [compTurn_list1]
 refine wpAny_bind (wpAny_standAt (wpAny_bind (wpAny_mono (turn n s hI) (fun r s₁ h₁ => ?_) fun _ _ h' => h'.elim)))
 cases r with
 | none => exact wpAny_pure h₁
 | some v =>
  refine wpAny_bind (wpAny_mono h₁ (fun _ s₁' h₁' => ?_) fun _ _ h' => h'.elim)
  exact wpAny_bind (wpAny_mono h₁' (fun _ s₂ h₂ => wpAny_bind (wpAny_bind (wpAny_mono h₂ (fun x s₃ h₃ => wpAny_bind (wpAny_mono h₃
   (fun _ s₄ h₄ => wpAny_pure (wpAny_pure ⟨rfl,h₄⟩)) fun _ _ h' => h'.elim)) fun _ _ h' => h'.elim))) fun _ _ h' => h'.elim)
def vb (J : It) (ix : List (Option Nat)) (g : TG) (te : TE) (σ : St) (H : Hp) (Qd : Addr -> Hp -> Prop) : Prop:=
 ∀ D,H D = none -> ∃ W : Nat -> Nat -> St -> Hp -> Prop,(∃ m,W 0 m (aJ ix σ) (upd H D (.lst []))) /\ ∀ i m σ' H',W i m σ' H' ->
  (J.stop i H' /\ Qd D H') \/ (J.go i H' /\ ∀ x H2,J.yld i H' x H2 -> g x σ' H2 fun σ3 H3 => te σ3 H3 fun y H4 => ∃ ys,H4 D = some (.lst ys) /\ ys.length < sizeLine /\ ∃ m',m' < m /\ W (i + 1) m' σ3 (upd H4 D (.lst (ys ++ [y]))))
section
variable {X : Cx} {pins : List (Addr × Obj)} {σ : St} {H : Hp} {s : Shared} {N : List Str} {ix : List (Option Nat)} {scope : Scope} {fp : List Addr} {tg elt iter : Expr} {pos spos : Pos} {J : It} {it : Addr} {tn : Nat -> Heap -> Prop} {g : TG} {te : TE} {wi : TI}
theorem DZ {Qd : Addr -> Hp -> Prop} {RR : Value -> Addr -> Result -> Shared -> Prop} {E : Value -> Shared -> Prop} (I : Inv X pins σ H s) (hc : X.calm = true) (S : BlkScope X.N X.env.scope N ix scope) (T : Turn X.prog X.w X.K tg J fp it tn) (st : tn 0 s.heap) (f2 : ∀ b ∈ fp,pM X pins H b)
  (hg : ∀ C,PG (bJ X N scope fp s H C) tg g) (he : ∀ C,PE (bJ X N scope fp s H C) elt te) (hW : vb J ix g te σ H Qd)
  (hR : ∀ D C s' H' m,Inv X pins σ H' s' -> s'.heap.Ns C m -> pM X pins H' C -> Qd D H' -> RR (.ref D) C (.ok .next) s') :
  wpAny (model X.prog X.w) X.A (newList []) (fun acc s₃ => wpAny (model X.prog X.w) X.A (newFunctionEnv scope X.env.globals (cB X.env.cells scope.names []) [] X.env.qual none .none (some X.env)) (fun cenv s₄ =>
   codeAny (model X.prog X.w) X.A (.compStart (.ListComp elt [⟨tg,iter,[],0⟩] scope pos) 0 (.ref it) acc { cenv with scope:=relabel scope X.env }) (RR acc cenv.locals) s₄) E s₃) E s:=by
 refine wpAny_newObj_type (wpAny_newFunctionEnv S.nocell (by intro y hy; simp at hy) (fun h₁ hns₁ hsb₁ => ?_) S.kind)
 dsimp only at hns₁ hsb₁ ⊢
 generalize hH2 : s.heap.push { cls:=.type "list",dict:=none,data:=.seq ([] : List Value).toArray } = H2 at hns₁ hsb₁ ⊢
 have hC : H2.objs.size = s.heap.objs.size + 1:=by rw [<- hH2,Heap.size_push]
 have hDC : s.heap.objs.size ≠ H2.objs.size:=by rw [hC]; exact Nat.ne_of_lt (Nat.lt_succ_self _)
 have hCle : s.heap.objs.size <= H2.objs.size:=by rw [hC]; exact Nat.le_succ _
 have below : ∀ b,b < s.heap.objs.size -> b ≠ H2.objs.size:=fun b hb => by rw [hC]; exact Nat.ne_of_lt (Nat.lt_succ_of_lt hb)
 have old : ∀ b o,s.heap.get? b = some o -> h₁.get? b = some o:=fun b o e => hsb₁.extBut b o (below b (Heap.lt_size e)) (Heap.get?_push_of_some _ (hH2 ▸ Heap.get?_push_of_some _ e))
 have hacc : ∃ n,h₁.get? s.heap.objs.size = some { cls:=.type "list",data:=.seq ([] : List Value).toArray n }:=⟨_,hsb₁.extBut _ _ hDC (Heap.get?_push_of_some _ (hH2 ▸ Heap.get?_push_size _ rfl))⟩
 have st1 : tn 0 h₁:=T.keep _ _ _ st fun b _ o e => old b o e
 have fo : ∀ b ∈ fp,∃ o,s.heap.get? b = some o /\ ∀ v,o.data ≠ .cell v:=T.obj _ _ st
 have I0 : Inv (bJ X N scope fp s H H2.objs.size) pins (aJ ix σ) (upd H s.heap.objs.size (.lst [])) { s with heap:=h₁,toks:=s.toks + ([] : List (Str × Value)).length }:=
  AI I S f2 fo (Nat.le_refl _) hCle hDC old hns₁ hacc
 have freshD : H s.heap.objs.size = none:=I.hok.fresh (Nat.le_refl _)
 obtain ⟨W,⟨m0,w0⟩,turn⟩:=hW s.heap.objs.size freshD
 have cl_ne : ∀ b ∈ fp,b ≠ H2.objs.size:=fun b hb => by
  obtain ⟨o,e,_⟩:=fo b hb
  exact below b (Heap.lt_size e)
 have stat : ∀ {H' : Hp},(∀ b ∈ fp,H' b = none) -> ∀ b ∈ fp,pM (bJ X N scope fp s H H2.objs.size) pins H' b:=fun hn b hb => by
  obtain ⟨f0,f1,f3,f4,f5,f6⟩:=f2 b hb
  exact ⟨hn b hb,cl_ne b hb,I0.ok.exfs b hb,.inl hb,(I0.ok.exf b hb).2,f6⟩
 have fr0 : ∀ b ∈ fp,(upd H s.heap.objs.size (.lst [])) b = none:=fun b hb => by
  obtain ⟨o,e,_⟩:=fo b hb
  rw [aj (Nat.ne_of_lt (Heap.lt_size e))]
  exact (f2 b hb).1
 have loop : codeAny (model X.prog X.w) X.A (.compLoop (.ListComp elt [⟨tg,iter,[],0⟩] scope pos) 0 (.ref it) (.ref s.heap.objs.size) (compEnvC scope (cB X.env.cells scope.names []) H2.objs.size X.env))
   (RR (.ref s.heap.objs.size) H2.objs.size) { s with heap:=h₁,toks:=s.toks + ([] : List (Str × Value)).length }:=by
  refine DW (fun n s' => ∃ i σ' H',Inv (bJ X N scope fp s H H2.objs.size) pins σ' H' s' /\ tn i s'.heap /\ (∀ b ∈ fp,H' b = none) /\ W i n σ' H') ?_ m0 ⟨0,_,_,I0,st1,fr0,w0⟩
  rintro n s3 ⟨i,σ3,H3,I3,st3,fr3,w3⟩
  rcases turn i n σ3 H3 w3 with ⟨stop,qn⟩ | ⟨go,step⟩
  ·refine thn (T.done (bJ X N scope fp s H H2.objs.size) rfl rfl rfl hc i pins s3 σ3 H3 _ I3 (stat fr3) st3 stop) fun r s4 ⟨hr,I4⟩ => ?_
   subst hr
   obtain ⟨m4,hn4,_⟩:=id I4.loc
   refine hR _ _ s4 H3 m4 ?_ hn4 (I.fpOk hCle I4.free) qn
   exact I.call' (ch:=fp) I4.os I4.base I4.hok I4.bare fun b hb => by
    obtain ⟨f0,f1,f3,f4,f5,f6⟩:=f2 b hb
    exact ⟨f4,f1,f5,f6⟩
  ·refine thn (T.item (bJ X N scope fp s H H2.objs.size) rfl rfl rfl hc i pins s3 σ3 H3 _ I3 (stat fr3) st3 go) fun r s4 ⟨u,hr,h4⟩ => ?_
   subst hr
   refine thn h4 fun _ s5 ⟨x,H5,I5,r5,y5,st5,fr5⟩ => ?_
   have I5' := I5.pinned (stat fr5) (T.obj _ _ st5)
   refine thn (hg _ _ s5 σ3 H5 x u _ I5' r5 (step x H5 y5)) fun _ s6 ⟨σ6,H6,I6,q6⟩ => ?_
   refine thn (he _ _ s6 σ6 H6 _ I6 q6) fun yv s7 ⟨y,H7,I7,r7,ys,hD7,hz7,m',hm,w7⟩ => ?_
   refine thn (dA (X:=bJ X N scope fp s H H2.objs.size) _ s7 σ6 H7 (.ref s.heap.objs.size) [y] (.ref s.heap.objs.size) [yv] (fun _ H8 => W (i + 1) m' σ6 H8) I7 rfl (.cons r7 .nil) ⟨_,ys,y,rfl,rfl,hD7,hz7,w7⟩) fun _ s8 ⟨_,H8,I8,_,w8⟩ => ?_
   refine ⟨m',hm,i + 1,σ6,H8,I8.unpinned,T.keep _ _ _ st5 fun b hb o e => (I8.pin (b,o) (List.mem_append_right _ (List.mem_append_right _ (df hb e)))).1,fun b hb => ?_,w8⟩
   obtain ⟨o,e,d⟩:=T.obj _ _ st5 b hb
   exact (I8.pin (b,o) (List.mem_append_right _ (List.mem_append_right _ (df hb e)))).2.1
 exact codeAny_compStart_list loop (T.self _ _ _ _ _ st1 loop)
def Lw (ix : List (Option Nat)) (wi : TI) (g : TG) (te : TE) : TE:=fun σ H Q => wi σ H fun J H1 => vb J ix g te σ H1 fun D H' => Q (.ref D) H'
theorem mq (hc : X.calm = true) (S : BlkScope X.N X.env.scope N ix scope) (hi : PI X tg iter wi) (hg : ∀ fp s H C,PG (bJ X N scope fp s H C) tg g) (he : ∀ fp s H C,PE (bJ X N scope fp s H C) elt te)
  (hs : ∀ x,foldedSetIterable iter X.env x = pure x:=by intro _; rfl) : PE X (.ListComp elt [⟨tg,iter,[],0⟩] scope pos) (Lw ix wi g te):=by
 intro pins s σ H Q I h
 rw [eval_ListComp]
 refine wpAny_comprehension_free (use:=none) rfl hs (ku (S.clos I.ok)) S.kind S.locs (thn (hi pins s σ H _ I h) fun v s1 h1 => thn h1 fun itv s2 h2 => ?_)
 obtain ⟨it,fp,tn,J,H2,e,I2,T,st2,f2,hW⟩:=h2
 subst e
 refine DZ (RR:=fun acc C => compPost (model X.prog X.w) X.A X.xe none (EP X pins σ Q) acc C) I2 hc S T st2 f2 (hg _ _ _) (he _ _ _) hW ?_
 intro D C s' H' m I' hn fC q
 exact ⟨m,hn,fun h' sb => ⟨.ref D,H',I'.turned (t' := s'.toks) (fun b o hb e => (sb.2 b hb).trans e) fC.1 fC.2.1 fC.2.2.2.1 fC.2.2.2.2.1 fC.2.2.2.2.2,rfl,q⟩⟩
theorem rJ {i : Nat} {y : Str} {py : Pos} (hc : X.calm = true) (hN : X.N.Nodup) (hyi : X.N[i]? = some y) (hy : Loc X.env.scope y) (S : BlkScope X.N X.env.scope N ix scope) (hi : PI X tg iter wi) (hg : ∀ fp s H C,PG (bJ X N scope fp s H C) tg g) (he : ∀ fp s H C,PE (bJ X N scope fp s H C) elt te)
  (hsw : swapsWith (.ListComp elt [⟨tg,iter,[],0⟩] scope pos) (some (.Name y py)) spos.line X.env = pure true:=by rfl)
  (hf : X.fn y = true \/ X.env.scope.names.lookup y = some .local:=by first | exact .inl rfl | exact .inr rfl | assumption)
  (hs : ∀ x,foldedSetIterable iter X.env x = pure x:=by intro _; rfl) : PS X (.Assign [.Name y py] (.ListComp elt [⟨tg,iter,[],0⟩] scope pos) spos) (Li (Lw ix wi g te) (a7 i)):=by
 intro pins s σ H D I h
 rw [exec_Assign_Name_used _ _ _ _ hsw]
 refine wpAny_bind (wpAny_standAt (wpAny_bind ?_))
 show wpAny _ X.A (do let _ <- comprehension (.ListComp elt [⟨tg,iter,[],0⟩] scope pos) scope X.env _ (newList []) false (eval iter X.env) (some (assign (.Name y py) X.env))) _ _ s
 refine wpAny_bind (wpAny_mono (wpAny_comprehension_free (use:=some (assign (.Name y py) X.env)) (Q:=fun _ s' => SP X pins D .next s') rfl hs (ku (S.clos I.ok)) S.kind S.locs
  (thn (hi pins s σ H _ I h) fun v s1 h1 => thn h1 fun itv s2 h2 => ?_)) (fun _ s' hq => wpAny_pure (wpAny_pure hq)) fun _ _ e => e)
 obtain ⟨it,fp,tn,J,H2,e,I2,T,st2,f2,hW⟩:=h2
 subst e
 refine DZ (RR:=fun acc C => compPost (model X.prog X.w) X.A X.xe (some (assign (.Name y py) X.env)) (fun _ s' => SP X pins D .next s') acc C) I2 hc S T st2 f2 (hg _ _ _) (he _ _ _) hW ?_
 intro Dl C s' H' m I' hn fC q
 show wpAny _ X.A (assign (.Name y py) X.env (.ref Dl)) _ _ s'
 refine wpAny_assign_Name (AS I' hN hyi hy (v:=.ref Dl) rfl (fun s2 I2' hsb => ?_) hf)
 obtain ⟨a,sb,ha⟩:=hsb
 refine ⟨m,hn.sameBut sb ?_,fun h3 sb3 => ⟨_,H',I2'.turned (t' := s2.toks) (fun b o hb e => (sb3.2 b hb).trans e) fC.1 fC.2.1 fC.2.2.2.1 fC.2.2.2.2.1 fC.2.2.2.2.2,q⟩⟩
 rcases ha with z | z
 ·rw [z]; exact fC.2.1
 ·exact Ne.symm (fC.2.2.2.2.1 _ _ z)
end
theorem js {lo : Int} {n : Nat} {ix : List (Option Nat)} {te : TE} {σ : St} {H : Hp} {Qd : Addr -> Hp -> Prop} (Pv : Addr -> Nat -> List V -> Hp -> Prop)
  (h0 : ∀ D,H D = none -> Pv D 0 [] (upd H D (.lst [])))
  (hs : ∀ D i ys H' (Q' : VK),H D = none -> i < n -> H' D = some (.lst ys) -> Pv D i ys H' -> (∀ y H4,H4 D = some (.lst ys) -> ys.length < sizeLine -> Pv D (i + 1) (ys ++ [y]) (upd H4 D (.lst (ys ++ [y]))) -> Q' y H4) ->
   te ((aJ ix σ).set 0 (some (.int (lo + i)))) H' Q')
  (hd : ∀ D ys H',H D = none -> H' D = some (.lst ys) -> Pv D n ys H' -> Qd D H') : vb (Itr lo n) ix (a7 0) te σ H Qd:=by
 intro D hD
 refine ⟨fun i m σ' H' => m = n - i /\ i <= n /\ (σ' = aJ ix σ \/ ∃ t,σ' = (aJ ix σ).set 0 t) /\ ∃ ys,H' D = some (.lst ys) /\ Pv D i ys H',⟨n,by simp,Nat.zero_le _,.inl rfl,[],ae,h0 D hD⟩,?_⟩
 rintro i m σ' H' ⟨rfl,hi,hσ,ys,hy,p⟩
 by_cases hlt : i < n
 ·refine .inr ⟨hlt,fun x H2 y => ?_⟩
  obtain ⟨e1,e2⟩:=y
  subst e1
  subst e2
  have es : σ'.set 0 (some (V.int (lo + i))) = (aJ ix σ).set 0 (some (V.int (lo + i))):=by
   rcases hσ with z | ⟨t,z⟩
   ·rw [z]
   ·rw [z,List.set_set]
  show te (σ'.set 0 (some (V.int (lo + i)))) _ _
  rw [es]
  refine hs D i ys _ _ hD hlt hy p fun y H4 h4 hz p4 => ⟨ys,h4,hz,n - (i + 1),by omega,rfl,hlt,.inr ⟨_,rfl⟩,ys ++ [y],ae,p4⟩
 ·have e : i = n:=by omega
  subst e
  exact .inl ⟨Nat.le_refl _,hd D ys H' hD hy p⟩
theorem G6 {K : PySem.W.Frag} {a : Addr} {xs : List V} {ix : List (Option Nat)} {te : TE} {σ : St} {H : Hp} {Qd : Addr -> Hp -> Prop} (Pv : Addr -> Nat -> List V -> Hp -> Prop)
  (h0 : ∀ D,H D = none -> Pv D 0 [] (upd H D (.lst [])))
  (hl : ∀ D i ys H',i <= xs.length -> Pv D i ys H' -> SqL K H' a xs)
  (hs : ∀ D i x ys H' (Q' : VK),H D = none -> xs[i]? = some x -> H' D = some (.lst ys) -> Pv D i ys H' -> (∀ y H4,H4 D = some (.lst ys) -> ys.length < sizeLine -> Pv D (i + 1) (ys ++ [y]) (upd H4 D (.lst (ys ++ [y]))) -> Q' y H4) ->
   te ((aJ ix σ).set 0 (some x)) H' Q')
  (hd : ∀ D ys H',H D = none -> H' D = some (.lst ys) -> Pv D xs.length ys H' -> Qd D H') : vb (Itl K a) ix (a7 0) te σ H Qd:=by
 intro D hD
 refine ⟨fun i m σ' H' => m = xs.length - i /\ i <= xs.length /\ (σ' = aJ ix σ \/ ∃ t,σ' = (aJ ix σ).set 0 t) /\ ∃ ys,H' D = some (.lst ys) /\ Pv D i ys H',⟨xs.length,by simp,Nat.zero_le _,.inl rfl,[],ae,h0 D hD⟩,?_⟩
 rintro i m σ' H' ⟨rfl,hi,hσ,ys,hy,p⟩
 have q:=hl D i ys H' hi p
 by_cases hlt : i < xs.length
 ·refine .inr ⟨⟨xs,xs[i],q,by simp [hlt]⟩,fun x H2 y => ?_⟩
  obtain ⟨e1,e2⟩:=y
  subst e1
  have ex:=e2 xs q
  have es : σ'.set 0 (some x) = (aJ ix σ).set 0 (some x):=by
   rcases hσ with z | ⟨t,z⟩
   ·rw [z]
   ·rw [z,List.set_set]
  show te (σ'.set 0 (some x)) _ _
  rw [es]
  refine hs D i x ys _ _ hD ex hy p fun y H4 h4 hz p4 => ⟨ys,h4,hz,xs.length - (i + 1),by omega,rfl,hlt,.inr ⟨_,rfl⟩,ys ++ [y],ae,p4⟩
 ·have e : i = xs.length:=by omega
  subst e
  exact .inl ⟨⟨xs,q,Nat.le_refl _⟩,hd D ys H' hD hy p⟩
section
variable {X : Cx}
def NV (K : PySem.W.Frag) : List V -> Hp -> VK -> Prop:=fun xs H Q => ∃ x n t b,xs = [x,.ty n] /\ TyOf K H x t /\ PySem.W.kitOne K t (.type n) = some b /\ Q (.bl b) H
theorem gS : iE X (.builtin "isinstance") (NV X.K):=by
 intro pins s σ H xs us Q I r h
 obtain ⟨x,n,t,b,rfl,ty,e,q⟩:=h
 obtain ⟨u,v,rfl,ru,rv⟩:=r.two
 cases (show v = Value.type n from rv)
 exact Hk I ru ty e fun tk => ⟨.bl b,H,I.tok tk,rfl,q⟩
end
section
variable {prog : Program} {w : World} {A : Around} {E : Value -> Shared -> Prop} {s : Shared}
end
section
variable {X : Cx} {pos : Pos}
end
end L2
set_option Elab.async false
set_option linter.all false
set_option maxRecDepth 100000
namespace HT
open PySem PySem.Spec PyProof.Rows
section
variable {prog : Program} {w : World} {A : Around} {E : Value -> Shared -> Prop} {s : Shared}
theorem getItem_tuple_whole {t sl : Addr} {items : Array Value} {vl vu : Value} {lo hi : Option Int} {Q : Value -> Shared -> Prop} (ht : IsTup s.heap t items) (hs : s.heap.IsSliceOf sl vl vu .none) (pl : IsPart vl lo) (pu : IsPart vu hi)
  (hw : sIx items.size 0 lo = 0 /\ sIx items.size items.size hi = items.size) (h : Q (.ref t) s) : wpAny (model prog w) A (getItem (.ref t) (.ref sl)) Q E s:=by
 obtain ⟨os,hos,hcs,hds⟩:=id hs
 have hTs : s.TypeIs (.ref sl) "slice" := ⟨os,hos,hcs⟩
 unfold getItem
 try with_reducible refine wpAny_holding ?_
 first | refine wpAny_bind (wpAny_pure ?_) | skip
 refine wpAny_bind (wpAny_sequenceKey ht.typeIs (by decide) ?_)
 refine wpAny_bind (wpAny_callSpecial?_slot (name:=Str.ofString "__getitem__") ht.typeIs PyProof.Rows.slot_tuple_getitem
  (wpAny_call_entry PyProof.Rows.slot_tuple_getitem ht.typeIs entry_tuple_getitem ?_ (args_tuple_getitem _ _)))
 show wpAny _ _ (Builtin.Tuple.tupleItemsOf (.ref t) >>= _) _ _ s
 refine wpAny_bind (tupleItemsOf_ ht ?_)
 refine wpAny_bind (wpAny_typeOf hTs ?_)
 rw [if_pos (by decide)]
 refine wpAny_bind (kU hs pl pu ?_)
 have hyes : ((((sIx items.size 0 lo : Nat) : Int) == 0 && (1 : Int) == 1 && (sIx items.size items.size hi - sIx items.size 0 lo) == items.size) = true):=by
  rw [hw.1,hw.2]; simp
 show wpAny _ _ (if (((sIx items.size 0 lo : Nat) : Int) == 0 && (1 : Int) == 1 && (sIx items.size items.size hi - sIx items.size 0 lo) == items.size) = true then _ else _) _ _ s
 rw [if_pos hyes]
 unfold Builtin.Tuple.tupleIsExact
 refine wpAny_bind (wpAny_bind (wpAny_typeOf ht.typeIs (wpAny_pure ?_)))
 rw [if_pos (by decide)]
 first
  | exact wpAny_bind (wpAny_rule (wpAny_pure ⟨_,rfl,wpAny_pure h⟩))
  | exact wpAny_bind (wpAny_rule (wpAny_bind (wpAny_pure (wpAny_pure ⟨_,rfl,wpAny_pure h⟩))))
  | exact wpAny_bind (wpAny_bind (wpAny_rule (wpAny_pure ⟨_,rfl,wpAny_pure h⟩)))
end
end HT
namespace L2
open PySem PySem.Spec PyProof.Rows
section
variable {X : Cx}
def Ng (K : PySem.W.Frag) : V -> Option Int -> Option Int -> Hp -> VK -> Prop:=fun x lo hi H Q => ∃ a xs,x = .ref a /\ SqT K H a xs /\
 (HT.sIx xs.length 0 lo = 0 /\ HT.sIx xs.length xs.length hi = xs.length) /\ Q (.ref a) H
theorem Ld : SlR X (Ng X.K):=by
 intro pins s σ H x v vl vu lo hi sl Q I rx hs pl pu h
 obtain ⟨a,xs,rfl,hx,hw,q⟩:=h
 cases rx
 obtain ⟨its,r,ht,hz⟩:=I.tuple hx
 have hlen : its.toArray.size = xs.length:=by rw [List.size_toArray]; exact r.length.symm
 refine ⟨"tuple",_,PyProof.Rows.slot_tuple_getitem.lookup,ht.typeIs,?_⟩
 exact HT.getItem_tuple_whole ht hs pl pu (by rw [hlen]; exact hw) ⟨.ref a,H,I,rfl,q⟩
def rSl (K : PySem.W.Frag) : V -> Option Int -> Option Int -> Hp -> VK -> Prop:=fun x lo hi H Q => ∃ a xs,x = .ref a /\
 ((SqL K H a xs /\ ∀ p,H p = none -> Q (.ref p) (upd H p (.lst (ud xs lo hi)))) \/
  (SqT K H a xs /\ (ud xs lo hi = xs -> Q (.ref a) H) /\ ∀ p,H p = none -> Q (.ref p) (upd H p (.tup (ud xs lo hi)))))
theorem Fe {xs : List V} {lo hi : Option Int} (h : HT.sIx xs.length 0 lo = 0 /\ HT.sIx xs.length xs.length hi = xs.length) : ud xs lo hi = xs:=by
 unfold ud
 rw [h.1,h.2]
 simp
theorem Mz : SlR X (rSl X.K):=by
 intro pins s σ H x v vl vu lo hi sl Q I rx hs pl pu h
 obtain ⟨a,xs,rfl,h⟩:=h
 rcases h with ⟨hx,q⟩ | ⟨hx,q1,q2⟩
 ·exact Lb pins s σ H _ v vl vu lo hi sl Q I rx hs pl pu ⟨a,xs,rfl,hx,q⟩
 ·by_cases hw : HT.sIx xs.length 0 lo = 0 /\ HT.sIx xs.length xs.length hi = xs.length
  ·exact Ld pins s σ H _ v vl vu lo hi sl Q I rx hs pl pu ⟨a,xs,rfl,hx,hw,q1 (Fe hw)⟩
  ·exact MA pins s σ H _ v vl vu lo hi sl Q I rx hs pl pu ⟨a,xs,rfl,hx,hw,q2⟩
end
structure FunD (K : PySem.W.Frag) (x qual : Str) (st : Stmt) (dV : Value) (f : Addr) (fd : FuncData) : Prop where
 ex : ∃ (oc : Value) (od : Option Addr) (kV doc pm : Value) (an : Option Addr) (cdv ct : Value) (osl : Array (Option Value)),
  fd = PySem.W.fnOf x qual (aw st) (au st) (af st) dV kV doc pm an cdv ct /\ K.lookup f = some ⟨oc,od,.func fd,osl⟩ /\ PySem.W.codeIn K cdv qual = true
 kp : PySem.W.keepIn K (.ref f) = true
section
variable {P : Program} {w : World} {K : PySem.W.Frag} {mg : Str -> Option Value} {base : Heap}
theorem FunD.ok {x qual : Str} {st : Stmt} {dV : Value} {f : Addr} {fd : FuncData} {N ps : List Str} {k : Nat} {sp : Sp} (F : FunD K x qual st dV f fd) (S : FnScope N ps (af st)) (len : ∀ vs H Q E,sp vs H Q E -> vs.length = ps.length)
  (hbody : ∀ (cdv : Value) (A : Around) (outer : List Env) (s : Shared) (H : Hp) (vs : List V) (Q : VK) (E : XK),Room k (A.deeper (envOfC qual (af st) s.heap.objs.size f cdv)) -> sp vs H Q E ->
   ∃ t,PSs (Bz CX0 P w K mg base N qual (af st) f cdv A outer s H E).nox (au st) t /\ t { nx:=fun _ H' => Q .non H',rt:=Q } (start N vs) H) : FnOk P w K mg base CX0 (k + 1) f fd ps sp:=by
 obtain ⟨oc,od,kV,doc,pm,an,cdv,ct,osl,rfl,lk,hcd⟩:=F.ex
 refine Lr lk hcd S len fun A outer s H vs Q E hr hsp => ?_
 obtain ⟨t,h,q⟩:=hbody cdv A outer s H vs Q E hr hsp
 exact ⟨t,h.nox,q⟩
theorem FunD.binds {x qual : Str} {st : Stmt} {f : Addr} {fd : FuncData} {ps : List Str} (F : FunD K x qual st .none f fd)
  (h : ∀ (kV doc pm : Value) (an : Option Addr) (cdv ct : Value) (us : List Value),us.length = ps.length -> bindArgs (PySem.W.fnOf x qual (aw st) (au st) (af st) .none kV doc pm an cdv ct) ⟨us,[]⟩ = pure (ps.zip us)) : Binds K fd ps []:=by
 obtain ⟨oc,od,kV,doc,pm,an,cdv,ct,osl,rfl,lk,hcd⟩:=F.ex
 exact .all (h kV doc pm an cdv ct)
theorem FunD.bindsD {x qual : Str} {st : Stmt} {f T : Addr} {fd : FuncData} {ps : List Str} {ds : List Value} {o : Obj} {items : Array Value} {n : Nat} (F : FunD K x qual st (.ref T) f fd) (ho : K.lookup T = some o) (hs : o.data = .seq items n) (m : Nat) (hm : m + ds.length = ps.length)
  (h : ∀ (kV doc pm : Value) (an : Option Addr) (cdv ct : Value) (us : List Value),us.length = m -> ∃ k : Option (Array Value) -> Sem (List (Str × Value)),
   bindArgs (PySem.W.fnOf x qual (aw st) (au st) (af st) (.ref T) kV doc pm an cdv ct) ⟨us,[]⟩ = seqItems? (.ref T) >>= k /\ k (some items) = pure (ps.zip (us ++ ds))) : Binds K fd ps ds:=by
 obtain ⟨oc,od,kV,doc,pm,an,cdv,ct,osl,rfl,lk,hcd⟩:=F.ex
 intro s us X hl
 obtain ⟨k,h1,h2⟩:=h kV doc pm an cdv ct us (by rw [List.length_append] at hl; omega)
 exact BindsTo.of_defaults (fd:=PySem.W.fnOf x qual (aw st) (au st) (af st) (.ref T) kV doc pm an cdv ct) rfl (X _ _ ho) hs h1 h2
theorem aD {x qual : Str} {st : Stmt} {f : Addr} {oc : Value} {od an : Option Addr} {osl : Array (Option Value)} {dV kV doc pm cdv ct : Value} (l : K.lookup f = some ⟨oc,od,.func (PySem.W.fnOf x qual (aw st) (au st) (af st) dV kV doc pm an cdv ct),osl⟩)
  (c : PySem.W.codeIn K cdv qual = true) (k : PySem.W.keepIn K (.ref f) = true) : FunD K x qual st dV f (PySem.W.fnOf x qual (aw st) (au st) (af st) dV kV doc pm an cdv ct):=⟨⟨oc,od,kV,doc,pm,an,cdv,ct,osl,rfl,l,c⟩,k⟩
structure DefOk (P : Program) (w : World) (K : PySem.W.Frag) (mg : Str -> Option Value) (base : Heap) (x : Str) (k : Nat) (ps : List Str) (dvs : List V) (sp : Sp) : Prop where
 ex : ∃ (f : Addr) (fd : FuncData) (ds : List Value),mg x = some (.ref f) /\ PySem.W.keepIn K (.ref f) = true /\ Vals dvs ds /\ Binds K fd ps ds /\ FnOk P w K mg base CX0 k f fd ps sp
end
section
variable {X : Cx} {x : Str} {j k : Nat} {ps : List Str} {dvs : List V} {sp : Sp} {p pos : Pos} {e : Expr} {es : List Expr} {t : TA}
theorem aV (G : DefOk X.prog X.w X.K X.mg X.base x k ps dvs sp) (hr : Room j X.A) (ha : PA X (e :: es) t) (hx : ∀ e s,X.xe e s = False:=by intro _ _; rfl) (hkj : k <= j:=by decide) (hg : Gl X x:=by rfl) (hdb : (x == ("__debug__" : Str)) = false:=by decide)
  (he : starEach (e :: es) X.env = (false,eval e X.env) :: starEach es X.env:=by rfl) (hpl : (backTo pos (starEach es X.env)).any (·.1) = false:=by rfl) :
  PE X (.Call (.Name x p) (e :: es) [] pos) (JW sp dvs E0 t):=by
 obtain ⟨f,fd,ds,hm,hk,hd,hb,F⟩:=G.ex
 exact KL F (hr.mono hkj) hg hm hk hb hd (fun _ _ _ _ _ _ _ h => h.elim) ha hdb he hpl
end
theorem vg (K : PySem.W.Frag) : PySem.W.kitOne K (.type "int") (.type "int") = some true:=by with_unfolding_all rfl
theorem sI (K : PySem.W.Frag) : PySem.W.kitOne K (.type "int") (.type "bool") = some false:=by with_unfolding_all rfl
theorem ao {H : Hp} {p : Addr} (h : H p = none) (o : HO) : Same H (upd H p o):=fun b u q => by rw [aj (aq q h)]; exact q
theorem small {n : Nat} (h : n <= 1000) : n <= sizeLine:=Nat.le_of_lt (aR h)
theorem cA : bootBuiltins "len" = some (.builtin "len"):=by decide +kernel
theorem LV : bootBuiltins "max" = some (.builtin "max"):=by decide +kernel
theorem aW : bootBuiltins "isinstance" = some (.builtin "isinstance"):=by decide +kernel
theorem LU : bootBuiltins "any" = some (.builtin "any"):=by decide +kernel
theorem GW : bootBuiltins "sorted" = some (.builtin "sorted"):=by decide +kernel
theorem Ii : bootBuiltins "int" = some (.type "int"):=by decide +kernel
theorem Gj : bootBuiltins "bool" = some (.type "bool"):=by decide +kernel
theorem cq : bootBuiltins "tuple" = some (.type "tuple"):=by decide +kernel
theorem Kq : bootBuiltins "list" = some (.type "list"):=by decide +kernel
theorem Kp : bootBuiltins "dict" = some (.type "dict"):=by decide +kernel
theorem LW : bootBuiltins "set" = some (.type "set"):=by decide +kernel
end L2
set_option Elab.async false
set_option linter.all false
set_option maxRecDepth 100000
namespace L2
open PySem PySem.Spec PyProof.Rows
section
variable {X : Cx}
end
section
variable {X : Cx} {tg : Expr}
end
theorem GR {c : TT} {tb : TS} {D : Ends} {σ : St} {H : Hp} (Pv : Nat -> St -> Hp -> Prop) (h0 : ∃ m,Pv m σ H)
  (hs : ∀ m σ H,Pv m σ H -> c σ H fun b H1 => if b = true then ∃ N : St -> Hp -> Prop,(∀ σ' H',N σ' H' -> ∃ m',m' < m /\ Pv m' σ' H') /\ tb { D with nx:=N,ct:=N,bk:=D.nx } σ H1 else D.nx σ H1) : DI c tb D σ H:=⟨Pv,h0,hs⟩
end L2
set_option Elab.async false
set_option linter.all false
set_option maxRecDepth 100000
namespace L2
open PySem PySem.Spec PyProof.Rows
section
variable {X : Cx} {pins : List (Addr × Obj)} {σ : St} {H : Hp} {s : Shared}
end
section
variable {X : Cx} {tg : Expr}
end
section
variable {X : Cx}
end
end L2
set_option Elab.async false
set_option linter.all false
set_option maxRecDepth 100000
namespace PySem
section
variable {prog : Program} {w : World} {A : Around} {R : Result -> Shared -> Prop} {I : Addr} {fp wr : List Addr} {n : Nat} {P : Nat -> Value -> Prop} {St : Nat -> Heap -> Prop}
end
section
variable {prog : Program} {w : World} {A : Around} {E : Value -> Shared -> Prop} {s : Shared}
end
end PySem
namespace L2
open PySem PySem.Spec PyProof.Rows
section
variable {X : Cx}
variable {p pos kpos : Pos} {e d : Expr} {ta : TA} {td : TE}
end
section
variable {prog : Program} {w : World} {A : Around} {E : Value -> Shared -> Prop} {s : Shared}
end
section
variable {X : Cx} {e : Expr} {te : TE} {lo hi : Option Expr} {st : Expr} {tl th ts : TO} {pos p2 : Pos}
end
section
variable {X : Cx} {tg : Expr}
def NO (K : PySem.W.Frag) (tl : TE) : TI:=fun σ H R => tl σ H fun x H1 => ∃ a,x = .ref a /\ (((∃ xs,SqL K H1 a xs) /\ R (Itl K a) H1) \/ ((∃ xs,SqT K H1 a xs) /\ R (Itt K a) H1))
theorem Mv {l : Expr} {tl : TE} (hl : PE X l tl) : PI X tg l (NO X.K tl):=by
 intro pins s σ H R I h
 refine thn (hl pins s σ H _ I h) fun v s1 ⟨x,H1,I1,r1,q1⟩ => ?_
 obtain ⟨a,rfl,q | q⟩:=q1
 ·cases r1
  obtain ⟨⟨xs,hx⟩,q⟩:=q
  obtain ⟨its,rv,p,hz⟩:=I1.list hx
  refine wpAny_pyIter_list p.isList ?_
  have I2 : Inv X pins σ H1 { s1 with heap:=s1.heap.push { cls:=.type "list_iterator",data:=.fields #[.ref a,.int 0 0] } }:=I1.kept (t' := s1.toks) fun b o e => Heap.get?_push_of_some _ e
  refine ⟨s1.heap.objs.size,[s1.heap.objs.size],_,_,H1,rfl,I2,AV a _,⟨_,Heap.get?_push_size _ rfl,rfl,rfl⟩,fun b hb => ?_,q⟩
  rw [List.mem_singleton.mp hb]
  exact I1.fpOk (Nat.le_refl _) (I1.hok.fresh (Nat.le_refl _))
 ·cases r1
  obtain ⟨⟨xs,hx⟩,q⟩:=q
  obtain ⟨its,rv,p,hz⟩:=I1.tuple hx
  refine wpAny_pyIter_tuple (show s1.heap.IsTuple a its.toArray from p) ?_
  have I2 : Inv X pins σ H1 { s1 with heap:=s1.heap.push { cls:=.type "tuple_iterator",data:=.fields #[.ref a,.int 0 0] } }:=I1.kept (t' := s1.toks) fun b o e => Heap.get?_push_of_some _ e
  refine ⟨s1.heap.objs.size,[s1.heap.objs.size],_,_,H1,rfl,I2,za a _,⟨_,Heap.get?_push_size _ rfl,rfl,rfl⟩,fun b hb => ?_,q⟩
  rw [List.mem_singleton.mp hb]
  exact I1.fpOk (Nat.le_refl _) (I1.hok.fresh (Nat.le_refl _))
end
theorem xQ {K : PySem.W.Frag} {a : Addr} {xs : List V} {ix : List (Option Nat)} {te : TE} {σ : St} {H : Hp} {Qd : Addr -> Hp -> Prop} (Pv : Addr -> Nat -> List V -> Hp -> Prop)
  (h0 : ∀ D,H D = none -> Pv D 0 [] (upd H D (.lst [])))
  (hl : ∀ D i ys H',i <= xs.length -> Pv D i ys H' -> SqT K H' a xs)
  (hs : ∀ D i x ys H' (Q' : VK),H D = none -> xs[i]? = some x -> H' D = some (.lst ys) -> Pv D i ys H' -> (∀ y H4,H4 D = some (.lst ys) -> ys.length < sizeLine -> Pv D (i + 1) (ys ++ [y]) (upd H4 D (.lst (ys ++ [y]))) -> Q' y H4) ->
   te ((aJ ix σ).set 0 (some x)) H' Q')
  (hd : ∀ D ys H',H D = none -> H' D = some (.lst ys) -> Pv D xs.length ys H' -> Qd D H') : vb (Itt K a) ix (a7 0) te σ H Qd:=by
 intro D hD
 refine ⟨fun i m σ' H' => m = xs.length - i /\ i <= xs.length /\ (σ' = aJ ix σ \/ ∃ t,σ' = (aJ ix σ).set 0 t) /\ ∃ ys,H' D = some (.lst ys) /\ Pv D i ys H',⟨xs.length,by simp,Nat.zero_le _,.inl rfl,[],ae,h0 D hD⟩,?_⟩
 rintro i m σ' H' ⟨rfl,hi,hσ,ys,hy,p⟩
 have q:=hl D i ys H' hi p
 by_cases hlt : i < xs.length
 ·refine .inr ⟨⟨xs,xs[i],q,by simp [hlt]⟩,fun x H2 y => ?_⟩
  obtain ⟨e1,e2⟩:=y
  subst e1
  have ex:=e2 xs q
  have es : σ'.set 0 (some x) = (aJ ix σ).set 0 (some x):=by
   rcases hσ with z | ⟨t,z⟩
   ·rw [z]
   ·rw [z,List.set_set]
  show te (σ'.set 0 (some x)) _ _
  rw [es]
  refine hs D i x ys _ _ hD ex hy p fun y H4 h4 hz p4 => ⟨ys,h4,hz,xs.length - (i + 1),by omega,rfl,hlt,.inr ⟨_,rfl⟩,ys ++ [y],ae,p4⟩
 ·have e : i = xs.length:=by omega
  subst e
  exact .inl ⟨⟨xs,q,Nat.le_refl _⟩,hd D ys H' hD hy p⟩
section
variable {X : Cx}
theorem Gx (K : PySem.W.Frag) (h : X.K = K:=by rfl) : IxR X (Nd K):=by subst h; exact az
end
end L2
set_option Elab.async false
set_option linter.all false
set_option maxRecDepth 100000
namespace L2
open PySem PySem.Spec PyProof.Rows
section
variable {κ : Type} [DecidableEq κ]
def gK (kvs : List (κ × V)) (k : κ) : Option V:=(kvs.find? fun kv => decide (kv.1 = k)).map (·.2)
def putK (kvs : List (κ × V)) (k : κ) (v : V) : List (κ × V):=
 if (kvs.any fun kv => decide (kv.1 = k)) = true then kvs.map (fun kv => if kv.1 = k then (kv.1,v) else kv) else kvs ++ [(k,v)]
theorem kX {p : κ × V} {r : List (κ × V)} {k : κ} (e : p.1 = k) : gK (p :: r) k = some p.2:=by simp [gK,List.find?_cons,e]
theorem hX {p : κ × V} {r : List (κ × V)} {k : κ} (e : ¬ p.1 = k) : gK (p :: r) k = gK r k:=by simp [gK,List.find?_cons,e]
theorem zb (k : κ) : ∀ kvs : List (κ × V),(kvs.any fun kv => decide (kv.1 = k)) = (gK kvs k).isSome
 | [] => rfl
 | p :: r => by
  rw [List.any_cons]
  by_cases e : p.1 = k
  ·simp only [kX e,decide_eq_true e,Bool.true_or,Option.isSome_some]
  ·rw [hX e,decide_eq_false e,Bool.false_or]; exact zb k r
theorem kc (kvs : List (κ × V)) (k : κ) (v : V) : (putK kvs k v).length <= kvs.length + 1:=by
 unfold putK
 split
 ·rw [List.length_map]; omega
 ·rw [List.length_append,List.length_cons,List.length_nil]; omega
theorem JM {kvs : List (κ × V)} {k : κ} (v : V) (h : gK kvs k = none) : putK kvs k v = kvs ++ [(k,v)]:=by
 unfold putK
 rw [zb,h]
 exact if_neg (by decide)
theorem RelO.isSome_eq {o : Option V} {u : Option Value} (r : RelO o u) : o.isSome = u.isSome:=by
 cases o with
 | none => cases u with
  | none => rfl
  | some _ => exact (show False from r).elim
 | some _ => cases u with
  | none => exact (show False from r).elim
  | some _ => rfl
theorem RelO.getD {o : Option V} {u : Option Value} {d : V} {d' : Value} (r : RelO o u) (rd : RelV d d') : RelV (o.getD d) (u.getD d'):=by
 cases o with
 | none => cases u with
  | none => exact rd
  | some _ => exact (show False from r).elim
 | some _ => cases u with
  | none => exact (show False from r).elim
  | some _ => exact r
theorem KV.val {kvs : List (κ × V)} {vs : List (κ × Value)} (r : KV kvs vs) (k : κ) : RelO (gK kvs k) (valueAt vs k):=by
 unfold KV at r
 induction r with
 | nil => exact True.intro
 | @cons p q ps qs h t ih =>
  obtain ⟨h1,h2⟩:=h
  by_cases e : p.1 = k
  ·have e' : q.1 = k:=h1.symm.trans e
   have b : valueAt (q :: qs) k = some q.2:=by simp [valueAt,List.find?_cons,e']
   rw [kX e,b]; exact h2
  ·have e' : ¬ q.1 = k:=fun z => e (h1.trans z)
   have b : valueAt (q :: qs) k = valueAt qs k:=by simp [valueAt,List.find?_cons,e']
   rw [hX e,b]; exact ih
theorem KV.any {kvs : List (κ × V)} {vs : List (κ × Value)} (r : KV kvs vs) (k : κ) : (kvs.any fun kv => decide (kv.1 = k)) = vs.any fun kv => decide (kv.1 = k):=by
 unfold KV at r
 induction r with
 | nil => rfl
 | cons h t ih => rw [List.any_cons,List.any_cons,ih,h.1]
theorem KV.repl {kvs : List (κ × V)} {vs : List (κ × Value)} (r : KV kvs vs) (k : κ) {y : V} {u : Value} (ry : RelV y u) :
  KV (kvs.map fun kv => if kv.1 = k then (kv.1,y) else kv) (vs.map fun kv => if kv.1 = k then (kv.1,u) else kv):=by
 unfold KV at r ⊢
 induction r with
 | nil => exact .nil
 | @cons p q ps qs h t ih =>
  rw [List.map_cons,List.map_cons]
  refine .cons ?_ ih
  obtain ⟨h1,h2⟩:=h
  by_cases e : p.1 = k
  ·rw [if_pos e,if_pos (h1.symm.trans e)]; exact ⟨h1,ry⟩
  ·rw [if_neg e,if_neg (fun z => e (h1.trans z))]; exact ⟨h1,h2⟩
theorem KV.put {kvs : List (κ × V)} {vs : List (κ × Value)} (r : KV kvs vs) (k : κ) {y : V} {u : Value} (ry : RelV y u) : KV (putK kvs k y) (stored vs k u):=by
 unfold putK stored
 rw [r.any k]
 by_cases e : (vs.any fun kv => decide (kv.1 = k)) = true
 ·rw [if_pos e,if_pos e]; exact r.repl k ry
 ·rw [if_neg e,if_neg e]; exact Paired.snoc r ⟨rfl,ry⟩
theorem KV.length {kvs : List (κ × V)} {vs : List (κ × Value)} (r : KV kvs vs) : kvs.length = vs.length:=Paired.length r
end
theorem qt {P : Program} {w : World} {k : Key} {u : Value} (r : RelV (kV k) u) : (aX P w).is k u = true:=by
 cases k with
 | inl i => obtain ⟨t,e⟩:=(show ∃ t,u = Value.int i t from r); subst e; exact Eu P w i t
 | inr x => obtain ⟨t,e⟩:=(show ∃ t,u = Value.str x t from r); subst e; exact Ew P w x t
theorem AK {P : Program} {w : World} : ∀ {ks : List Key} {us : List Value},Vals (ks.map kV) us -> ItemsAre (aX P w) ks us
 | [],_,r => by rw [List.map_nil] at r; cases r; exact .nil
 | k :: ks,_,r => by
  rw [List.map_cons] at r
  cases r with
  | cons h t => exact .cons (qt h) (AK t)
abbrev KT (H : Hp) : List (List Key × V) -> List (List Key × Addr × Value) -> Prop:=Paired fun p q => p.1 = q.1 /\ H q.2.1 = some (.tup (p.1.map kV)) /\ RelV p.2 q.2.2
theorem KT.val {H : Hp} {kvs : List (List Key × V)} {xs : List (List Key × Addr × Value)} (r : KT H kvs xs) (k : List Key) : RelO (gK kvs k) ((atKey xs k).map (·.2)):=by
 induction r with
 | nil => exact True.intro
 | @cons p q ps qs h t ih =>
  obtain ⟨h1,_,h2⟩:=h
  by_cases e : p.1 = k
  ·have e' : q.1 = k:=h1.symm.trans e
   have b : atKey (q :: qs) k = some q.2:=by simp [atKey,List.find?_cons,e']
   rw [kX e,b]; exact h2
  ·have e' : ¬ q.1 = k:=fun z => e (h1.trans z)
   have b : atKey (q :: qs) k = atKey qs k:=by simp [atKey,List.find?_cons,e']
   rw [hX e,b]; exact ih
theorem KT.repl {H : Hp} {kvs : List (List Key × V)} {xs : List (List Key × Addr × Value)} (r : KT H kvs xs) (k : List Key) {y : V} {u : Value} (ry : RelV y u) :
  KT H (kvs.map fun kv => if kv.1 = k then (kv.1,y) else kv) (xs.map (putAt k u)):=by
 induction r with
 | nil => exact .nil
 | @cons p q ps qs h t ih =>
  rw [List.map_cons,List.map_cons]
  refine .cons ?_ ih
  obtain ⟨h1,h2,h3⟩:=h
  unfold putAt
  by_cases e : p.1 = k
  ·rw [if_pos e,if_pos (h1.symm.trans e)]; exact ⟨h1,h2,ry⟩
  ·rw [if_neg e,if_neg (fun z => e (h1.trans z))]; exact ⟨h1,h2,h3⟩
theorem KT.put {H : Hp} {kvs : List (List Key × V)} {xs : List (List Key × Addr × Value)} (r : KT H kvs xs) (k : List Key) {b : Addr} {y : V} {u : Value} (hb : H b = some (.tup (k.map kV))) (ry : RelV y u) :
  KT H (putK kvs k y) (storedH xs k b u):=by
 have e : (kvs.any fun kv => decide (kv.1 = k)) = (atKey xs k).isSome:=by
  rw [zb,(r.val k).isSome_eq,Option.isSome_map]
 unfold putK storedH
 rw [e]
 by_cases q : (atKey xs k).isSome = true
 ·rw [if_pos q,if_pos q]; exact r.repl k ry
 ·rw [if_neg q,if_neg q]; exact Paired.snoc r ⟨rfl,hb,ry⟩
theorem KT.keeps {H H' : Hp} {kvs : List (List Key × V)} {xs : List (List Key × Addr × Value)} (r : KT H kvs xs) (ht : ∀ b ys,H b = some (.tup ys) -> H' b = some (.tup ys)) : KT H' kvs xs:=
 Paired.mapP r fun _ _ z => ⟨z.1,ht _ _ z.2.1,z.2.2⟩
section
variable {P : Program} {w : World} {H : Hp} {h : Heap} {a : Addr}
theorem Lv {u : HO} (ok : HOk P w H h) (e : Rd H a u) : ObjOk P w H h a u:=e.ok ok
theorem sA {kvs : List (Key × V)} (ok : HOk P w H h) (e : Rd H a (.dK kvs)) : kvs.length <= sizeLine /\ (a == sysModules) = false /\ ∃ vs,KV kvs vs /\ h.DictOf (aX P w) a vs:=
 show ObjOk P w H h a (.dK kvs) from Lv ok e
theorem Gq {kvs : List (Key × V)} (ok : HOk P w H h) (e : H a = some (.dK kvs)) : kvs.length <= sizeLine /\ (a == sysModules) = false /\ ∃ vs,KV kvs vs /\ h.DictOf (aX P w) a vs:=sA ok (.inl e)
theorem oG {ks : List Key} (ok : HOk P w H h) (e : H a = some (.tup (ks.map kV))) : (tupleKind (aX P w)).is h ks a:=by
 obtain ⟨_,its,r,o,h1,h2,n,h3⟩:=(show ObjOk P w H h a (.tup (ks.map kV)) from ok a _ e)
 exact ⟨o,its.toArray,n,h1,h2,h3,by simpa using AK r⟩
theorem vf {kvs : List (List Key × V)} (ok : HOk P w H h) (e : Rd H a (.dT kvs)) : kvs.length <= sizeLine /\ (a == sysModules) = false /\
  ∃ xs,KT H kvs xs /\ h.DictOfH (tupleKind (aX P w)) a xs:=by
 obtain ⟨z,y,xs,r,o,es,ep,h1,h2,h3,h4,h5⟩:=(show ObjOk P w H h a (.dT kvs) from Lv ok e)
 refine ⟨z,y,xs,r,o,es,ep,h1,h2,h3,h4,fun x hx => ?_,h5⟩
 have all : ∀ {l : List (List Key × V)} {m : List (List Key × Addr × Value)},KT H l m -> ∀ x ∈ m,(tupleKind (aX P w)).is h x.1 x.2.1:=by
  intro l m q
  induction q with
  | nil => intro x hx; exact nomatch hx
  | @cons p q ps qs hq t ih =>
   intro x hx
   rcases List.mem_cons.mp hx with e | hx
   ·subst e
    exact oG ok (by rw [<- hq.1]; exact hq.2.1)
   ·exact ih x hx
 exact all r x hx
theorem Iz {kvs : List (List Key × V)} (ok : HOk P w H h) (e : H a = some (.dT kvs)) : kvs.length <= sizeLine /\ (a == sysModules) = false /\
  ∃ xs,KT H kvs xs /\ h.DictOfH (tupleKind (aX P w)) a xs:=vf ok (.inl e)
end
def DGet (H : Hp) (a : Addr) (y : V) (r : Option V) : Prop:=
 (∃ kvs k,Rd H a (.dK kvs) /\ y = kV k /\ r = gK kvs k) \/ ∃ kvs k b,Rd H a (.dT kvs) /\ y = .ref b /\ H b = some (.tup (k.map kV)) /\ r = gK kvs k
def DPut (H : Hp) (a : Addr) (y v : V) (H' : Hp) : Prop:=
 (∃ kvs k,H a = some (.dK kvs) /\ y = kV k /\ kvs.length < sizeLine /\ H' = upd H a (.dK (putK kvs k v))) \/
 ∃ kvs k b,H a = some (.dT kvs) /\ y = .ref b /\ H b = some (.tup (k.map kV)) /\ kvs.length < sizeLine /\ H' = upd H a (.dT (putK kvs k v))
theorem DGet.k {H : Hp} {a : Addr} {kvs : List (Key × V)} {k : Key} (e : H a = some (.dK kvs)) : DGet H a (kV k) (gK kvs k):=.inl ⟨kvs,k,.inl e,rfl,rfl⟩
theorem DGet.t {H : Hp} {a b : Addr} {kvs : List (List Key × V)} {k : List Key} (e : H a = some (.dT kvs)) (eb : H b = some (.tup (k.map kV))) : DGet H a (.ref b) (gK kvs k):=.inr ⟨kvs,k,b,.inl e,rfl,eb,rfl⟩
theorem DPut.k {H : Hp} {a : Addr} {kvs : List (Key × V)} {k : Key} {v : V} (e : H a = some (.dK kvs)) (hl : kvs.length < sizeLine) : DPut H a (kV k) v (upd H a (.dK (putK kvs k v))):=.inl ⟨kvs,k,e,rfl,hl,rfl⟩
theorem DPut.t {H : Hp} {a b : Addr} {kvs : List (List Key × V)} {k : List Key} {v : V} (e : H a = some (.dT kvs)) (eb : H b = some (.tup (k.map kV))) (hl : kvs.length < sizeLine) :
  DPut H a (.ref b) v (upd H a (.dT (putK kvs k v))):=.inr ⟨kvs,k,b,e,rfl,eb,hl,rfl⟩
section
variable {X : Cx} {pins : List (Addr × Obj)} {σ : St} {H : Hp} {s : Shared} {a : Addr} {y v : V} {u r : Value} {o : Option V} {A : Around} {E : Value -> Shared -> Prop}
theorem Inv.big (I : Inv X pins σ H s) : sysModules < s.heap.objs.size:=by
 have h : mainGlobals < s.heap.objs.size:=(I.mod.glob.keeps I.bk).lt
 exact Nat.lt_trans (by decide) h
theorem Ha {Q : Value -> Shared -> Prop} (hu : A.units + 1 < cLine) (I : Inv X pins σ H s) (g : DGet H a y (some v)) (ry : RelV y u) (h : ∀ w' s',Inv X pins σ H s' -> RelV v w' -> Q w' s') :
  wpAny (model X.prog X.w) A (getItem (.ref a) u) Q E s:=by
 rcases g with ⟨kvs,k,e,ey,l⟩ | ⟨kvs,k,b,e,ey,eb,l⟩
 ·subst ey
  obtain ⟨z,hd,vs,rel,dd⟩:=sA I.hok e
  obtain ⟨w',hw,rw'⟩:=RelO.some_of (v:=v) (o:=valueAt vs k) (by rw [l]; exact rel.val k)
  exact wpAny_getItem_of (qt ry) dd.mapOf hw (h w' _ (I.tok _) rw')
 ·subst ey
  cases (show u = Value.ref b from ry)
  obtain ⟨z,hd,xs,rel,dd⟩:=vf I.hok e
  obtain ⟨w',hw,rw'⟩:=RelO.some_of (v:=v) (o:=(atKey xs k).map (·.2)) (by rw [l]; exact rel.val k)
  obtain ⟨p,hp,hp2⟩:=Option.map_eq_some_iff.mp hw
  refine wpAny_getItem_heap (tupleKind_room_in1 hu) (oG I.hok eb) dd hp ?_
  rw [hp2]
  exact h w' _ (I.tok _) rw'
theorem NL {Q : Value -> Shared -> Prop} (hu : A.units + 1 < cLine) (I : Inv X pins σ H s) (g : DGet H a y o) (ry : RelV y u) (h : ∀ s',Inv X pins σ H s' -> Q (.bool o.isSome) s') :
  wpAny (model X.prog X.w) A (compareOp .In u (.ref a)) Q E s:=by
 rcases g with ⟨kvs,k,e,ey,l⟩ | ⟨kvs,k,b,e,ey,eb,l⟩
 ·subst ey
  obtain ⟨z,hd,vs,rel,dd⟩:=sA I.hok e
  refine wpAny_in_of (qt ry) hd dd.mapOf ?_
  rw [<- (rel.val k).isSome_eq,<- l]
  exact h _ (I.tok _)
 ·subst ey
  cases (show u = Value.ref b from ry)
  obtain ⟨z,hd,xs,rel,dd⟩:=vf I.hok e
  refine wpAny_in_heap (tupleKind_room_in1 hu) (oG I.hok eb) hd dd ?_
  have q:=(rel.val k).isSome_eq
  rw [Option.isSome_map] at q
  rw [<- q,<- l]
  exact h _ (I.tok _)
theorem Kr {Q : Value -> Shared -> Prop} (hu : A.units + 1 < cLine) (I : Inv X pins σ H s) (g : DGet H a y o) (ry : RelV y u) (h : ∀ s',Inv X pins σ H s' -> Q (.bool (!o.isSome)) s') :
  wpAny (model X.prog X.w) A (compareOp .NotIn u (.ref a)) Q E s:=by
 rcases g with ⟨kvs,k,e,ey,l⟩ | ⟨kvs,k,b,e,ey,eb,l⟩
 ·subst ey
  obtain ⟨z,hd,vs,rel,dd⟩:=sA I.hok e
  refine wpAny_notIn_of (qt ry) hd dd.mapOf ?_
  rw [<- (rel.val k).isSome_eq,<- l]
  exact h _ (I.tok _)
 ·subst ey
  cases (show u = Value.ref b from ry)
  obtain ⟨z,hd,xs,rel,dd⟩:=vf I.hok e
  refine wpAny_notIn_heap (tupleKind_room_in1 hu) (oG I.hok eb) hd dd ?_
  have q:=(rel.val k).isSome_eq
  rw [Option.isSome_map] at q
  rw [<- q,<- l]
  exact h _ (I.tok _)
theorem pG {h' : Heap} {t' : Nat} {ob : HO} (I : Inv X pins σ H s) (mu : Mut (H a)) (hs : Heap.SameBut a s.heap h') (he : ∃ q,h'.get? a = some q) (new : ObjOk X.prog X.w (upd H a ob) h' a ob) :
  Inv X pins σ (upd H a ob) { s with heap:=h',toks:=t' }:=
 I.write (x:=a) (e:=a) mu (.inl rfl) (fun b q hb z => (hs.2 b hb).trans z) he new
theorem BK {P : Program} {w : World} {H' : Hp} {h' : Heap} {kvs : List (Key × V)} {vs : List (Key × Value)} (z : kvs.length <= sizeLine) (hd : (a == sysModules) = false) (rel : KV kvs vs) (dd : h'.DictOf (aX P w) a vs) :
  ObjOk P w H' h' a (.dK kvs):=⟨z,hd,vs,rel,dd⟩
theorem Hb {H' : Hp} {Q : Unit -> Shared -> Prop} (hu : A.units + 1 < cLine) (I : Inv X pins σ H s) (g : DPut H a y v H') (ry : RelV y u) (rv : RelV v r) (h : ∀ s',Inv X pins σ H' s' -> Q () s') :
  wpAny (model X.prog X.w) A (setItem (.ref a) u r) Q E s:=by
 rcases g with ⟨kvs,k,e,ey,l,eH⟩ | ⟨kvs,k,b,e,ey,eb,l,eH⟩
 ·subst ey eH
  obtain ⟨z,hd,vs,rel,dd⟩:=Gq I.hok e
  have hz : vs.length <= sizeLine:=by rw [<- rel.length]; exact z
  have hl : (putK kvs k v).length <= sizeLine:=by have:=kc kvs k v; omega
  refine wpAny_setItem_pairs (hsz:=hz) (qt ry) dd fun h' dd' hs => h _ ?_
  have he : ∃ q,h'.get? a = some q:=let ⟨q,_,_,hq,_⟩:=dd'; ⟨q,hq⟩
  exact pG I (by rw [e]; exact True.intro) hs he (BK hl hd (rel.put k rv) dd')
 ·subst ey eH
  cases (show u = Value.ref b from ry)
  obtain ⟨z,hd,xs,rel,dd⟩:=Iz I.hok e
  have hz : xs.length <= sizeLine:=by rw [<- Paired.length rel]; exact z
  have hl : (putK kvs k v).length <= sizeLine:=by have:=kc kvs k v; omega
  refine wpAny_setItem_heap (hsz:=hz) (tupleKind_room_in1 hu) (oG I.hok eb) dd fun h' dd' hs => h _ ?_
  obtain ⟨q,es,ep,hq,h2,h3,h4,_,h5⟩:=dd'
  refine pG I (by rw [e]; exact True.intro) hs ⟨q,hq⟩ ⟨hl,hd,_,(rel.put k eb rv).keeps fun c ys ec => ?_,q,es,ep,hq,h2,h3,h4,h5⟩
  rw [aj (cb ec e (fun z => nomatch z))]
  exact ec
end
section
variable {X : Cx} {pins : List (Addr × Obj)} {σ : St} {H : Hp} {s : Shared} {a : Addr} {kvs : List (Key × V)} {k : Key} {u : Value} {A : Around} {E : Value -> Shared -> Prop}
theorem MV {Q : Value -> Shared -> Prop} (I : Inv X pins σ H s) (e : Rd H a (.dK kvs)) (h : ∀ t s',Inv X pins σ H s' -> Q (.int kvs.length t) s') : wpAny (model X.prog X.w) A (call (.builtin "len") [.ref a]) Q E s:=by
 obtain ⟨z,hd,vs,rel,dd⟩:=sA I.hok e
 refine call_len_dict hd dd (by rw [<- rel.length]; rw [sizeLine_eq] at z; omega) ?_
 rw [<- rel.length]
 exact h _ _ (I.tok _)
end
def Km (i : Expr) : Prop := ∀ ov iv,subscripted i false ov iv = operate [ov,iv] (getItem ov iv)
theorem GL {prog : Program} {w : World} {A : Around} {E : Value -> Shared -> Prop} {s : Shared} {env : Env} {value slice : Expr} {pos : Pos} {T id : String} {Q : Value -> Shared -> Prop}
  (hl : typeLookup (.type T) "__getitem__" = pure (some (.builtin id))) (hs : Km slice)
  (h : wpAny (model prog w) A (eval value env) (fun o s₁ => wpAny (model prog w) A (eval slice env) (fun i s₂ => s₂.TypeIs o T /\ wpAny (model prog w) A (getItem o i) Q E s₂) E s₁) E s) :
  wpAny (model prog w) A (eval (.Subscript value slice pos) env) Q E s:=by
 refine Subscript_ (wpAny_mono h (fun o s₁ h₁ => wpAny_mono h₁ (fun i s₂ h₂ => ?_) fun _ _ x => x) fun _ _ x => x)
 obtain ⟨hT,h₂⟩:=h₂
 unfold subscriptTail
 refine wpAny_bind ?_
 rw [getitemInPython_of_ne hT.not_modules]
 refine wpAny_bind (wpAny_specialOf hT hl ?_)
 have fin : wpAny (model prog w) A (subscripted slice false o i) (fun r s₃ => wpAny (model prog w) A (letTemporaryGo value o r >>= fun _ => pure r) Q E s₃) E s₂:=by
  rw [hs o i]
  exact wpAny_operating (wpAny_mono h₂ (fun r s₃ h₃ => wpAny_bind (wpAny_letTemporaryGo (wpAny_pure h₃))) fun _ _ x => x)
 first
  | exact wpAny_pure (wpAny_bind fin)
  | exact wpAny_bind (wpAny_pure (wpAny_bind fin))
  | exact wpAny_bind fin
theorem Ed {X : Cx} {pins : List (Addr × Obj)} {σ : St} {H : Hp} {s : Shared} {a : Addr} {y : V} {o : Option V} (I : Inv X pins σ H s) (g : DGet H a y o) : s.TypeIs (.ref a) "dict" := by
 rcases g with ⟨kvs,k,e,_,_⟩ | ⟨kvs,k,b,e,_,_,_⟩
 ·obtain ⟨_,_,vs,_,dd⟩:=sA I.hok e
  exact dd.typeIs
 ·obtain ⟨_,_,xs,_,dd⟩:=vf I.hok e
  exact dd.typeIs
def JX (td ty : TE) : TE:=fun σ H Q => td σ H fun x H1 => ty σ H1 fun y H2 => ∃ a v,x = .ref a /\ DGet H2 a y (some v) /\ Q v H2
def N7 (ty td : TE) : TE:=fun σ H Q => ty σ H fun y H1 => td σ H1 fun x H2 => ∃ a o,x = .ref a /\ DGet H2 a y o /\ Q (.bl o.isSome) H2
def xy (ty td : TE) : TE:=fun σ H Q => ty σ H fun y H1 => td σ H1 fun x H2 => ∃ a o,x = .ref a /\ DGet H2 a y o /\ Q (.bl (!o.isSome)) H2
def Nh (td ty tv : TE) : TS:=fun D σ H => tv σ H fun v H1 => td σ H1 fun x H2 => ty σ H2 fun y H3 => ∃ a H4,x = .ref a /\ DPut H3 a y v H4 /\ D.nx σ H4
section
variable {X : Cx} {o i e value : Expr} {pos pos' tpos : Pos} {td ty tv : TE}
theorem KN (hu : X.A.units + 1 < cLine) (ho : PE X o td) (hi : PE X i ty) (hs : Km i) : PE X (.Subscript o i pos) (JX td ty):=by
 intro pins s σ H Q I h
 refine GL PySem.F.slot_dict_getitem.lookup hs (thn (ho pins s σ H _ I h) fun u s1 ⟨x,H1,I1,rx,q1⟩ => thn (hi pins s1 σ H1 _ I1 q1) fun iv s2 ⟨y,H2,I2,ry,a,v,ex,g,q2⟩ => ?_)
 subst ex
 obtain rfl : u = Value.ref a:=rx
 exact ⟨Ed I2 g,Ha hu I2 g ry fun w' s3 I3 rw' => ⟨v,H2,I3,rw',q2⟩⟩
theorem JA (hu : X.A.units + 1 < cLine) (hi : PE X i ty) (ho : PE X o td) : PC X .In i o (N7 ty td):=by
 intro pins s σ H Q I h
 refine thn (hi pins s σ H _ I h) fun iv s1 ⟨y,H1,I1,ry,q1⟩ => thn (ho pins s1 σ H1 _ I1 q1) fun u s2 ⟨x,H2,I2,rx,a,ov,ex,g,q2⟩ => ?_
 subst ex
 obtain rfl : u = Value.ref a:=rx
 exact NL hu I2 g ry fun s3 I3 => ⟨.bl ov.isSome,H2,I3,rfl,q2⟩
theorem AQ (hu : X.A.units + 1 < cLine) (hi : PE X i ty) (ho : PE X o td) : PC X .NotIn i o (xy ty td):=by
 intro pins s σ H Q I h
 refine thn (hi pins s σ H _ I h) fun iv s1 ⟨y,H1,I1,ry,q1⟩ => thn (ho pins s1 σ H1 _ I1 q1) fun u s2 ⟨x,H2,I2,rx,a,ov,ex,g,q2⟩ => ?_
 subst ex
 obtain rfl : u = Value.ref a:=rx
 exact Kr hu I2 g ry fun s3 I3 => ⟨.bl (!ov.isSome),H2,I3,rfl,q2⟩
theorem xt (hu : X.A.units + 1 < cLine) (ho : PE X o td) (hi : PE X i ty) (hv : PE X value tv) (hs : swapsWith value (some (.Subscript o i pos')) pos.line X.env = pure false) :
  PS X (.Assign [.Subscript o i pos'] value pos) (Nh td ty tv):=by
 intro pins s σ H D I h
 refine wpAny_Assign_Subscript (thn (hv pins s σ H _ I h) fun r s1 ⟨v,H1,I1,rv,q1⟩ => thn (ho pins s1 σ H1 _ I1 q1) fun u s2 ⟨x,H2,I2,rx,q2⟩ => thn (hi pins s2 σ H2 _ I2 q2) fun iv s3 ⟨y,H3,I3,ry,a,H4,ex,g,q3⟩ => ?_) hs
 subst ex
 obtain rfl : u = Value.ref a:=rx
 exact Hb hu I3 g ry rv fun s4 I4 => ⟨σ,H4,I4,q3⟩
end
theorem xX {P : Program} {w : World} {H : Hp} (h : Heap) (hb : sysModules < h.objs.size) : ObjOk P w H (h.push { cls:=.type "dict",data:=.dict #[] }) h.objs.size (.dK []):=
 ⟨Nat.zero_le _,beq_eq_false_iff_ne.mpr (Ne.symm (Nat.ne_of_lt hb)),[],.nil,Heap.DictOf.new h⟩
theorem Iy {P : Program} {w : World} {H : Hp} (h : Heap) (hb : sysModules < h.objs.size) : ObjOk P w H (h.push { cls:=.type "dict",data:=.dict #[] }) h.objs.size (.dT []):=
 ⟨Nat.zero_le _,beq_eq_false_iff_ne.mpr (Ne.symm (Nat.ne_of_lt hb)),[],.nil,_,#[],0,Heap.get?_push_size _ rfl,⟨rfl,rfl,rfl⟩,rfl,rfl,List.nodup_nil⟩
def MF : TE:=fun _ H Q => ∀ p,H p = none -> Q (.ref p) (upd H p (.dK []))
section
variable {X : Cx} {pos : Pos}
theorem EL : PE X (.Dict [] [] pos) MF:=fun pins s σ H Q I h =>
 wpAny_Dict_empty ⟨.ref s.heap.objs.size,_,I.laid (a:=s.heap.objs.size) (o:=.dK []) (t' := s.toks) (fun _ _ q => Heap.get?_push_of_some _ q) (Nat.le_refl _) (xX s.heap I.big),rfl,h _ (I.hok.fresh (Nat.le_refl _))⟩
end
def y9 : List (TE × TE) -> St -> Hp -> (List (V × V) -> Hp -> Prop) -> Prop
 | [],_,H,Q => Q [] H
 | (tk,tv) :: r,σ,H,Q => tk σ H fun x H1 => tv σ H1 fun y H2 => y9 r σ H2 fun ps H3 => Q ((x,y) :: ps) H3
abbrev VV : List (V × V) -> List (Value × Value) -> Prop:=Paired fun p q => RelV p.1 q.1 /\ RelV p.2 q.2
def PPs (X : Cx) (pos : Pos) (keys : List (Option Expr)) (values : List Expr) (trs : List (TE × TE)) : Prop:=
 ∀ (pins : List (Addr × Obj)) (s : Shared) (σ : St) (H : Hp) (Q : List (V × V) -> Hp -> Prop),Inv X pins σ H s -> y9 trs σ H Q ->
  wpAny (model X.prog X.w) X.A (evalPairs (pairTrees keys values X.env pos)) (fun vs s' => ∃ ps H',Inv X pins σ H' s' /\ VV ps vs /\ Q ps H') X.xe s
theorem GG {X : Cx} {pos : Pos} : PPs X pos [] [] []:=fun pins s σ H Q I h => pairTrees_nil_walk ⟨[],H,I,.nil,h⟩
theorem ER {X : Cx} {pos : Pos} {k v : Expr} {ks : List (Option Expr)} {vs : List Expr} {tk tv : TE} {trs : List (TE × TE)} (hk : PE X k tk) (hv : PE X v tv) (hr : PPs X pos ks vs trs) :
  PPs X pos (some k :: ks) (v :: vs) ((tk,tv) :: trs):=fun pins s σ H Q I h =>
 pairTrees_cons_walk (thn (hk pins s σ H _ I h) fun u s1 ⟨x,H1,I1,rx,q1⟩ => thn (hv pins s1 σ H1 _ I1 q1) fun w2 s2 ⟨y,H2,I2,ry,q2⟩ =>
  thn (hr pins s2 σ H2 _ I2 q2) fun ws s3 ⟨ps,H3,I3,rel,q3⟩ => ⟨(x,y) :: ps,H3,I3,.cons ⟨rx,ry⟩ rel,q3⟩)
def jH (kvs more : List (Key × V)) : List (Key × V):=more.foldl (fun acc kv => putK acc kv.1 kv.2) kvs
theorem KV.merge : ∀ {more : List (Key × V)} {rs : List (Key × Value)} {kvs : List (Key × V)} {vs : List (Key × Value)},KV more rs -> KV kvs vs -> KV (jH kvs more) (merged vs rs):=by
 intro more rs kvs vs r
 unfold KV at r
 induction r generalizing kvs vs with
 | nil => intro q; exact q
 | @cons p q ps qs h t ih =>
  intro r0
  have e : KV (putK kvs p.1 p.2) (stored vs q.1 q.2):=by
   have:=r0.put p.1 h.2
   rw [<- h.1]; exact this
  exact ih e
theorem kI : ∀ (more kvs : List (Key × V)),(jH kvs more).length <= kvs.length + more.length
 | [],kvs => by show kvs.length <= kvs.length + 0; omega
 | p :: r,kvs => by
  have h1:=kI r (putK kvs p.1 p.2)
  have h2:=kc kvs p.1 p.2
  show (jH (putK kvs p.1 p.2) r).length <= _
  rw [List.length_cons]; omega
theorem xM {P : Program} {w : World} : ∀ {kvs : List (Key × V)} {ws : List (Value × Value)},VV (kvs.map fun kv => (kV kv.1,kv.2)) ws -> ∃ rs,Carries (aX P w) ws rs /\ KV kvs rs
 | [],_,r => by rw [List.map_nil] at r; cases r; exact ⟨[],True.intro,.nil⟩
 | p :: kvs,_,r => by
  rw [List.map_cons] at r
  cases r with
  | @cons a b as bs h t =>
   obtain ⟨rs,c,q⟩:=xM (P:=P) (w:=w) t
   obtain ⟨b1,b2⟩:=b
   exact ⟨(p.1,b2) :: rs,⟨qt h.1,rfl,c⟩,.cons ⟨rfl,h.2⟩ q⟩
def JY (trs : List (TE × TE)) : TE:=fun σ H Q => ∀ p,H p = none -> y9 trs σ (upd H p (.dK [])) fun ps H2 => H2 p = some (.dK []) /\ ∃ kvs : List (Key × V),ps = kvs.map (fun kv => (kV kv.1,kv.2)) /\ kvs.length <= 15 /\ Q (.ref p) (upd H2 p (.dK (jH [] kvs)))
theorem KO {X : Cx} {pos : Pos} {keys : List (Option Expr)} {values : List Expr} {trs : List (TE × TE)} (h : PPs X pos keys values trs) (hall : keys.all (·.isSome) = true) (hl : keys.length = values.length) (h0 : keys ≠ [])
  (h15 : keys.length <= 15) : PE X (.Dict keys values pos) (JY trs):=by
 intro pins s σ H Q I q
 have hn:=I.hok.fresh (Nat.le_refl s.heap.objs.size)
 have I1:=I.laid (a:=s.heap.objs.size) (o:=.dK []) (h' := s.heap.push { cls:=.type "dict",data:=.dict #[] }) (t' := s.toks) (fun _ _ q => Heap.get?_push_of_some _ q) (Nat.le_refl _) (xX s.heap I.big)
 refine wpAny_Dict_walk (knd:=aX X.prog X.w) hall hl h0 h15 (thn (h pins _ σ _ _ I1 (q _ hn)) fun ws s2 ⟨ps,H2,I2,rel,e,kvs,ep,lk,q2⟩ => ?_)
 subst ep
 obtain ⟨rs,c,rk⟩:=xM (P:=X.prog) (w:=X.w) rel
 obtain ⟨z,hd,vs0,r0,dd⟩:=Gq I2.hok e
 cases r0
 refine ⟨rs,c,dd,fun h' dd' hs => ⟨.ref s.heap.objs.size,_,?_,rfl,q2⟩⟩
 have hz : (jH [] kvs).length <= sizeLine:=by
  have h1:=kI kvs []
  rw [List.length_nil] at h1
  rw [sizeLine_eq]; omega
 have he : ∃ q,h'.get? s.heap.objs.size = some q:=let ⟨q,_,_,hq,_⟩:=dd'; ⟨q,hq⟩
 exact pG I2 (by rw [e]; exact True.intro) hs he (BK hz hd (rk.merge .nil) dd')
structure M1 (X : Cx) (o : Expr) (m : Str) (apos : Pos) (e : Expr) (cpos : Pos) : Prop where
 base : attributeBase o m X.env (eval o X.env) = eval o X.env
 few : ((backTo cpos (starEach [e] X.env)).all (fun x => !x.1) && (backToKw cpos (keywordEach [] X.env)).all (fun x => x.1.isSome)
  && decide (([e] : List Expr).length + ([] : List Keyword).length + (if ([] : List Keyword).isEmpty then 0 else 1) < 30)) = true
 line : (apos.endLine == cpos.line) = true
 trees : backTo cpos (starEach [e] X.env) = [(false,eval e X.env)]
structure M2 (X : Cx) (o : Expr) (m : Str) (apos : Pos) (e f : Expr) (cpos : Pos) : Prop where
 base : attributeBase o m X.env (eval o X.env) = eval o X.env
 few : ((backTo cpos (starEach [e,f] X.env)).all (fun x => !x.1) && (backToKw cpos (keywordEach [] X.env)).all (fun x => x.1.isSome)
  && decide (([e,f] : List Expr).length + ([] : List Keyword).length + (if ([] : List Keyword).isEmpty then 0 else 1) < 30)) = true
 line : (apos.endLine == cpos.line) = true
 trees : backTo cpos (starEach [e,f] X.env) = [(false,eval e X.env),(false,eval f X.env)]
def IsD (H : Hp) (a : Addr) : Prop:=(∃ kvs,Rd H a (.dK kvs)) \/ ∃ kvs,Rd H a (.dT kvs)
theorem Fm {X : Cx} {pins : List (Addr × Obj)} {σ : St} {H : Hp} {s : Shared} {a : Addr} (I : Inv X pins σ H s) (d : IsD H a) :
  s.TypeIs (.ref a) "dict" /\ (∀ b,Value.ref a = .ref b -> ∃ ob,s.heap.get? b = some ob /\ ob.dict = none) /\ (a == sysModules) = false:=by
 rcases d with ⟨kvs,e⟩ | ⟨kvs,e⟩
 ·obtain ⟨_,hd,vs,_,dd⟩:=sA I.hok e
  refine ⟨dd.typeIs,fun b q => ?_,hd⟩
  cases q
  obtain ⟨ob,_,_,h1,h2,_⟩:=dd
  exact ⟨ob,h1,h2.2.1⟩
 ·obtain ⟨_,hd,xs,_,dd⟩:=vf I.hok e
  refine ⟨dd.typeIs,fun b q => ?_,hd⟩
  cases q
  obtain ⟨ob,_,_,h1,h2,_⟩:=dd
  exact ⟨ob,h1,h2.2.1⟩
section
variable {X : Cx} {pins : List (Addr × Obj)} {σ : St} {H : Hp} {s : Shared} {a : Addr} {y d : V} {u r : Value} {o : Option V} {A : Around} {E : Value -> Shared -> Prop}
theorem LX {Q : Value -> Shared -> Prop} (hu : A.units + 1 < cLine) (I : Inv X pins σ H s) (g : DGet H a y o) (ry : RelV y u) (h : ∀ w' s',Inv X pins σ H s' -> RelV (o.getD .non) w' -> Q w' s') :
  wpAny (model X.prog X.w) A (call (.builtin "dict.get") [.ref a,u]) Q E s:=by
 rcases g with ⟨kvs,k,e,ey,l⟩ | ⟨kvs,k,b,e,ey,eb,l⟩
 ·subst ey
  obtain ⟨z,hd,vs,rel,dd⟩:=sA I.hok e
  refine call_meetsIn PySem.F.slot_dict_get dd.typeIs PySem.F.entry_dict_get (PySem.F.args_dict_get_2 _ _) (meets_dict_get (aX X.prog X.w) a (qt ry) hd) ⟨_,dd.mapOf,h _ _ (I.tok _) ?_⟩
  rw [l]
  exact (rel.val k).getD rfl
 ·subst ey
  cases (show u = Value.ref b from ry)
  obtain ⟨z,hd,xs,rel,dd⟩:=vf I.hok e
  refine call_meetsIn PySem.F.slot_dict_get dd.typeIs PySem.F.entry_dict_get (PySem.F.args_dict_get_2 _ _) (meetsH_dict_get (tupleKind (aX X.prog X.w)) a b hd) ⟨tupleKind_room_in1 hu,k,xs,oG I.hok eb,dd,h _ _ (I.tok _) ?_⟩
  rw [l]
  exact (rel.val k).getD rfl
theorem LY {Q : Value -> Shared -> Prop} (hu : A.units + 1 < cLine) (I : Inv X pins σ H s) (g : DGet H a y o) (ry : RelV y u) (rd : RelV d r) (h : ∀ w' s',Inv X pins σ H s' -> RelV (o.getD d) w' -> Q w' s') :
  wpAny (model X.prog X.w) A (call (.builtin "dict.get") [.ref a,u,r]) Q E s:=by
 rcases g with ⟨kvs,k,e,ey,l⟩ | ⟨kvs,k,b,e,ey,eb,l⟩
 ·subst ey
  obtain ⟨z,hd,vs,rel,dd⟩:=sA I.hok e
  refine call_meetsIn PySem.F.slot_dict_get dd.typeIs PySem.F.entry_dict_get (PySem.F.args_dict_get_3 _ _ _) (meets_dict_get_default (aX X.prog X.w) a (qt ry) hd r) ⟨_,dd.mapOf,h _ _ (I.tok _) ?_⟩
  rw [l]
  exact (rel.val k).getD rd
 ·subst ey
  cases (show u = Value.ref b from ry)
  obtain ⟨z,hd,xs,rel,dd⟩:=vf I.hok e
  refine call_meetsIn PySem.F.slot_dict_get dd.typeIs PySem.F.entry_dict_get (PySem.F.args_dict_get_3 _ _ _) (meetsH_dict_get_default (tupleKind (aX X.prog X.w)) a b hd r) ⟨tupleKind_room_in1 hu,k,xs,oG I.hok eb,dd,h _ _ (I.tok _) ?_⟩
  rw [l]
  exact (rel.val k).getD rd
end
def FT (td ty : TE) : TE:=fun σ H Q => td σ H fun x H1 => ∃ a,x = .ref a /\ IsD H1 a /\ ty σ H1 fun y H2 => ∃ o,DGet H2 a y o /\ Q (o.getD .non) H2
def ME (td ty tx : TE) : TE:=fun σ H Q => td σ H fun x H1 => ∃ a,x = .ref a /\ IsD H1 a /\ ty σ H1 fun y H2 => tx σ H2 fun z H3 => ∃ o,DGet H3 a y o /\ Q (o.getD z) H3
section
variable {X : Cx} {o e f : Expr} {apos cpos : Pos} {td ty tx : TE}
theorem JC (hu : X.A.units + 1 < cLine) (ho : PE X o td) (he : PE X e ty) (m : M1 X o "get" apos e cpos) : PE X (.Call (.Attribute o "get" apos) [e] [] cpos) (FT td ty):=by
 intro pins s σ H Q I h
 refine wpAny_Call_method m.base m.few m.line PySem.F.plainAttrs_dict PySem.F.slot_dict_get PySem.F.type_dict_get (thn (ho pins s σ H _ I h) fun u s1 ⟨x,H1,I1,rx,a,ex,d,q1⟩ => ?_)
 subst ex
 obtain rfl : u = Value.ref a:=rx
 obtain ⟨t1,t2,_⟩:=Fm I1 d
 refine ⟨t1,t2,?_⟩
 rw [m.trees]
 refine Calls.callWith_builtin rfl (Calls.evalArgs_plain (Calls.spliced_cons (thn (he pins s1 σ H1 _ I1 q1) fun iv s2 ⟨y,H2,I2,ry,ov,g,q2⟩ => Calls.spliced_nil ?_)))
 exact LX hu I2 g ry fun w' s3 I3 rw' => ⟨_,H2,I3,rw',q2⟩
theorem JD (hu : X.A.units + 1 < cLine) (ho : PE X o td) (he : PE X e ty) (hf : PE X f tx) (m : M2 X o "get" apos e f cpos) : PE X (.Call (.Attribute o "get" apos) [e,f] [] cpos) (ME td ty tx):=by
 intro pins s σ H Q I h
 refine wpAny_Call_method m.base m.few m.line PySem.F.plainAttrs_dict PySem.F.slot_dict_get PySem.F.type_dict_get (thn (ho pins s σ H _ I h) fun u s1 ⟨x,H1,I1,rx,a,ex,d,q1⟩ => ?_)
 subst ex
 obtain rfl : u = Value.ref a:=rx
 obtain ⟨t1,t2,_⟩:=Fm I1 d
 refine ⟨t1,t2,?_⟩
 rw [m.trees]
 refine Calls.callWith_builtin rfl (Calls.evalArgs_plain (Calls.spliced_cons (thn (he pins s1 σ H1 _ I1 q1) fun iv s2 ⟨y,H2,I2,ry,q2⟩ =>
  Calls.spliced_cons (thn (hf pins s2 σ H2 _ I2 q2) fun fv s3 ⟨z,H3,I3,rz,ov,g,q3⟩ => Calls.spliced_nil ?_))))
 exact LY hu I3 g ry rz fun w' s4 I4 rw' => ⟨_,H3,I4,rw',q3⟩
end
section
variable {X : Cx} {pins : List (Addr × Obj)} {σ : St} {H : Hp} {s : Shared} {a : Addr} {kvs : List (Key × V)} {A : Around} {E : Value -> Shared -> Prop}
end
section
variable {X : Cx} {pins : List (Addr × Obj)} {σ : St} {H : Hp} {s : Shared} {a : Addr} {y : V} {u : Value} {A : Around} {E : Value -> Shared -> Prop}
end
end L2
namespace L2
open PySem PySem.Spec PyProof.Rows
section
variable {κ : Type} [DecidableEq κ]
theorem sU : ∀ {l : List κ} {k : κ},l.Nodup -> ¬ k ∈ l -> (l ++ [k]).Nodup
 | [],k,_,_ => by simp
 | a :: r,k,h,hk => by
  obtain ⟨h1,h2⟩:=List.nodup_cons.mp h
  show (a :: (r ++ [k])).Nodup
  refine List.nodup_cons.mpr ⟨fun m => ?_,sU h2 fun m => hk (List.mem_cons.mpr (Or.inr m))⟩
  rcases List.mem_append.mp m with q | q
  ·exact h1 q
  ·exact hk (List.mem_cons.mpr (Or.inl (List.mem_singleton.mp q).symm))
end
end L2
set_option Elab.async false
set_option linter.all false
set_option maxRecDepth 100000
namespace PySem
open Sem (wp)
open Builtin
end PySem
namespace L2
open PySem PySem.Spec PyProof.Rows
section
variable {X : Cx}
end
inductive Pl (H : Hp) : V -> Prop where
 | non : Pl H .non
 | bl (b : Bool) : Pl H (.bl b)
 | int (i : Int) : Pl H (.int i)
 | str (x : Str) : Pl H (.str x)
 | lst {a : Addr} {xs : List V} (e : H a = some (.lst xs)) : Pl H (.ref a)
 | tup {a : Addr} {xs : List V} (e : H a = some (.tup xs)) : Pl H (.ref a)
 | dK {a : Addr} {kvs : List (Key × V)} (e : H a = some (.dK kvs)) : Pl H (.ref a)
structure PEW (X : Cx) (e : Expr) (t : TE) : Prop where
 out : PE X e t
structure PAW (X : Cx) (es : List Expr) (t : TA) : Prop where
 out : PA X es t
structure PTW (X : Cx) (e : Expr) (t : TT) : Prop where
 out : PT X e t
structure PSW (X : Cx) (s : Stmt) (t : TS) : Prop where
 out : PS X s t
structure PSsW (X : Cx) (s : List Stmt) (t : TS) : Prop where
 out : PSs X s t
section
variable {X : Cx} {a b e : Expr} {es : List Expr} {ta tb te : TE} {t : TA} {pos : Pos}
theorem ze : PAW X [] JZ:=⟨ag⟩
theorem bA (ha : PEW X e te) (hr : PAW X es t) (hs : starEach (e :: es) X.env = (false,eval e X.env) :: starEach es X.env:=by rfl) : PAW X (e :: es) (AU te t):=⟨aa ha.out hr.out hs⟩
theorem J5 (h : PAW X es t) : PEW X (.List es pos) (Nu t):=⟨mv h.out⟩
theorem Lz {x1} (h : PAW X es t) : PEW X (.Tuple es x1 pos) (NA t):=⟨cw h.out⟩
theorem NC {r : R2} (hr : IxR X r) (ha : PEW X a ta) (hb : PEW X b tb) (hs : F8 b) : PEW X (.Subscript a b pos) (tOp r ta tb):=⟨aH hr ha.out hb.out hs⟩
variable {st : Stmt} {rest : List Stmt} {ts us : TS}
theorem MQ : PSsW X [] cy:=⟨aP⟩
theorem aU (h1 : PSW X st ts) (h2 : PSsW X rest us) : PSsW X (st :: rest) (Lk ts us):=⟨ak h1.out h2.out⟩
theorem u9 (h1 : PSW X st ts) : PSsW X [st] ts:=⟨ai h1.out⟩
theorem Lx (he : PEW X e te) : PSW X (.Return (some e) pos) (Nx te):=⟨ax he.out⟩
theorem Ly {i : Nat} {x : Str} {pos' : Pos} (hN : X.N.Nodup) (hi : X.N[i]? = some x) (hx : Loc X.env.scope x) (he : PEW X e te) (hs : swapsWith e (some (.Name x pos')) pos.line X.env = pure false:=by rfl) (hf : X.fn x = true \/ X.env.scope.names.lookup x = some .local:=by first | exact .inl rfl | exact .inr rfl | assumption) :
  PSW X (.Assign [.Name x pos'] e pos) (Li te (a7 i)):=⟨aC hN hi hx he.out hs hf⟩
theorem Ob {c : Expr} {a b : List Stmt} {tc : TT} {u : TS} (hc : PTW X c tc) (ha : PSsW X a ts) (hb : PSsW X b u) : PSW X (.If c a b pos) (Nr tc ts u):=⟨br hc.out ha.out hb.out⟩
theorem xJ {b : List Stmt} {R : TS -> Prop} (h : PSsW X b ts) (r : R ts) : ∃ t,PSs X b t /\ R t:=⟨ts,h.out,r⟩
end
end L2
set_option Elab.async false
set_option linter.all false
set_option maxRecDepth 100000
namespace L2
open PySem PySem.Spec PyProof.Rows
def CX1 (P : Program) (w : World) : CXT:=fun outer H s E e s' => ∃ (ea t C : Addr) (B : Heap) (H' : Hp),e = .ref ea /\ s'.os = s.os /\ AllBare s'.gens /\ Un (frs outer) [] H H' s.heap s'.heap /\ HOk P w H' B /\
 Heap.FlyingW B outer ea (.ref C) (.ref t) s'.heap /\ (∀ b o,s.heap.get? b = some o -> b ∉ frs outer -> ∃ o',B.get? b = some o') /\ H' ea = none /\ E (.ref C) none H'
theorem ObjOk.ex {P : Program} {w : World} {H : Hp} {h : Heap} {a : Addr} : ∀ {o : HO},ObjOk P w H h a o -> ∃ ob,h.get? a = some ob
 | .lst _,⟨_,_,_,_,e⟩ => ⟨_,e⟩
 | .tup _,⟨_,_,_,o,e,_⟩ => ⟨o,e⟩
 | .dK _,⟨_,_,_,_,o,_,_,e,_⟩ => ⟨o,e⟩
 | .dT _,⟨_,_,_,_,o,_,_,e,_⟩ => ⟨o,e⟩
 | .set _ _,⟨o,_,_,_,e,_⟩ => ⟨o,e⟩
 | .ins _ _ _,⟨_,_,_,e,_⟩ => ⟨_,e⟩
 | .own _,⟨o,e⟩ => ⟨o,e⟩
 | .xd _,⟨_,⟨o,_,_,e,_⟩,_⟩ => ⟨o,e⟩
 | .rng _ _,⟨_,_,_,e⟩ => ⟨_,e⟩
 | .frz _ _,⟨e,_⟩ => ⟨_,e⟩
 | .tbl _,e => ⟨_,e⟩
 | .met _ _,e => ⟨_,e⟩
 | .ext _,⟨_,⟨o,e⟩,_⟩ => ⟨o,e⟩
theorem HOk.none {P : Program} {w : World} {H : Hp} {h : Heap} {a : Addr} (x : HOk P w H h) (e : h.get? a = none) : H a = none:=by
 cases q : H a with
 | none => rfl
 | some o =>
  obtain ⟨ob,e'⟩:=(x a o q).ex
  rw [e] at e'
  cases e'
theorem HOk.less {P : Program} {w : World} {H : Hp} {h B : Heap} (x : HOk P w H h) (k : ∀ b u,(∃ o,H b = some o) -> h.get? b = some u -> B.get? b = some u) : HOk P w H B:=fun a o e =>
 (x a o e).stay (fun b u hb q => k b u (by
  rcases hb with z | z
  ·rw [z]; exact ⟨o,e⟩
  ·exact ⟨_,z⟩) q) (fun _ z => z) fun _ _ z => z
theorem Un.fly {fs : List Addr} {H H1 : Hp} {h h1 h2 B : Heap} (u : Un fs [] H H1 h h1) (stays : B.StaysIn h2) (inB : ∀ b o o1,h.get? b = some o -> h1.get? b = some o1 -> b ∉ fs -> B.get? b = some o1)
  (frame : ∀ b o,b ∈ fs -> h1.get? b = some o -> ∃ sl,h2.get? b = some { o with slots:=sl }) : Un fs [] H H1 h h2 where
 keep:=fun b o q n hb hx => stays b o (inB b o o q (u.keep b o q n hb hx) hb)
 slot:=fun b o q n hb hx => by
  obtain ⟨sl,e⟩:=u.slot b o q n hb hx
  obtain ⟨sl',e'⟩:=frame b _ hb e
  exact ⟨sl',e'⟩
 free:=u.free
 there:=fun b o q hx => by
  obtain ⟨o',e⟩:=u.there b o q hx
  by_cases hb : b ∈ fs
  ·obtain ⟨sl,e'⟩:=frame b _ hb e
   exact ⟨_,e'⟩
  ·exact ⟨o',stays b o' (inB b o o' q e hb)⟩
 tups:=u.tups
 frzs:=u.frzs
 tbls:=u.tbls
section
variable {P : Program} {w : World} {K : PySem.W.Frag} {mg : Str -> Option Value} {base : Heap} {N : List Str} {qual : Str} {scope : Scope} {f : Addr} {cd : Value} {A : Around} {outer : List Env} {s : Shared} {H : Hp} {E : XK}
theorem yG (b : Addr) : b ∈ frs (envOfC qual scope s.heap.objs.size f cd :: outer) ↔ b = s.heap.objs.size \/ b ∈ frs outer:=by
 unfold frs
 rw [List.filterMap_cons]
 show b ∈ (s.heap.objs.size :: _) ↔ _
 rw [List.mem_cons]
end
end L2
set_option Elab.async false
set_option linter.all false
set_option maxRecDepth 100000
namespace L2
open PySem PySem.Spec PyProof.Rows
abbrev VEm : List Value:=[.type "ValueError",.type "Exception",.type "BaseException",.type "object"]
section
variable {X : Cx} {x : Str} {j k : Nat} {ps : List Str} {dvs : List V} {sp : Sp} {p pos cpos : Pos} {e : Expr} {es : List Expr} {t : TA} {C : Addr} {E : XK}
end
structure DefX (P : Program) (w : World) (K : PySem.W.Frag) (mg : Str -> Option Value) (base : Heap) (x : Str) (k : Nat) (ps : List Str) (dvs : List V) (sp : Sp) : Prop where
 ex : ∃ (f : Addr) (fd : FuncData) (ds : List Value),mg x = some (.ref f) /\ PySem.W.keepIn K (.ref f) = true /\ Vals dvs ds /\ Binds K fd ps ds /\ FnOk P w K mg base (CX1 P w) k f fd ps sp
section
variable {X : Cx} {x : Str} {j k : Nat} {ps : List Str} {dvs : List V} {sp : Sp} {p pos : Pos} {e : Expr} {es : List Expr} {t : TA} {E : XK}
end
section
variable {P : Program} {w : World} {K : PySem.W.Frag} {mg : Str -> Option Value} {base : Heap}
end
section
variable {X : Cx} {e v1 v2 : Expr} {es rest : List Expr} {pos : Pos} {te : TE} {n : Nat}
abbrev TF:=St -> Hp -> (Str -> Hp -> Prop) -> Prop
def PF (X : Cx) (e : Expr) (t : TF) : Prop := ∀ (pins : List (Addr × Obj)) (s : Shared) (σ : St) (H : Hp) (Q : Str -> Hp -> Prop),Inv X pins σ H s -> t σ H Q ->
 wpAny (model X.prog X.w) X.A (eval e X.env) (fun u s' => ∃ x tk H',u = .str x tk /\ Inv X pins σ H' s' /\ x.length <= 1000 /\ Q x H') X.xe s
theorem Mr {x : Str} {k : Nat} {pos : Pos} (hx : x.length <= 1000:=by decide) : PF X (.Constant (.str x) k pos) (fun _ H Q => Q x H):=fun pins s σ H Q I q =>
 Calls.Constant_str (show _ from ⟨x,_,H,rfl,I.tok _,hx,q⟩)
def N8 (te : TE) : TF:=fun σ H Q => te σ H fun v H1 => (∃ x,v = .str x /\ x.length <= 1000 /\ Q x H1) \/ ∃ i : Int,v = .int i /\ i.natAbs.log2 < 1920 /\ (Str.ofString (toString i)).length <= 1000 /\ Q (Str.ofString (toString i)) H1
theorem Mq (he : PE X e te) : PF X (.FormattedValue e (-1) none pos) (N8 te):=by
 intro pins s σ H Q I h
 refine FormattedValue_plain (thn (he pins s σ H _ I h) fun u s1 ⟨v,H1,I1,r,q⟩ => ?_)
 rcases q with ⟨x,rfl,hx,q⟩ | ⟨i,rfl,hd,hx,q⟩
 ·obtain ⟨tk,rfl⟩:=(show ∃ t,u = Value.str x t from r)
  exact formatField_str (fun t' tk' => ⟨x,t',H1,rfl,I1.tok _,hx,q⟩) (Nat.le_trans hx (by decide))
 ·obtain ⟨tk,rfl⟩:=(show ∃ t,u = Value.int i t from r)
  exact formatField_int_small hd ⟨_,_,H1,rfl,I1.tok _,hx,q⟩
def PFs (X : Cx) (n : Nat) (es : List Expr) (t : TF) : Prop := ∀ (pins : List (Addr × Obj)) (s : Shared) (σ : St) (H : Hp) (Q : Str -> Hp -> Prop) (out : Str),out.length <= n -> Inv X pins σ H s -> t σ H Q ->
 wpAny (model X.prog X.w) X.A (joinParts out (evalEach es X.env)) (fun u s' => ∃ x tk H',u = .str x tk /\ Inv X pins σ H' s' /\ Q x H') X.xe s
def Nq : TF:=fun _ H Q => ∀ x,Q x H
def MG (t1 t2 : TF) : TF:=fun σ H Q => t1 σ H fun _ H1 => t2 σ H1 Q
theorem KY (hn : n <= sizeLine:=by decide) : PFs X n [] Nq:=fun pins s σ H Q out ho I h => joinParts_nil ⟨out,_,H,rfl,I.tok _,h out⟩ (Nat.le_trans ho hn)
theorem EM {t1 t2 : TF} (h1 : PF X e t1) (h2 : PFs X (n + 1000) es t2) (hn : n + 1000 <= sizeLine:=by decide) : PFs X n (e :: es) (MG t1 t2):=by
 intro pins s σ H Q out ho I h
 refine joinParts_cons (thn (h1 pins s σ H _ I h) fun u s1 ⟨x,tk,H1,hu,I1,hx,q⟩ => ?_)
 subst hu
 have hl : (out ++ x).length <= n + 1000:=by rw [strLen_append]; omega
 exact ⟨Nat.le_trans hl hn,h2 pins s1 σ H1 Q (out ++ x) hl I1 q⟩
def Nt (t : TF) : TE:=fun σ H Q => t σ H fun x H1 => Q (.str x) H1
theorem KR {t : TF} (h : PFs X 0 (v1 :: v2 :: rest) t) : PE X (.JoinedStr (v1 :: v2 :: rest) pos) (Nt t):=by
 intro pins s σ H Q I q
 exact JoinedStr_many (thn (h pins s σ H _ Str.empty (by decide) I q) fun u s1 ⟨x,tk,H1,hu,I1,q1⟩ => ⟨.str x,H1,I1,⟨tk,hu⟩,q1⟩)
end
end L2
set_option Elab.async false
set_option linter.all false
set_option maxRecDepth 100000
namespace L2
open PySem PySem.Spec PySem.W PySem.Builtin PySem.Builtin.Getset_descriptor
structure XCls (K : PySem.W.Frag) (C : Addr) : Prop where
 ga : findIn K (.ref C) "__getattribute__" = some (some (.builtin "BaseException.__getattribute__"))
 gt : findIn K (.ref C) "__getattr__" = some none
 cl : findIn K (.ref C) "__class__" = some (some (.builtin "object.__class__"))
 gg : specialIn K (.builtin "object.__class__") "__get__" = some (some (.builtin "getset_descriptor.__get__"))
 tk : takesIn K (.builtin "object.__class__") = some true
 ob : mroIn K C (.type "object") = some true
 be : mroIn K C (.type "BaseException") = some true
 ci : (clsIn K C).isSome = true
section
variable {prog : Program} {w : World} {A : Around} {E : Value -> Shared -> Prop} {s : Shared} {K : PySem.W.Frag} {ea C : Addr} {ob : Obj}
theorem IA {M : Model} {h : Heap} (c : XCls K C) (X : K.In h) : Looks M h (Builtin.ObjectAttr.find (.ref ea) (.ref C) "__class__") (.bind (.builtin "getset_descriptor.__get__") (.builtin "object.__class__")):=by
 have l1:=looks_findIn (M:=M) X c.cl
 have l2 : Looks M h (Builtin.ObjectAttr.getOf (some (.builtin "object.__class__"))) (some (.builtin "getset_descriptor.__get__")):=looks_specialIn (M:=M) X c.gg
 have l3:=looks_takesIn (M:=M) X c.tk
 have l4 : Looks M h (Builtin.ObjectAttr.dataDescriptor? (some (.builtin "object.__class__")) (some (.builtin "getset_descriptor.__get__"))) (some (.builtin "getset_descriptor.__get__",.builtin "object.__class__")):=l3.andThen .now
 unfold Builtin.ObjectAttr.find
 exact l1.andThen (l2.andThen (l4.andThen (Looks.tag .now)))
theorem Kt {tp : Value} {R : Result -> Shared -> Prop} (X : K.In s.heap) (LT : Looks (model prog w) s.heap (typeOf (.ref ea)) (.ref C)) (hm : mroIn K C (.type "object") = some true) (q : R (.ok (.ret (.ref C))) s) :
  codeAny (model prog w) A (.call (.builtin "getset_descriptor.__get__") ⟨[.builtin "object.__class__",.ref ea,tp],[]⟩) R s:=by
 have LM:=looks_mroIn (M:=model prog w) X hm
 obtain ⟨hp,gs,dr,tk,os⟩:=s
 dsimp only at LT LM
 refine codeAny_call_builtin KF.slot_gs.plain KF.entry_gs (KF.slot_gs.check _ _ _ _ _ _ _ _ KF.type_class (KF.args_gs _ _ _) ?_)
 unfold Builtin.«getset_descriptor.__get__» descrGet; rw [dga_obj]
 refine wpAny_bind (wpAny_pure ?_); unfold descrGetter descrCheckInstance descrNameAndClass isInstance
 simp only [KF.owner_class]; repeat lk
 refine ⟨Code.quiet_builtin _ (by decide +kernel),codeAny_builtin KF.entry_class ?_⟩; unfold Builtin.«object.__class__» shownTypeOf
 repeat lk
 exact q
theorem AD {M : Model} {hh : Heap} {g : Array GenState} {d : Drawn} {t : Nat} {os : OsState} {nameV : Value} {Q : Unit -> Shared -> Prop} (LB : Looks M hh (isInstance (.ref ea) (.type "BaseException")) true) (hq : Q () ⟨hh,g,d,t,os⟩) :
  wpAny M A (checkBuiltinCall "BaseException.__getattribute__" ⟨[.ref ea,nameV],[]⟩) Q E ⟨hh,g,d,t,os⟩:=by
 have hk : builtinKind "BaseException.__getattribute__" = some .slot:=by decide +kernel
 have hsplit : splitId "BaseException.__getattribute__" = some ("BaseException","__getattribute__"):=by decide +kernel
 have ha:=PySem.F.args_bexc_ga (.ref ea) nameV
 simp only [checkBuiltinCall,hk,hsplit]
 refine wpAny_bind (LB.at ?_)
 simp only [Bool.not_true,Bool.false_eq_true,if_false]
 repeat (any_goals (first | assumption | wp_step))
theorem Hd {Q : Option Value -> Shared -> Prop} (c : XCls K C) (X : K.In s.heap) (LT : ∀ M : Model,Looks M s.heap (typeOf (.ref ea)) (.ref C)) (h : Q (some (.ref C)) { s with toks:=s.toks + 1 }) :
  wpAny (model prog w) A (getAttr? (.ref ea) "__class__") Q E s:=by
 obtain ⟨hh,g,d,t,os⟩:=s
 have L0:=LT (model prog w)
 have L1:=looks_findIn (M:=model prog w) X c.ga
 have L2:=looks_findIn (M:=model prog w) X c.gt
 have LF:=IA (M:=model prog w) (ea:=ea) c X
 have LB : Looks (model prog w) hh (isInstance (.ref ea) (.type "BaseException")) true:=L0.andThen (looks_mroIn (M:=model prog w) X c.be)
 unfold getAttr? getAttrBy? getAttrBy
 refine wpAny_bind (wpAny_mkText (wpAny_bind (wpAny_attempt (wpAny_holding (wpAny_bind (L0.at (wpAny_bind (L1.at ?_))))))))
 have ne : (onTheHeap (Value.ref C) && Value.builtin "BaseException.__getattribute__" == Value.builtin "object.__getattribute__") = false:=by
  have : (Value.builtin "BaseException.__getattribute__" == Value.builtin "object.__getattribute__") = false:=by decide +kernel
  rw [this]; rfl
 dsimp only
 rw [ne]
 simp only [Bool.false_eq_true,if_false]
 unfold getAttrByItsOwn hookBefore
 rw [if_pos (show onTheHeap (Value.ref C) = true from rfl)]
 refine wpAny_bind (L2.at ?_)
 refine wpAny_bind (wpAny_attempt (wpAny_holding ?_))
 unfold callGetattribute
 simp only [Bool.false_and,Bool.false_eq_true,if_false]
 unfold boundAndCalled
 rw [PySem.F.attrBase_ValueError.ga.bind (.ref ea)]
 refine wpAny_bind (wpAny_pure ?_)
 have hk : builtinKind "BaseException.__getattribute__" = some .slot:=by decide +kernel
 have hsplit : splitId "BaseException.__getattribute__" = some ("BaseException","__getattribute__"):=by decide +kernel
 have ha:=PySem.F.args_bexc_ga (.ref ea) (.str "__class__" t)
 refine wpAny_call (codeAny_call_builtin PySem.F.attrBase_ValueError.ga.plain PySem.F.entry_bexc_ga ?_)
 refine AD LB ?_
 unfold Builtin.«object.__getattribute__»
 refine wpAny_bind (wpAny_pure ?_)
 dsimp only
 refine wpAny_bind ?_
 refine (show wpAny _ _ (pure _) _ _ _ from wpAny_pure ?_)
 refine wpAny_bind (L0.at ?_)
 refine wpAny_bind (LF.at ?_)
 dsimp only
 show wpAny _ _ (holding [Value.builtin "object.__class__"] (call (.builtin "getset_descriptor.__get__") [.builtin "object.__class__",.ref ea,.ref C]) >>= ret) _ _ _
 refine wpAny_bind (wpAny_holding (wpAny_call (Kt (s:=⟨hh,g,d,t + 1,os⟩) X L0 c.ob ?_)))
 refine wpAny_pure ?_
 exact handed_on rfl (wpAny_pure h)
def ExAt (ea C : Addr) (h : Heap) : Prop := ∃ ob vs,h.get? ea = some ob /\ ob.cls = .ref C /\ ob.data = .fields vs
theorem ExAt.ty {M : Model} {h : Heap} (p : ExAt ea C h) : Looks M h (typeOf (.ref ea)) (.ref C):=by
 obtain ⟨ob,vs,e,c,_⟩:=p
 exact c ▸ (Looks.ld e).andThen .now
theorem Ek (c : XCls K C) : KitX K (.ref ea) (.ref C) (ExAt ea C) where
 ty:=fun M h _ p => p.ty
 it:=fun M h X _ => by
  obtain ⟨cd,e⟩:=Option.isSome_iff_exists.mp c.ci
  unfold clsIn at e
  split at e
  ·rename_i ho
   intro A' Q' E' s' k q
   unfold isType loadHead; exact wpAny_bind (wpAny_loadPart (k _ _ (X _ _ ho)) (wpAny_pure q))
  ·cases e
 ne:=fun h tp dd its n sl X htp => by
  obtain ⟨cd,e⟩:=Option.isSome_iff_exists.mp c.ci
  refine Bool.eq_false_iff.mpr fun q => ?_
  cases (show C = tp from Value.ref.inj (beq_iff_eq.mp q))
  unfold clsIn at e
  split at e
  ·rename_i ho; cases (X _ _ ho).symm.trans htp
  ·cases e
 ca:=fun X p k => Hd c X (fun M => p.ty) k
end
end L2
set_option Elab.async false
set_option linter.all false
set_option maxRecDepth 100000
namespace L2
open PySem PySem.Spec PyProof.Rows
abbrev Cx.held (X : Cx) (ea : Addr) : Cx:={ X with A:=X.A.mark (some (.ref ea)),calm:=false,xe:=fun _ _ => False }
section
variable {X : Cx} {pins : List (Addr × Obj)} {σ : St} {H : Hp} {s : Shared} {E : XK} {ea : Addr}
theorem mark_frames {A : Around} {v : Option Value} : (A.mark v).frames = A.frames:=by first | rfl | simp [Around.mark]
theorem Cx.Ok.held (ok : X.Ok) : (X.held ea).Ok:=
 ⟨ok.mod,ok.kind,ok.glob,ok.blt,ok.above,ok.inj,ok.has,ok.cab,(fun z => by cases z),mark_frames.trans ok.frames,ok.stk,ok.exf,ok.bs,ok.bsz,ok.noex,ok.exfs,ok.funs,ok.frf⟩
theorem Inv.held (I : Inv X pins σ H s) : Inv (X.held ea) pins σ H s:=⟨I.ok.held,I.os,I.bare,I.base,I.loc,I.cell,I.free,I.freeC,I.pin,I.hok,I.len⟩
theorem Inv.unheld (ok : X.Ok) (I : Inv (X.held ea) pins σ H s) : Inv X pins σ H s:=⟨ok,I.os,I.bare,I.base,I.loc,I.cell,I.free,I.freeC,I.pin,I.hok,I.len⟩
abbrev TXE:=St -> Hp -> VK -> XK -> Prop
abbrev TX:=Ends -> XK -> St -> Hp -> Prop
end
section
variable {X : Cx} {x : Str} {j k : Nat} {ps : List Str} {dvs : List V} {sp : Sp} {p pos : Pos} {e : Expr} {es : List Expr} {t : TA} {E : XK}
def MH (sp : Sp) (dvs : List V) (t : TA) : TXE:=fun σ H Q E => t σ H fun vs H1 => sp (vs ++ dvs) H1 Q E
def MJ (t : TXE) : TX:=fun D E σ H => t σ H (fun _ H1 => D.nx σ H1) E
def NB (i : Nat) (t : TXE) : TX:=fun D E σ H => t σ H (fun v H1 => D.nx (σ.set i (some v)) H1) E
end
section
variable {P : Program} {w : World} {fs : List Addr} {H H1 : Hp} {h h1 : Heap} {ea C : Addr} {o : HO}
theorem Un.more (u : Un fs [] H H1 h h1) (n : h.get? ea = none) (z : H ea = none) : Un fs [] H (upd H1 ea o) h h1 where
 keep:=u.keep
 slot:=u.slot
 free:=fun b ob q e hx => by
  rw [aj (fun c => by rw [c,n] at q; cases q)]
  exact u.free b ob q e hx
 there:=u.there
 tups:=fun b xs q => by rw [aj (aq q z)]; exact u.tups b xs q
 frzs:=fun b ob v q => by rw [aj (aq q z)]; exact u.frzs b ob v q
 tbls:=fun b ps q => by rw [aj (aq q z)]; exact u.tbls b ps q
end
section
variable {X : Cx} {pins : List (Addr × Obj)} {σ : St} {H : Hp} {s : Shared} {E : XK}
theorem HU {M : Model} {A : Around} {EE : Value -> Shared -> Prop} {i : Nat} {x : Str} {v : V} {pos : Pos} {Q : Unit -> Shared -> Prop} (I : Inv X pins σ H s) (hN : X.N.Nodup) (hi : X.N[i]? = some x) (hx : X.env.scope.names.lookup x = some .local)
  (h : ∀ s',Inv X pins (σ.set i none) H s' -> Q () s') : wpAny M A (do bindName X.env x .none; unbindBehindTheSuite X.env x pos) Q EE s:=by
 have hcls : (X.env.scope.kind == .class || (X.env.scope.kind == .module && X.env.locals != X.env.globals)) = false:=by rw [I.ok.kind]; rfl
 have hiσ : i < σ.length:=by rw [I.len]; exact (List.getElem?_eq_some_iff.mp hi).1
 refine wpAny_bind (wpAny_bindName (pB I hN hi (.inl hx) (v:=.non) rfl (fun s1 I1 => ?_) (.inr hx)))
 unfold unbindBehindTheSuite
 refine wpAny_onRaise ?_
 obtain ⟨m,hn,hl⟩:=id I1.loc
 have hv : m x = some .none:=by
  obtain ⟨u,ru,lk⟩:=hl i x .non hi (List.getElem?_set_self hiσ) (.inl hx)
  cases (show u = Value.none from ru)
  rcases lk with ⟨_,e⟩ | ⟨k,_⟩
  ·exact e
  ·have k0 : X.env.kindOf x = some .local:=hx
   rw [k0] at k
   rcases k with k | k <;> cases k
 refine wpAny_unbindName_local hx hn hv hcls fun h' u hn' hs => h _ ?_
 have cne:=I1.cne
 obtain ⟨oL,_,_,hoL,_⟩:=id hn
 refine ⟨I1.ok,I1.os,I1.bare,⟨fun b o e n hb hz => ?_,fun b o e n hb hz => ?_,I1.base.free,fun b o e hz => ?_,I1.base.tups,I1.base.frzs,I1.base.tbls⟩,⟨_,hn',fun j y v' e1 e2 e3 => ?_⟩,fun y c e => ?_,I1.free,I1.freeC,fun p hp => ?_,fun b ob e => ?_,?_⟩
 ·exact (hs.2 b (Nat.ne_of_lt (Nat.lt_of_lt_of_le (Heap.lt_size e) I1.ok.above))).trans (I1.base.keep b o e n hb hz)
 ·obtain ⟨sl,f⟩:=I1.base.slot b o e n hb hz
  exact ⟨sl,(hs.2 b (Nat.ne_of_lt (Nat.lt_of_lt_of_le (Heap.lt_size e) I1.ok.above))).trans f⟩
 ·obtain ⟨o',f⟩:=I1.base.there b o e hz
  exact ⟨o',(hs.2 b (Nat.ne_of_lt (Nat.lt_of_lt_of_le (Heap.lt_size e) I1.ok.above))).trans f⟩
 ·by_cases hj : j = i
  ·subst hj
   rw [List.getElem?_set_self hiσ] at e2
   cases e2
  ·rw [List.getElem?_set_ne (Ne.symm hj)] at e2
   obtain ⟨u',r',q⟩:=hl j y v' e1 (by rw [List.getElem?_set_ne (Ne.symm hj)]; exact e2) e3
   refine ⟨u',r',?_⟩
   rcases q with ⟨k,e⟩ | ⟨k,c,e,z⟩
   ·refine .inl ⟨k,?_⟩
    have : y ≠ x:=fun e => hj (yx hN e1 (e ▸ hi))
    simp [this,e]
   ·exact .inr ⟨k,c,e,z.sameBut hs (cne y c e)⟩
 ·obtain ⟨w',z⟩:=I1.cell y c e
  exact ⟨w',z.sameBut hs (cne y c e)⟩
 ·obtain ⟨e,n,ne,nf,d⟩:=I1.pin p hp
  exact ⟨(hs.2 p.1 ne).trans e,n,ne,nf,d⟩
 ·refine (I1.hok b ob e).stay (fun c w' hc q => (hs.2 c ?_).trans q) (fun _ q => q) fun _ _ q => q
  rintro rfl
  rcases hc with rfl | hc
  ·rw [I1.free] at e; cases e
  ·rw [I1.free] at hc; cases hc
 ·rw [List.length_set]; exact I.len
end
section
variable {X : Cx} {pins : List (Addr × Obj)} {σ : St} {H : Hp} {s s' : Shared} {E : XK} {C F : Addr} {i : Nat} {x n : Str} {np pos hpos : Pos} {body : List Stmt} {b₀ : Stmt} {suite : List Stmt} {tb : TX} {ts : TS}
theorem land {h5 : Heap} {B : Heap} {H' : Hp} (I : Inv X pins σ H s) (os : s'.os = s.os) (bare : AllBare s'.gens) (un : Un (frs X.stack) [] H H' s.heap s'.heap) (hok : HOk X.prog X.w H' B)
  (there : ∀ b o,s.heap.get? b = some o -> b ∉ frs X.stack -> ∃ o',B.get? b = some o') (f0 : B.StaysIn s'.heap) (f5 : B.StaysIn h5) (sm : s'.heap.UpToSlots h5) : Un (frs X.stack) [] H H' s.heap h5 /\ HOk X.prog X.w H' h5:=by
 have hokS : HOk X.prog X.w H' s'.heap:=hok.kept fun b u q => f0 b u q
 have J : Inv X pins σ H' s' := I.call' (ch:=[]) os un hokS bare (fun b z => by cases z)
 refine ⟨Un.fly un f5 (fun b o o1 q q1 hb => ?_) fun b o hb q => ?_,hok.kept fun b u q => f5 b u q⟩
 ·obtain ⟨o',e'⟩:=there b o q hb
  have:=f0 b o' e'
  rw [q1] at this
  cases this
  exact e'
 ·obtain ⟨_,o',e',hd⟩:=J.stack.mem hb
  rw [q] at e'
  cases e'
  exact sm b o q hd
end
end L2
set_option Elab.async false
set_option linter.all false
set_option maxRecDepth 100000
namespace L2
open PySem PySem.Spec PyProof.Rows
structure RoomH (k : Nat) (A : Around) : Prop where
 dp : A.depth + 3 * k + 5 < recursionLimit
 un : A.units + 16 * k + 200 < cLine
theorem RoomH.mono {j k : Nat} {A : Around} (r : RoomH k A) (h : j <= k) : RoomH j A:=⟨by have:=r.dp; omega,by have:=r.un; omega⟩
theorem RoomH.deeper {k : Nat} {A : Around} (r : RoomH (k + 1) A) (env : Env) : RoomH k (A.deeper env):=
 ⟨by have:=r.dp; show A.depth + 1 + 3 * k + 5 < _; omega,by have:=r.un; show A.units + 3 + 16 * k + 200 < _; omega⟩
theorem RoomH.depth {k : Nat} {A : Around} (r : RoomH k A) : A.depth < recursionLimit:=by have:=r.dp; omega
theorem Room.held {k : Nat} {A : Around} {v : Option Value} (r : Room k A) : RoomH k (A.mark v):=
 ⟨by have:=r.dp; first | exact this | (simp only [Around.mark]; exact this),by have:=r.un; first | exact this | (simp only [Around.mark]; exact this)⟩
structure FnOkH (P : Program) (w : World) (K : PySem.W.Frag) (mg : Str -> Option Value) (base : Heap) (CX : CXT) (k : Nat) (f : Addr) (fd : FuncData) (ps : List Str) (sp : Sp) : Prop where
 len : ∀ vs H Q E,sp vs H Q E -> vs.length = ps.length
 run : ∀ (A : Around) (outer : List Env) (s : Shared) (H : Hp) (args : Args) (us : List Value) (vs : List V) (Q : VK) (E : XK),RoomH k A -> Env0 P w K mg base A outer s H -> BindsTo s fd args (ps.zip us) -> Vals vs us -> sp vs H Q E ->
  codeAny (model P w) A (.call (.ref f) args) (CR CX outer P w H s Q E) s
abbrev D9 (CX : CXT) (P : Program) (w : World) (K : PySem.W.Frag) (mg : Str -> Option Value) (base : Heap) (N : List Str) (qual : Str) (scope : Scope) (f : Addr) (cd : Value) (A : Around) (outer : List Env) (s : Shared) (H : Hp) (E : XK) : Cx:=
 { Bz CX P w K mg base N qual scope f cd A outer s H E with calm:=false }
theorem Fl {CX : CXT} {P : Program} {w : World} {K : PySem.W.Frag} {mg : Str -> Option Value} {base : Heap} {N ps : List Str} {qual : Str} {scope : Scope} {f : Addr} {cd : Value} {A : Around} {outer : List Env} {s s1 : Shared} {H : Hp} {E : XK} {us : List Value} {vs : List V}
  (S : FnScope N ps scope) (e0 : Env0 P w K mg base A outer s H) (hl : vs.length = ps.length) (r : Vals vs us)
  (x : InCallC s s.heap.objs.size (bindL (envOfC qual scope s.heap.objs.size f cd).kindOf (ps.zip us) fun _ => none) (cellsFrom (s.heap.objs.size + 1) scope.names []) (bindC (envOfC qual scope s.heap.objs.size f cd).kindOf (ps.zip us) fun _ => none) s1) :
  Inv (D9 CX P w K mg base N qual scope f cd A outer s H E) [] (start N vs) H s1:=by
 have e1 : Env0 P w K mg base { A with handled:=none } outer s H:=⟨e0.frames,e0.mod,e0.bs,e0.bsz,e0.funs,e0.frf,e0.hok,e0.bare⟩
 have I:=AJ (CX:=CX) (E:=E) (qual:=qual) (f:=f) (cd:=cd) S rfl e1 hl r x
 have ok:=I.ok
 exact ⟨⟨ok.mod,ok.kind,ok.glob,ok.blt,ok.above,ok.inj,ok.has,ok.cab,(fun z => by cases z),Around.frames_deeper e0.frames,ok.stk,ok.exf,ok.bs,ok.bsz,ok.noex,ok.exfs,ok.funs,ok.frf⟩,I.os,I.bare,I.base,I.loc,I.cell,I.free,I.freeC,I.pin,I.hok,I.len⟩
theorem L5 {CX : CXT} {P : Program} {w : World} {K : PySem.W.Frag} {mg : Str -> Option Value} {base : Heap} {k : Nat} {f : Addr} {name qual : Str} {params : Arguments} {body : List Stmt} {scope : Scope} {dV kV doc pm cdv ct oc : Value} {an od : Option Addr}
  {osl : Array (Option Value)} {N ps : List Str} {sp : Sp} (lk : K.lookup f = some ⟨oc,od,.func (PySem.W.fnOf name qual params body scope dV kV doc pm an cdv ct),osl⟩) (hcd : PySem.W.codeIn K cdv qual = true) (S : FnScope N ps scope)
  (len : ∀ vs H Q E,sp vs H Q E -> vs.length = ps.length)
  (hbody : ∀ (A : Around) (outer : List Env) (s : Shared) (H : Hp) (vs : List V) (Q : VK) (E : XK),RoomH k (A.deeper (envOfC qual scope s.heap.objs.size f cdv)) -> sp vs H Q E ->
   ∃ t,PSs (D9 CX P w K mg base N qual scope f cdv A outer s H E) body t /\ t { nx:=fun _ H' => Q .non H',rt:=Q } (start N vs) H) :
  FnOkH P w K mg base CX (k + 1) f (PySem.W.fnOf name qual params body scope dV kV doc pm an cdv ct) ps sp:=by
 refine ⟨len,fun A outer s H args us vs Q E hr e0 hb r hsp => ?_⟩
 have hl:=len _ _ _ _ hsp
 have KX : K.In s.heap:=e0.mod.kin.keeps fun b o e => (e0.bs b o e).1
 have lim : s.heap.NoLimit:=e0.mod.nolimit.keeps fun b o e => (e0.bs b o e).1
 have hkind : ∀ y ∈ ps.zip us,scope.names.lookup y.1 = some .local \/ (scope.names.lookup y.1 = some .cell /\ ((cellsFrom (s.heap.objs.size + 1) scope.names []).lookup y.1).isSome = true):=fun ⟨n,v⟩ hy => by
  rcases S.par n (List.of_mem_zip hy).1 with q | q
  ·exact .inl q
  ·exact .inr ⟨q,PySem.W.cellsFrom_some _ _ _ (.inl q)⟩
 refine codeAny_call_function hr.depth (KX _ _ lk) rfl S.co S.gen rfl (PySem.W.codeRec_of KX hcd) (hb _ _ _ _ ?_)
 refine wpAny_newFunctionEnv_cells S.kind hkind fun env he s1 x => ?_
 subst he
 refine ⟨lim.keeps x.toInCall.keep,codeAny_func ?_⟩
 obtain ⟨t,ht,hq⟩:=hbody A outer s H vs Q E (hr.deeper _) hsp
 have I : Inv (D9 CX P w K mg base N qual scope f cdv A outer s H E) [] (start N vs) H s1:=Fl S e0 hl r x
 refine wpAny_mono (ht [] s1 (start N vs) H _ I hq) (fun fl s' hs => ?_) fun e s' hs => hs
 have fin : ∀ {σ' : St} {H' : Hp} {v : V} {u : Value},Inv (D9 CX P w K mg base N qual scope f cdv A outer s H E) [] σ' H' s' -> RelV v u -> Q v H' -> CE outer P w H s Q u s' :=
  fun {σ' H' v u} J rv q => ⟨v,H',J.os,J.bare,J.base,J.hok,rv,q⟩
 cases fl with
 | ret u =>
  obtain ⟨v,σ',H',J,rv,q⟩:=hs
  exact fin J rv q
 | next =>
  obtain ⟨σ',H',J,q⟩:=hs
  exact fin (v:=V.non) (u:=Value.none) J rfl q
 | brk =>
  obtain ⟨_,_,_,q⟩:=hs
  exact False.elim q
 | cont =>
  obtain ⟨_,_,_,q⟩:=hs
  exact False.elim q
structure DefH (P : Program) (w : World) (K : PySem.W.Frag) (mg : Str -> Option Value) (base : Heap) (x : Str) (k : Nat) (ps : List Str) (dvs : List V) (sp : Sp) : Prop where
 ex : ∃ (f : Addr) (fd : FuncData) (ds : List Value),mg x = some (.ref f) /\ PySem.W.keepIn K (.ref f) = true /\ Vals dvs ds /\ Binds K fd ps ds /\ FnOkH P w K mg base CX0 k f fd ps sp
section
variable {P : Program} {w : World} {K : PySem.W.Frag} {mg : Str -> Option Value} {base : Heap}
theorem FunD.okH {x qual : Str} {st : Stmt} {dV : Value} {f : Addr} {fd : FuncData} {N ps : List Str} {k : Nat} {sp : Sp} (F : FunD K x qual st dV f fd) (S : FnScope N ps (af st)) (len : ∀ vs H Q E,sp vs H Q E -> vs.length = ps.length)
  (hbody : ∀ (cdv : Value) (A : Around) (outer : List Env) (s : Shared) (H : Hp) (vs : List V) (Q : VK) (E : XK),RoomH k (A.deeper (envOfC qual (af st) s.heap.objs.size f cdv)) -> sp vs H Q E ->
   ∃ t,PSs (D9 CX0 P w K mg base N qual (af st) f cdv A outer s H E).nox (au st) t /\ t { nx:=fun _ H' => Q .non H',rt:=Q } (start N vs) H) : FnOkH P w K mg base CX0 (k + 1) f fd ps sp:=by
 obtain ⟨oc,od,kV,doc,pm,an,cdv,ct,osl,rfl,lk,hcd⟩:=F.ex
 refine L5 lk hcd S len fun A outer s H vs Q E hr hsp => ?_
 obtain ⟨t,h,q⟩:=hbody cdv A outer s H vs Q E hr hsp
 exact ⟨t,h.nox,q⟩
end
section
variable {X : Cx} {x : Str} {j k : Nat} {ps : List Str} {dvs : List V} {sp : Sp} {p pos : Pos} {e : Expr} {es : List Expr} {t : TA}
theorem Nb (G : DefH X.prog X.w X.K X.mg X.base x k ps dvs sp) (hr : RoomH j X.A) (ha : PA X (e :: es) t) (hkj : k <= j:=by decide) (hg : Gl X x:=by rfl) (hdb : (x == ("__debug__" : Str)) = false:=by decide)
  (he : starEach (e :: es) X.env = (false,eval e X.env) :: starEach es X.env:=by rfl) (hpl : (backTo pos (starEach es X.env)).any (·.1) = false:=by rfl) :
  PE X (.Call (.Name x p) (e :: es) [] pos) (JW sp dvs E0 t):=by
 obtain ⟨f,fd,ds,hm,hk,hd,hb,F⟩:=G.ex
 intro pins s σ H Q I h
 refine wpAny_Call_Name_kw (iV I hg hm ?_ hdb)
 refine PySem.W.callWith_K (h₀:=X.base) I.ok.mod.kin hk (thn (ha pos pins s σ H _ I h) fun us s1 ⟨vs,H1,I1,r,q⟩ => ⟨I1.kIn,?_⟩) he hpl
 have r2 : Vals (vs ++ dvs) (us ++ ds):=r.append hd
 have hl : (us ++ ds).length = ps.length:=by rw [<- r2.length]; exact F.len _ _ _ _ q
 refine wpAny_call (codeAny_mono (F.run X.A X.stack s1 H1 ⟨us,[]⟩ (us ++ ds) (vs ++ dvs) Q E0 (hr.mono hkj) I1.env0 (hb s1 us I1.kIn hl) r2 q) fun r' s' hq => ?_)
 cases r' with
 | error e' => exact False.elim hq
 | ok fl =>
  cases fl with
  | ret u => exact I1.after hq
  | next => exact False.elim hq
  | brk => exact False.elim hq
  | cont => exact False.elim hq
end
section
variable {X : Cx}
end
end L2
set_option Elab.async false
set_option linter.all false
set_option maxRecDepth 100000
namespace L2
open PySem PySem.Spec PyProof.Rows
section
variable {X : Cx}
def MU : V -> Option Value
 | .ref a => some (.ref a)
 | .ty n => some (.type n)
 | _ => none
theorem Im {c : V} {cv u : Value} (e : MU c = some cv) (r : RelV c u) : u = cv:=by
 cases c <;> first | cases e
 ·exact r
 ·exact r
end
end L2
set_option Elab.async false
set_option linter.all false
set_option maxRecDepth 100000
namespace L2
open PySem PySem.Spec PyProof.Rows
section
variable {prog : Program} {w : World} {A : Around} {E : Value -> Shared -> Prop} {s : Shared} {it l S : Addr} {items : Array Value}
end
section
variable {X : Cx} {a : Expr} {ta : TA} {p p2 pos pos2 : Pos}
end
end L2
set_option Elab.async false
set_option linter.all false
set_option maxRecDepth 100000
namespace L2
open PySem PySem.Spec PyProof.Rows
theorem vn {α β : Type} {F : α -> β -> Prop} : ∀ {l₁ : List α} {l₂ : List β} {j : Nat} {q : β},Paired F l₁ l₂ -> l₂[j]? = some q -> ∃ p,l₁[j]? = some p /\ F p q
 | _,_,_,_,.nil,e => by simp at e
 | _,_,0,_,.cons r _,e => by simp at e; subst e; exact ⟨_,rfl,r⟩
 | _,_,j + 1,_,.cons _ t,e => by
  obtain ⟨p,h1,h2⟩:=vn (j:=j) t (by simpa using e)
  exact ⟨p,by simpa using h1,h2⟩
section
variable {X : Cx}
end
end L2
set_option Elab.async false
set_option linter.all false
set_option maxRecDepth 100000
namespace L2
open PySem PySem.Spec PyProof.Rows
theorem Bo {prog : Program} {w : World} {A : Around} {R : Result -> Shared -> Prop} {s : Shared} {elt target iter cond : Expr} {scope : Scope} {pos : Pos} {it acc : Value} {env : Env} (I : Nat -> Shared -> Prop)
  (turn : ∀ n s,I n s -> wpAny (model prog w) A (pyNext it) (fun r s₁ => match r with
   | none => R (.ok .next) s₁
   | some v => wpAny (model prog w) A (letOwnedTupleGo target it v) (fun _ s₁' => wpAny (model prog w) A (assign target env v) (fun _ s₂ => wpAny (model prog w) A (isTrue cond env (eval cond env)) (fun ok s₂' =>
     if ok = true then wpAny (model prog w) A (eval elt env) (fun x s₃ =>
     wpAny (model prog w) A (call (.builtin "list.append") [acc,x]) (fun _ s₄ => ∃ m,m < n /\ I m s₄) (fun _ _ => False) s₃)
     (fun _ _ => False) s₂' else ∃ m,m < n /\ I m s₂') (fun _ _ => False) s₂) (fun _ _ => False) s₁') (fun _ _ => False) s₁) (fun _ _ => False) s)
  (n : Nat) (h : I n s) :
  codeAny (model prog w) A (.compLoop (.ListComp elt [⟨target,iter,[cond],0⟩] scope pos) 0 it acc env) R s:=by
 refine codeAny_loop rfl I (fun n s hI => ?_) n h
 show wpAny _ _ ((compTurn (.ListComp elt [⟨target,iter,[cond],0⟩] scope pos) 0 it acc env).onRaise (fun x => do noteFrame x env; theTreesLotGoes x)) _ _ s
 refine wpAny_noted ?_
 rw [compTurn_list]
 refine wpAny_bind (wpAny_standAt (wpAny_bind (wpAny_mono (turn n s hI) (fun r s₁ h₁ => ?_) fun _ _ h' => h'.elim)))
 cases r with
 | none => exact wpAny_pure h₁
 | some v =>
  refine wpAny_bind (wpAny_mono h₁ (fun _ s₁' h₁' => ?_) fun _ _ h' => h'.elim)
  refine wpAny_bind (wpAny_mono h₁' (fun _ s₂ h₂ => wpAny_bind (wpAny_mono (wpAny_tests_one h₂) (fun ok s₃ h₃ => ?_) fun _ _ h' => h'.elim)) fun _ _ h' => h'.elim)
  cases ok with
  | false => exact wpAny_pure ⟨rfl,h₃⟩
  | true => exact wpAny_bind (wpAny_bind (wpAny_mono h₃ (fun x s₄ h₄ => wpAny_bind (wpAny_mono h₄ (fun _ s₅ h₅ => wpAny_pure (wpAny_pure ⟨rfl,h₅⟩)) fun _ _ h' => h'.elim)) fun _ _ h' => h'.elim))
def AY (J : It) (ix : List (Option Nat)) (g : TG) (tc : TT) (te : TE) (σ : St) (H : Hp) (Qd : Addr -> Hp -> Prop) : Prop:=
 ∀ D,H D = none -> ∃ W : Nat -> Nat -> St -> Hp -> Prop,(∃ m,W 0 m (aJ ix σ) (upd H D (.lst []))) /\ ∀ i m σ' H',W i m σ' H' ->
  (J.stop i H' /\ Qd D H') \/ (J.go i H' /\ ∀ x H2,J.yld i H' x H2 -> g x σ' H2 fun σ3 H3 => tc σ3 H3 fun b H4 => if b = true then te σ3 H4 fun y H5 => ∃ ys,H5 D = some (.lst ys) /\ ys.length < sizeLine /\ ∃ m',m' < m /\ W (i + 1) m' σ3 (upd H5 D (.lst (ys ++ [y]))) else ∃ m',m' < m /\ W (i + 1) m' σ3 H4)
section
variable {X : Cx} {pins : List (Addr × Obj)} {σ : St} {H : Hp} {s : Shared} {N : List Str} {ix : List (Option Nat)} {scope : Scope} {fp : List Addr} {tg elt iter cond : Expr} {tc : TT} {pos spos : Pos} {J : It} {it : Addr} {tn : Nat -> Heap -> Prop} {g : TG} {te : TE} {wi : TI}
theorem G9 {Qd : Addr -> Hp -> Prop} {RR : Value -> Addr -> Result -> Shared -> Prop} {E : Value -> Shared -> Prop} (I : Inv X pins σ H s) (hc : X.calm = true) (S : BlkScope X.N X.env.scope N ix scope) (T : Turn X.prog X.w X.K tg J fp it tn) (st : tn 0 s.heap) (f2 : ∀ b ∈ fp,pM X pins H b)
  (hg : ∀ C,PG (bJ X N scope fp s H C) tg g) (ht : ∀ C,PT (bJ X N scope fp s H C) cond tc) (he : ∀ C,PE (bJ X N scope fp s H C) elt te) (hW : AY J ix g tc te σ H Qd)
  (hR : ∀ D C s' H' m,Inv X pins σ H' s' -> s'.heap.Ns C m -> pM X pins H' C -> Qd D H' -> RR (.ref D) C (.ok .next) s') :
  wpAny (model X.prog X.w) X.A (newList []) (fun acc s₃ => wpAny (model X.prog X.w) X.A (newFunctionEnv scope X.env.globals (cB X.env.cells scope.names []) [] X.env.qual none .none (some X.env)) (fun cenv s₄ =>
   codeAny (model X.prog X.w) X.A (.compStart (.ListComp elt [⟨tg,iter,[cond],0⟩] scope pos) 0 (.ref it) acc { cenv with scope:=relabel scope X.env }) (RR acc cenv.locals) s₄) E s₃) E s:=by
 refine wpAny_newObj_type (wpAny_newFunctionEnv S.nocell (by intro y hy; simp at hy) (fun h₁ hns₁ hsb₁ => ?_) S.kind)
 dsimp only at hns₁ hsb₁ ⊢
 generalize hH2 : s.heap.push { cls:=.type "list",dict:=none,data:=.seq ([] : List Value).toArray } = H2 at hns₁ hsb₁ ⊢
 have hC : H2.objs.size = s.heap.objs.size + 1:=by rw [<- hH2,Heap.size_push]
 have hDC : s.heap.objs.size ≠ H2.objs.size:=by rw [hC]; exact Nat.ne_of_lt (Nat.lt_succ_self _)
 have hCle : s.heap.objs.size <= H2.objs.size:=by rw [hC]; exact Nat.le_succ _
 have below : ∀ b,b < s.heap.objs.size -> b ≠ H2.objs.size:=fun b hb => by rw [hC]; exact Nat.ne_of_lt (Nat.lt_succ_of_lt hb)
 have old : ∀ b o,s.heap.get? b = some o -> h₁.get? b = some o:=fun b o e => hsb₁.extBut b o (below b (Heap.lt_size e)) (Heap.get?_push_of_some _ (hH2 ▸ Heap.get?_push_of_some _ e))
 have hacc : ∃ n,h₁.get? s.heap.objs.size = some { cls:=.type "list",data:=.seq ([] : List Value).toArray n }:=⟨_,hsb₁.extBut _ _ hDC (Heap.get?_push_of_some _ (hH2 ▸ Heap.get?_push_size _ rfl))⟩
 have st1 : tn 0 h₁:=T.keep _ _ _ st fun b _ o e => old b o e
 have fo : ∀ b ∈ fp,∃ o,s.heap.get? b = some o /\ ∀ v,o.data ≠ .cell v:=T.obj _ _ st
 have I0 : Inv (bJ X N scope fp s H H2.objs.size) pins (aJ ix σ) (upd H s.heap.objs.size (.lst [])) { s with heap:=h₁,toks:=s.toks + ([] : List (Str × Value)).length }:=
  AI I S f2 fo (Nat.le_refl _) hCle hDC old hns₁ hacc
 have freshD : H s.heap.objs.size = none:=I.hok.fresh (Nat.le_refl _)
 obtain ⟨W,⟨m0,w0⟩,turn⟩:=hW s.heap.objs.size freshD
 have cl_ne : ∀ b ∈ fp,b ≠ H2.objs.size:=fun b hb => by
  obtain ⟨o,e,_⟩:=fo b hb
  exact below b (Heap.lt_size e)
 have stat : ∀ {H' : Hp},(∀ b ∈ fp,H' b = none) -> ∀ b ∈ fp,pM (bJ X N scope fp s H H2.objs.size) pins H' b:=fun hn b hb => by
  obtain ⟨f0,f1,f3,f4,f5,f6⟩:=f2 b hb
  exact ⟨hn b hb,cl_ne b hb,I0.ok.exfs b hb,.inl hb,(I0.ok.exf b hb).2,f6⟩
 have fr0 : ∀ b ∈ fp,(upd H s.heap.objs.size (.lst [])) b = none:=fun b hb => by
  obtain ⟨o,e,_⟩:=fo b hb
  rw [aj (Nat.ne_of_lt (Heap.lt_size e))]
  exact (f2 b hb).1
 have loop : codeAny (model X.prog X.w) X.A (.compLoop (.ListComp elt [⟨tg,iter,[cond],0⟩] scope pos) 0 (.ref it) (.ref s.heap.objs.size) (compEnvC scope (cB X.env.cells scope.names []) H2.objs.size X.env))
   (RR (.ref s.heap.objs.size) H2.objs.size) { s with heap:=h₁,toks:=s.toks + ([] : List (Str × Value)).length }:=by
  refine Bo (fun n s' => ∃ i σ' H',Inv (bJ X N scope fp s H H2.objs.size) pins σ' H' s' /\ tn i s'.heap /\ (∀ b ∈ fp,H' b = none) /\ W i n σ' H') ?_ m0 ⟨0,_,_,I0,st1,fr0,w0⟩
  rintro n s3 ⟨i,σ3,H3,I3,st3,fr3,w3⟩
  rcases turn i n σ3 H3 w3 with ⟨stop,qn⟩ | ⟨go,step⟩
  ·refine thn (T.done (bJ X N scope fp s H H2.objs.size) rfl rfl rfl hc i pins s3 σ3 H3 _ I3 (stat fr3) st3 stop) fun r s4 ⟨hr,I4⟩ => ?_
   subst hr
   obtain ⟨m4,hn4,_⟩:=id I4.loc
   refine hR _ _ s4 H3 m4 ?_ hn4 (I.fpOk hCle I4.free) qn
   exact I.call' (ch:=fp) I4.os I4.base I4.hok I4.bare fun b hb => by
    obtain ⟨f0,f1,f3,f4,f5,f6⟩:=f2 b hb
    exact ⟨f4,f1,f5,f6⟩
  ·refine thn (T.item (bJ X N scope fp s H H2.objs.size) rfl rfl rfl hc i pins s3 σ3 H3 _ I3 (stat fr3) st3 go) fun r s4 ⟨u,hr,h4⟩ => ?_
   subst hr
   refine thn h4 fun _ s5 ⟨x,H5,I5,r5,y5,st5,fr5⟩ => ?_
   have I5' := I5.pinned (stat fr5) (T.obj _ _ st5)
   refine thn (hg _ _ s5 σ3 H5 x u _ I5' r5 (step x H5 y5)) fun _ s6 ⟨σ6,H6,I6,q6⟩ => ?_
   refine thn (ht _ _ s6 σ6 H6 _ I6 q6) fun ok s6' ⟨H6',I6',q6'⟩ => ?_
   cases ok with
   | false =>
    obtain ⟨m',hm,w7⟩:=q6'
    refine ⟨m',hm,i + 1,σ6,H6',I6'.unpinned,T.keep _ _ _ st5 fun b hb o e => (I6'.pin (b,o) (List.mem_append_right _ (List.mem_append_right _ (df hb e)))).1,fun b hb => ?_,w7⟩
    obtain ⟨o,e,d⟩:=T.obj _ _ st5 b hb
    exact (I6'.pin (b,o) (List.mem_append_right _ (List.mem_append_right _ (df hb e)))).2.1
   | true =>
    refine thn (he _ _ s6' σ6 H6' _ I6' q6') fun yv s7 ⟨y,H7,I7,r7,ys,hD7,hz7,m',hm,w7⟩ => ?_
    refine thn (dA (X:=bJ X N scope fp s H H2.objs.size) _ s7 σ6 H7 (.ref s.heap.objs.size) [y] (.ref s.heap.objs.size) [yv] (fun _ H8 => W (i + 1) m' σ6 H8) I7 rfl (.cons r7 .nil) ⟨_,ys,y,rfl,rfl,hD7,hz7,w7⟩) fun _ s8 ⟨_,H8,I8,_,w8⟩ => ?_
    refine ⟨m',hm,i + 1,σ6,H8,I8.unpinned,T.keep _ _ _ st5 fun b hb o e => (I8.pin (b,o) (List.mem_append_right _ (List.mem_append_right _ (df hb e)))).1,fun b hb => ?_,w8⟩
    obtain ⟨o,e,d⟩:=T.obj _ _ st5 b hb
    exact (I8.pin (b,o) (List.mem_append_right _ (List.mem_append_right _ (df hb e)))).2.1
 exact codeAny_compStart_list loop (T.self _ _ _ _ _ st1 loop)
def MD (ix : List (Option Nat)) (wi : TI) (g : TG) (tc : TT) (te : TE) : TE:=fun σ H Q => wi σ H fun J H1 => AY J ix g tc te σ H1 fun D H' => Q (.ref D) H'
theorem EJ (hc : X.calm = true) (S : BlkScope X.N X.env.scope N ix scope) (hi : PI X tg iter wi) (hg : ∀ fp s H C,PG (bJ X N scope fp s H C) tg g) (ht : ∀ fp s H C,PT (bJ X N scope fp s H C) cond tc) (he : ∀ fp s H C,PE (bJ X N scope fp s H C) elt te)
  (hs : ∀ x,foldedSetIterable iter X.env x = pure x:=by intro _; rfl) : PE X (.ListComp elt [⟨tg,iter,[cond],0⟩] scope pos) (MD ix wi g tc te):=by
 intro pins s σ H Q I h
 rw [eval_ListComp]
 refine wpAny_comprehension_free (use:=none) rfl hs (ku (S.clos I.ok)) S.kind S.locs (thn (hi pins s σ H _ I h) fun v s1 h1 => thn h1 fun itv s2 h2 => ?_)
 obtain ⟨it,fp,tn,J,H2,e,I2,T,st2,f2,hW⟩:=h2
 subst e
 refine G9 (RR:=fun acc C => compPost (model X.prog X.w) X.A X.xe none (EP X pins σ Q) acc C) I2 hc S T st2 f2 (hg _ _ _) (ht _ _ _) (he _ _ _) hW ?_
 intro D C s' H' m I' hn fC q
 exact ⟨m,hn,fun h' sb => ⟨.ref D,H',I'.turned (t' := s'.toks) (fun b o hb e => (sb.2 b hb).trans e) fC.1 fC.2.1 fC.2.2.2.1 fC.2.2.2.2.1 fC.2.2.2.2.2,rfl,q⟩⟩
end
end L2
set_option Elab.async false
set_option linter.all false
set_option maxRecDepth 100000
set_option maxHeartbeats 4000000
namespace L2
open PySem PySem.Spec PyProof.Rows
open AutoSeq1 (wpAny_loadPart')
section
variable {prog : Program} {w : World} {A : Around} {E : Value -> Shared -> Prop} {s : Shared}
theorem sX {it t : Addr} {i : Nat} {items : Array Value} {x : Value} {Q : Value -> Shared -> Prop} (hit : s.heap.IsTupleIter it t i) (ht : s.heap.IsTuple t items) (hx : items[i]? = some x)
  (hQ : ∀ h',h'.IsTupleIter it t (i + 1) -> Heap.SameBut it s.heap h' -> Q x { s with heap:=h' }) : wpAny (model prog w) A (Builtin.SmallTypes.nextOf (.ref it)) Q E s:=by
 obtain ⟨o,ho,hc,hd⟩:=id hit
 obtain ⟨ol,hol,_,nl,hdl⟩:=ht
 unfold Builtin.SmallTypes.nextOf
 refine wpAny_bind (wpAny_callSpecial?_slot (name:=Str.ofString "__next__") hit.typeIs F.slot_tuple_iterator_next
  (wpAny_call_entry F.slot_tuple_iterator_next hit.typeIs F.entry_tuple_iterator_next ?_ (F.args_tuple_iterator_next_1 _)))
 show wpAny _ _ (field (.ref it) 0 >>= _) _ _ s
 refine wpAny_bind (wpAny_field ho hd (x:=.ref t) rfl ?_)
 show wpAny _ _ (if (Value.ref t == Value.none) = true then _ else _) _ _ s
 rw [if_neg (show ¬ ((Value.ref t == Value.none) = true) from Bool.false_ne_true)]
 show wpAny _ _ (field (.ref it) 1 >>= _) _ _ s
 refine wpAny_bind (wpAny_field ho hd (x:=.int i 0) rfl ?_)
 show wpAny _ _ (seqItems? (.ref t) >>= _) _ _ s
 refine wpAny_bind (wpAny_seqItems hol hdl ?_)
 simp only [Int.toNat_natCast,hx]
 refine wpAny_bind (wpAny_setField ho hd (by simp) (wpAny_pure ⟨x,rfl,wpAny_pure (hQ _ ?_ (Heap.SameBut.update ..))⟩))
 exact ⟨_,Heap.get?_update_self _ ho (Obj.isFreed_of_fields (Obj.data_mapFields hd _)),(Obj.cls_mapFields ..).trans hc,by
  rw [Obj.data_mapFields hd]; simp [rawInt]⟩
theorem kQ {it t : Addr} {i : Nat} {items : Array Value} {Q : Value -> Shared -> Prop} (hh : A.handled = none) (hit : s.heap.IsTupleIter it t i) (ht : s.heap.IsTuple t items) (hx : items[i]? = none)
  (hE : ∀ h' e,Heap.ExtBut it s.heap h' -> (∃ o,h'.get? e = some o /\ o.cls = .type "StopIteration") -> E (.ref e) { s with heap:=h' }) : wpAny (model prog w) A (Builtin.SmallTypes.nextOf (.ref it)) Q E s:=by
 obtain ⟨o,ho,hc,hd⟩:=id hit
 obtain ⟨ol,hol,_,nl,hdl⟩:=ht
 unfold Builtin.SmallTypes.nextOf
 refine wpAny_bind (wpAny_callSpecial?_slot (name:=Str.ofString "__next__") hit.typeIs F.slot_tuple_iterator_next
  (wpAny_call_entry F.slot_tuple_iterator_next hit.typeIs F.entry_tuple_iterator_next ?_ (F.args_tuple_iterator_next_1 _)))
 show wpAny _ _ (field (.ref it) 0 >>= _) _ _ s
 refine wpAny_bind (wpAny_field ho hd (x:=.ref t) rfl ?_)
 show wpAny _ _ (if (Value.ref t == Value.none) = true then _ else _) _ _ s
 rw [if_neg (show ¬ ((Value.ref t == Value.none) = true) from Bool.false_ne_true)]
 show wpAny _ _ (field (.ref it) 1 >>= _) _ _ s
 refine wpAny_bind (wpAny_field ho hd (x:=.int i 0) rfl ?_)
 show wpAny _ _ (seqItems? (.ref t) >>= _) _ _ s
 refine wpAny_bind (wpAny_seqItems hol hdl ?_)
 simp only [Int.toNat_natCast,hx]
 refine wpAny_bind (wpAny_rule (wpAny_bind (wpAny_setField ho hd (by simp) ?_)))
 show wpAny _ _ (newExc (.type "StopIteration") [] >>= _) _ _ _
 refine wpAny_bind ?_
 simp only [newExc,newTuple]
 refine wpAny_bind (wpAny_newObj_type ?_ (by size_fits))
 refine wpAny_bind (m:=firstArgMember _ _) (wpAny_of_eq (a:=Value.none) (by first | rfl | (simp only [firstArgMember]; rfl)) ?_)
 refine wpAny_newObj_type ?_ (by size_fits)
 simp only [raiseNew]
 refine wpAny_bind (wpAny_handled ?_)
 first | rw [show A.in1.handled = none from hh] | rw [hh]
 refine wpAny_bind (wpAny_pure (wpAny_throw ?_))
 exact hE _ _ (((Heap.SameBut.update ..).extBut.push _).push _) ⟨_,Heap.get?_push_size _ rfl,rfl⟩
end
theorem Ff {prog : Program} {w : World} {A : Around} (hh : A.handled = none) (it t : Addr) (hne : t ≠ it) (items : Array Value) :
  Draws prog w A it [it,t] items.size (fun i v => items[i]? = some v) (fun i h => h.IsTupleIter it t i /\ h.IsTuple t items) where
 live:=fun _ _ st => let ⟨o,ho,_⟩:=st.1; ⟨o,ho⟩
 frame:=fun _ _ _ st hk => ⟨st.1.at fun o e => hk it (by simp) o e,st.2.at fun o e => hk t (by simp) o e⟩
 item:=fun i s Q E hi st hQ => by
  refine sX st.1 st.2 (x:=items[i]) (by simp [hi]) fun h' hit' hs' => ?_
  exact hQ _ h' s.toks (by simp [hi]) ⟨hit',st.2.at fun o e => (hs'.2 t hne).trans e⟩ hs'
 done:=fun s Q E st hE => kQ hh st.1 st.2 (by simp) hE
theorem oW (l : Addr) (items : Array Value) (n : Nat) (dct : Option Addr) (sl : Array (Option Value)) :
  Meets (Builtin.«enumerate.__new__» ⟨[.type "enumerate",.ref l],[]⟩) (fun _ R s => s.heap.get? l = some { cls:=.type "tuple",dict:=dct,data:=.seq items n,slots:=sl } /\
   R (.ok (.ret (.ref (s.heap.push { cls:=.type "tuple_iterator",data:=.fields #[.ref l,.int 0 0] }).objs.size)))
    { s with heap:=(s.heap.push { cls:=.type "tuple_iterator",data:=.fields #[.ref l,.int 0 0] }).push { cls:=.type "enumerate",data:=.fields #[.none,.bool false,.ref s.heap.objs.size,rawInt 0,.none,.none] } }):=
 .of_wp fun prog w A R s h => by
  obtain ⟨hp,g,d,tk,os⟩:=s; obtain ⟨hl,h⟩:=h
  have hsub:=sub_enumerate
  have hL : Heap.IsTuple (Shared.heap ⟨hp,g,d,tk,os⟩) l items:=⟨_,hl,rfl,n,rfl⟩
  wp_walk using wpAny_loadPart' hl
  refine wpAny_stack_any fun st => wpAny_pure ?_
  split
  ·rename_i c _ _ _ _ _
   cases (c == Value.type "enumerate")
   ·wp_walk using wpAny_loadPart' hl,wpAny_pyIter_tuple hL
    exact ⟨_,rfl,h⟩
   ·wp_walk using wpAny_loadPart' hl,wpAny_pyIter_tuple hL
    exact ⟨_,rfl,h⟩
  ·wp_walk using wpAny_loadPart' hl,wpAny_pyIter_tuple hL
   exact ⟨_,rfl,h⟩
theorem nY {prog : Program} {w : World} {A : Around} {E : Value -> Shared -> Prop} {s : Shared} {l : Addr} {items : Array Value} {Q : Value -> Shared -> Prop} (hL : s.heap.IsTuple l items)
  (h : ∀ h',IsEnum h' (s.heap.objs.size + 1) s.heap.objs.size 0 .none -> h'.IsTupleIter s.heap.objs.size l 0 -> h'.objs.size = s.heap.objs.size + 2 ->
   (∀ b o,s.heap.get? b = some o -> h'.get? b = some o) -> Q (.ref (s.heap.objs.size + 1)) { s with heap:=h' }) :
  wpAny (model prog w) A (call (.type "enumerate") [.ref l]) Q E s:=by
 obtain ⟨⟨c,dct,dt,sl⟩,hl,hc,n,hd⟩:=hL
 replace hc : c = .type "tuple" := hc
 replace hd : dt = .seq items n:=hd
 subst hc hd
 refine callType_new F.called_enumerate (by decide) (F.typeCall_enumerate_1 _) (F.newCall_enumerate_1 _) (fun obj => F.args_object_init_2 obj _) F.entry_enumerate_new
  (oW l items n dct sl) ⟨hl,?_⟩
 have hz : (s.heap.push { cls:=.type "tuple_iterator",data:=.fields #[.ref l,.int 0 0] }).objs.size = s.heap.objs.size + 1:=Heap.size_push ..
 show _ /\ _
 rw [hz]
 have he : IsEnum ((s.heap.push { cls:=.type "tuple_iterator",data:=.fields #[.ref l,.int 0 0] }).push
   { cls:=.type "enumerate",data:=.fields #[.none,.bool false,.ref s.heap.objs.size,rawInt 0,.none,.none] }) (s.heap.objs.size + 1) s.heap.objs.size 0 .none:=by
  have:=Heap.get?_push_size (s.heap.push { cls:=.type "tuple_iterator",data:=.fields #[.ref l,.int 0 0] })
   (o:={ cls:=.type "enumerate",data:=.fields #[.none,.bool false,.ref s.heap.objs.size,rawInt 0,.none,.none] }) rfl
  rw [hz] at this; exact this
 refine ⟨⟨_,he,rfl⟩,h _ he ⟨_,Heap.get?_push_of_some _ (Heap.get?_push_size _ rfl),rfl,rfl⟩ (by rw [Heap.size_push,hz]) fun b o x => Heap.get?_push_of_some _ (Heap.get?_push_of_some _ x)⟩
end L2
set_option Elab.async false
set_option linter.all false
set_option maxRecDepth 100000
set_option maxHeartbeats 4000000
namespace L2
open PySem PySem.Spec PyProof.Rows
section
variable {X : Cx} {pins : List (Addr × Obj)} {σ : St} {H : Hp} {s : Shared} {h' : Heap}
theorem Inv.turned2 {t' : Nat} {e it : Addr} (I : Inv X pins σ H s) (k : ∀ b o,b ≠ e -> b ≠ it -> s.heap.get? b = some o -> h'.get? b = some o) (fe : pM X pins H e) (fi : pM X pins H it) : Inv X pins σ H { s with heap:=h',toks:=t' }:=by
 have nn : ∀ b u,H b = some u -> b ≠ e /\ b ≠ it:=fun b u q => ⟨fun z => (by rw [z,fe.1] at q; cases q),fun z => (by rw [z,fi.1] at q; cases q)⟩
 have kk : ∀ b o,b ∉ [e,it] -> s.heap.get? b = some o -> h'.get? b = some o:=fun b o hc q => k b o (fun z => hc (by simp [z])) (fun z => hc (by simp [z])) q
 refine I.step (g' := s.gens) (d' := s.drawn) (ch:=[e,it]) (fun b hb => ?_) (fun b o _ _ hc q _ => kk b o hc q) (fun b o _ _ hc q _ => ⟨o.slots,kk b o hc q⟩) (fun _ _ _ _ n => n)
  (fun b o hc q => ⟨o,kk b o hc q⟩) (fun _ _ q => q) (fun _ _ _ q => q) (fun b ps q => ⟨#[],by rw [q]; simp⟩) (fun m hm => ?_) (fun b u q => ?_) I.bare
 ·have q : b = e \/ b = it:=by simpa using hb
  rcases q with rfl | rfl
  ·exact ⟨fe.2.2.2.1,fe.2.1,fe.2.2.2.2.1,fe.2.2.2.2.2⟩
  ·exact ⟨fi.2.2.2.1,fi.2.1,fi.2.2.2.2.1,fi.2.2.2.2.2⟩
 ·obtain ⟨o,es,ep,ho,r⟩:=hm
  exact ⟨o,es,ep,k _ o (Ne.symm fe.2.1) (Ne.symm fi.2.1) ho,r⟩
 ·refine (I.hok b u q).stay (fun c v hc z => k c v ?_ ?_ z) (fun _ z => z) fun _ _ z => z
  ·rcases hc with z | z
   ·rw [z]; exact (nn b u q).1
   ·exact (nn c _ z).1
  ·rcases hc with z | z
   ·rw [z]; exact (nn b u q).2
   ·exact (nn c _ z).2
end
def Ite (K : PySem.W.Frag) (a : Addr) : It:=
 ⟨fun i H => ∃ xs x,SqT K H a xs /\ xs[i]? = some x,fun i H v H' => ∃ T x,v = .ref T /\ H T = none /\ H' = upd H T (.tup [.int i,x]) /\ ∀ xs,SqT K H a xs -> xs[i]? = some x,fun i H => ∃ xs,SqT K H a xs /\ xs.length <= i⟩
theorem FY {P : Program} {w : World} {K : PySem.W.Frag} {elts : List Expr} {x1 : _} {pos : Pos} (a e it : Addr) : Turn P w K (.Tuple elts x1 pos) (Ite K a) [e,it] e (fun i h => (∃ old,IsEnum h e it i old) /\ h.IsTupleIter it a i) where
 mem:=by simp
 obj:=fun i h st b hb => by
  have q : b = e \/ b = it:=by simpa using hb
  rcases q with rfl | rfl
  ·obtain ⟨⟨old,st⟩,_⟩:=st
   exact ⟨_,st,fun v z => by
    have z' : Data.fields _ = Data.cell v:=z
    cases z'⟩
  ·obtain ⟨_,o,e,c,d⟩:=st
   exact ⟨o,e,fun v z => by rw [d] at z; cases z⟩
 keep:=fun i h h' st k => ⟨let ⟨old,z⟩:=st.1; ⟨old,k e (by simp) _ z⟩,st.2.at fun o z => k it (by simp) o z⟩
 item:=by
  intro X hP hw hK hc i pins s σ H E I hf st hg
  subst hP hw hK
  obtain ⟨xs,x,hq,hx⟩:=hg
  obtain ⟨its,rv,p,hz⟩:=I.tuple hq
  obtain ⟨u,hu,ru⟩:=rv.get hx
  obtain ⟨⟨old,he⟩,hit⟩:=st
  have p' : s.heap.IsTuple a its.toArray:=p
  have fe:=hf e (by simp)
  have fi:=hf it (by simp)
  have ne : e ≠ it:=fun z => by
   subst z
   obtain ⟨o,e1,c,d⟩:=hit
   rw [he] at e1
   cases e1
   have c' : Value.type "enumerate" = Value.type "tuple_iterator" := c
   injection c' with c'
   exact absurd c' (by decide)
  have nae : a ≠ e:=fun z => by
   subst z
   obtain ⟨o,e1,c,d⟩:=p'
   rw [he] at e1
   cases e1
   have c' : Value.type "enumerate" = Value.type "tuple" := c
   injection c' with c'
   exact absurd c' (by decide)
  have nai : a ≠ it:=fun z => by
   subst z
   obtain ⟨o,e1,c,d⟩:=p'
   obtain ⟨o2,e2,c2,d2⟩:=hit
   rw [e1] at e2
   cases e2
   rw [c] at c2
   injection c2 with c'
   exact absurd c' (by decide)
  have hi : i < its.toArray.size:=by
   have : i < its.length:=(List.getElem?_eq_some_iff.mp hu).1
   simpa using this
  have D:=Ff (prog:=X.prog) (w:=X.w) (A:=X.A.in1) (show X.A.in1.handled = none from I.ok.hd hc) it a nai its.toArray
  refine wpAny_pyNext_enum_itemD D he ⟨hit,p'⟩ hi ne (by simp [ne,Ne.symm nae]) fun y h1 tk hy ho st1 hT hsz hk => ?_
  have ey : y = u:=by
   have : its.toArray[i]? = some u:=by simpa using hu
   rw [this] at hy
   exact (Option.some.inj hy).symm
  subst ey
  refine ⟨_,rfl,wpAny_letOwnedTupleGo_enum ho fun h2 he2 hs2 => ?_⟩
  have fr : H s.heap.objs.size = none:=I.hok.fresh (Nat.le_refl _)
  have I1 : Inv X pins σ (upd H s.heap.objs.size (.tup [.int i,x])) { s with heap:=s.heap.push { cls:=.type "tuple",data:=.seq #[.int i tk,y] },toks:=tk + 1 }:=
   I.laid (o:=.tup [.int i,x]) (fun b ob q => Heap.get?_push_of_some _ q) (Nat.le_refl _) ⟨by show 2 <= sizeLine; decide,[.int i tk,y],.cons ⟨tk,rfl⟩ (.cons ru .nil),⟨_,Heap.get?_push_size _ rfl,rfl,_,rfl⟩⟩
  have lt : ∀ b ∈ [e,it],b < s.heap.objs.size:=fun b hb => by
   have q : b = e \/ b = it:=by simpa using hb
   rcases q with rfl | rfl
   ·exact Heap.lt_size he
   ·obtain ⟨o,e1,_⟩:=hit
    exact Heap.lt_size e1
  have f2 : ∀ b ∈ [e,it],pM X pins (upd H s.heap.objs.size (.tup [.int i,x])) b:=fun b hb => by
   refine ⟨?_,(hf b hb).2⟩
   rw [aj (Nat.ne_of_lt (lt b hb))]
   exact (hf b hb).1
  have I2 : Inv X pins σ (upd H s.heap.objs.size (.tup [.int i,x])) { s with heap:=h2,toks:=tk + 1 }:=by
   refine I1.turned2 (t' := tk + 1) (h' := h2) (fun b o b1 b2 q => ?_) (f2 e (by simp)) (f2 it (by simp))
   refine (hs2.2 b b1).trans ?_
   rcases Heap.get?_push_cases (show (s.heap.push { cls:=.type "tuple",data:=.seq #[.int i tk,y] }).get? b = some o from q) with ⟨rfl,rfl⟩ | z
   ·exact hT
   ·exact hk b o b1 b2 z
  refine ⟨.ref s.heap.objs.size,_,I2,rfl,⟨s.heap.objs.size,x,rfl,fr,rfl,fun ys hy => by rw [I.tuple_inj hy hq]; exact hx⟩,⟨⟨y,?_⟩,?_⟩,fun b hb => (f2 b hb).1⟩
  ·have : ((i + 1 : Nat) : Int) = (i : Int) + 1:=by push_cast; rfl
   rw [this]
   exact he2
  ·exact st1.1.at fun o z => (hs2.2 it (Ne.symm ne)).trans z
 done:=by
  intro X hP hw hK hc i pins s σ H E I hf st hg
  subst hP hw hK
  obtain ⟨xs,hq,hx⟩:=hg
  obtain ⟨its,rv,p,hz⟩:=I.tuple hq
  obtain ⟨⟨old,he⟩,hit⟩:=st
  obtain ⟨f0,f1,f2,f3,f4,f5⟩:=hf it (by simp)
  have p' : s.heap.IsTuple a its.toArray:=p
  have hl:=rv.length
  have hT : s.TypeIs (.ref e) "enumerate" := ⟨_,he,rfl⟩
  unfold pyNext
  refine wpAny_bind (wpAny_attempt (wpAny_callSpecial?_slot (name:=Str.ofString "__next__") hT F.slot_enumerate_next
   (wpAny_call_entry F.slot_enumerate_next hT F.entry_enumerate_next ?_ (F.args_enumerate_next_1 _))))
  show wpAny _ _ (field (.ref e) 2 >>= _) _ _ _
  refine wpAny_bind (wpAny_field he rfl (x:=.ref it) rfl ?_)
  refine wpAny_bind (kQ (show X.A.in1.handled = none from I.ok.hd hc) hit p' (by simp; omega) fun h' x he' hx' => ?_)
  obtain ⟨o,ho,hcl⟩:=hx'
  refine wpAny_bind (wpAny_isInstance (T := "StopIteration") (b:=true) ⟨o,ho,hcl⟩ isSubtype_stop ?_)
  exact wpAny_pure ⟨rfl,I.turned (t' := s.toks) (fun b o hb z => he' b o hb z) f0 f1 f3 f4 f5⟩
 self:=fun _ _ _ _ _ st h => let ⟨_,z⟩:=st.1; wpAny_pyIter_enum z h
section
variable {X : Cx}
def L6 (K : PySem.W.Frag) (tl : TA) : TI:=fun σ H R => tl σ H fun vs H1 => ∃ a,vs = [.ref a] /\ (∃ xs,SqT K H1 a xs) /\ R (Ite K a) H1
theorem Bi : bootBuiltins "enumerate" = some (.type "enumerate"):=by decide +kernel
theorem EN {elts : List Expr} {x1 : _} {tpos : Pos} {l : Expr} {tl : TA} {p pos : Pos} (hg : Gl X "enumerate") (hm : X.mg "enumerate" = none) (hl : PA X [l] tl) (hs : starEach [l] X.env = [(false,eval l X.env)]:=by rfl) :
  PI X (.Tuple elts x1 tpos) (.Call (.Name "enumerate" p) [l] [] pos) (L6 X.K tl):=by
 intro pins s σ H R I h
 refine Call_ (yn I hg hm Bi (PyProof.Rows.callWith_type1 (thn (hl pos pins s σ H _ I h) fun us s1 ⟨vs,H1,I1,r1,q1⟩ => ?_) hs rfl))
 obtain ⟨a,e,⟨xs,hq⟩,q⟩:=q1
 subst e
 cases r1 with
 | cons r rr =>
  cases rr
  cases r
  obtain ⟨its,rv,p,hz⟩:=I1.tuple hq
  refine nY (show s1.heap.IsTuple a its.toArray from p) fun h' he hit hsz hk => ?_
  refine wpAny_pyIter_enum he ?_
  refine ⟨s1.heap.objs.size + 1,[s1.heap.objs.size + 1,s1.heap.objs.size],_,_,H1,rfl,I1.kept (t' := s1.toks) hk,FY a _ s1.heap.objs.size,⟨⟨_,he⟩,hit⟩,fun b hb => ?_,q⟩
  have e : b = s1.heap.objs.size + 1 \/ b = s1.heap.objs.size:=by simpa using hb
  rcases e with rfl | rfl
  ·exact I1.fpOk (Nat.le_succ _) (I1.hok.fresh (Nat.le_succ _))
  ·exact I1.fpOk (Nat.le_refl _) (I1.hok.fresh (Nat.le_refl _))
end
theorem He {K : PySem.W.Frag} {a : Addr} {xs : List V} {g : TG} {tb : TS} {D : Ends} {σ : St} {H : Hp} (Pv : Nat -> St -> Hp -> Prop) (h0 : Pv 0 σ H) (hl : ∀ i σ H,i <= xs.length -> Pv i σ H -> SqT K H a xs)
  (hs : ∀ i x σ H T,xs[i]? = some x -> Pv i σ H -> H T = none -> g (.ref T) σ (upd H T (.tup [.int i,x])) fun σ2 H2 => tb { D with nx:=Pv (i + 1),ct:=Pv (i + 1),bk:=D.nx } σ2 H2) (hd : ∀ σ H,Pv xs.length σ H -> D.nx σ H) :
  ∃ W : Nat -> Nat -> St -> Hp -> Prop,(∃ m,W 0 m σ H) /\ ∀ i m σ H,W i m σ H ->
   ((Ite K a).stop i H /\ D.nx σ H) \/ ((Ite K a).go i H /\ ∃ N : St -> Hp -> Prop,(∀ σ' H',N σ' H' -> ∃ m',m' < m /\ W (i + 1) m' σ' H') /\ ∀ x H',(Ite K a).yld i H x H' -> g x σ H' fun σ2 H2 => tb { D with nx:=N,ct:=N,bk:=D.nx } σ2 H2):=by
 refine ⟨fun i m σ H => m = xs.length - i /\ i <= xs.length /\ Pv i σ H,⟨xs.length,by simp,Nat.zero_le _,h0⟩,?_⟩
 rintro i m σ H ⟨rfl,hi,p⟩
 have q:=hl i σ H hi p
 by_cases hlt : i < xs.length
 ·refine .inr ⟨⟨xs,xs[i],q,by simp [hlt]⟩,Pv (i + 1),fun σ' H' p' => ⟨xs.length - (i + 1),by omega,rfl,hlt,p'⟩,fun x H' y => ?_⟩
  obtain ⟨T,x0,rfl,hT,rfl,y⟩:=y
  exact hs i x0 σ _ T (y xs q) p hT
 ·have e : i = xs.length:=by omega
  subst e
  exact .inl ⟨⟨xs,q,Nat.le_refl _⟩,hd σ H p⟩
end L2
set_option Elab.async false
set_option linter.all false
set_option maxRecDepth 100000
set_option maxHeartbeats 4000000
namespace L2
open PySem PySem.Spec PyProof.Rows
section
variable {X : Cx} {a : Expr} {ta : TA} {p p2 pos pos2 : Pos}
end
structure DefMk (P : Program) (w : World) (K : PySem.W.Frag) (mg : Str -> Option Value) (base : Heap) (x : Str) (C : Addr) (k : Nat) (ps : List Str) (sp : Sp) : Prop where
 m : mg x = some (.ref C)
 cl : Cls K C
 ex : ∃ (f : Addr) (fd : FuncData),Mk K C f /\ Binds K fd ps [] /\ FnOk P w K mg base CX0 k f fd ps sp
theorem rD {X : Cx} {x : Str} {C : Addr} {j k : Nat} {ps : List Str} {sp : Sp} {p pos : Pos} {e : Expr} {es : List Expr} {t : TA} (G : DefMk X.prog X.w X.K X.mg X.base x C k ps sp) (hr : Room j X.A) (ha : PA X (e :: es) t) (hkj : k + 1 <= j:=by decide) (hg : Gl X x:=by rfl) (hdb : (x == ("__debug__" : Str)) = false:=by decide)
  (he : starEach (e :: es) X.env = (false,eval e X.env) :: starEach es X.env:=by rfl) (hpl : (backTo pos (starEach es X.env)).any (·.1) = false:=by rfl) : PE X (.Call (.Name x p) (e :: es) [] pos) (GN C sp [] E0 t):=by
 obtain ⟨f,fd,M,hb,F⟩:=G.ex
 exact KS M F (hr.mono hkj) hg G.m hb .nil Jz ha hdb he hpl
structure DefMe (P : Program) (w : World) (K : PySem.W.Frag) (mg : Str -> Option Value) (base : Heap) (C : Addr) (m : Str) (k : Nat) (ps : List Str) (sp : Sp) : Prop where
 cl : Cls K C
 ex : ∃ (f : Addr) (fd : FuncData),Meth K C m f /\ Binds K fd ps [] /\ FnOk P w K mg base CX0 k f fd ps sp
theorem vp {X : Cx} {m : Str} {C : Addr} {j k : Nat} {ps : List Str} {sp : Sp} {apos pos : Pos} {o e : Expr} {es : List Expr} {ta : TE} {t : TA} {pl : Sem Bool} (G : DefMe X.prog X.w X.K X.mg X.base C m k ps sp) (hr : Room j X.A) (ho : PE X o ta) (ha : PA X (e :: es) t) (hkj : k <= j:=by decide)
  (hst : starEach (e :: es) X.env = (false,eval e X.env) :: starEach es X.env:=by rfl) (hpl : (backTo pos (starEach es X.env)).any (·.1) = false:=by rfl)
  (ht : eval (.Call (.Attribute o m apos) (e :: es) [] pos) X.env = (do
   let ov <- eval o X.env
   standAt apos.atName
   let (f,first) <- holding [ov] (getMethod ov m pl)
   callWith pos f first (backTo pos (starEach (e :: es) X.env)) (backToKw pos (keywordEach [] X.env))):=by rfl) :
  PE X (.Call (.Attribute o m apos) (e :: es) [] pos) (GO C m sp [] E0 ta t):=by
 obtain ⟨f,fd,hm,hb,F⟩:=G.ex
 exact KU ho G.cl hm F (hr.mono hkj) hb .nil Jz ha hst hpl ht
end L2
set_option Elab.async false
set_option linter.all false
set_option maxRecDepth 100000
set_option maxHeartbeats 4000000
namespace L2
open PySem PySem.Spec PyProof.Rows
section
variable {prog : Program} {w : World} {A : Around} {E : Value -> Shared -> Prop} {s : Shared}
structure ZipFar (z TI TO i1 i2 : Addr) (fp1 fp2 : List Addr) : Prop where
 TIz : TI ≠ z
 TOz : TO ≠ z
 TITO : TI ≠ TO
 i1z : i1 ≠ z
 i2z : i2 ≠ z
 TIi1 : TI ≠ i1
 TIi2 : TI ≠ i2
 TOi1 : TO ≠ i1
 TOi2 : TO ≠ i2
 i12 : i1 ≠ i2
 z1 : z ∉ fp1
 TO1 : TO ∉ fp1
 i21 : i2 ∉ fp1
 z2 : z ∉ fp2
 TO2 : TO ∉ fp2
 i12' : i1 ∉ fp2
variable {z TI TO i1 i2 : Addr} {fp1 fp2 : List Addr} {n1 n2 k : Nat} {P1 P2 : Nat -> Value -> Prop} {St1 St2 : Nat -> Heap -> Prop} {a b : Value}
end
end L2
set_option Elab.async false
set_option linter.all false
set_option maxRecDepth 100000
set_option maxHeartbeats 4000000
namespace L2
open PySem PySem.Spec PyProof.Rows
section
variable {X : Cx} {pins : List (Addr × Obj)} {σ : St} {H : Hp} {s : Shared} {h' : Heap}
end
section
variable {X : Cx}
end
end L2
set_option Elab.async false
set_option linter.all false
set_option maxRecDepth 100000
set_option maxHeartbeats 4000000
namespace L2
open PySem PySem.Spec PyProof.Rows
inductive EqN (K : PySem.W.Frag) (H : Hp) : V -> V -> Prop where
 | non : EqN K H .non .non
 | tup {a b : Addr} {ns : List Int} (ha : SqT K H a (ns.map V.int)) (hb : SqT K H b (ns.map V.int)) : EqN K H (.ref a) (.ref b)
section
variable {X : Cx} {pins : List (Addr × Obj)} {σ : St} {H : Hp} {s : Shared}
end
end L2
set_option Elab.async false
set_option linter.all false
set_option maxRecDepth 100000
set_option maxHeartbeats 4000000
namespace L2
open PySem PySem.Spec PyProof.Rows
section
variable {X : Cx}
end
end L2
set_option Elab.async false
set_option linter.all false
set_option maxRecDepth 100000
set_option maxHeartbeats 4000000
namespace L2
open PySem PySem.Spec PyProof.Rows
theorem JS {B : St} {t u a b : Option V} : ((((B.set 0 t).set 1 u).set 0 a).set 1 b) = (B.set 0 a).set 1 b:=by
 rw [List.set_comm u a (l:=B.set 0 t) (by decide : (1 : Nat) ≠ 0),List.set_set,List.set_set]
end L2
set_option Elab.async false
set_option linter.all false
set_option maxRecDepth 100000
namespace L2
open PySem PySem.Spec PyProof.Rows
section
variable {X : Cx} {pins : List (Addr × Obj)} {σ : St} {H H' : Hp} {s : Shared} {h' : Heap}
end
theorem Kw {k : Key} {v : Value} (h : yk k v = true) : RelV (kV k) v:=by
 rcases bR h with ⟨n,t,rfl,rfl⟩ | ⟨x,t,rfl,rfl⟩
 ·exact ⟨t,rfl⟩
 ·exact ⟨t,rfl⟩
section
variable {X : Cx}
end
end L2
set_option Elab.async false
set_option linter.all false
set_option maxRecDepth 100000
namespace L2
open PySem PySem.Spec PyProof.Rows
section
variable {X : Cx}
end
end L2
set_option Elab.async false
set_option linter.all false
set_option maxRecDepth 100000
namespace L2
open PySem PySem.Spec PyProof.Rows
section
variable {X : Cx}
end
end L2
namespace PySem
open PyProof.Rows
namespace F
end F
section
variable {prog : Program} {w : World} {A : Around} {E : Value -> Shared -> Prop} {s : Shared}
end
end PySem
namespace L2
open PySem PySem.Spec PyProof.Rows
section
variable {X : Cx} {tg : Expr}
end
end L2
set_option Elab.async false
set_option linter.all false
set_option maxRecDepth 100000
set_option maxHeartbeats 4000000
namespace L2
open PySem PySem.Spec PyProof.Rows
section
variable {X : Cx}
end
section
variable {X : Cx}
theorem CD {e : Expr} {t u : TE} (h1 : PE X e t) (h2 : PE X e u) : PE X e (fun σ H Q => t σ H Q \/ u σ H Q):=by
 intro pins s σ H Q I h
 rcases h with h | h
 ·exact h1 pins s σ H Q I h
 ·exact h2 pins s σ H Q I h
theorem KZ (K : PySem.W.Frag) {es : List Expr} {k : Nat} {pos : Pos} {t : TGs} {n : Nat} (hc : X.calm = true) (h : PGs X es t) (hK : X.K = K:=by rfl)
  (hn : (assignEach es X.env).length = n:=by rfl) (hst : (assignEach es X.env).findIdx? (·.1) = none:=by rfl) : PG X (.Tuple es k pos) (MX K n t):=by
 subst hK
 exact CJ hc h hn hst
theorem CG {m : Str} {C : Addr} {j k : Nat} {ps : List Str} {sp : Sp} {apos pos : Pos} {o : Expr} {ta : TE} {pl : Sem Bool} (G : DefMe X.prog X.w X.K X.mg X.base C m k ps sp) (hr : Room j X.A) (ho : PE X o ta) (hkj : k <= j:=by decide)
  (ht : eval (.Call (.Attribute o m apos) [] [] pos) X.env = (do
   let ov <- eval o X.env
   standAt apos.atName
   let (f,first) <- holding [ov] (getMethod ov m pl)
   callWith pos f first (backTo pos (starEach [] X.env)) (backToKw pos (keywordEach [] X.env))):=by rfl) :
  PE X (.Call (.Attribute o m apos) [] [] pos) (GO C m sp [] E0 ta JZ):=by
 obtain ⟨f,fd,hm,hb,F⟩:=G.ex
 exact JG ho G.cl hm F (hr.mono hkj) hb .nil Jz ht
end
end L2
set_option Elab.async false
set_option linter.all false
set_option maxRecDepth 100000
set_option maxHeartbeats 4000000
namespace L2
open PySem PySem.Spec PyProof.Rows
section
variable {prog : Program} {w : World} {A : Around} {E : Value -> Shared -> Prop} {s : Shared}
structure ZipFar3 (z TI TO i1 i2 i3 : Addr) (fp1 fp2 fp3 : List Addr) : Prop where
 TIz : TI ≠ z
 TOz : TO ≠ z
 TITO : TI ≠ TO
 i1z : i1 ≠ z
 i2z : i2 ≠ z
 i3z : i3 ≠ z
 TIi1 : TI ≠ i1
 TIi2 : TI ≠ i2
 TIi3 : TI ≠ i3
 TOi1 : TO ≠ i1
 TOi2 : TO ≠ i2
 TOi3 : TO ≠ i3
 z1 : z ∉ fp1
 TO1 : TO ∉ fp1
 i21 : i2 ∉ fp1
 i31 : i3 ∉ fp1
 z2 : z ∉ fp2
 TO2 : TO ∉ fp2
 i12 : i1 ∉ fp2
 i32 : i3 ∉ fp2
 z3 : z ∉ fp3
 TO3 : TO ∉ fp3
 i13 : i1 ∉ fp3
 i23 : i2 ∉ fp3
variable {z TI TO i1 i2 i3 : Addr} {fp1 fp2 fp3 : List Addr} {n1 n2 n3 k : Nat} {P1 P2 P3 : Nat -> Value -> Prop} {St1 St2 St3 : Nat -> Heap -> Prop} {a b c : Value}
end
section
variable {X : Cx}
end
section
variable {X : Cx}
theorem GD (K : PySem.W.Frag) {e : Expr} {f : Str} {pos : Pos} {ta : TE} (he : PE X e ta) (hb : attributeBase e f X.env (eval e X.env) = eval e X.env) (hK : X.K = K:=by rfl) : PE X (.Attribute e f pos) (Nn K ta f):=by
 subst hK
 exact cO he hb
end
theorem DY {lo : Int} {n : Nat} {ix : List (Option Nat)} {tc : TT} {te : TE} {σ : St} {H : Hp} {Qd : Addr -> Hp -> Prop} (Pv : Addr -> Nat -> List V -> Hp -> Prop)
  (h0 : ∀ D,H D = none -> Pv D 0 [] (upd H D (.lst [])))
  (hs : ∀ D i ys H' (Qy : VK) (Qn : Hp -> Prop),H D = none -> i < n -> H' D = some (.lst ys) -> Pv D i ys H' -> (∀ y H4,H4 D = some (.lst ys) -> ys.length < sizeLine -> Pv D (i + 1) (ys ++ [y]) (upd H4 D (.lst (ys ++ [y]))) -> Qy y H4) ->
   (∀ H4,H4 D = some (.lst ys) -> Pv D (i + 1) ys H4 -> Qn H4) -> tc ((aJ ix σ).set 0 (some (.int (lo + i)))) H' fun b H4 => if b = true then te ((aJ ix σ).set 0 (some (.int (lo + i)))) H4 Qy else Qn H4)
  (hd : ∀ D ys H',H D = none -> H' D = some (.lst ys) -> Pv D n ys H' -> Qd D H') : AY (Itr lo n) ix (a7 0) tc te σ H Qd:=by
 intro D hD
 refine ⟨fun i m σ' H' => m = n - i /\ i <= n /\ (σ' = aJ ix σ \/ ∃ t,σ' = (aJ ix σ).set 0 t) /\ ∃ ys,H' D = some (.lst ys) /\ Pv D i ys H',⟨n,by simp,Nat.zero_le _,.inl rfl,[],ae,h0 D hD⟩,?_⟩
 rintro i m σ' H' ⟨rfl,hi,hσ,ys,hy,p⟩
 by_cases hlt : i < n
 ·refine .inr ⟨hlt,fun x H2 y => ?_⟩
  obtain ⟨e1,e2⟩:=y
  subst e1
  subst e2
  have es : σ'.set 0 (some (V.int (lo + i))) = (aJ ix σ).set 0 (some (V.int (lo + i))):=by
   rcases hσ with z | ⟨t,z⟩
   ·rw [z]
   ·rw [z,List.set_set]
  show tc (σ'.set 0 (some (V.int (lo + i)))) _ _
  rw [es]
  exact hs D i ys _ _ _ hD hlt hy p (fun y H4 h4 hz p4 => ⟨ys,h4,hz,n - (i + 1),by omega,rfl,hlt,.inr ⟨_,rfl⟩,ys ++ [y],ae,p4⟩) fun H4 h4 p4 => ⟨n - (i + 1),by omega,rfl,hlt,.inr ⟨_,rfl⟩,ys,h4,p4⟩
 ·have e : i = n:=by omega
  subst e
  exact .inl ⟨Nat.le_refl _,hd D ys H' hD hy p⟩
theorem gn {t u : TS} {D : Ends} {σ : St} {H : Hp} (R : St -> Hp -> Prop) (h1 : ∀ σ' H',R σ' H' -> u D σ' H') (h2 : ∀ D' : Ends,(∀ σ' H',R σ' H' -> D'.nx σ' H') -> t D' σ H) : Lk t u D σ H:=
 h2 { D with nx:=u D } h1
theorem GX {X : Cx} : iE X (.builtin "len") (fun xs H Q => ∃ a kvs,xs = [.ref a] /\ H a = some (.dK kvs) /\ Q (.int kvs.length) H):=by
 intro pins s σ H xs us Q I r h
 obtain ⟨a,kvs,rfl,ha,q⟩:=h
 obtain ⟨u,rfl,rx⟩:=vals1 r
 cases rx
 exact MV I (.inl ha) fun t s' I' => ⟨.int kvs.length,H,I',⟨t,rfl⟩,q⟩
end L2
set_option Elab.async false
set_option linter.all false
set_option maxRecDepth 100000
set_option maxHeartbeats 4000000
namespace L2
open PySem PySem.Spec PyProof.Rows
structure BlkScope1 (NX : List Str) (scX : Scope) (N : List Str) (ix : List (Option Nat)) (sc : Scope) (x : Str) : Prop where
 kind : sc.kind = .function
 nd : N.Nodup
 cell : sc.names.lookup x = some .cell
 only : ∀ y ∈ sc.names,y.2 = .cell -> y.1 = x
 lay : ∀ n cl,cellsFrom n sc.names cl = (x,n) :: cl
 lays : ∀ h,pushCells h sc.names = h.push { cls:=.type "cell",data:=.cell none }
 locs : ∀ y ∈ sc.names,y.2 = .local -> sc.names.lookup y.1 = some .local
 free : ∀ y ∈ sc.names,y.2 = .free -> scX.names.lookup y.1 = some .cell \/ scX.names.lookup y.1 = some .free
 nofree : ∀ y ∈ sc.names,y.2 = .free -> y.1 ≠ x
 len : ix.length = N.length
 at_ : ∀ p ∈ N.zip ix,∀ i,p.2 = some i -> NX[i]? = some p.1 /\ sc.names.lookup p.1 = some .free
section
variable {X : Cx} {pins : List (Addr × Obj)} {σ : St} {H : Hp} {s : Shared} {N : List Str} {ix : List (Option Nat)} {scope : Scope} {fp : List Addr} {x : Str}
variable {tg elt iter : Expr} {pos spos : Pos} {J : It} {it : Addr} {tn : Nat -> Heap -> Prop} {g : TG} {te : TE} {wi : TI}
end
end L2
set_option Elab.async false
set_option linter.all false
set_option maxRecDepth 100000
namespace L2
open PySem PySem.Spec PyProof.Rows
abbrev Rise (xs : Array Nat) : Prop:=xs.toList.Pairwise (· < ·)
theorem Rise.lt {xs : Array Nat} (r : Rise xs) {i j : Nat} (hi : i < j) (hj : j < xs.size) : xs[i] < xs[j]:=by
 have:=List.pairwise_iff_getElem.mp r i j (by simpa using Nat.lt_trans hi hj) (by simpa using hj) hi
 simpa using this
theorem xH {xs : Array Nat} {j : Nat} (r : Rise xs) : ∀ (fuel lo hi : Nat),hi - lo <= fuel -> lo <= hi -> hi <= xs.size -> (∀ i (h : i < xs.size),i < lo -> xs[i] < j) -> (∀ i (h : i < xs.size),hi <= i -> j <= xs[i]) ->
  (SetTable.below.go xs j fuel lo hi <= xs.size /\ (∀ i (h : i < xs.size),i < SetTable.below.go xs j fuel lo hi -> xs[i] < j) /\ ∀ i (h : i < xs.size),SetTable.below.go xs j fuel lo hi <= i -> j <= xs[i])
 | 0,lo,hi,hf,hl,hs,h1,h2 => by
  have e : lo = hi:=by omega
  subst e
  exact ⟨hs,h1,h2⟩
 | fuel + 1,lo,hi,hf,hl,hs,h1,h2 => by
  unfold SetTable.below.go
  by_cases c : lo < hi
  ·rw [if_pos c]
   dsimp only
   have hm : (lo + hi) / 2 < xs.size:=by omega
   have eg : xs.getD ((lo + hi) / 2) j = xs[(lo + hi) / 2]:=by simp [Array.getD,hm]
   by_cases d : xs.getD ((lo + hi) / 2) j < j
   ·rw [if_pos d]
    refine xH r fuel _ _ (by omega) (by omega) hs (fun i h hi' => ?_) h2
    rcases Nat.lt_or_ge i ((lo + hi) / 2) with z | z
    ·exact Nat.lt_trans (r.lt z hm) (by rw [eg] at d; exact d)
    ·have e : i = (lo + hi) / 2:=by omega
     subst e
     rw [eg] at d
     exact d
   ·rw [if_neg d]
    refine xH r fuel _ _ (by omega) (by omega) (by omega) h1 (fun i h hi' => ?_)
    rw [eg] at d
    rcases Nat.lt_or_ge ((lo + hi) / 2) i with z | z
    ·exact Nat.le_trans (Nat.le_of_not_lt d) (Nat.le_of_lt (r.lt z h))
    ·have e : i = (lo + hi) / 2:=by omega
     subst e
     exact Nat.le_of_not_lt d
  ·rw [if_neg c]
   have e : lo = hi:=by omega
   subst e
   exact ⟨hs,h1,h2⟩
theorem xI {xs : Array Nat} (r : Rise xs) (j : Nat) : SetTable.below xs j <= xs.size /\ (∀ i (h : i < xs.size),i < SetTable.below xs j -> xs[i] < j) /\ ∀ i (h : i < xs.size),SetTable.below xs j <= i -> j <= xs[i]:=
 xH r xs.size 0 xs.size (by omega) (Nat.zero_le _) (Nat.le_refl _) (fun i h z => by omega) (fun i h z => by omega)
theorem E9 {xs : Array Nat} (r : Rise xs) : SetTable.below xs 0 = 0:=by
 obtain ⟨h0,h1,_⟩:=xI r 0
 rcases Nat.eq_zero_or_pos (SetTable.below xs 0) with z | z
 ·exact z
 ·exact absurd (h1 0 (Nat.lt_of_lt_of_le z h0) z) (Nat.not_lt_zero _)
theorem E8 {xs : Array Nat} (r : Rise xs) {i : Nat} (hi : i < xs.size) : SetTable.below xs (xs[i] + 1) = i + 1:=by
 obtain ⟨h0,h1,h2⟩:=xI r (xs[i] + 1)
 rcases Nat.lt_trichotomy (SetTable.below xs (xs[i] + 1)) (i + 1) with z | z | z
 ·have:=h2 i hi (by omega)
  omega
 ·exact z
 ·have hi2 : i + 1 < xs.size:=by omega
  have a1:=h1 (i + 1) hi2 z
  have a2 : xs[i] < xs[i + 1]:=r.lt (Nat.lt_succ_self i) hi2
  omega
theorem toList_insertAt {α : Type} (xs : Array α) (p : Nat) (x : α) : (SetTable.insertAt xs p x).toList = xs.toList.take p ++ x :: xs.toList.drop p:=by
 unfold SetTable.insertAt
 simp
 rw [List.take_of_length_le (by simp)]
theorem Rise.put {xs : Array Nat} (r : Rise xs) {j : Nat} (hj : xs[SetTable.below xs j]? ≠ some j) : Rise (SetTable.insertAt xs (SetTable.below xs j) j):=by
 obtain ⟨h0,h1,h2⟩:=xI r j
 unfold Rise
 rw [toList_insertAt,List.pairwise_append]
 have tk : ∀ a ∈ xs.toList.take (SetTable.below xs j),a < j:=fun a ha => by
  obtain ⟨i,hi,rfl⟩:=List.mem_take_iff_getElem.mp ha
  have : i < SetTable.below xs j /\ i < xs.size:=by simp at hi; omega
  simpa using h1 i this.2 this.1
 have dr : ∀ b ∈ xs.toList.drop (SetTable.below xs j),j < b:=fun b hb => by
  obtain ⟨i,hi,rfl⟩:=List.mem_drop_iff_getElem.mp hb
  have hs : i + SetTable.below xs j < xs.size:=by simpa using hi
  have hle:=h2 (i + SetTable.below xs j) hs (by omega)
  have hb0 : SetTable.below xs j < xs.size:=by omega
  have hne : xs[SetTable.below xs j] ≠ j:=fun z => hj (by rw [Array.getElem?_eq_getElem hb0,z])
  have h3:=h2 (SetTable.below xs j) hb0 (Nat.le_refl _)
  have : j < xs[i + SetTable.below xs j]:=by
   rcases Nat.eq_zero_or_pos i with z | z
   ·subst z
    simp only [Nat.zero_add]
    omega
   ·have:=r.lt (i:=SetTable.below xs j) (j:=i + SetTable.below xs j) (by omega) hs
    omega
  simpa [Nat.add_comm] using this
 refine ⟨List.Pairwise.sublist (List.take_sublist _ _) r,List.pairwise_cons.mpr ⟨dr,List.Pairwise.sublist (List.drop_sublist _ _) r⟩,fun a ha b hb => ?_⟩
 rcases List.mem_cons.mp hb with e | hb
 ·rw [e]; exact tk a ha
 ·exact Nat.lt_trans (tk a ha) (dr b hb)
theorem FN (n : Nat) : Rise (Array.range n):=by
 unfold Rise
 rw [Array.toList_range]
 exact List.pairwise_lt_range
structure TabOk (t : SetTable) (led : Bool) : Prop where
 rise : Rise t.place
 nod : t.dummies = #[]
 led : t.led = led
theorem TabOk.standIn {t : SetTable} {led : Bool} (k : TabOk t led) (n : Nat) : TabOk (t.standIn n) led:=⟨FN n,rfl,k.led⟩
theorem TabOk.orStandIn {t : SetTable} {led : Bool} (k : TabOk t led) (n : Nat) : TabOk (t.orStandIn n) led:=by
 unfold SetTable.orStandIn
 split
 ·exact k
 ·exact k.standIn n
theorem Gv (j : Nat) : SetTable.has #[] j = false:=by
 unfold SetTable.has
 simp
theorem yL {t : SetTable} {led : Bool} (k : TabOk t led) {h : Int} : ∀ (fuel : Nat) (p : SetTable.Probe) (j : Nat) (dm : Option Nat),p.dummy = none -> SetTable.probe.go t (fun _ => h + 1) h fuel p = some (.empty j dm) -> t.slot j = .empty /\ dm = none
 | 0,p,j,dm,_,e => by cases e
 | fuel + 1,p,j,dm,hp,e => by
  unfold SetTable.probe.go at e
  cases hs : t.slot p.j with
  | empty =>
   rw [hs] at e
   cases e
   exact ⟨hs,hp⟩
  | dummy =>
   exfalso
   unfold SetTable.slot at hs
   dsimp only at hs
   split at hs
   ·cases hs
   ·rw [k.nod,Gv] at hs
    simp at hs
  | live i =>
   rw [hs] at e
   dsimp only at e
   rw [if_neg (by simp; omega)] at e
   refine yL k fuel _ j dm ?_ e
   unfold SetTable.advance
   split
   ·exact hp
   ·exact hp
theorem Hg {t : SetTable} {led : Bool} (k : TabOk t led) {h : Int} {j : Nat} {b : Bool} (e : t.freeSlot h = some (j,b)) : t.place[SetTable.below t.place j]? ≠ some j /\ b = false:=by
 unfold SetTable.freeSlot SetTable.probe at e
 split at e
 ·rename_i j' dm e'
  obtain ⟨h1,rfl⟩:=yL k _ _ _ _ rfl e'
  simp at e
  obtain ⟨rfl,rfl⟩:=e
  refine ⟨fun z => ?_,rfl⟩
  unfold SetTable.slot at h1
  dsimp only at h1
  rw [if_pos (by rw [z]; simp)] at h1
  cases h1
 ·cases e
theorem Fq {t : SetTable} {led : Bool} (k : TabOk t led) (es : Array (Int × Value)) (h : Int) (x : Value) : TabOk (layNew t es h x).2.1 led:=by
 unfold layNew
 split
 ·rename_i slot wd e
  obtain ⟨hj,rfl⟩:=Hg k e
  have k1 : TabOk (t.put slot).1 led:=by
   refine ⟨k.rise.put hj,?_,k.led⟩
   show (if SetTable.has t.dummies slot = true then _ else t.dummies) = #[]
   rw [k.nod,Gv]
   rfl
  exact k1.orStandIn _
 ·exact k.standIn _
theorem C2 {t : SetTable} {led : Bool} (k : TabOk t led) (es : Array (Int × Value)) (n : Nat) : TabOk (relayAll t es n).2.1 led:=by
 unfold relayAll
 split
 ·rename_i t' order e
  dsimp only
  split
  ·unfold SetTable.relaid SetTable.laid at e
   simp only [Option.bind_eq_bind,Option.bind_eq_some_iff] at e
   obtain ⟨owner,_,e⟩:=e
   cases e
   refine ⟨?_,rfl,k.led⟩
   unfold Rise
   dsimp only
   rw [List.map_filterMap]
   refine List.Pairwise.filterMap _ (fun a a' hr b hb b' hb' => ?_) List.pairwise_lt_range
   simp only [Option.map_map,Option.mem_def,Option.map_eq_some_iff,Function.comp] at hb hb'
   obtain ⟨_,_,rfl⟩:=hb
   obtain ⟨_,_,rfl⟩:=hb'
   exact hr
  ·exact k.standIn _
 ·exact k.standIn _
abbrev byT (w : World) : Bool:=w.params.followText "set-order"
def F2 : Value -> Int
 | .int n _ => n
 | _ => 0
def SetW (P : Program) (w : World) (h : Heap) (a : Addr) (ns : List Int) : Prop:=
 ∃ o es ep t,h.get? a = some o /\ o.ExactSet /\ o.data = .set es ep t /\ ElemsOf (intKind P w) es.toList /\ (∀ e ∈ es.toList,∃ n u,e.2 = .int n u) /\ (es.toList.map fun e => F2 e.2).Perm ns /\ es.size < scanBound /\ t.fits es.size = true /\ TabOk t (!byT w)
theorem SetW.keep {P : Program} {w : World} {h h' : Heap} {a : Addr} {ns : List Int} (x : SetW P w h a ns) (k : ∀ o,h.get? a = some o -> h'.get? a = some o) : SetW P w h' a ns:=by
 obtain ⟨o,es,ep,t,ho,r⟩:=x
 exact ⟨o,es,ep,t,k o ho,r⟩
section
variable {P : Program} {w : World} {A : Around} {E : Value -> Shared -> Prop} {s : Shared}
theorem IJ {k n : Int} {u : Tok} : (intKind P w).is k (.int n u) = decide (k = n):=KeyKind.is_eq_decide (intKind_is P w n u) k
theorem JV {h : Heap} {a : Addr} {o : Obj} {es es' : Array (Int × Value)} {ep : Nat} {t t' : SetTable} {ns : List Int} (ho : h.get? a = some o) (hex : o.ExactSet) (hd : o.data = .set es ep t) (hel : ElemsOf (intKind P w) es'.toList)
  (hi : ∀ e ∈ es'.toList,∃ n u,e.2 = .int n u) (hp : (es'.toList.map fun e => F2 e.2).Perm ns) (hb : es'.size < scanBound) (hf : t'.fits es'.size = true) (hk : TabOk t' (!byT w)) :
  (h.update a (Obj.putSet es' t')).get? a = some { o with data:=.set es' (ep + 1) t' } /\ SetW P w (h.update a (Obj.putSet es' t')) a ns:=by
 have hg : (h.update a (Obj.putSet es' t')).get? a = some { o with data:=.set es' (ep + 1) t' }:=by
  have q:=Heap.get?_update_self (Obj.putSet es' t') ho (by rw [putSet_of es' t' hd]; rfl)
  rw [putSet_of es' t' hd] at q
  exact q
 exact ⟨hg,_,es',ep + 1,t',hg,hex,rfl,hel,hi,hp,hb,hf,hk⟩
theorem Gd {g : Bool -> Sem Unit} (hg : ∀ (b : Bool) (s₁ : Shared) (Q' : Unit -> Shared -> Prop),Q' () s₁ -> wpAny (model P w) A (g b) Q' E s₁) {a : Addr} {o : Obj} {es es1 : Array (Int × Value)} {ep : Nat} {t t2 : SetTable} {ns : List Int} {R : Option Bool -> Shared -> Prop} {wd : Bool}
  (ho : s.heap.get? a = some o) (hex : o.ExactSet) (hd : o.data = .set es ep t) (hel : ElemsOf (intKind P w) es1.toList) (hi : ∀ e ∈ es1.toList,∃ n u,e.2 = .int n u) (hp : (es1.toList.map fun e => F2 e.2).Perm ns) (hb : es1.size < scanBound)
  (hf : t2.fits es1.size = true) (hk : TabOk t2 (!byT w)) (h : ∀ h',Heap.SameBut a s.heap h' -> SetW P w h' a ns -> R (some true) { s with heap:=h' }) :
  wpAny (model P w) A (do
    storeSet a es1 t2
    if (!wd && t2.tooFull) = true then do
      g (relayAll t2 es1 (SetTable.grown es1.size)).2.2
      storeSet a (relayAll t2 es1 (SetTable.grown es1.size)).1 (relayAll t2 es1 (SetTable.grown es1.size)).2.1
      pure (some true)
     else pure (some true)) R E s:=by
 refine wpAny_bind (wpAny_storeSet_of ho hd ?_ (fits_of_scanBound hb))
 obtain ⟨ho1,hS1⟩:=JV (P:=P) (w:=w) ho hex hd hel hi hp hb hf hk
 have sb1:=Heap.SameBut.update s.heap a (Obj.putSet es1 t2)
 split
 ·have rp:=relayAll_perm t2 es1 (SetTable.grown es1.size)
  have rf:=relayAll_fits t2 es1 (SetTable.grown es1.size)
  have rt:=C2 hk es1 (SetTable.grown es1.size)
  generalize relayAll t2 es1 (SetTable.grown es1.size) = Rl at rp rf rt ⊢
  obtain ⟨es2,t3,gave⟩:=Rl
  dsimp only at rp rf rt ⊢
  have sz : es2.size = es1.size:=by rw [<- Array.length_toList,rp.length_eq,Array.length_toList]
  have hb2 : es2.size < scanBound:=by rw [sz]; exact hb
  refine wpAny_bind (hg _ _ _ ?_)
  refine wpAny_bind (wpAny_storeSet_of ho1 rfl ?_ (fits_of_scanBound hb2))
  obtain ⟨_,hS2⟩:=JV (P:=P) (w:=w) (ns:=ns) ho1 hex rfl (hel.perm rp) (fun e he => hi e (rp.mem_iff.mp he)) ((rp.map _).trans hp) hb2 rf rt
  exact wpAny_pure (h _ (sb1.trans (Heap.SameBut.update _ a _)) hS2)
 ·exact wpAny_pure (h _ sb1 hS1)
theorem FP {a : Addr} {ns : List Int} {k : Int} {u : Tok} {Q : Bool -> Shared -> Prop} (hS : SetW P w s.heap a ns) (hroom : ns.length + 1 < scanBound)
  (h : ∀ h' b,Heap.SameBut a s.heap h' -> SetW P w h' a (step_dedup ns k) -> Q b { s with heap:=h' }) : wpAny (model P w) A (setAddHashed a (.int k u) ((intKind P w).hash k)) Q E s:=by
 obtain ⟨o,es,ep,t,ho,hex,hd,hel,hi,hp,hb,hf,hk⟩:=hS
 have hsz : es.size = ns.length:=by rw [<- hp.length_eq,List.length_map,Array.length_toList]
 have mem : ∀ z : Int,z ∈ ns ↔ ∃ e ∈ es.toList,(intKind P w).is z e.2 = true:=fun z => by
  rw [<- hp.mem_iff,List.mem_map]
  constructor
  ·rintro ⟨e,he,rfl⟩
   obtain ⟨n,v,e2⟩:=hi e he
   exact ⟨e,he,by rw [e2,IJ]; simp [F2]⟩
  ·rintro ⟨e,he,q⟩
   obtain ⟨n,v,e2⟩:=hi e he
   rw [e2,IJ] at q
   exact ⟨e,he,by rw [e2]; exact (of_decide_eq_true q).symm⟩
 unfold setAddHashed setAddHashedIn
 refine wpAny_holding (wpAny_bind (wpAny_setState_of ho hd hf ?_))
 dsimp only
 rw [byScan_of (x:=.int k u) rfl hb hel]
 simp only [↓reduceIte]
 unfold setAddByScan
 refine wpAny_bind (wpAny_bind (wpAny_rule ?_))
 refine wpAny_bind (wpAny_setScan_of (intKind_is P w k u) ho hd hf hel ?_)
 cases hr : List.findIdx? (fun e => (intKind P w).is k e.2) es.toList with
 | some j =>
  dsimp only
  obtain ⟨hj,pj,_⟩:=List.findIdx?_eq_some_iff_getElem.mp hr
  have kin : k ∈ ns:=(mem k).mpr ⟨es.toList[j],List.getElem_mem hj,pj⟩
  refine wpAny_pure (wpAny_pure ?_)
  have q:=h s.heap false (Heap.SameBut.refl a s.heap) ⟨o,es,ep,t,ho,hex,hd,hel,hi,by
   unfold step_dedup
   rw [if_pos (by simpa using kin)]
   exact hp,hb,hf,hk⟩
  cases s
  exact q
 | none =>
  dsimp only
  have nin : k ∉ ns:=fun z => by
   obtain ⟨e,he,q⟩:=(mem k).mp z
   have:=List.findIdx?_eq_none_iff.mp hr e he
   rw [q] at this
   cases this
  have gw : ∀ (b : Bool) (s₁ : Shared) (Q' : Unit -> Shared -> Prop),Q' () s₁ -> wpAny (model P w) A (match b with | true => rule "set.scan.the-table-gave-way" | false => pure ()) Q' E s₁:=fun b s₁ Q' q => by
   cases b
   ·exact wpAny_pure q
   ·exact wpAny_rule q
  have lp:=layNew_perm t es ((intKind P w).hash k) (.int k u)
  have lf:=layNew_fits t es ((intKind P w).hash k) (.int k u)
  have lt:=Fq hk es ((intKind P w).hash k) (.int k u)
  generalize layNew t es ((intKind P w).hash k) (.int k u) = L at lp lf lt ⊢
  obtain ⟨es1,t1,wd,gave⟩:=L
  dsimp only at lp lf lt ⊢
  rw [Array.toList_push] at lp
  have hel1 : ElemsOf (intKind P w) es1.toList:=(hel.push (intKind_is P w k u) rfl).perm lp
  have hi1 : ∀ e ∈ es1.toList,∃ n v,e.2 = .int n v:=fun e he => by
   rcases List.mem_append.mp (lp.mem_iff.mp he) with z | z
   ·exact hi e z
   ·rw [List.mem_singleton.mp z]; exact ⟨k,u,rfl⟩
  have hp1 : (es1.toList.map fun e => F2 e.2).Perm (step_dedup ns k):=by
   unfold step_dedup
   rw [if_neg (by simpa using nin)]
   refine (lp.map _).trans ?_
   rw [List.map_append]
   exact hp.append (List.Perm.refl _)
  have hb1 : es1.size < scanBound:=by rw [<- Array.length_toList,lp.length_eq,List.length_append,Array.length_toList,hsz]; exact hroom
  refine wpAny_bind (gw _ _ _ ?_)
  split
  ·refine wpAny_bind ?_
   rw [hashByValue_scannable 8 (x:=.int k u) rfl]
   refine wpAny_pure ?_
   exact Gd (fun b s₁ Q' q => gw b s₁ Q' q) ho hex hd hel1 hi1 hp1 hb1 lf lt fun h' sb S => wpAny_pure (h h' true sb S)
  ·refine wpAny_bind (wpAny_pure ?_)
   simp only [↓reduceIte]
   exact Gd (fun b s₁ Q' q => gw b s₁ Q' q) ho hex hd hel1 hi1 hp1 hb1 lf lt fun h' sb S => wpAny_pure (h h' true sb S)
end
end L2
set_option Elab.async false
set_option linter.all false
set_option maxRecDepth 100000
namespace L2
open PySem PySem.Spec PyProof.Rows
section
variable {P : Program} {w : World} {A : Around} {E : Value -> Shared -> Prop} {R : Result -> Shared -> Prop} {I : Addr} {fp wr : List Addr} {G : Array GenState -> Array GenState -> Prop} {n : Nat} {Pz : Nat -> Value -> Prop} {St : Nat -> Shared -> Prop}
theorem DJ (W : WalksS P w A.in1 I fp wr G n Pz St) (S : Addr) (hSf : S ∉ fp) (val : Nat -> Int) (hval : ∀ i v,Pz i v -> ∃ t,v = .int (val i) t) (hb : n + 1 < scanBound) :
  ∀ (k i : Nat) (s : Shared),n - i = k -> i <= n -> St i s -> SetW P w s.heap S (firstMet val i) -> (∀ s',Moved (S :: wr) G s s' -> SetW P w s'.heap S (firstMet val n) -> R (.ok (.ret .none)) s') ->
   codeAny (model P w) A (.builtin "set.update.loop" ⟨[.ref S,.ref I],[]⟩) R s:=by
 have nw : S ∉ wr:=fun z => hSf (W.sub _ z)
 have up : ∀ b ∈ wr,b ∈ S :: wr:=fun b z => List.mem_cons_of_mem _ z
 intro k
 induction k with
 | zero =>
  intro i s hk hi hst hS hR
  obtain rfl : i = n:=by omega
  refine codeAny_builtin F.entry_set_update_loop ?_
  rw [Around.under_plainId F.plain_set_update_loop _]
  refine wpAny_bind (m:=pyNext (.ref I)) (W.done s _ _ hst fun s' hm => ?_)
  exact wpAny_pure (hR s' (hm.mono up) (hS.keep fun o q => hm.heap S o nw q))
 | succ k ih =>
  intro i s hk hi hst hS hR
  have hlt : i < n:=by omega
  refine codeAny_builtin F.entry_set_update_loop ?_
  rw [Around.under_plainId F.plain_set_update_loop _]
  refine wpAny_bind (m:=pyNext (.ref I)) (W.item i s _ _ hlt hst fun v s' hP hst' hm => ?_)
  obtain ⟨t,rfl⟩:=hval i v hP
  have hS' : SetW P w s'.heap S (firstMet val i):=hS.keep fun o q => hm.heap S o nw q
  refine wpAny_bind (m:=holding [Value.int (val i) t] (setAdd S (.int (val i) t))) (wpAny_holding ?_)
  unfold setAdd
  refine wpAny_holding (wpAny_bind ((intKind P w).pyHash (k:=val i) (intKind_is _ _ _ _) ?_))
  have room : (firstMet val i).length + 1 < scanBound:=by
   have:=firstMet_length_le val i
   omega
  refine FP (s:={ s' with toks:=s'.toks + 1 }) hS' room fun h' b sb S2 => ?_
  rw [<- firstMet_succ] at S2
  refine wpAny_pure ⟨plainId_quiet F.plain_set_update_loop _,ih (i + 1) _ (by omega) hlt (W.frame _ s' _ _ hst' (Nat.le_succ _) fun b hb o e => ?_) S2 fun s2 m2 S3 => ?_⟩
  ·rw [sb.2 b (fun z : b = S => hSf (z ▸ hb))]; exact e
  ·refine hR s2 (Moved.trans W.gtrans ((hm.mono up).then_heap (Nat.le_succ _) fun b o hb e => ?_) m2) S3
   rw [sb.2 b (fun z : b = S => hb (by rw [z]; exact List.mem_cons_self))]; exact e
end
section
variable {P : Program} {w : World} {A : Around} {E : Value -> Shared -> Prop} {s : Shared}
def c9 (w : World) : Obj:={ cls:=.type "set",dict:=none,data:=.set #[] 0 (.fresh 0 0 (!byT w)) }
theorem NS (h : Heap) (hg : h.get? a = some (c9 w)) : SetW P w h a []:=
 ⟨_,#[],0,_,hg,⟨rfl,rfl,rfl⟩,rfl,(fun e he => by cases he),(fun e he => by cases he),List.Perm.refl _,by decide,rfl,⟨List.Pairwise.nil,rfl,rfl⟩⟩
theorem G3 (a : Value) {Q₁ : Value -> Shared -> Prop} (h : Q₁ (.ref s.heap.objs.size) { s with heap:=s.heap.push (c9 w) }) :
  codeAny (model P w) A (.call (.builtin "set.__new__") ⟨[.type "set",a],[]⟩) (wants Q₁ E) s:=by
 refine codeAny_of_tree ?_
 show wpAny _ A.in1 (do checkBuiltinCall "set.__new__" ⟨[.type "set",a],[]⟩; again (.builtin "set.__new__" ⟨[.type "set",a],[]⟩)) _ _ s
 refine wpAny_bind (wpAny_of_eq (F.newCall_set_1 a) (wpAny_pure ⟨plainId_quiet F.plain_set_new _,codeAny_builtin F.entry_set_new ?_⟩))
 rw [Around.under_plainId F.plain_set_new _]
 unfold Builtin.«set.__new__» Builtin.Frozenset.newClass
 have hsub:=sub_set_self
 obtain ⟨hp,g,d,tk,os⟩:=s
 dsimp only
 wp_walk
 refine wpAny_askSetting (wpAny_pure ?_)
 dsimp only
 simp only [newObj]
 exact wpAny_bind (wpAny_alloc (wpAny_pure (wpAny_pure h)))
set_option maxHeartbeats 3200000 in
theorem G2 {l : Addr} {items : Array Value} {ns : List Int} {Q : Value -> Shared -> Prop} (hh : A.handled = none) (hl : s.heap.IsList l items) (hi : IntsAre items.toList ns) (hb : items.size + 1 < scanBound)
  (h : ∀ (h' : Heap) (tk : Nat),SetW P w h' s.heap.objs.size (firstMet (fun i => ns.getD i 0) items.size) -> (∀ b o,b < s.heap.objs.size -> s.heap.get? b = some o -> h'.get? b = some o) -> Q (.ref s.heap.objs.size) { s with heap:=h',toks:=tk }) :
  wpAny (model P w) A (call (.type "set") [.ref l]) Q E s:=by
 obtain ⟨c,tl,hmro⟩:=F.called_set.mro
 have hmade:=F.called_set.made
 have hsub:=F.called_set.sub
 refine wpAny_call (codeAny_of_tree ?_)
 show wpAny _ _ (callAny (.type "set") _) _ _ _
 refine wpAny_pure ⟨Code.quiet_builtin _ (by decide +kernel),codeAny_builtin F.entry_type_call ?_⟩
 rw [Around.under_plain (weight_type_call_type "set" [.ref l] []) rfl]
 have h1:=F.called_set.notType
 have h2:=F.called_set.canCreate
 have hct:=F.typeCall_set_1 (.ref l)
 repeat (any_goals (first | assumption | wp_step))
 refine codeAny_mono (G3 (.ref l) (E:=E) (Q₁:=fun obj s₁ => obj = .ref s.heap.objs.size /\ s₁ = { s with heap:=s.heap.push (c9 w) }) ⟨rfl,rfl⟩) fun r s₁ hr => ?_
 cases r with
 | error e => exact hr
 | ok fl =>
  cases fl with
  | ret obj =>
   obtain ⟨rfl,rfl⟩:=hr
   have hS : (s.heap.push (c9 w)).get? s.heap.objs.size = some (c9 w):=Heap.get?_push_size _ rfl
   have hT : Shared.TypeIs { s with heap:=s.heap.push (c9 w) } (.ref s.heap.objs.size) "set" := ⟨_,hS,rfl⟩
   have hli:=F.called_set.init.lookup
   have hbi:=F.called_set.init.bind (.ref s.heap.objs.size)
   repeat (any_goals (first | assumption | wp_step))
   refine codeAny_mono (codeAny_call_builtin (R:=wants (fun r s₂ => r = .none /\ ∃ h' tk,s₂ = { s with heap:=h',toks:=tk } /\ SetW P w h' s.heap.objs.size (firstMet (fun i => ns.getD i 0) items.size) /\
     (∀ b o,b < s.heap.objs.size -> s.heap.get? b = some o -> h'.get? b = some o)) E) F.called_set.init.plain F.entry_set_init (check_set_init_1 hT ?_)) fun r₂ s₂ hr₂ => ?_
   ·obtain ⟨ol,hol,hcl,nl,hdl⟩:=hl
    obtain ⟨ocls,odict,odata,oslots⟩:=ol
    simp only at hcl hdl
    subst hcl; subst hdl
    have hol' : (s.heap.push (c9 w)).get? l = some { cls:=.type "list",dict:=odict,data:=.seq items nl,slots:=oslots }:=Heap.get?_push_of_some _ hol
    have hsls:=F.sub_list_set
    have hslf:=F.sub_list_frozenset
    have hl1 : (s.heap.push (c9 w)).IsList l items:=⟨_,hol',rfl,nl,rfl⟩
    have hne : (Value.type "list" == Value.type "dict") = false:=by decide
    have hS0 : (s.heap.push (c9 w)).get? s.heap.objs.size = some { cls:=.type "set",dict:=none,data:=.set #[] 0 (.fresh 0 0 (!byT w)) }:=hS
    unfold Builtin.«set.__init__» noKeywords Builtin.Frozenset.updateFrom
    generalize hPI : pyIter = PI
    wp_walk
    subst hPI
    refine wpAny_pyIter_list hl1 (wpAny_bind (wpAny_runValue ?_))
    have hlS : l < s.heap.objs.size:=Heap.lt_size hol
    have hh3 : A.in1.in1.in1.handled = none:=by simp [hh]
    have neI : l ≠ (s.heap.push (c9 w)).objs.size:=by rw [Heap.size_push]; exact Nat.ne_of_lt (Nat.lt_succ_of_lt hlS)
    have nS : s.heap.objs.size ∉ [(s.heap.push (c9 w)).objs.size,l]:=by
     rw [Heap.size_push]
     simp only [List.mem_cons,List.mem_singleton,List.not_mem_nil,or_false,not_or]
     exact ⟨Nat.ne_of_lt (Nat.lt_succ_self _),Nat.ne_of_gt hlS⟩
    refine DJ ((Walks.list hh3 _ l neI items).toS) s.heap.objs.size nS (fun i => ns.getD i 0) (fun i v hv => IntsAre.int_at hi i v (by rw [Array.getElem?_toList]; exact hv)) hb (items.size - 0) 0 _ (by omega) (Nat.zero_le _)
     ⟨⟨_,Heap.get?_push_size _ rfl,rfl,rfl⟩,(hl1.push _)⟩ ?_ ?_
    ·exact NS (w:=w) _ (Heap.get?_push_of_some _ hS)
    ·rintro ⟨h',g',d',tk',os'⟩ hm hS'
     have eg : g' = s.gens:=hm.gens
     have ed : d' = s.drawn:=hm.drawn
     have eo : os' = s.os:=hm.os
     subst eg ed eo
     refine wpAny_pure ?_
     show wpAny _ _ (ret Value.none) _ _ _
     refine wpAny_pure ⟨rfl,h',tk',rfl,hS',fun b o hb e => ?_⟩
     refine hm.heap b o ?_ (Heap.get?_push_of_some _ (Heap.get?_push_of_some _ e))
     rw [Heap.size_push]
     simp only [List.mem_cons,List.mem_singleton,List.not_mem_nil,or_false,not_or]
     exact ⟨Nat.ne_of_lt hb,Nat.ne_of_lt (Nat.lt_succ_of_lt hb)⟩
   ·cases r₂ with
    | error e => exact hr₂
    | ok fl₂ =>
     cases fl₂ with
     | ret r =>
      obtain ⟨rfl,h',tk,rfl,hS',hk'⟩:=hr₂
      repeat (any_goals (first | assumption | wp_step))
      exact h _ _ hS' hk'
     | next => exact hr₂
     | brk => exact hr₂
     | cont => exact hr₂
  | next => exact hr
  | brk => exact hr
  | cont => exact hr
end
end L2
set_option Elab.async false
set_option linter.all false
set_option maxRecDepth 100000
namespace L2
open PySem PySem.Spec PyProof.Rows
namespace SF
theorem entry_iter : entryFor table "set.__iter__" = some Builtin.«frozenset.__iter__» := entryFor_alias (id' := "frozenset.__iter__") (by kernel_rfl) rfl (by decide +kernel) (by kernel_rfl)
theorem slot_next : Slot "set_iterator" "__next__" "set_iterator.__next__" :=
 .of (owner := "set_iterator") (n := "__next__") (by rw [typeLookup_type,builtinLookup_eq_fast]; kernel_rfl) (by decide +kernel) (by decide +kernel) (by decide +kernel) (by first | exact .inl (by decide +kernel) | exact .inr (by decide +kernel))
  (by rw [isSubtype_type]; kernel_rfl)
theorem entry_next : entryFor table "set_iterator.__next__" = some Builtin.«set_iterator.__next__» := entryFor_of_tree (by kernel_rfl)
theorem args_next (a : Value) : argsOk "set_iterator.__next__" ⟨[a],[]⟩:=by unfold argsOk; kernel_rfl
theorem slot_iter_self : Slot "set_iterator" "__iter__" "set_iterator.__iter__" :=
 .of (owner := "set_iterator") (n := "__iter__") (by rw [typeLookup_type,builtinLookup_eq_fast]; kernel_rfl) (by decide +kernel) (by decide +kernel) (by decide +kernel) (by first | exact .inl (by decide +kernel) | exact .inr (by decide +kernel))
  (by rw [isSubtype_type]; kernel_rfl)
end SF
theorem qS {α : Type} : ∀ (l : List α) (i : Nat) (h : i < l.length),(l[i] :: l.eraseIdx i).Perm l
 | x :: r,0,_ => List.Perm.refl _
 | x :: r,i + 1,h => (List.Perm.swap _ _ _).trans (List.Perm.cons _ (qS r i (Nat.lt_of_succ_lt_succ h)))
theorem GF {α : Type} (next : Nat -> Nat) : ∀ (fuel k : Nat) (left : List α) (out : Array α),left.length = fuel -> (pickOrder.go next fuel k left out).toList.Perm (out.toList ++ left)
 | 0,k,left,out,h => by
  rw [List.length_eq_zero_iff.mp h,List.append_nil]
  exact List.Perm.refl _
 | fuel + 1,k,left,out,h => by
  unfold pickOrder.go
  have hlt : next k % left.length < left.length:=Nat.mod_lt _ (by omega)
  rw [List.getElem?_eq_getElem hlt]
  dsimp only
  refine (GF next fuel (k + 1) _ _ (by rw [List.length_eraseIdx_of_lt hlt]; omega)).trans ?_
  rw [Array.toList_push,List.append_assoc]
  refine List.Perm.append_left _ ?_
  exact qS _ _ hlt
theorem uF {α : Type} (next : Nat -> Nat) (xs : Array α) : (pickOrder next xs).toList.Perm xs.toList:=by
 have q:=GF next xs.size 0 xs.toList #[] (by simp)
 unfold pickOrder
 simpa using q
theorem Aq {M : Model} {A : Around} {E : Value -> Shared -> Prop} {s : Shared} {src : Source} {n : Nat} {Q : Nat -> Shared -> Prop} (hn : n ≠ 0) (h : ∀ i d',i < n -> Q i { s with drawn:=d' }) : wpAny M A (choose src n) Q E s:=
 fun _ _ _ => ⟨hn,h _ _ (Nat.mod_lt _ (Nat.pos_of_ne_zero hn))⟩
theorem AB {M : Model} {A : Around} {E : Value -> Shared -> Prop} {α : Type} : ∀ (n : Nat) (xs : List α) (s : Shared) (Q : List α -> Shared -> Prop),xs.length = n -> (∀ ys d',ys.Perm xs -> Q ys { s with drawn:=d' }) -> wpAny M A (drawOrder n xs) Q E s
 | 0,xs,s,Q,hl,h => by
  have e : xs = []:=List.length_eq_zero_iff.mp hl
  subst e
  unfold drawOrder
  exact wpAny_pure (h [] s.drawn (List.Perm.refl _))
 | n + 1,[],s,Q,hl,h => by cases hl
 | n + 1,x :: r,s,Q,hl,h => by
  unfold drawOrder
  refine wpAny_bind (Aq (by simp) fun i d' hi => ?_)
  rw [List.getElem?_eq_getElem hi]
  dsimp only
  refine wpAny_bind (AB n _ _ _ (by rw [List.length_eraseIdx_of_lt hi]; omega) fun ys d2 p => wpAny_pure ?_)
  exact h _ _ ((List.Perm.cons _ p).trans (qS _ _ hi))
def IsSetIter (h : Heap) (I S : Addr) (first : Value) (i n ep : Nat) : Prop := ∃ o,h.get? I = some o /\ o.cls = .type "set_iterator" /\ o.data = .fields #[first,.int i 0,.ref S,.int n 0,.int ep 0]
theorem IsSetIter.typeIs {s : Shared} {I S : Addr} {first : Value} {i n ep : Nat} (x : IsSetIter s.heap I S first i n ep) : s.TypeIs (.ref I) "set_iterator" := let ⟨o,ho,hc,_⟩:=x; ⟨o,ho,hc⟩
def LN (w : World) (es : Array (Int × Value)) (ep : Nat) (t : SetTable) (S T : Addr) (L : List Value) (h : Heap) (i : Nat) (first : Value) : Prop:=
 (byT w = true /\ (∃ z : Nat,first = .int z 0) /\ L = (pickOrder (w.params.setOrder S ep) es).toList.map (·.2)) \/
 (byT w = false /\ (t.plain = true \/ es.size <= 1) /\ (∃ z : Nat,first = .int z 0 /\ SetTable.below t.place z = i) /\ L = es.toList.map (·.2)) \/
 (byT w = false /\ first = .ref T /\ ∃ pl : List Nat,pl.Perm (List.range es.size) /\ (∃ o e,h.get? T = some o /\ o.data = .seq (pl.map fun p : Nat => Value.int (p : Int) 0).toArray e) /\ L = pl.map fun p => (es.getD p (0,.none)).2)
structure SetSt (w : World) (es : Array (Int × Value)) (ep : Nat) (t : SetTable) (S T I : Addr) (L : List Value) (i : Nat) (h : Heap) : Prop where
 set : ∃ o,h.get? S = some o /\ o.data = .set es ep t
 it : ∃ first,IsSetIter h I S first i es.size ep /\ LN w es ep t S T L h i first
section
variable {P : Program} {w : World} {A : Around} {E : Value -> Shared -> Prop} {s : Shared} {es : Array (Int × Value)} {ep : Nat} {t : SetTable} {S T I : Addr} {L : List Value} {i : Nat}
theorem next_item (hf : t.fits es.size = true) (hk : TabOk t (!byT w)) (hL : L.length = es.size) (hTI : T ≠ I) (hSI : S ≠ I) (st : SetSt w es ep t S T I L i s.heap) (hi : i < es.size) {Q : Option Value -> Shared -> Prop}
  (h : ∀ h',Heap.SameBut I s.heap h' -> SetSt w es ep t S T I L (i + 1) h' -> Q (some (L.getD i .none)) { s with heap:=h' }) : wpAny (model P w) A (pyNext (.ref I)) Q E s:=by
 obtain ⟨⟨oS,hS,hSd⟩,first,hit,by_⟩:=st
 obtain ⟨o,ho,hc,hd⟩:=id hit
 have hLi : L.getD i .none = L[i]'(by omega):=by simp [List.getD,hL,hi]
 unfold pyNext
 refine wpAny_bind (wpAny_attempt (wpAny_callSpecial?_slot (name:=Str.ofString "__next__") hit.typeIs SF.slot_next (wpAny_call_entry SF.slot_next hit.typeIs SF.entry_next ?_ (SF.args_next _))))
 unfold Builtin.«set_iterator.__next__»
 refine wpAny_bind (m:=slotArgs "__next__" 0 _) (wpAny_pure ?_)
 refine wpAny_bind (wpAny_fieldsOf ho hd ?_)
 dsimp only
 unfold setEntries
 refine wpAny_bind (wpAny_bind (wpAny_setState_of hS hSd hf (wpAny_pure ?_)))
 rw [if_neg (by simp)]
 have upI : ∀ (f : Array Value -> Array Value),(s.heap.update I (Obj.mapFields f)).get? I = some (Obj.mapFields f o):=fun f => Heap.get?_update_self _ ho (Obj.isFreed_of_fields (Obj.data_mapFields hd _))
 have other : ∀ (f : Array Value -> Array Value) b,b ≠ I -> (s.heap.update I (Obj.mapFields f)).get? b = s.heap.get? b:=fun f b hb => Heap.get?_update_other _ _ (Ne.symm hb)
 have put1 : ∀ (h1 : Heap) (fi : Value),IsSetIter h1 I S fi i es.size ep -> IsSetIter (h1.update I (Obj.mapFields (·.setIfInBounds 1 (rawInt ((i : Int) + 1))))) I S fi (i + 1) es.size ep:=by
  rintro h1 fi ⟨o1,ho1,hc1,hd1⟩
  exact ⟨_,Heap.get?_update_self _ ho1 (Obj.isFreed_of_fields (Obj.data_mapFields hd1 _)),(Obj.cls_mapFields ..).trans hc1,by rw [Obj.data_mapFields hd1]; simp [rawInt]⟩
 have put0 : ∀ (h1 : Heap) (fi : Value) (nx : Nat),IsSetIter h1 I S fi i es.size ep -> IsSetIter (h1.update I (Obj.mapFields (·.setIfInBounds 0 (rawInt nx)))) I S (.int nx 0) i es.size ep:=by
  rintro h1 fi nx ⟨o1,ho1,hc1,hd1⟩
  exact ⟨_,Heap.get?_update_self _ ho1 (Obj.isFreed_of_fields (Obj.data_mapFields hd1 _)),(Obj.cls_mapFields ..).trans hc1,by rw [Obj.data_mapFields hd1]; simp [rawInt]⟩
 have keepS : ∀ h1,Heap.SameBut I s.heap h1 -> ∃ o,h1.get? S = some o /\ o.data = .set es ep t:=fun h1 sb => ⟨oS,(sb.2 S hSI).trans hS,hSd⟩
 rcases by_ with ⟨bt,⟨z,rfl⟩,eL⟩ | ⟨bt,pl,⟨z,rfl,hz⟩,eL⟩ | ⟨bt,rfl,pl,pp,⟨oT,eT,hT,hTd⟩,eL⟩
 ·have px:=uF (w.params.setOrder S ep) es
  have hx : i < (pickOrder (w.params.setOrder S ep) es).size:=by rw [<- Array.length_toList,px.length_eq,Array.length_toList]; exact hi
  refine wpAny_bind ?_
  unfold setNext
  refine wpAny_bind (wpAny_setState_of hS hSd hf ?_)
  unfold setsByText
  refine wpAny_bind (wpAny_bind (wpAny_askSetting (wpAny_pure ?_)))
  rw [if_pos (show (model P w).w.params.followText "set-order" = true from bt),if_neg (by simp)]
  unfold setWalk setsByText
  refine wpAny_bind (wpAny_bind (wpAny_setState_of hS hSd hf ?_))
  refine wpAny_bind (wpAny_bind (wpAny_askSetting (wpAny_pure ?_)))
  rw [if_pos (show (model P w).w.params.followText "set-order" = true from bt)]
  refine wpAny_bind (wpAny_askSetting (wpAny_pure (wpAny_pure ?_)))
  have ex : (pickOrder ((model P w).w.params.setOrder S ep) es)[((i : Nat) : Int).toNat]? = some (pickOrder (w.params.setOrder S ep) es)[i]:=by
   rw [Int.toNat_natCast]
   exact Array.getElem?_eq_getElem hx
  rw [ex]
  dsimp only [Option.map]
  refine wpAny_bind (wpAny_setField ho hd (by simp) ?_)
  obtain ⟨o1,ho1,hc1,hd1⟩:=put0 _ _ z hit
  rw [show ((z : Nat) : Int).toNat = z from Int.toNat_natCast z]
  refine wpAny_bind (wpAny_setField ho1 hd1 (by simp) (wpAny_pure ⟨_,rfl,wpAny_pure ?_⟩))
  have sb : Heap.SameBut I s.heap ((s.heap.update I (Obj.mapFields (·.setIfInBounds 0 (rawInt z)))).update I (Obj.mapFields (·.setIfInBounds 1 (rawInt ((i : Int) + 1))))):=(Heap.SameBut.update ..).trans (Heap.SameBut.update ..)
  have q:=h _ sb ⟨keepS _ sb,_,put1 _ _ (put0 _ _ z hit),.inl ⟨bt,⟨z,rfl⟩,eL⟩⟩
  rw [hLi] at q
  have eLi : L[i]'(by omega) = (pickOrder (w.params.setOrder S ep) es)[i].2:=by simp [eL]
  rw [eLi] at q
  exact q
 ·have hpz : t.place.size = es.size:=by
   simp only [SetTable.fits,Bool.and_eq_true,beq_iff_eq,decide_eq_true_eq] at hf
   exact hf.1
  have hip : i < t.place.size:=by omega
  refine wpAny_bind ?_
  unfold setNext
  refine wpAny_bind (wpAny_setState_of hS hSd hf ?_)
  unfold setsByText
  refine wpAny_bind (wpAny_bind (wpAny_askSetting (wpAny_pure ?_)))
  rw [if_neg (show ¬ ((model P w).w.params.followText "set-order" = true) from by rw [show (model P w).w.params.followText "set-order" = false from bt]; exact Bool.false_ne_true)]
  show wpAny _ _ (if (!t.plain && decide (es.size > 1)) = true then _ else _) _ _ _
  rw [if_neg (by
   rcases pl with q | q
   ·rw [q]; simp
   ·simp; omega)]
  show wpAny _ _ ((if (!t.led && !es.isEmpty) = true then _ else pure ()) >>= _) _ _ _
  rw [if_neg (by rw [hk.led,bt]; simp)]
  refine wpAny_bind (wpAny_pure (wpAny_pure ?_))
  rw [Int.toNat_natCast,hz,Array.getElem?_eq_getElem hi,Array.getElem?_eq_getElem hip]
  dsimp only
  refine wpAny_bind (wpAny_setField ho hd (by simp) ?_)
  obtain ⟨o1,ho1,hc1,hd1⟩:=put0 _ _ (t.place[i] + 1) hit
  refine wpAny_bind (wpAny_setField ho1 hd1 (by simp) (wpAny_pure ⟨_,rfl,wpAny_pure ?_⟩))
  have sb : Heap.SameBut I s.heap ((s.heap.update I (Obj.mapFields (·.setIfInBounds 0 (rawInt (t.place[i] + 1 : Nat))))).update I (Obj.mapFields (·.setIfInBounds 1 (rawInt ((i : Int) + 1))))):=(Heap.SameBut.update ..).trans (Heap.SameBut.update ..)
  have q:=h _ sb ⟨keepS _ sb,_,put1 _ _ (put0 _ _ (t.place[i] + 1) hit),.inr (.inl ⟨bt,pl,⟨_,rfl,E8 hk.rise hip⟩,eL⟩)⟩
  rw [hLi] at q
  have eLi : L[i]'(by omega) = es[i].2:=by simp [eL]
  rw [eLi] at q
  exact q
 ·have lpl : pl.length = es.size:=by rw [pp.length_eq,List.length_range]
  have hpl : pl[i]'(by omega) < es.size:=List.mem_range.mp (pp.mem_iff.mp (List.getElem_mem _))
  show wpAny _ _ (seqItems? (.ref T) >>= _) _ _ _
  unfold seqItems?
  refine wpAny_bind (wpAny_bind (wpAny_load hT ?_))
  rw [hTd]
  refine wpAny_pure ?_
  dsimp only
  have ep1 : (pl.map fun p : Nat => Value.int (p : Int) 0).toArray[((i : Nat) : Int).toNat]? = some (Value.int ((pl[i]'(by omega) : Nat) : Int) 0):=by
   rw [Int.toNat_natCast]
   simp [lpl,hi]
  rw [ep1]
  dsimp only
  unfold setNextDrawn
  refine wpAny_bind (wpAny_bind (wpAny_setState_of hS hSd hf ?_))
  dsimp only
  rw [if_neg (by simp),Int.toNat_natCast,Array.getElem?_eq_getElem hpl]
  dsimp only
  refine wpAny_pure (wpAny_bind (wpAny_setField ho hd (by simp) (wpAny_pure ⟨_,rfl,wpAny_pure ?_⟩)))
  have sb : Heap.SameBut I s.heap (s.heap.update I (Obj.mapFields (·.setIfInBounds 1 (rawInt ((i : Int) + 1))))):=Heap.SameBut.update ..
  have q:=h _ sb ⟨keepS _ sb,_,put1 _ _ hit,.inr (.inr ⟨bt,rfl,pl,pp,⟨oT,eT,(sb.2 T hTI).trans hT,hTd⟩,eL⟩)⟩
  rw [hLi] at q
  have eLi : L[i]'(by omega) = es[pl[i]'(by omega)].2:=by simp [eL,Array.getD,hpl]
  rw [eLi] at q
  exact q
theorem next_end (hh : A.handled = none) (hf : t.fits es.size = true) (hk : TabOk t (!byT w)) (hSI : S ≠ I) (st : SetSt w es ep t S T I L es.size s.heap) {Q : Option Value -> Shared -> Prop}
  (h : ∀ h',Heap.ExtBut I s.heap h' -> Q none { s with heap:=h' }) : wpAny (model P w) A (pyNext (.ref I)) Q E s:=by
 obtain ⟨⟨oS,hS,hSd⟩,first,hit,by_⟩:=st
 obtain ⟨o,ho,hc,hd⟩:=id hit
 unfold pyNext
 refine wpAny_bind (wpAny_attempt (wpAny_callSpecial?_slot (name:=Str.ofString "__next__") hit.typeIs SF.slot_next (wpAny_call_entry SF.slot_next hit.typeIs SF.entry_next ?_ (SF.args_next _))))
 unfold Builtin.«set_iterator.__next__»
 refine wpAny_bind (m:=slotArgs "__next__" 0 _) (wpAny_pure ?_)
 refine wpAny_bind (wpAny_fieldsOf ho hd ?_)
 dsimp only
 unfold setEntries
 refine wpAny_bind (wpAny_bind (wpAny_setState_of hS hSd hf (wpAny_pure ?_)))
 rw [if_neg (by simp)]
 have stop : ∀ h1,Heap.ExtBut I s.heap h1 -> wpAny (model P w) A.in1 (do let e <- newExc (.type "StopIteration") []; raiseNew e : Sem Fin) (fun fin s' => ∃ v,fin = Fin.done (Flow.ret v) /\ wpAny (model P w) A (pure (some v)) Q E s')
   (fun e s' => wpAny (model P w) A (do if <- isInstance e (.type "StopIteration") then pure none else throw e) Q E s') { s with heap:=h1 }:=by
  intro h1 e1
  refine wpAny_bind ?_
  simp only [newExc,newTuple]
  refine wpAny_bind (wpAny_newObj_type ?_ (by size_fits))
  refine wpAny_bind (m:=firstArgMember _ _) (wpAny_of_eq (a:=Value.none) (by first | rfl | (simp only [firstArgMember]; rfl)) ?_)
  refine wpAny_newObj_type ?_ (by size_fits)
  simp only [raiseNew]
  refine wpAny_bind (wpAny_handled ?_)
  rw [show A.in1.handled = none from hh]
  refine wpAny_bind (wpAny_pure (wpAny_throw ?_))
  refine wpAny_bind (wpAny_isInstance (T := "StopIteration") (b:=true) ⟨_,Heap.get?_push_size _ rfl,rfl⟩ isSubtype_stop ?_)
  exact wpAny_pure (h _ ((e1.push _).push _))
 rcases by_ with ⟨bt,⟨z,rfl⟩,eL⟩ | ⟨bt,pl,⟨z,rfl,hz⟩,eL⟩ | ⟨bt,rfl,pl,pp,⟨oT,eT,hT,hTd⟩,eL⟩
 ·have px:=uF (w.params.setOrder S ep) es
  have hx : (pickOrder (w.params.setOrder S ep) es).size = es.size:=by rw [<- Array.length_toList,px.length_eq,Array.length_toList]
  refine wpAny_bind ?_
  unfold setNext
  refine wpAny_bind (wpAny_setState_of hS hSd hf ?_)
  unfold setsByText
  refine wpAny_bind (wpAny_bind (wpAny_askSetting (wpAny_pure ?_)))
  rw [if_pos (show (model P w).w.params.followText "set-order" = true from bt),if_neg (by simp)]
  unfold setWalk setsByText
  refine wpAny_bind (wpAny_bind (wpAny_setState_of hS hSd hf ?_))
  refine wpAny_bind (wpAny_bind (wpAny_askSetting (wpAny_pure ?_)))
  rw [if_pos (show (model P w).w.params.followText "set-order" = true from bt)]
  refine wpAny_bind (wpAny_askSetting (wpAny_pure (wpAny_pure ?_)))
  have ex : (pickOrder ((model P w).w.params.setOrder S ep) es)[((es.size : Nat) : Int).toNat]? = none:=by
   rw [Int.toNat_natCast]
   exact Array.getElem?_eq_none (Nat.le_of_eq hx)
  rw [ex]
  dsimp only [Option.map]
  refine wpAny_bind (wpAny_setField ho hd (by simp) ?_)
  exact stop _ (Heap.SameBut.update ..).extBut
 ·have hpz : t.place.size = es.size:=by
   simp only [SetTable.fits,Bool.and_eq_true,beq_iff_eq,decide_eq_true_eq] at hf
   exact hf.1
  refine wpAny_bind ?_
  unfold setNext
  refine wpAny_bind (wpAny_setState_of hS hSd hf ?_)
  unfold setsByText
  refine wpAny_bind (wpAny_bind (wpAny_askSetting (wpAny_pure ?_)))
  rw [if_neg (show ¬ ((model P w).w.params.followText "set-order" = true) from by rw [show (model P w).w.params.followText "set-order" = false from bt]; exact Bool.false_ne_true)]
  show wpAny _ _ (if (!t.plain && decide (es.size > 1)) = true then _ else _) _ _ _
  rw [if_neg (by
   rcases pl with q | q
   ·rw [q]; simp
   ·simp; omega)]
  show wpAny _ _ ((if (!t.led && !es.isEmpty) = true then _ else pure ()) >>= _) _ _ _
  rw [if_neg (by rw [hk.led,bt]; simp)]
  refine wpAny_bind (wpAny_pure (wpAny_pure ?_))
  rw [Int.toNat_natCast,hz,Array.getElem?_eq_none (Nat.le_refl _)]
  dsimp only
  refine wpAny_bind (wpAny_setField ho hd (by simp) ?_)
  exact stop _ (Heap.SameBut.update ..).extBut
 ·have lpl : pl.length = es.size:=by rw [pp.length_eq,List.length_range]
  show wpAny _ _ (seqItems? (.ref T) >>= _) _ _ _
  unfold seqItems?
  refine wpAny_bind (wpAny_bind (wpAny_load hT ?_))
  rw [hTd]
  refine wpAny_pure ?_
  dsimp only
  have ep1 : (pl.map fun p : Nat => Value.int (p : Int) 0).toArray[((es.size : Nat) : Int).toNat]? = none:=by
   rw [Int.toNat_natCast]
   simp [lpl]
  rw [ep1]
  dsimp only
  refine wpAny_bind (wpAny_setField ho hd (by simp) ?_)
  have hd0:=Obj.data_mapFields hd (·.setIfInBounds 0 (rawInt 0))
  refine wpAny_bind (wpAny_setField (Heap.get?_update_self _ ho (Obj.isFreed_of_fields hd0)) hd0 (by simp) ?_)
  exact stop _ ((Heap.SameBut.update ..).trans (Heap.SameBut.update ..)).extBut
end
end L2
set_option Elab.async false
set_option linter.all false
set_option maxRecDepth 100000
namespace L2
open PySem PySem.Spec PyProof.Rows
namespace SF
theorem entry_iter_self : entryFor table "set_iterator.__iter__" = some Builtin.«dict_keyiterator.__iter__» := entryFor_alias (id' := "dict_keyiterator.__iter__") (by kernel_rfl) rfl (by decide +kernel) (by kernel_rfl)
theorem args_iter_self (a : Value) : argsOk "set_iterator.__iter__" ⟨[a],[]⟩:=by unfold argsOk; kernel_rfl
end SF
section
variable {P : Program} {w : World} {A : Around} {E : Value -> Shared -> Prop} {s : Shared} {es : Array (Int × Value)} {ep : Nat} {t : SetTable} {S T I : Addr} {L : List Value}
theorem ND (hh : A.handled = none) (hf : t.fits es.size = true) (hk : TabOk t (!byT w)) (hL : L.length = es.size) (hTI : T ≠ I) (hSI : S ≠ I) :
  WalksS P w A I [I,S,T] [I] (fun a b => b = a) es.size (fun i v => v = L.getD i .none) (fun i s => SetSt w es ep t S T I L i s.heap) where
 sub:=fun b hb => by simp at hb; simp [hb]
 grefl:=fun _ => rfl
 gtrans:=fun _ _ _ h1 h2 => h2.trans h1
 frame:=fun i s h' tk st _ k => by
  obtain ⟨⟨oS,hS,hSd⟩,first,⟨o,ho,r⟩,by_⟩:=st
  refine ⟨⟨oS,k S (by simp) _ hS,hSd⟩,first,⟨o,k I (by simp) _ ho,r⟩,?_⟩
  rcases by_ with z | z | ⟨b,e,pl,pp,⟨oT,eT,hT,hTd⟩,eL⟩
  ·exact .inl z
  ·exact .inr (.inl z)
  ·exact .inr (.inr ⟨b,e,pl,pp,⟨oT,eT,k T (by simp) _ hT,hTd⟩,eL⟩)
 item:=fun i s Q E hi st hQ => next_item hf hk hL hTI hSI st hi fun h' sb st' => hQ _ _ rfl st' ⟨fun b o hb e => (sb.2 b fun z => hb (by simp [z])).trans e,rfl,rfl,rfl,Nat.le_refl _⟩
 done:=fun s Q E st hQ => next_end hh hf hk hSI st fun h' eb => hQ _ ⟨fun b o hb e => eb b o (fun z => hb (by simp [z])) e,rfl,rfl,rfl,Nat.le_refl _⟩
 self:=fun i s Q E st hQ => by
  obtain ⟨_,first,hit,_⟩:=st
  refine wpAny_pyIter_slot hit.typeIs SF.slot_iter_self (wpAny_call_entry SF.slot_iter_self hit.typeIs SF.entry_iter_self ?_ (SF.args_iter_self _))
  show wpAny _ _ (ret (.ref I)) _ _ s
  exact wpAny_pure ⟨_,rfl,"set_iterator",_,hit.typeIs,SF.slot_next.lookup,hQ⟩
theorem M6 {o : Obj} {Q : Value -> Shared -> Prop} (ho : s.heap.get? S = some o) (hex : o.ExactSet) (hd : o.data = .set es ep t) (hb : es.size < scanBound) (hf : t.fits es.size = true) (hk : TabOk t (!byT w))
  (h : ∀ (h' : Heap) (d' : Drawn) (I T : Addr) (L : List Value),L.Perm (es.toList.map (·.2)) -> SetSt w es ep t S T I L 0 h' -> (∀ b u,s.heap.get? b = some u -> h'.get? b = some u) -> s.heap.objs.size <= I -> I < h'.objs.size -> T ≠ I -> (T = S \/ s.heap.objs.size <= T) -> Q (.ref I) { s with heap:=h',drawn:=d' }) :
  wpAny (model P w) A (pyIter (.ref S)) Q E s:=by
 have hT : s.TypeIs (.ref S) "set" := ⟨o,ho,hex.1⟩
 have hSl : S < s.heap.objs.size:=Heap.lt_size ho
 refine wpAny_pyIter_slot hT F.slot_set_iter (wpAny_call_entry F.slot_set_iter hT SF.entry_iter ?_ (F.args_set_iter_1 _))
 unfold Builtin.«frozenset.__iter__» Builtin.Frozenset.slot0 Builtin.Frozenset.sizeOf setEntries
 refine wpAny_bind (wpAny_bind (m:=slotArgs "__iter__" 0 _) (wpAny_pure (wpAny_pure ?_)))
 refine wpAny_bind (wpAny_bind (wpAny_bind (wpAny_setState_of ho hd hf (wpAny_pure (wpAny_pure ?_)))))
 refine wpAny_bind ?_
 unfold setDrawn setsByText
 refine wpAny_bind (wpAny_setState_of ho hd hf ?_)
 refine wpAny_bind (wpAny_bind (wpAny_askSetting (wpAny_pure (wpAny_pure ?_))))
 show wpAny _ _ (if (!byT w && (!t.plain && decide (es.size > 1))) = true then _ else _) _ _ _
 by_cases c : (!byT w && (!t.plain && decide (es.size > 1))) = true
 ·rw [if_pos c]
  have bt : byT w = false:=by
   cases b : byT w with
   | false => rfl
   | true => rw [b] at c; simp at c
  refine wpAny_bind (AB _ _ _ _ (by simp) fun pl d' pp => wpAny_bind ?_)
  have lpl0 : pl.length = es.size:=by rw [pp.length_eq,List.length_range]
  refine wpAny_newTuple (hsz:=by rw [List.length_map,lpl0]; exact fits_of_scanBound hb) ?_
  have lpl : pl.length = es.size:=by rw [pp.length_eq,List.length_range]
  have ho1 : (s.heap.push (seqObj "tuple" (pl.map fun i : Nat => rawInt i).toArray 0)).get? S = some o:=Heap.get?_push_of_some _ ho
  unfold setEpoch
  refine wpAny_bind (wpAny_bind (wpAny_setState_of (s:={ s with heap:=s.heap.push (seqObj "tuple" (pl.map fun i : Nat => rawInt i).toArray 0),drawn:=d' }) ho1 hd hf (wpAny_pure ?_)))
  unfold newFields
  refine wpAny_bind (wpAny_newObj_type (wpAny_pure ⟨_,rfl,"set_iterator",_,⟨_,Heap.get?_push_size _ rfl,rfl⟩,SF.slot_next.lookup,?_⟩) (by size_fits))
  refine h _ d' _ s.heap.objs.size (pl.map fun p => (es.getD p (0,.none)).2) ?_ ⟨⟨o,Heap.get?_push_of_some _ ho1,hd⟩,_,⟨_,Heap.get?_push_size _ rfl,rfl,rfl⟩,.inr (.inr ⟨bt,rfl,pl,pp,⟨_,0,Heap.get?_push_of_some _ (Heap.get?_push_size _ rfl),rfl⟩,rfl⟩)⟩
   (fun b u q => Heap.get?_push_of_some _ (Heap.get?_push_of_some _ q)) ?_ ?_ ?_ ?_
  ·refine (pp.map _).trans ?_
   rw [show (List.range es.size).map (fun p => (es.getD p (0,.none)).2) = es.toList.map (·.2) from by
    refine List.ext_getElem (by simp) fun i h1 h2 => ?_
    have hi : i < es.size:=by simpa using h1
    simp [Array.getD,hi]]
  ·rw [Heap.size_push]; exact Nat.le_succ _
  ·exact Heap.lt_size (Heap.get?_push_size _ rfl)
  ·rw [Heap.size_push]; exact Nat.ne_of_lt (Nat.lt_succ_self _)
  ·exact .inr (Nat.le_refl _)
 ·rw [if_neg c]
  refine wpAny_bind (wpAny_pure ?_)
  unfold setEpoch
  refine wpAny_bind (wpAny_bind (wpAny_setState_of ho hd hf (wpAny_pure ?_)))
  unfold newFields
  refine wpAny_bind (wpAny_newObj_type (wpAny_pure ⟨_,rfl,"set_iterator",_,⟨_,Heap.get?_push_size _ rfl,rfl⟩,SF.slot_next.lookup,?_⟩) (by size_fits))
  cases bt : byT w with
  | true =>
   refine h _ s.drawn _ S ((pickOrder (w.params.setOrder S ep) es).toList.map (·.2)) ((uF _ es).map _) ⟨⟨o,Heap.get?_push_of_some _ ho,hd⟩,_,⟨_,Heap.get?_push_size _ rfl,rfl,rfl⟩,.inl ⟨bt,⟨0,rfl⟩,rfl⟩⟩
    (fun b u q => Heap.get?_push_of_some _ q) (Nat.le_refl _) ?_ (Nat.ne_of_lt hSl) ?_
   ·rw [Heap.size_push]; exact Nat.lt_succ_self _
   ·exact .inl rfl
  | false =>
   rw [bt] at c
   have pl : t.plain = true \/ es.size <= 1:=by
    cases q : t.plain with
    | true => exact .inl rfl
    | false =>
     rw [q] at c
     simp at c
     exact .inr c
   refine h _ s.drawn _ S (es.toList.map (·.2)) (List.Perm.refl _) ⟨⟨o,Heap.get?_push_of_some _ ho,hd⟩,_,⟨_,Heap.get?_push_size _ rfl,rfl,rfl⟩,.inr (.inl ⟨bt,pl,⟨0,rfl,E9 hk.rise⟩,rfl⟩)⟩
    (fun b u q => Heap.get?_push_of_some _ q) (Nat.le_refl _) ?_ (Nat.ne_of_lt hSl) ?_
   ·rw [Heap.size_push]; exact Nat.lt_succ_self _
   ·exact .inl rfl
end
end L2
set_option Elab.async false
set_option linter.all false
set_option maxRecDepth 100000
namespace L2
open PySem PySem.Spec PyProof.Rows
section
variable {P : Program} {w : World} {A : Around} {E : Value -> Shared -> Prop} {s : Shared} {S : Addr} {ns : List Int}
theorem Io {Q : List Value -> Shared -> Prop} (hh : A.handled = none) (hS : SetW P w s.heap S ns)
  (hQ : ∀ (vs : List Value) (ms : List Int) (h' : Heap) (d' : Drawn) (tk : Nat),IntsAre vs ms -> ms.Perm ns -> (∀ b u,s.heap.get? b = some u -> h'.get? b = some u) -> s.heap.objs.size <= h'.objs.size -> Q vs { s with heap:=h',drawn:=d',toks:=tk }) :
  wpAny (model P w) A (collect (.ref S)) Q E s:=by
 obtain ⟨o,es,ep,t,ho,hex,hd,hel,hi,hp,hb,hf,hk⟩:=hS
 have hSl : S < s.heap.objs.size:=Heap.lt_size ho
 unfold collect
 refine wpAny_bind (wpAny_runValue (codeAny_builtin F.entry_proto_collect ?_))
 rw [Around.under_plainId F.plain_proto_collect _]
 show wpAny _ A.in1 (newList [] >>= fun l => again (.builtin "list.__iadd__" ⟨[l,.ref S],[]⟩)) _ _ s
 refine wpAny_bind (wpAny_newObj_type ?_)
 refine wpAny_pure ⟨plainId_quiet F.plain_list_iadd _,codeAny_builtin F.entry_list_iadd ?_⟩
 rw [Around.under_plainId F.plain_list_iadd _]
 generalize hN : ({ cls:=.type "list",data:=.seq ([] : List Value).toArray } : Obj) = oN
 have ho1 : (s.heap.push oN).get? S = some o:=Heap.get?_push_of_some _ ho
 have hN1 : (s.heap.push oN).get? s.heap.objs.size = some oN:=Heap.get?_push_size _ (by rw [<- hN]; rfl)
 have ne : s.heap.objs.size ≠ S:=Nat.ne_of_gt hSl
 have hT : (⟨s.heap.push oN,s.gens,s.drawn,s.toks,s.os⟩ : Shared).TypeIs (.ref S) "set" := ⟨o,ho1,hex.1⟩
 show wpAny _ A.in1 (Builtin.List.listExtendWith (.ref s.heap.objs.size) (.ref S) (.ref s.heap.objs.size)) _ _ ⟨s.heap.push oN,s.gens,s.drawn,s.toks,s.os⟩
 unfold Builtin.List.listExtendWith
 refine wpAny_bind (wpAny_typeOf hT ?_)
 rw [if_neg (by
  have h1 : Builtin.List.listSameRef (.ref s.heap.objs.size) (.ref S) = false:=by simp [Builtin.List.listSameRef,ne]
  rw [h1]
  decide)]
 refine wpAny_bind (M6 ho1 hex hd hb hf hk fun h1 d1 I T L pL st keep hI1 hI2 hTI hT2 => ?_)
 have ho2 : h1.get? S = some o:=keep S o ho1
 have hT2' : (⟨h1,s.gens,d1,s.toks,s.os⟩ : Shared).TypeIs (.ref S) "set" := ⟨o,ho2,hex.1⟩
 refine wpAny_bind (wpAny_holding ?_)
 unfold Builtin.List.listLengthHint
 refine wpAny_bind (wpAny_specialOf hT2' F.slot_set_len.lookup ?_)
 (generalize hid : ("set.__len__" : String) = id0; wp_delta; rw [show splitId id0 = some ("set","__len__") from by subst hid; decide +kernel]; subst hid)
 refine wpAny_bind (wpAny_isInstance (b:=true) hT2' sub_set_self ?_)
 show wpAny _ _ (typeOf (.ref S) >>= _) _ _ _
 refine wpAny_bind (wpAny_typeOf hT2' (wpAny_pure ?_))
 show wpAny _ A.in1 (rule "list.extend.makes-room" >>= fun _ => Builtin.List.listTouch (.ref s.heap.objs.size) >>= fun _ =>
  again (.builtin "list.extend.loop" ⟨[.ref s.heap.objs.size,.ref I,.ref s.heap.objs.size],[]⟩)) _ _ _
 refine wpAny_bind (wpAny_rule ?_)
 have hN2 : h1.get? s.heap.objs.size = some { cls:=.type "list",data:=.seq ([] : List Value).toArray }:=by rw [hN]; exact keep _ _ hN1
 refine wpAny_bind ?_
 show wpAny _ A.in1 (updateSeq s.heap.objs.size (·.push .none) >>= fun _ => updateSeq s.heap.objs.size (·.pop)) _ _ _
 refine wpAny_bind (wpAny_updateSeq hN2 rfl ?_)
 have hN3:=Heap.get?_update_self (Obj.mapSeq (·.push Value.none)) hN2 rfl
 refine wpAny_updateSeq hN3 rfl ?_
 have hN4:=Heap.get?_update_self (Obj.mapSeq (·.pop)) hN3 rfl
 have oth : ∀ b u,b ≠ s.heap.objs.size -> h1.get? b = some u -> ((h1.update s.heap.objs.size (Obj.mapSeq (·.push Value.none))).update s.heap.objs.size (Obj.mapSeq (·.pop))).get? b = some u:=
  fun b u hb q => (Heap.get?_update_other _ _ (Ne.symm hb)).trans ((Heap.get?_update_other _ _ (Ne.symm hb)).trans q)
 have lL : L.length = es.size:=by rw [pL.length_eq,List.length_map,Array.length_toList]
 have nI : s.heap.objs.size ≠ I:=by
  rw [Heap.size_push] at hI1
  exact Nat.ne_of_lt hI1
 have nT : s.heap.objs.size ≠ T:=by
  rcases hT2 with z | z
  ·rw [z]; exact ne
  ·rw [Heap.size_push] at z
   exact Nat.ne_of_lt z
 have SI : S ≠ I:=by
  rw [Heap.size_push] at hI1
  exact Nat.ne_of_lt (Nat.lt_of_lt_of_le hSl (Nat.le_trans (Nat.le_succ _) hI1))
 have W : WalksS P w A.in1 I [I,S,T] [I] (fun a b => b = a) es.size (fun i v => v = L.getD i .none) (fun i s => SetSt w es ep t S T I L i s.heap):=ND (A:=A.in1) (by simp [hh]) hf hk lL hTI SI
 have nfp : s.heap.objs.size ∉ [I,S,T]:=by
  simp only [List.mem_cons,List.not_mem_nil,or_false,not_or]
  exact ⟨nI,ne,nT⟩
 refine wpAny_pure ⟨plainId_quiet F.plain_extend_loop _,codeAny_extend_loopS W (fits_of_scanBound hb) _ nfp _ es.size 0 _ _ _ rfl (Nat.zero_le _)
  (W.frame 0 ⟨h1,s.gens,d1,s.toks,s.os⟩ _ s.toks st (Nat.le_refl _) fun b hb' u q => oth b u (fun z => nfp (z ▸ hb')) q) hN4 (ItemsOf.nil _) fun s' acc' c' hm hS' hacc => ?_⟩
 show wpAny _ A (load s.heap.objs.size >>= _) _ _ s'
 refine wpAny_bind (wpAny_load hS' (wpAny_pure ?_))
 obtain ⟨h',g',d',tk',os'⟩:=s'
 have eg : g' = s.gens:=hm.gens
 have eo : os' = s.os:=hm.os
 subst eg eo
 have eacc : acc'.toList = L:=by
  refine List.ext_getElem (by rw [Array.length_toList,hacc.1,lL]) fun i h1' h2' => ?_
  have:=hacc.2 i acc'[i] (by simp at h1'; simp [h1'])
  simp [this,h2']
 rw [eacc]
 have allI : ∀ vs : List Value,(∀ v ∈ vs,∃ n u,v = Value.int n u) -> IntsAre vs (vs.map F2):=by
  intro vs
  induction vs with
  | nil => intro _; exact .nil
  | cons v r ih =>
   intro al
   obtain ⟨n,u,rfl⟩:=al v List.mem_cons_self
   exact .cons n u (ih fun x hx => al x (List.mem_cons_of_mem _ hx))
 refine hQ L (L.map F2) h' d' tk' (allI L fun v hv => ?_) ?_ (fun b u q => ?_) (Nat.le_of_lt (Heap.lt_size hS'))
 ·obtain ⟨e,he,rfl⟩:=List.mem_map.mp (pL.mem_iff.mp hv)
  exact hi e he
 ·refine (pL.map _).trans ?_
  rw [List.map_map]
  exact hp
 ·have hbn : b ≠ s.heap.objs.size:=Nat.ne_of_lt (Heap.lt_size q)
  refine hm.heap b u ?_ (oth b u hbn (keep b u (Heap.get?_push_of_some _ q)))
  simp only [List.mem_cons,List.not_mem_nil,or_false,not_or]
  refine ⟨hbn,Nat.ne_of_lt (Nat.lt_of_lt_of_le (Heap.lt_size q) ?_)⟩
  rw [Heap.size_push] at hI1
  exact Nat.le_trans (Nat.le_succ _) hI1
theorem Lg {Q : Value -> Shared -> Prop} (hh : A.handled = none) (hS : SetW P w s.heap S ns) (h64 : ns.length < 64)
  (h : ∀ (l : Addr) (out : List Value) (ms : List Int) (e : Nat) (h' : Heap) (d' : Drawn) (tk : Nat),IntsAre out ms -> ms.Perm ns -> ms.Pairwise (· <= ·) -> s.heap.objs.size <= l -> h'.get? l = some (seqObj "list" out.toArray e) -> (∀ b u,s.heap.get? b = some u -> h'.get? b = some u) ->
   Q (.ref l) { s with heap:=h',drawn:=d',toks:=tk }) : wpAny (model P w) A (call (.builtin "sorted") [.ref S]) Q E s:=by
 refine Calls.call_function_entry kind_sorted plain_sorted entry_sorted (args_sorted1 _) ?_
 unfold Builtin.«sorted»
 refine wpAny_bind (m:=checkCount "sorted" 1 1 _) (wpAny_pure ?_)
 refine wpAny_bind (Io (by simp [hh]) hS fun vs ms h1 d1 tk1 hI hp keep hsz1 => ?_)
 have l64 : vs.length < 64:=by
  have e1 : vs.length = ms.length:=hI.length
  have e2:=hp.length_eq
  omega
 refine wpAny_bind (wpAny_newList (hsz:=Nat.le_trans (Nat.le_of_lt l64) (by decide)) ?_)
 have hoL : (h1.push (seqObj "list" vs.toArray 0)).get? h1.objs.size = some (seqObj "list" vs.toArray 0):=Heap.get?_push_size _ rfl
 refine wpAny_bind (wpAny_holding (wpAny_call_entry slot_list_sort ⟨_,hoL,rfl⟩ entry_list_sort (list_sort_tree hoL hI l64 fun out ns' a1 a2 a3 => ⟨_,rfl,?_⟩) (args_list_sort _)))
 obtain ⟨e,he⟩:=sortedHeap_at (vs:=vs) (out:=out) hoL
 refine wpAny_pure ⟨_,rfl,?_⟩
 refine h h1.objs.size out.toList ns' e _ d1 tk1 a1 (a2.trans hp) a3 ?_ (by simpa using he) fun b u q => ?_
 ·exact hsz1
 ·have q1:=keep b u q
  have lt:=Heap.lt_size q1
  rw [sortedHeap_old (Nat.ne_of_lt lt) (by rw [Heap.size_push]; exact Nat.lt_succ_of_lt lt)]
  exact Heap.get?_push_of_some _ q1
end
end L2
set_option Elab.async false
set_option linter.all false
set_option maxRecDepth 100000
namespace L2
open PySem PySem.Spec PyProof.Rows
abbrev F9 (P : Program) (w : World) (S : Addr) (ns : List Int) : HO:=.ext fun h => SetW P w h S ns
theorem E3 : ∀ {ns : List Int} {us : List Value},Vals (ns.map V.int) us -> IntsAre us ns
 | [],_,.nil => .nil
 | n :: r,_,.cons ⟨t,e⟩ z => by
  subst e
  exact .cons n t (E3 z)
theorem EZ : ∀ {ns : List Int} {us : List Value},IntsAre us ns -> Vals (ns.map V.int) us
 | _,_,.nil => .nil
 | _,_,.cons n t r => .cons ⟨t,rfl⟩ (EZ r)
def kT (ns : List Int) : List Int:=ns.foldl step_dedup []
theorem zG (ns : List Int) : firstMet (fun i => ns.getD i 0) ns.length = kT ns:=by
 unfold firstMet kT
 congr 1
 refine List.ext_getElem (by simp) fun i h1 h2 => ?_
 simp [List.getD,h2]
theorem Hc {s : List Int} {v k : Int} : k ∈ step_dedup s v ↔ k ∈ s \/ k = v:=by
 unfold step_dedup
 split
 ·rename_i h
  have hv : v ∈ s:=by simpa using h
  exact ⟨.inl,fun z => z.elim id fun e => e ▸ hv⟩
 ·simp
theorem Eb {s : List Int} {v : Int} (h : s.Nodup) : (step_dedup s v).Nodup:=by
 unfold step_dedup
 split
 ·exact h
 ·rename_i c
  have hv : v ∉ s:=by simpa using c
  exact List.nodup_append.mpr ⟨h,by simp,fun a ha b hb e => hv (by rw [<- List.mem_singleton.mp hb,<- e]; exact ha)⟩
theorem vm : ∀ (ns s : List Int) (k : Int),k ∈ ns.foldl step_dedup s ↔ k ∈ s \/ k ∈ ns
 | [],s,k => by simp
 | n :: r,s,k => by
  rw [List.foldl_cons,vm r,Hc,List.mem_cons]
  constructor
  ·rintro ((h | h) | h)
   ·exact .inl h
   ·exact .inr (.inl h)
   ·exact .inr (.inr h)
  ·rintro (h | h | h)
   ·exact .inl (.inl h)
   ·exact .inl (.inr h)
   ·exact .inr h
theorem once_mem {ns : List Int} {k : Int} : k ∈ kT ns ↔ k ∈ ns:=by
 unfold kT
 rw [vm]
 simp
theorem qu : ∀ (ns s : List Int),s.Nodup -> (ns.foldl step_dedup s).Nodup
 | [],s,h => h
 | n :: r,s,h => qu r _ (Eb h)
theorem yF (ns : List Int) : (kT ns).Nodup:=qu ns [] List.Pairwise.nil
section
variable {X : Cx}
theorem G1 (hc : X.calm = true) : iE X (.type "set") (fun xs H Q => ∃ (a : Addr) (ns : List Int),xs = [.ref a] /\ H a = some (.lst (ns.map V.int)) /\ ns.length < 4000 /\ ∀ S,H S = none -> Q (.ref S) (upd H S (F9 X.prog X.w S (kT ns)))):=by
 intro pins s σ H xs us Q I r h
 obtain ⟨a,ns,rfl,ha,hz,q⟩:=h
 obtain ⟨u,rfl,rx⟩:=vals1 r
 cases rx
 obtain ⟨_,its,n,rv,hl,e⟩:=I.lstM ha
 have hln : its.length = ns.length:=by rw [<- hl,List.length_map]
 refine G2 (I.ok.hd hc) ⟨_,e,rfl,n,rfl⟩ (ns:=ns) (by simpa using E3 rv) (by simp only [List.size_toArray]; unfold scanBound; omega) fun h' tk hS keep => ?_
 have k2 : ∀ b o,s.heap.get? b = some o -> h'.get? b = some o:=fun b o z => keep b o (Heap.lt_size z) z
 have hS' : SetW X.prog X.w h' s.heap.objs.size (kT ns):=by
  simp only [List.size_toArray] at hS
  rw [hln,zG] at hS
  exact hS
 refine ⟨.ref s.heap.objs.size,_,I.laid (o:=F9 X.prog X.w s.heap.objs.size (kT ns)) (t' := tk) k2 (Nat.le_refl _) (show SetW X.prog X.w h' s.heap.objs.size (kT ns) /\ (∃ o,h'.get? s.heap.objs.size = some o) /\ ∀ h1 h2 : Heap,SetW X.prog X.w h1 s.heap.objs.size (kT ns) -> (∀ o,h1.get? s.heap.objs.size = some o -> h2.get? s.heap.objs.size = some o) -> SetW X.prog X.w h2 s.heap.objs.size (kT ns) from ⟨hS',?_,fun h1 h2 p kp => p.keep kp⟩),rfl,q _ (I.hok.fresh (Nat.le_refl _))⟩
 obtain ⟨o,es,ep,t,ho,_⟩:=hS'
 exact ⟨o,ho⟩
theorem Bl (hc : X.calm = true) : iE X (.builtin "sorted") (fun xs H Q => ∃ (S : Addr) (ns : List Int),xs = [.ref S] /\ H S = some (F9 X.prog X.w S ns) /\ ns.length < 64 /\
  ∀ (l : Addr) (ms : List Int),H l = none -> ms.Perm ns -> ms.Pairwise (· <= ·) -> Q (.ref l) (upd H l (.lst (ms.map V.int)))):=by
 intro pins s σ H xs us Q I r h
 obtain ⟨S,ns,rfl,hS,h64,q⟩:=h
 obtain ⟨u,rfl,rx⟩:=vals1 r
 cases rx
 obtain ⟨p,_,_⟩:=(show ObjOk X.prog X.w H s.heap S (F9 X.prog X.w S ns) from I.hok S _ hS)
 refine Lg (I.ok.hd hc) p h64 fun l out ms e h' d' tk hI hp hs hle hg keep => ?_
 have I1 : Inv X pins σ (upd H l (.lst (ms.map V.int))) { s with heap:=h',toks:=tk }:=I.laid (t' := tk) keep hle ⟨by
  rw [List.length_map,hp.length_eq]
  exact Nat.le_trans (Nat.le_of_lt h64) (by decide),out,e,EZ hI,hg⟩
 exact ⟨.ref l,_,⟨I1.ok,I1.os,I1.bare,I1.base,I1.loc,I1.cell,I1.free,I1.freeC,I1.pin,I1.hok,I1.len⟩,rfl,q l ms (I.hok.fresh hle) hp hs⟩
end
end L2
set_option Elab.async false
set_option linter.all false
set_option maxRecDepth 100000
namespace PySem
open PyProof.Rows
theorem ym : typeLookup (.type "list") "keys" = pure none:=by rw [typeLookup_type,builtinLookup_eq_fast]; kernel_rfl
theorem yl {prog : Program} {w : World} {A : Around} {E : Value -> Shared -> Prop} {s : Shared} {a : Addr} {xs : Array Value} {k : Nat} {sl : Array (Option Value)} {Q : Option Value -> Shared -> Prop}
  (hx : s.heap.get? a = some { cls:=.type "list",dict:=none,data:=.seq xs k,slots:=sl }) (hA : A.handled = none)
  (h : ∀ h' tk,(∀ b o,s.heap.get? b = some o -> h'.get? b = some o) -> Q none { s with heap:=h',toks:=tk }) : wpAny (model prog w) A (getAttr? (.ref a) "keys") Q E s:=by
 obtain ⟨hp,g,d,tk,os⟩:=s
 have hT : ∀ tk',(⟨hp,g,d,tk',os⟩ : Shared).TypeIs (.ref a) "list" := fun _ => ⟨_,hx,rfl⟩
 have f1:=sub_AttributeError
 have f3:=F.slot_list_getattribute.lookup
 have f4:=F.slot_list_getattribute.bind (.ref a)
 have f5:=am_list_getattr_none
 have hmiss:=ym
 have hname : (["__module__","__name__","__qualname__","__doc__","__annotations__"] : List Str).contains (Str.ofString "keys") = false:=by decide +kernel
 unfold getAttr? getAttrBy? getAttrBy
 repeat (any_goals (first | assumption | exact hT _ | ((with_reducible show wpAny _ _ (call (Value.builtin "list.__getattribute__") _ _) _ _ _); refine call_meets F.slot_list_getattribute (hT _) am_entry_list_getattribute (F.args_list_getattribute_2 _ _) (meets_getattribute_miss_list a xs k sl (Str.ofString "keys") _ hmiss hname (by decide)) ⟨hx,hA,fun h' tk' e hx' => ?_⟩) | wp_step))
 obtain ⟨t',u',he⟩:=hx'.there
 show wpAny _ _ (getattributeRaised _ _ _ _ _ _ _) _ _ _
 unfold getattributeRaised
 repeat (any_goals (first | assumption | wp_step))
 exact h h' tk' hx'.keeps
section
variable {prog : Program} {w : World} {K : Type} [DecidableEq K] {knd : KeyKind prog w K} {A : Around} {E : Value -> Shared -> Prop} {s : Shared} {R : Result -> Shared -> Prop}
theorem jO : entryFor table "dict.update.loop" = some Builtin.«dict.update.loop» := entryFor_of_tree (by kernel_rfl)
theorem c5 : plainId "dict.update.loop" = true:=by decide +kernel
def xB (knd : KeyKind prog w K) (h : Heap) (ts : List Addr) (ps : List (K × Value)) : Prop := ∀ (j : Nat) (t : Addr) (p : K × Value),ts[j]? = some t -> ps[j]? = some p -> ∃ key,knd.is p.1 key = true /\ IsTup h t #[key,p.2]
theorem E2 {D I l : Addr} {ts : List Addr} {ps : List (K × Value)} (W : Walks prog w A.in1 I [I,l] [I] ts.length (fun i v => (ts.map Value.ref).toArray[i]? = some v) (fun i h => h.IsListIter I l i /\ h.IsList l (ts.map Value.ref).toArray))
  (hl : ts.length = ps.length) (hDI : D ≠ I) (hDl : D ≠ l) (hDt : ∀ t ∈ ts,t ≠ D /\ t ≠ I) (hz : ps.length <= sizeLine) :
  ∀ (k i : Nat) (s : Shared) (acc : List (K × Value)),ts.length - i = k -> i <= ts.length -> (s.heap.IsListIter I l i /\ s.heap.IsList l (ts.map Value.ref).toArray) -> s.heap.DictOf knd D acc -> acc.length <= i -> xB knd s.heap ts ps ->
  (∀ h' tk,(∀ b o,b ≠ D -> b ≠ I -> s.heap.get? b = some o -> h'.get? b = some o) -> h'.DictOf knd D (merged acc (ps.drop i)) -> R (.ok (.ret .none)) { s with heap:=h',toks:=tk }) ->
  codeAny (model prog w) A (.builtin "dict.update.loop" ⟨[.ref D,.ref I,rawInt (i : Int),.none],[]⟩) R s:=by
 intro k
 induction k with
 | zero =>
  intro i s acc hk hi hst hD hacc hP hR
  have hin : i = ts.length:=by omega
  subst hin
  refine codeAny_builtin jO ?_
  rw [Around.under_plainId c5 _]
  show wpAny _ A.in1 (pyNext (.ref I) >>= _) _ _ s
  refine wpAny_bind (W.done s _ _ hst fun h' tk hm => ?_)
  show wpAny _ _ (Builtin.Dict.addKeywords D [] >>= _) _ _ _
  refine wpAny_bind (wpAny_of_eq (a:=()) rfl ?_)
  have e : ps.drop ts.length = []:=by rw [hl,List.drop_length]
  refine wpAny_pure (hR h' tk (fun b o _ hb q => hm b o (by simpa using hb) q) ?_)
  rw [e]
  exact hD.extBut (b:=I) (fun b o hb q => hm b o (by simpa using hb) q) hDI
 | succ k ih =>
  intro i s acc hk hi hst hD hacc hP hR
  have hlt : i < ts.length:=by omega
  have hlt2 : i < ps.length:=by omega
  refine codeAny_builtin jO ?_
  rw [Around.under_plainId c5 _]
  show wpAny _ A.in1 (pyNext (.ref I) >>= _) _ _ s
  refine wpAny_bind (W.item i s _ _ hlt hst fun v h' tk hv hst' hm => ?_)
  have ev : v = .ref ts[i]:=by
   have : (ts.map Value.ref).toArray[i]? = some (.ref ts[i]):=by simp [hlt]
   rw [this] at hv
   exact (Option.some.inj hv).symm
  subst ev
  have keep : ∀ b o,b ≠ I -> s.heap.get? b = some o -> h'.get? b = some o:=fun b o hb q => hm b o (by simpa using hb) q
  obtain ⟨key,hkey,ht⟩:=hP i ts[i] ps[i] (List.getElem?_eq_getElem hlt) (List.getElem?_eq_getElem hlt2)
  have tn:=hDt ts[i] (List.getElem_mem hlt)
  have ht' : IsTup h' ts[i] #[key,(ps[i]).2]:=ht.extBut (b:=I) keep tn.2
  have hD' : h'.DictOf knd D acc:=hD.extBut (b:=I) keep hDI
  obtain ⟨ot,hot,hct,nt,hdt⟩:=id ht'
  try dsimp only
  refine wpAny_bind (wpAny_holding ?_)
  refine wpAny_bind (wpAny_tryCatch ?_)
  unfold Builtin.Dict.pairItems
  refine wpAny_bind (wpAny_typeOf (s:={ s with heap:=h',toks:=tk }) ht'.typeIs ?_)
  rw [if_pos (by decide)]
  refine wpAny_bind (wpAny_seqItems (s:={ s with heap:=h',toks:=tk }) hot hdt ?_)
  refine wpAny_pure ?_
  show wpAny _ _ (holding [key,(ps[i]).2] (dictSet D key (ps[i]).2)) _ _ _
  refine wpAny_holding (wpAny_dictSet_pairs (knd:=knd) (s:={ s with heap:=h',toks:=tk }) hkey hD' (fun h2 hD2 sb2 => ?_) (by omega))
  have keep2 : ∀ b o,b ≠ D -> h'.get? b = some o -> h2.get? b = some o:=fun b o hb q => sb2.extBut b o hb q
  refine wpAny_pure ⟨plainId_quiet c5 _,?_⟩
  have ri : rawInt ((i : Int) + 1) = rawInt (((i + 1 : Nat)) : Int):=by push_cast; rfl
  rw [ri]
  refine ih (i + 1) { s with heap:=h2,toks:=tk + 1 } (stored acc (ps[i]).1 (ps[i]).2) (by omega) hlt ⟨hst'.1.at fun o q => keep2 I o (Ne.symm hDI) q,hst'.2.at fun o q => keep2 l o (Ne.symm hDl) q⟩ hD2 (by
   have:=stored_length_le acc (ps[i]).1 (ps[i]).2
   omega) (fun j t p h1 h2' => ?_) (fun h3 tk3 kp3 hD3 => ?_)
  ·obtain ⟨key',hk',ht''⟩:=hP j t p h1 h2'
   have tn' := hDt t (List.mem_of_getElem? h1)
   exact ⟨key',hk',(ht''.extBut (b:=I) keep tn'.2).extBut (b:=D) keep2 tn'.1⟩
  ·refine hR h3 tk3 (fun b o hb hb2 q => kp3 b o hb hb2 (keep2 b o hb (keep b o hb2 q))) ?_
   rw [List.drop_eq_getElem_cons hlt2]
   exact hD3
theorem vD {l : Addr} {ts : List Addr} {ps : List (K × Value)} {c : Nat} {Q : Value -> Shared -> Prop} (hh : A.handled = none) (hL : s.heap.get? l = some { cls:=.type "list",dict:=none,data:=.seq (ts.map Value.ref).toArray c,slots := #[] })
  (hl : ts.length = ps.length) (hP : xB knd s.heap ts ps) (hz : ps.length <= sizeLine)
  (hQ : ∀ h' tk,(∀ b o,s.heap.get? b = some o -> h'.get? b = some o) -> h'.DictOf knd s.heap.objs.size (merged [] ps) -> Q (.ref s.heap.objs.size) { s with heap:=h',toks:=tk }) :
  wpAny (model prog w) A (call (.type "dict") [.ref l]) Q E s:=by
 refine callType_codes (Q₁:=fun obj s₁ => obj = .ref s.heap.objs.size /\ s₁ = { s with heap:=s.heap.push { cls:=.type "dict",data:=.dict #[] } }) F.kt_called_dict (F.kt_typeCall_dict_1 _) F.entry_dict_init (kt_code_dict_new _ ⟨rfl,rfl⟩) ?_
 rintro obj s₁ ⟨rfl,rfl⟩
 have hnew : (s.heap.push { cls:=.type "dict",data:=.dict #[] }).DictOf knd s.heap.objs.size []:=Heap.DictOf.new s.heap
 have hlt : l < s.heap.objs.size:=Heap.lt_size hL
 have hL' : (s.heap.push { cls:=.type "dict",data:=.dict #[] }).get? l = some { cls:=.type "list",dict:=none,data:=.seq (ts.map Value.ref).toArray c,slots := #[] }:=Heap.get?_push_of_some _ hL
 refine ⟨hnew.typeIs,F.args_dict_init_2 _ _,?_⟩
 unfold Builtin.«dict.__init__»
 refine wpAny_bind ?_
 unfold Builtin.Dict.selfAndRest
 refine wpAny_bind (wpAny_notOrdered_dict hnew.typeIs ?_)
 show wpAny _ _ (pure (s.heap.objs.size,[Value.ref l])) _ _ _
 refine wpAny_pure ?_
 show wpAny _ _ (Builtin.Dict.updateFrom "dict.__init__" s.heap.objs.size (.ref l) [] .none) _ _ _
 unfold Builtin.Dict.updateFrom
 refine wpAny_bind (wpAny_typeOf (T := "list") ⟨_,hL',rfl⟩ ?_)
 rw [if_pos (by decide)]
 refine wpAny_bind (yl hL' hh fun h1 tk1 kp1 => ?_)
 rw [if_pos (by rfl)]
 refine wpAny_bind (wpAny_rule ?_)
 have hL1:=kp1 _ _ hL'
 have il1 : Heap.IsList h1 l (ts.map Value.ref).toArray:=⟨_,hL1,rfl,c,rfl⟩
 refine wpAny_bind (wpAny_pyIter_list (s:={ s with heap:=h1,toks:=tk1 }) il1 ?_)
 refine wpAny_pure ⟨plainId_quiet c5 _,?_⟩
 have oI : (h1.push { cls:=.type "list_iterator",data:=.fields #[.ref l,.int 0 0] }).get? h1.objs.size = some { cls:=.type "list_iterator",data:=.fields #[.ref l,.int 0 0] }:=Heap.get?_push_size _ rfl
 have l1 : l < h1.objs.size:=Heap.lt_size hL1
 have d1 : s.heap.objs.size < h1.objs.size:=Heap.lt_size (kp1 _ _ (Heap.get?_push_size s.heap rfl))
 have W:=Walks.list (prog:=prog) (w:=w) (A:=A.in1.in1) hh h1.objs.size l (Nat.ne_of_lt l1) (ts.map Value.ref).toArray
 have sz : (ts.map Value.ref).toArray.size = ts.length:=by simp
 rw [sz] at W
 have kp2 : ∀ b o,s.heap.get? b = some o -> (h1.push { cls:=.type "list_iterator",data:=.fields #[.ref l,.int 0 0] }).get? b = some o:=fun b o q => Heap.get?_push_of_some _ (kp1 _ _ (Heap.get?_push_of_some _ q))
 refine E2 (A:=A.in1) (knd:=knd) (D:=s.heap.objs.size) (ps:=ps) W hl (Nat.ne_of_lt d1) (Nat.ne_of_gt hlt) (fun t ht => ?_) hz ts.length 0 { s with heap:=h1.push { cls:=.type "list_iterator",data:=.fields #[.ref l,.int 0 0] },toks:=tk1 } [] rfl (Nat.zero_le _) ⟨⟨_,oI,rfl,rfl⟩,il1.at fun o q => Heap.get?_push_of_some _ q⟩ ?_ (Nat.zero_le _) (fun j t p a1 a2 => ?_) (fun h3 tk3 kp3 hD3 => ?_)
 ·obtain ⟨j,hj⟩:=List.mem_iff_getElem?.mp ht
  have jl : j < ps.length:=by
   rw [<- hl]
   exact (List.getElem?_eq_some_iff.mp hj).1
  obtain ⟨key,_,o,ho,_⟩:=hP j t ps[j] hj (List.getElem?_eq_getElem jl)
  have tl:=Heap.lt_size ho
  exact ⟨Nat.ne_of_lt tl,Nat.ne_of_lt (Nat.lt_trans tl d1)⟩
 ·exact hnew.extBut (b:=h1.objs.size) (fun b o _ q => Heap.get?_push_of_some _ (kp1 _ _ q)) (Nat.ne_of_lt d1)
 ·obtain ⟨key,hk,ht⟩:=hP j t p a1 a2
  exact ⟨key,hk,ht.keeps kp2⟩
 ·exact ⟨rfl,hQ h3 tk3 (fun b o q => kp3 b o (Nat.ne_of_lt (Heap.lt_size q)) (Nat.ne_of_lt (Nat.lt_trans (Heap.lt_size q) d1)) (kp2 b o q)) hD3⟩
end
end PySem
namespace L2
open PySem PySem.Spec PyProof.Rows
section
variable {X : Cx}
def PairsV (H : Hp) : List Addr -> List (Key × V) -> Prop:=Paired fun a p => H a = some (.tup [kV p.1,p.2])
theorem yu {P : Program} {w : World} : ∀ {kvs : List (Key × V)} {ts : List Addr} {H : Hp} {h : Heap},PairsV H ts kvs -> HOk P w H h -> ∃ ps : List (Key × Value),KV kvs ps /\ ps.length = ts.length /\ xB (aX P w) h ts ps
 | [],[],_,_,.nil,_ => ⟨[],.nil,rfl,fun j t p h => by simp at h⟩
 | _,_,_,_,.cons (a:=a) (b:=p) (l₁:=ts) (l₂:=kvs) q t,ok => by
  obtain ⟨ps,r1,r2,r3⟩:=yu t ok
  obtain ⟨z,its,rv,ht⟩:=ok a _ q
  obtain ⟨u,v,rfl,ru,rv'⟩:=Vals.two rv
  refine ⟨(p.1,v) :: ps,.cons ⟨rfl,rv'⟩ r1,by simp [r2],fun j t' p' h1 h2 => ?_⟩
  cases j with
  | zero =>
   simp at h1 h2
   subst h1 h2
   exact ⟨u,qt ru,by simpa using ht⟩
  | succ j => exact r3 j t' p' (by simpa using h1) (by simpa using h2)
def K6 : List V -> Hp -> VK -> Prop:=fun xs H Q => ∃ l ts kvs,xs = [.ref l] /\ H l = some (.lst (ts.map V.ref)) /\ PairsV H ts kvs /\ ∀ D,H D = none -> Q (.ref D) (upd H D (.dK (jH [] kvs)))
theorem uZ : ∀ {ts : List Addr} {us : List Value},Vals (ts.map V.ref) us -> us = ts.map Value.ref
 | [],_,.nil => rfl
 | t :: ts,_,.cons r q => by
  cases r
  rw [List.map_cons,uZ q]
theorem DR (hc : X.calm = true) : iE X (.type "dict") K6:=by
 intro pins s σ H xs us Q I r h
 obtain ⟨l,ts,kvs,rfl,hl,hp,q⟩:=h
 obtain ⟨u,rfl,rx⟩:=vals1 r
 cases rx
 obtain ⟨z,its,n,rv,hln,e⟩:=I.lstM hl
 have ei:=uZ rv
 subst ei
 obtain ⟨ps,r1,r2,r3⟩:=yu hp I.hok
 have hlen : kvs.length = ps.length:=Paired.length r1
 have zl : ps.length <= sizeLine:=by
  rw [r2]
  rw [List.length_map] at z
  exact z
 refine vD (knd:=aX X.prog X.w) (I.ok.hd hc) e r2.symm r3 zl fun h' tk kp dd => ?_
 have ob : ObjOk X.prog X.w (upd H s.heap.objs.size (.dK (jH [] kvs))) h' s.heap.objs.size (.dK (jH [] kvs)):=by
  refine BK ?_ (beq_eq_false_iff_ne.mpr (Ne.symm (Nat.ne_of_lt I.big))) (KV.merge r1 .nil) dd
  have:=kI kvs []
  simp only [List.length_nil] at this
  omega
 exact ⟨.ref _,_,I.laid (t' := tk) kp (Nat.le_refl _) ob,rfl,q _ (I.hok.fresh (Nat.le_refl _))⟩
end
section
variable {X : Cx} {pins : List (Addr × Obj)} {σ : St} {H : Hp} {s : Shared} {a : Addr} {z : V} {u r : Value} {A : Around} {E : Value -> Shared -> Prop} {kvs : List (Key × V)} {k : Key}
theorem BA {Q : Value -> Shared -> Prop} (I : Inv X pins σ H s) (e : H a = some (.dK kvs)) (hz : kvs.length < sizeLine) (ry : RelV (kV k) u) (rz : RelV z r)
  (h1 : ∀ v w' s',gK kvs k = some v -> Inv X pins σ H s' -> RelV v w' -> Q w' s') (h2 : ∀ s',gK kvs k = none -> Inv X pins σ (upd H a (.dK (putK kvs k z))) s' -> Q r s') :
  wpAny (model X.prog X.w) A (call (.builtin "dict.setdefault") [.ref a,u,r]) Q E s:=by
 obtain ⟨zl,hd,vs,rel,dd⟩:=Gq I.hok e
 have rv:=rel.val k
 refine call_meetsIn PySem.F.slot_dict_setdefault dd.typeIs PySem.F.entry_dict_setdefault (PySem.F.args_dict_setdefault_3 _ _ _) (kt_meets_setdefault (aX X.prog X.w) a (qt ry) hd r) ⟨vs,dd,by rw [<- rel.length]; exact zl,fun v hv => ?_,fun hn h' dd' sb => ?_⟩
 ·cases hk : gK kvs k with
  | none => rw [hk,hv] at rv; exact rv.elim
  | some x =>
   rw [hk,hv] at rv
   exact h1 x v _ hk (I.tok _) rv
 ·have hk : gK kvs k = none:=by
   cases hk : gK kvs k with
   | none => rfl
   | some x => rw [hk,hn] at rv; exact rv.elim
  refine h2 _ hk (pG (t' := s.toks + 1) I (by rw [e]; trivial) sb ?_ (BK (kvs:=putK kvs k z) (by have:=kc kvs k z; omega) hd (rel.put k rz) dd'))
  obtain ⟨ob,_,_,g,_⟩:=dd'
  exact ⟨ob,g⟩
end
def Nl (td ty tx : TE) : TE:=fun σ H Q => td σ H fun x H1 => ∃ a,x = .ref a /\ IsD H1 a /\ ty σ H1 fun y H2 => tx σ H2 fun z H3 => ∃ kvs k,H3 a = some (.dK kvs) /\ y = kV k /\ kvs.length < sizeLine /\
 (∀ v,gK kvs k = some v -> Q v H3) /\ (gK kvs k = none -> Q z (upd H3 a (.dK (putK kvs k z))))
section
variable {X : Cx} {o e f : Expr} {apos cpos : Pos} {td ty tx : TE}
theorem KP (ho : PE X o td) (he : PE X e ty) (hf : PE X f tx) (m : M2 X o "setdefault" apos e f cpos) : PE X (.Call (.Attribute o "setdefault" apos) [e,f] [] cpos) (Nl td ty tx):=by
 intro pins s σ H Q I h
 refine wpAny_Call_method m.base m.few m.line PySem.F.plainAttrs_dict PySem.F.slot_dict_setdefault PySem.F.type_dict_setdefault (thn (ho pins s σ H _ I h) fun u s1 ⟨x,H1,I1,rx,a,ex,d,q1⟩ => ?_)
 subst ex
 obtain rfl : u = Value.ref a:=rx
 obtain ⟨t1,t2,_⟩:=Fm I1 d
 refine ⟨t1,t2,?_⟩
 rw [m.trees]
 refine Calls.callWith_builtin rfl (Calls.evalArgs_plain (Calls.spliced_cons (thn (he pins s1 σ H1 _ I1 q1) fun iv s2 ⟨y,H2,I2,ry,q2⟩ =>
  Calls.spliced_cons (thn (hf pins s2 σ H2 _ I2 q2) fun fv s3 ⟨z,H3,I3,rz,kvs,k,ea,ey,hz,q3,q4⟩ => Calls.spliced_nil ?_))))
 subst ey
 exact BA I3 ea hz ry rz (fun v w' s' hv I4 rv => ⟨v,H3,I4,rv,q3 v hv⟩) fun s' hn I4 => ⟨z,_,I4,rz,q4 hn⟩
end
end L2
set_option Elab.async false
set_option linter.all false
set_option maxRecDepth 100000
namespace L2
open PySem PySem.Spec PyProof.Rows
section
variable {X : Cx} {pins : List (Addr × Obj)} {σ : St} {H : Hp} {s : Shared} {a : Addr} {o : Obj} {kvs : List (Key × V)}
theorem Inv.freeze (I : Inv X pins σ H s) (e : H a = some (.dK kvs)) (ho : s.heap.get? a = some o) : Inv X pins σ (upd H a (.frz o (.dK kvs))) s:=by
 have nt : ∀ b u,H b = some u -> (u = .dK kvs -> False) -> b ≠ a:=fun b u q d => cb q e d
 refine I.un (t' := s.toks) ⟨fun b u q _ _ _ => q,fun b u q _ _ _ => ⟨u.slots,q⟩,fun b u q n _ => ?_,fun b u q _ => ⟨u,q⟩,fun b xs q => ?_,fun b u xs q => ?_,fun b ps q => ⟨#[],?_⟩⟩ (fun b u q => ?_)
 ·rw [aj (fun z => by rw [z,e] at n; cases n)]; exact n
 ·rw [aj (nt b _ q (by intro z; cases z))]; exact q
 ·rw [aj (nt b _ q (by intro z; cases z))]; exact q
 ·rw [aj (nt b _ q (by intro z; cases z)),q]; simp
 ·by_cases hb : b = a
  ·subst hb
   rw [ae] at q
   cases q
   exact ⟨ho,(I.hok b _ e)⟩
  ·rw [aj hb] at q
   exact (I.hok b u q).stay (fun c v _ z => z) (fun c z => by rw [aj (nt c _ z (by intro y; cases y))]; exact z) fun c xs z => by rw [aj (nt c _ z (by intro y; cases y))]; exact z
end
def jP (o : Obj) : Nat:=match o.data with
 | .dict _ ep => ep
 | _ => 0
def Itd (a : Addr) (o : Obj) (kvs : List (Key × V)) : It:=
 ⟨fun i H => i < kvs.length /\ H a = some (.frz o (.dK kvs)),fun i H x H' => H' = H /\ ∀ p,kvs[i]? = some p -> x = kV p.1,fun i H => kvs.length <= i /\ H a = some (.frz o (.dK kvs))⟩
theorem y4 {P : Program} {w : World} {H : Hp} {h : Heap} {a : Addr} {o : Obj} {kvs : List (Key × V)} (ok : HOk P w H h) (e : H a = some (.frz o (.dK kvs))) : ∃ vs,KV kvs vs /\ h.DictAt (aX P w) a vs (jP o) /\ (a == sysModules) = false /\ h.get? a = some o:=by
 obtain ⟨ho,z,lo,vs,rel,ob,es,ep,hg,hx,hd,rest⟩:=ok a _ e
 rw [ho] at hg
 cases hg
 have ee : jP o = ep:=by unfold jP; rw [hd]
 exact ⟨vs,rel,⟨o,es,ho,hx,by rw [ee]; exact hd,rest⟩,lo,ho⟩
theorem HS {P : Program} {w : World} {K : PySem.W.Frag} {tg : Expr} (a it : Addr) (o : Obj) (kvs : List (Key × V)) : Turn P w K tg (Itd a o kvs) [it] it (fun i h => h.IsKeyIter it a i kvs.length (jP o)) where
 mem:=by simp
 obj:=fun i h st b hb => by
  have e : b = it:=by simpa using hb
  subst e
  obtain ⟨o,e,c,d⟩:=st
  exact ⟨o,e,fun v z => by rw [d] at z; cases z⟩
 keep:=fun i h h' st k => by
  obtain ⟨ob,e,r⟩:=st
  exact ⟨ob,k it (by simp) ob e,r⟩
 item:=by
  intro X hP hw hK hc i pins s σ H E I hf st hg
  subst hP hw hK
  obtain ⟨hi,hfz⟩:=hg
  obtain ⟨vs,rel,dat,lo,ho⟩:=y4 I.hok hfz
  have hlen : kvs.length = vs.length:=Paired.length rel
  have hv : i < vs.length:=by omega
  obtain ⟨f0,f1,f2,f3,f4,f5⟩:=hf it (by simp)
  rw [hlen] at st
  refine wpAny_pyNext_dict_item (knd:=aX X.prog X.w) st dat (k:=(vs[i]).1) (v:=(vs[i]).2) (List.getElem?_eq_getElem hv) fun key h' hk st' sb => ?_
  have I1 : Inv X pins σ H { s with heap:=h' }:=I.turned (t' := s.toks) (fun b o hb e => (sb.2 b hb).trans e) f0 f1 f3 f4 f5
  obtain ⟨p,e1,e2⟩:=vn rel (List.getElem?_eq_getElem hv)
  rw [<- hlen] at st'
  obtain ⟨ob,e,c,d⟩:=id st'
  refine ⟨key,rfl,AE (s:={ s with heap:=h' }) e c d (by decide) ⟨kV p.1,H,I1,?_,⟨rfl,fun p' hp' => by rw [e1] at hp'; cases hp'; rfl⟩,st',fun b hb => (hf b hb).1⟩⟩
  rw [e2.1]
  exact Kw hk
 done:=by
  intro X hP hw hK hc i pins s σ H E I hf st hg
  subst hP hw hK
  obtain ⟨hi,hfz⟩:=hg
  obtain ⟨vs,rel,dat,lo,ho⟩:=y4 I.hok hfz
  have hlen : kvs.length = vs.length:=Paired.length rel
  obtain ⟨f0,f1,f2,f3,f4,f5⟩:=hf it (by simp)
  rw [hlen] at st
  exact wpAny_pyNext_dict_end (I.ok.hd hc) st dat (List.getElem?_eq_none (by omega)) fun h' eb => ⟨rfl,I.turned (t' := s.toks) (fun b o hb e => eb b o hb e) f0 f1 f3 f4 f5⟩
 self:=fun A i s Q E st h => by
  refine wpAny_pyIter_slot st.typeIs PySem.F.slot_dict_keyiterator_iter (wpAny_call_entry PySem.F.slot_dict_keyiterator_iter st.typeIs PySem.F.entry_dict_keyiterator_iter ?_ (PySem.F.args_dict_keyiterator_iter_1 _))
  show wpAny _ _ (ret (.ref it)) _ _ s
  exact wpAny_pure ⟨_,rfl,"dict_keyiterator",_,st.typeIs,PySem.F.slot_dict_keyiterator_next.lookup,h⟩
section
variable {X : Cx} {tg : Expr}
def Ls (tl : TE) : TI:=fun σ H R => tl σ H fun x H1 => ∃ a kvs,x = .ref a /\ ((H1 a = some (.dK kvs) /\ ∀ o,R (Itd a o kvs) (upd H1 a (.frz o (.dK kvs)))) \/ ∃ o,H1 a = some (.frz o (.dK kvs)) /\ R (Itd a o kvs) H1)
theorem K0 {l : Expr} {tl : TE} (hl : PE X l tl) : PI X tg l (Ls tl):=by
 intro pins s σ H R I h
 refine thn (hl pins s σ H _ I h) fun v s1 ⟨x,H1,I1,r1,q1⟩ => ?_
 obtain ⟨a,kvs,e,q⟩:=q1
 subst e
 cases r1
 have main : ∀ (o : Obj) (H2 : Hp),Inv X pins σ H2 s1 -> H2 a = some (.frz o (.dK kvs)) -> R (Itd a o kvs) H2 -> wpAny (model X.prog X.w) X.A (pyIter (.ref a)) (PIE X pins σ tg R) X.xe s1:=fun o H2 I2 e2 q2 => by
  obtain ⟨vs,rel,dat,lo,ho⟩:=y4 I2.hok e2
  have hlen : kvs.length = vs.length:=Paired.length rel
  refine wpAny_pyIter_dict lo dat ?_
  refine ⟨s1.heap.objs.size,[s1.heap.objs.size],_,_,H2,rfl,I2.kept (t' := s1.toks) fun b o e => Heap.get?_push_of_some _ e,HS a _ o kvs,⟨_,Heap.get?_push_size _ rfl,rfl,by rw [hlen]; rfl⟩,fun b hb => ?_,q2⟩
  have e : b = s1.heap.objs.size:=by simpa using hb
  subst e
  exact I2.fpOk (Nat.le_refl _) (I2.hok.fresh (Nat.le_refl _))
 rcases q with ⟨hd,q⟩ | ⟨o,hd,q⟩
 ·obtain ⟨z,lo,vs,rel,ob,es,ep,hg,rest⟩:=I1.hok a _ hd
  exact main ob _ (I1.freeze hd hg) ae (q ob)
 ·exact main o H1 I1 hd q
end
section
variable {X : Cx}
end
end L2
set_option Elab.async false
set_option linter.all false
set_option maxRecDepth 100000
namespace L2
open PySem PySem.Spec PyProof.Rows
section
variable {P : Program} {w : World} {A : Around} {E : Value -> Shared -> Prop} {s : Shared}
end
end L2
set_option Elab.async false
set_option linter.all false
set_option maxRecDepth 100000
namespace L2
open PySem PySem.Spec PyProof.Rows
section
variable {X : Cx}
def NT (K : PySem.W.Frag) : List V -> Hp -> VK -> Prop:=fun xs H Q => ∃ (a : Addr) (bs : List Bool),xs = [.ref a] /\ SqL K H a (bs.map V.bl) /\ Q (.bl (bs.any id)) H
theorem Ik (hc : X.calm = true) : iE X (.builtin "any") (NT X.K):=by
 intro pins s σ H xs us Q I r h
 obtain ⟨a,bs,rfl,hS,q⟩:=h
 obtain ⟨u,rfl,ru⟩:=r.one
 cases (show u = Value.ref a from ru)
 obtain ⟨its,rv,ht,hz⟩:=I.list hS
 have hlen:=rv.length
 rw [List.length_map] at hlen
 have hlt : a < s.heap.objs.size:=by obtain ⟨_,e,_⟩:=ht.isList; exact Heap.lt_size e
 refine call_any_walk (wpAny_pyIter_list ht.isList ?_)
 have W:=Walks.list (prog:=X.prog) (w:=X.w) (A:=X.A.in1) (I.ok.hd hc) s.heap.objs.size a (Nat.ne_of_lt hlt) its.toArray
 refine ⟨_,_,_,_,_,_,fun i => bs.getD i false,rfl,W,⟨⟨_,Heap.get?_push_size _ rfl,rfl,rfl⟩,ht.isList.push _⟩,fun i v s' Q' E' hv hQ => ?_,fun h' tk hk => ?_⟩
 ·have e' : its[i]? = some v:=by simpa using hv
  have hi : i < bs.length:=by rw [hlen]; exact (List.getElem?_eq_some_iff.mp e').1
  obtain ⟨u,hu,ru⟩:=rv.get (i:=i) (x:=.bl bs[i]) (by simp [hi])
  rw [e'] at hu
  cases hu
  cases (show v = Value.bool bs[i] from ru)
  refine wpAny_truthy_bool ?_
  have : bs.getD i false = bs[i]:=by simp [hi]
  rw [<- this]
  exact hQ
 ·have I1 : Inv X pins σ H { s with heap:=h',toks:=tk }:=I.kept (t' := tk) fun b o e => hk b o (fun hm => by
   rw [List.mem_singleton.mp hm] at e
   exact Nat.lt_irrefl _ (Heap.lt_size e)) (Heap.get?_push_of_some _ e)
  refine ⟨.bl (bs.any id),H,I1,?_,q⟩
  show Value.bool _ = Value.bool _
  congr 1
  rw [List.size_toArray,<- hlen]
  have e : bs = (List.range bs.length).map fun i => bs.getD i false:=by
   apply List.ext_getElem?
   intro i
   rcases Nat.lt_or_ge i bs.length with q | q
   ·simp [q]
   ·simp [q]
  conv => rhs; rw [e]
  rw [List.any_map]
  rfl
end
end L2
set_option Elab.async false
set_option linter.all false
set_option maxRecDepth 100000
namespace PySem
open PyProof.Rows
section
variable {prog : Program} {w : World} {A : Around} {E : Value -> Shared -> Prop} {s : Shared}
end
end PySem
namespace L2
open PySem PySem.Spec PyProof.Rows
section
variable {X : Cx} {a : Expr} {ta : TA} {p p2 pos pos2 : Pos}
end
end L2
namespace L2
open PySem PySem.Spec PyProof.Rows
section
variable {X : Cx} {N : List Str} {scope : Scope} {ix : List (Option Nat)} {elt iter cond tg : Expr} {pos spos : Pos} {te : TE} {g : TG} {wi : TI} {tc : TT}
end
end L2
set_option Elab.async false
set_option linter.all false
set_option maxRecDepth 100000
namespace L2
open PySem PySem.Spec PyProof.Rows
section
variable {X : Cx} {tg : Expr}
end
section
variable {X : Cx} {a b c : Expr} {ta : TA} {p p2 pos pos2 : Pos}
end
end L2
set_option Elab.async false
set_option linter.all false
set_option maxRecDepth 100000
set_option maxHeartbeats 4000000
namespace L2
open PySem PySem.Spec PyProof.Rows
theorem DX {K : PySem.W.Frag} {a : Addr} {xs : List V} {ix : List (Option Nat)} {g : TG} {tc : TT} {te : TE} {σ : St} {H : Hp} {Qd : Addr -> Hp -> Prop} (Pv : Addr -> Nat -> List V -> Hp -> Prop)
  (hg : ∀ (T : Addr) (σ : St) (H : Hp) (Q : St -> Hp -> Prop) (x y : V),H T = some (.tup [x,y]) -> Q ((σ.set 0 (some x)).set 1 (some y)) H -> g (.ref T) σ H Q)
  (h0 : ∀ D,H D = none -> Pv D 0 [] (upd H D (.lst [])))
  (hl : ∀ D i ys H',i <= xs.length -> Pv D i ys H' -> SqT K H' a xs)
  (hs : ∀ D i x ys H' T (Qy : VK) (Qn : Hp -> Prop),H D = none -> xs[i]? = some x -> H' D = some (.lst ys) -> Pv D i ys H' -> H' T = none -> (∀ y H4,H4 D = some (.lst ys) -> ys.length < sizeLine -> Pv D (i + 1) (ys ++ [y]) (upd H4 D (.lst (ys ++ [y]))) -> Qy y H4) ->
   (∀ H4,H4 D = some (.lst ys) -> Pv D (i + 1) ys H4 -> Qn H4) -> tc (((aJ ix σ).set 0 (some (.int i))).set 1 (some x)) (upd H' T (.tup [.int i,x])) fun b H4 => if b = true then te (((aJ ix σ).set 0 (some (.int i))).set 1 (some x)) H4 Qy else Qn H4)
  (hd : ∀ D ys H',H D = none -> H' D = some (.lst ys) -> Pv D xs.length ys H' -> Qd D H') : AY (Ite K a) ix g tc te σ H Qd:=by
 intro D hD
 refine ⟨fun i m σ' H' => m = xs.length - i /\ i <= xs.length /\ (σ' = aJ ix σ \/ ∃ t u,σ' = ((aJ ix σ).set 0 t).set 1 u) /\ ∃ ys,H' D = some (.lst ys) /\ Pv D i ys H',⟨xs.length,by simp,Nat.zero_le _,.inl rfl,[],ae,h0 D hD⟩,?_⟩
 rintro i m σ' H' ⟨rfl,hi,hσ,ys,hy,p⟩
 have q:=hl D i ys H' hi p
 by_cases hlt : i < xs.length
 ·refine .inr ⟨⟨xs,xs[i],q,by simp [hlt]⟩,fun x H2 y => ?_⟩
  obtain ⟨T,x0,rfl,hT,rfl,y1⟩:=y
  have ex:=y1 xs q
  refine hg T σ' _ _ (.int i) x0 ae ?_
  have es : ((σ'.set 0 (some (V.int i))).set 1 (some x0)) = ((aJ ix σ).set 0 (some (V.int i))).set 1 (some x0):=by
   rcases hσ with z | ⟨t,u,z⟩
   ·rw [z]
   ·rw [z,JS]
  show tc ((σ'.set 0 (some (V.int i))).set 1 (some x0)) _ _
  rw [es]
  exact hs D i x0 ys _ T _ _ hD ex hy p hT (fun y H4 h4 hz p4 => ⟨ys,h4,hz,xs.length - (i + 1),by omega,rfl,hlt,.inr ⟨_,_,rfl⟩,ys ++ [y],ae,p4⟩) fun H4 h4 p4 => ⟨xs.length - (i + 1),by omega,rfl,hlt,.inr ⟨_,_,rfl⟩,ys,h4,p4⟩
 ·have e : i = xs.length:=by omega
  subst e
  exact .inl ⟨⟨xs,q,Nat.le_refl _⟩,hd D ys H' hD hy p⟩
end L2
set_option Elab.async false
set_option linter.all false
set_option maxRecDepth 100000
set_option maxHeartbeats 4000000
namespace L2
open PySem PySem.Spec PyProof.Rows
section
variable {X : Cx}
end
end L2
set_option Elab.async false
set_option linter.all false
set_option maxRecDepth 100000
set_option maxHeartbeats 4000000
namespace L2
open PySem PySem.Spec PyProof.Rows
theorem G4 {a : Addr} {o : Obj} {kvs : List (Key × V)} {ix : List (Option Nat)} {te : TE} {σ : St} {H : Hp} {Qd : Addr -> Hp -> Prop} (Pv : Addr -> Nat -> List V -> Hp -> Prop)
  (h0 : ∀ D,H D = none -> Pv D 0 [] (upd H D (.lst [])))
  (hl : ∀ D i ys H',i <= kvs.length -> Pv D i ys H' -> H' a = some (.frz o (.dK kvs)))
  (hs : ∀ D i p ys H' (Q' : VK),H D = none -> kvs[i]? = some p -> H' D = some (.lst ys) -> Pv D i ys H' -> (∀ y H4,H4 D = some (.lst ys) -> ys.length < sizeLine -> Pv D (i + 1) (ys ++ [y]) (upd H4 D (.lst (ys ++ [y]))) -> Q' y H4) ->
   te ((aJ ix σ).set 0 (some (kV p.1))) H' Q')
  (hd : ∀ D ys H',H D = none -> H' D = some (.lst ys) -> Pv D kvs.length ys H' -> Qd D H') : vb (Itd a o kvs) ix (a7 0) te σ H Qd:=by
 intro D hD
 refine ⟨fun i m σ' H' => m = kvs.length - i /\ i <= kvs.length /\ (σ' = aJ ix σ \/ ∃ t,σ' = (aJ ix σ).set 0 t) /\ ∃ ys,H' D = some (.lst ys) /\ Pv D i ys H',⟨kvs.length,by simp,Nat.zero_le _,.inl rfl,[],ae,h0 D hD⟩,?_⟩
 rintro i m σ' H' ⟨rfl,hi,hσ,ys,hy,p⟩
 have q:=hl D i ys H' hi p
 by_cases hlt : i < kvs.length
 ·refine .inr ⟨⟨hlt,q⟩,fun x H2 y => ?_⟩
  obtain ⟨e1,e2⟩:=y
  subst e1
  have ex:=e2 kvs[i] (List.getElem?_eq_getElem hlt)
  subst ex
  have es : σ'.set 0 (some (kV (kvs[i]).1)) = (aJ ix σ).set 0 (some (kV (kvs[i]).1)):=by
   rcases hσ with z | ⟨t,z⟩
   ·rw [z]
   ·rw [z,List.set_set]
  show te (σ'.set 0 (some (kV (kvs[i]).1))) _ _
  rw [es]
  refine hs D i kvs[i] ys _ _ hD (List.getElem?_eq_getElem hlt) hy p fun y H4 h4 hz p4 => ⟨ys,h4,hz,kvs.length - (i + 1),by omega,rfl,hlt,.inr ⟨_,rfl⟩,ys ++ [y],ae,p4⟩
 ·have e : i = kvs.length:=by omega
  subst e
  exact .inl ⟨⟨Nat.le_refl _,q⟩,hd D ys H' hD hy p⟩
end L2
set_option Elab.async false
set_option linter.all false
set_option maxRecDepth 100000
set_option maxHeartbeats 4000000
namespace PySem
open PyProof.Rows
section
variable {prog : Program} {w : World} {K : Type} [DecidableEq K] {knd : KeyKind prog w K} {A : Around} {E : Value -> Shared -> Prop} {s : Shared} {R : Result -> Shared -> Prop}
end
end PySem
namespace L2
open PySem PySem.Spec PyProof.Rows
section
variable {X : Cx}
end
end L2
set_option Elab.async false
set_option linter.all false
set_option maxRecDepth 100000
set_option maxHeartbeats 4000000
namespace PySem
section
variable {prog : Program} {w : World} {A : Around} {E : Value -> Shared -> Prop} {s : Shared}
def RawD (h : Heap) (d : Addr) (es : Array DictEntry) (ep : Nat) : Prop := ∃ o,h.get? d = some o /\ o.ExactDict /\ o.data = .dict es ep
theorem RawD.ty {d : Addr} {es : Array DictEntry} {ep : Nat} (x : RawD s.heap d es ep) : s.TypeIs (.ref d) "dict" := let ⟨o,h1,h2,_⟩:=x; ⟨o,h1,h2.1⟩
theorem IK {d : Addr} {es : Array DictEntry} {ep : Nat} {Q : Value -> Shared -> Prop} (lo : (d == sysModules) = false) (x : RawD s.heap d es ep)
  (q : Q (.ref s.heap.objs.size) { s with heap:=s.heap.push { cls:=.type "dict_keyiterator",data:=.fields #[.ref d,.int 0 0,.int es.size 0,.int ep 0] } }) : wpAny (model prog w) A (pyIter (.ref d)) Q E s:=by
 have ty:=x.ty
 obtain ⟨ob,g1,g2,g3⟩:=x
 refine wpAny_pyIter_slot ty F.slot_dict_iter (wpAny_call_entry F.slot_dict_iter ty F.entry_dict_iter ?_ (F.args_dict_iter_1 _))
 unfold Builtin.«dict.__iter__» Builtin.Dict.dictSlotNone
 refine wpAny_bind (wpAny_bind (wpAny_notOrdered_dict ty ?_))
 show wpAny _ _ (pure (Value.ref d)) _ _ s
 refine wpAny_pure ?_
 show wpAny _ _ (Builtin.Dict.showsAll d >>= _) _ _ s
 unfold Builtin.Dict.showsAll
 rw [if_neg (fun z => by rw [lo] at z; cases z)]
 refine wpAny_bind (wpAny_pure (wpAny_bind (wpAny_dictEntries g1 g3 (wpAny_bind (wpAny_dictEpoch g1 g3 ?_)))))
 refine wpAny_bind (wpAny_newObj_type (wpAny_pure ⟨_,rfl,"dict_keyiterator",_,⟨_,Heap.get?_push_size _ rfl,rfl⟩,F.slot_dict_keyiterator_next.lookup,?_⟩))
 simpa [rawInt] using q
theorem I9 {it d : Addr} {i ep : Nat} {es : Array DictEntry} {Q : Option Value -> Shared -> Prop} (y : s.heap.IsKeyIter it d i es.size ep) (x : RawD s.heap d es ep) (hi : i < es.size)
  (q : ∀ h',h'.IsKeyIter it d (i + 1) es.size ep -> Heap.SameBut it s.heap h' -> Q (some es[i].key) { s with heap:=h' }) : wpAny (model prog w) A (pyNext (.ref it)) Q E s:=by
 have ty:=y.typeIs
 obtain ⟨oi,i1,i2,i3⟩:=id y
 obtain ⟨ob,g1,g2,g3⟩:=x
 unfold pyNext
 refine wpAny_bind (wpAny_attempt (wpAny_callSpecial?_slot (name:=Str.ofString "__next__") ty F.slot_dict_keyiterator_next (wpAny_call_entry F.slot_dict_keyiterator_next ty F.entry_dict_keyiterator_next ?_ (F.args_dict_keyiterator_next_1 _))))
 refine wpAny_bind (wpAny_pure (wpAny_bind (wpAny_bind ?_)))
 first | refine wpAny_bind (wpAny_typeNameOfWhole_keyiter ty (wpAny_pure ?_)) | refine wpAny_bind (wpAny_typeNameOf_keyiter ty (wpAny_pure ?_))
 refine wpAny_bind (wpAny_fieldsOf i1 i3 ?_)
 have own : Builtin.Dict_items.ownsTuple "dict_keyiterator" = false:=by decide
 simp only [own,Bool.false_eq_true,if_false]
 show wpAny _ _ (if (Value.ref d == Value.none) = true then _ else _) _ _ s
 rw [if_neg (by intro z; cases z)]
 refine wpAny_bind (wpAny_pure (wpAny_bind (wpAny_dictEntries g1 g3 ?_)))
 rw [if_neg (by simp)]
 refine wpAny_bind (wpAny_pure (wpAny_bind (wpAny_dictEpoch g1 g3 ?_)))
 rw [if_neg (by simp)]
 refine wpAny_pure ?_
 simp only [show ¬ ((i : Int) < 0) from by omega,if_false,Int.toNat_natCast,Array.getElem?_eq_getElem hi]
 refine wpAny_bind ?_
 first | refine wpAny_bind (wpAny_typeNameOfWhole_keyiter ty (wpAny_pure ?_)) | refine wpAny_bind (wpAny_typeNameOf_keyiter ty (wpAny_pure ?_))
 refine wpAny_bind (wpAny_isOneOf_keyiter ty ?_)
 show wpAny _ _ (setField (.ref it) 1 (rawInt ((i : Int) + 1)) >>= _) _ _ s
 refine wpAny_bind (wpAny_setField i1 i3 (by simp) ?_)
 have y2 : (s.heap.update it (Obj.mapFields (·.setIfInBounds 1 (rawInt ((i : Int) + 1))))).IsKeyIter it d (i + 1) es.size ep:=⟨_,Heap.get?_update_self _ i1 (Obj.isFreed_of_fields (Obj.data_mapFields i3 _)),(Obj.cls_mapFields ..).trans i2,by rw [Obj.data_mapFields i3]; simp [rawInt]⟩
 refine wpAny_bind (wpAny_holding (wpAny_bind (wpAny_isOneOf_keyiter (s:={ s with heap:=s.heap.update it (Obj.mapFields (·.setIfInBounds 1 (rawInt ((i : Int) + 1)))) }) y2.typeIs ?_)))
 show wpAny _ _ (pure es[i].key) _ _ _
 exact wpAny_pure (wpAny_pure ⟨_,rfl,wpAny_pure (q _ y2 (Heap.SameBut.update ..))⟩)
theorem Ks {it d : Addr} {ep : Nat} {es : Array DictEntry} {Q : Option Value -> Shared -> Prop} (hh : A.handled = none) (y : s.heap.IsKeyIter it d es.size es.size ep) (x : RawD s.heap d es ep)
  (q : ∀ h',Heap.ExtBut it s.heap h' -> Q none { s with heap:=h' }) : wpAny (model prog w) A (pyNext (.ref it)) Q E s:=by
 have ty:=y.typeIs
 obtain ⟨oi,i1,i2,i3⟩:=id y
 obtain ⟨ob,g1,g2,g3⟩:=x
 unfold pyNext
 refine wpAny_bind (wpAny_attempt (wpAny_callSpecial?_slot (name:=Str.ofString "__next__") ty F.slot_dict_keyiterator_next (wpAny_call_entry F.slot_dict_keyiterator_next ty F.entry_dict_keyiterator_next ?_ (F.args_dict_keyiterator_next_1 _))))
 refine wpAny_bind (wpAny_pure (wpAny_bind (wpAny_bind ?_)))
 first | refine wpAny_bind (wpAny_typeNameOfWhole_keyiter ty (wpAny_pure ?_)) | refine wpAny_bind (wpAny_typeNameOf_keyiter ty (wpAny_pure ?_))
 refine wpAny_bind (wpAny_fieldsOf i1 i3 ?_)
 have own : Builtin.Dict_items.ownsTuple "dict_keyiterator" = false:=by decide
 simp only [own,Bool.false_eq_true,if_false]
 show wpAny _ _ (if (Value.ref d == Value.none) = true then _ else _) _ _ s
 rw [if_neg (by intro z; cases z)]
 refine wpAny_bind (wpAny_pure (wpAny_bind (wpAny_dictEntries g1 g3 ?_)))
 rw [if_neg (by simp)]
 refine wpAny_bind (wpAny_pure (wpAny_bind (wpAny_dictEpoch g1 g3 ?_)))
 rw [if_neg (by simp)]
 refine wpAny_pure ?_
 simp only [show ¬ ((es.size : Int) < 0) from by omega,if_false,Int.toNat_natCast,Array.getElem?_eq_none (Nat.le_refl es.size)]
 refine wpAny_bind ?_
 first | refine wpAny_bind (wpAny_typeNameOfWhole_keyiter ty (wpAny_pure ?_)) | refine wpAny_bind (wpAny_typeNameOf_keyiter ty (wpAny_pure ?_))
 show wpAny _ _ (setField (.ref it) 0 .none >>= _) _ _ s
 refine wpAny_bind (wpAny_setField i1 i3 (by simp) ?_)
 show wpAny _ _ (newExc (.type "StopIteration") [] >>= _) _ _ _
 refine wpAny_bind ?_
 simp only [newExc,newTuple]
 refine wpAny_bind (wpAny_newObj_type (wpAny_bind (m:=firstArgMember _ _) (wpAny_of_eq (a:=Value.none) (by first | rfl | (simp only [firstArgMember]; rfl)) (wpAny_newObj_type ?_ (by size_fits)))) (by size_fits))
 simp only [raiseNew]
 refine wpAny_bind (wpAny_handled ?_)
 rw [show A.in1.handled = none from hh]
 refine (wpAny_bind (wpAny_pure (wpAny_throw ?fin)))
 refine (wpAny_bind (wpAny_isInstance (T := "StopIteration") (b:=true) ⟨_,(Heap.get?_push_size _ rfl),rfl⟩ isSubtype_stop ?_))
 exact wpAny_pure (q _ (((Heap.SameBut.update ..).extBut.push _).push _))
end
end PySem
namespace L2
open PySem PySem.Spec PyProof.Rows
section
variable {X : Cx}
def Lq (H : Hp) : List Addr -> List (List Key × V) -> Prop:=Paired fun b p => H b = some (.tup (p.1.map kV))
theorem KT.keys {H : Hp} : ∀ {kvs : List (List Key × V)} {xs : List (List Key × Addr × Value)},KT H kvs xs -> Lq H (xs.map fun q => q.2.1) kvs
 | [],[],.nil => .nil
 | _ :: _,_ :: _,.cons h t => .cons h.2.1 (KT.keys t)
end
end L2
set_option Elab.async false
set_option linter.all false
set_option maxRecDepth 100000
set_option maxHeartbeats 4000000
namespace L2
open PySem PySem.Spec PyProof.Rows
end L2
set_option Elab.async false
set_option linter.all false
set_option maxRecDepth 100000
set_option maxHeartbeats 4000000
namespace L2
open PySem PySem.Spec PyProof.Rows
def EqD (K : PySem.W.Frag) (H : Hp) : Nat -> V -> V -> Prop
 | 0,x,y => ∃ i : Int,x = .int i /\ y = .int i
 | n + 1,x,y => (∃ i : Int,x = .int i /\ y = .int i) \/ ∃ a b xs ys,x = .ref a /\ y = .ref b /\ SqT K H a xs /\ SqT K H b ys /\ Paired (EqD K H n) xs ys
theorem uD {α β : Type} {F : α -> β -> Prop} : ∀ {xs : List α} {ys : List β} {j : Nat} (h1 : j < xs.length) (h2 : j < ys.length),Paired F xs ys -> F xs[j] ys[j]
 | _,_,j,h1,_,.nil => absurd h1 (Nat.not_lt_zero _)
 | _,_,0,_,_,.cons a _ => a
 | _,_,j + 1,h1,h2,.cons _ t => uD (j:=j) (by simpa using h1) (by simpa using h2) t
section
variable {X : Cx} {pins : List (Addr × Obj)} {σ : St} {H : Hp} {s : Shared}
theorem Gr {A : Around} {i : Int} {u v : Value} (ru : RelV (.int i) u) (rv : RelV (.int i) v) : SeqAt.EqAt A s u v true:=by
 obtain ⟨t,rfl⟩:=(show ∃ t,u = Value.int i t from ru)
 obtain ⟨t',rfl⟩:=(show ∃ t,v = Value.int i t from rv)
 have z:=SeqAt.EqAt.int_int (A:=A) (s:=s) i t i t'
 rw [beq_self_eq_true] at z
 exact z
theorem Gs {n : Nat} (ih : ∀ {A : Around} {x y : V} {u v : Value},A.units + n < cLine -> EqD X.K H n x y -> RelV x u -> RelV y v -> SeqAt.EqAt A s u v true) {A : Around} {a b : Addr} {xs ys : List V} (I : Inv X pins σ H s) (hu : A.units + (n + 1) < cLine) (ha : SqT X.K H a xs) (hb : SqT X.K H b ys) (p : Paired (EqD X.K H n) xs ys) : SeqAt.RcAt A s (.ref a) (.ref b) true:=by
 obtain ⟨its,r1,p1,_⟩:=I.tuple ha
 obtain ⟨jts,r2,p2,_⟩:=I.tuple hb
 have l1:=r1.length
 have l2:=r2.length
 have l3:=p.length
 have q:=SeqAt.RcAt.tuples (A:=A) (e:=fun _ => true) p1 p2 (by omega) fun j h1 h2 => by
  have j1 : j < xs.length:=by simp at h1; omega
  have j2 : j < ys.length:=by omega
  obtain ⟨u1,e1,q1⟩:=r1.get (i:=j) (x:=xs[j]) (by simp [j1])
  obtain ⟨u2,e2,q2⟩:=r2.get (i:=j) (x:=ys[j]) (by simp [j2])
  have g1 : its.toArray[j] = u1:=by
   have:=(List.getElem?_eq_some_iff.mp e1).2
   simpa using this
  have g2 : jts.toArray[j] = u2:=by
   have:=(List.getElem?_eq_some_iff.mp e2).2
   simpa using this
  rw [g1,g2]
  exact ih (show A.units + 1 + n < cLine by omega) (uD j1 j2 p) q1 q2
 have e : ((List.range (min its.toArray.size jts.toArray.size)).all (fun _ => true) && its.toArray.size == jts.toArray.size) = true:=by
  simp
  omega
 rw [e] at q
 exact q
theorem EqD.at (I : Inv X pins σ H s) : ∀ (n : Nat) {A : Around} {x y : V} {u v : Value},A.units + n < cLine -> EqD X.K H n x y -> RelV x u -> RelV y v -> SeqAt.EqAt A s u v true
 | 0,A,x,y,u,v,_,h,ru,rv => by
  obtain ⟨i,rfl,rfl⟩:=h
  exact Gr ru rv
 | n + 1,A,x,y,u,v,hu,h,ru,rv => by
  rcases h with ⟨i,rfl,rfl⟩ | ⟨a,b,xs,ys,rfl,rfl,ha,hb,p⟩
  ·exact Gr ru rv
  ·cases ru
   cases rv
   by_cases e : a = b
   ·subst e; exact SeqAt.EqAt.same _
   ·exact SeqAt.EqAt.of_refs e (Gs (fun {A x y u v} h1 h2 h3 h4 => EqD.at I n h1 h2 h3 h4) I hu ha hb p)
theorem Jv (n : Nat) (hu : X.A.units + (n + 1) < cLine) : OpR X (compareOp .Eq) (fun x y H Q => ∃ a b xs ys,x = .ref a /\ y = .ref b /\ SqT X.K H a xs /\ SqT X.K H b ys /\ Paired (EqD X.K H n) xs ys /\ Q (.bl true) H):=by
 intro pins s σ H x y v u Q I r1 r2 h
 obtain ⟨a,b,xs,ys,rfl,rfl,ha,hb,e,q⟩:=h
 cases r1
 cases r2
 exact Gs (fun {A x y u v} h1 h2 h3 h4 => EqD.at I n h1 h2 h3 h4) I hu ha hb e X.prog X.w X.xe _ ⟨.bl true,H,I,rfl,q⟩
end
theorem IH {A : Around} {k : Nat} (hr : Room k A) : A.units + 3 < cLine:=by
 have:=hr.un
 omega
end L2
set_option Elab.async false
set_option linter.all false
set_option maxRecDepth 100000
set_option maxHeartbeats 4000000
namespace L2
open PySem PySem.Spec PyProof.Rows
section
variable {X : Cx} {pins : List (Addr × Obj)} {σ : St} {H : Hp} {s : Shared}
open Classical in
noncomputable def isR (H : Hp) (ns : List Int) (u : Value) : Bool:=decide (∃ b,u = Value.ref b /\ H b = some (.tup (ns.map V.int)))
end
end L2
set_option Elab.async false
set_option linter.all false
set_option maxRecDepth 100000
set_option maxHeartbeats 4000000
namespace L2
open PySem PySem.Spec PyProof.Rows
section
variable {X : Cx}
end
end L2
set_option Elab.async false
set_option linter.all false
set_option maxRecDepth 100000
set_option maxHeartbeats 4000000
namespace L2
open PySem PySem.Spec PyProof.Rows
section
variable {X : Cx} {pins : List (Addr × Obj)} {σ : St} {H : Hp} {s : Shared} {a : Addr} {o : Obj} {kvs : List (List Key × V)}
theorem Inv.freezeT (I : Inv X pins σ H s) (e : H a = some (.dT kvs)) (ho : s.heap.get? a = some o) : Inv X pins σ (upd H a (.frz o (.dT kvs))) s:=by
 have nt : ∀ b u,H b = some u -> (u = .dT kvs -> False) -> b ≠ a:=fun b u q d => cb q e d
 refine I.un (t' := s.toks) ⟨fun b u q _ _ _ => q,fun b u q _ _ _ => ⟨u.slots,q⟩,fun b u q n _ => ?_,fun b u q _ => ⟨u,q⟩,fun b xs q => ?_,fun b u xs q => ?_,fun b ps q => ⟨#[],?_⟩⟩ (fun b u q => ?_)
 ·rw [aj (fun z => by rw [z,e] at n; cases n)]; exact n
 ·rw [aj (nt b _ q (by intro z; cases z))]; exact q
 ·rw [aj (nt b _ q (by intro z; cases z))]; exact q
 ·rw [aj (nt b _ q (by intro z; cases z)),q]; simp
 ·by_cases hb : b = a
  ·subst hb
   rw [ae] at q
   cases q
   refine ⟨ho,?_⟩
   exact (I.hok b _ e).stay (fun c v _ z => z) (fun c z => by rw [aj (nt c _ z (by intro y; cases y))]; exact z) fun c xs z => by rw [aj (nt c _ z (by intro y; cases y))]; exact z
  ·rw [aj hb] at q
   exact (I.hok b u q).stay (fun c v _ z => z) (fun c z => by rw [aj (nt c _ z (by intro y; cases y))]; exact z) fun c xs z => by rw [aj (nt c _ z (by intro y; cases y))]; exact z
end
def LC (a : Addr) (o : Obj) (kvs : List (List Key × V)) : It:=
 ⟨fun i H => i < kvs.length /\ H a = some (.frz o (.dT kvs)),fun i H x H' => H' = H /\ ∃ b,x = .ref b /\ ∀ p,kvs[i]? = some p -> H b = some (.tup (p.1.map kV)),fun i H => i = kvs.length /\ H a = some (.frz o (.dT kvs))⟩
theorem uY {P : Program} {w : World} {H : Hp} {h : Heap} {a : Addr} {o : Obj} {kvs : List (List Key × V)} (ok : HOk P w H h) (e : H a = some (.frz o (.dT kvs))) : ∃ (bs : List Addr) (es : Array DictEntry),RawD h a es (jP o) /\ (a == sysModules) = false /\ h.get? a = some o /\ es.size = kvs.length /\ bs.length = kvs.length /\ Lq H bs kvs /\ ∀ (j : Nat) (hj : j < es.size) (hb : j < bs.length),es[j].key = .ref bs[j]:=by
 obtain ⟨ho,z,lo,xs,kt,ob,es,ep,h1,h2,h3,h4,h5⟩:=ok a _ e
 rw [ho] at h1
 cases h1
 have ee : jP o = ep:=by unfold jP; rw [h3]
 have hlen : kvs.length = xs.length:=Paired.length kt
 have sz : es.size = xs.length:=by
  have:=congrArg List.length h4
  rw [List.length_map] at this
  simpa using this
 refine ⟨xs.map fun q => q.2.1,es,⟨o,ho,h2,by rw [ee]; exact h3⟩,lo,ho,by omega,by rw [List.length_map]; omega,KT.keys kt,fun j hj hb => ?_⟩
 have ek : es[j] = entryOfKey (tupleKind (aX P w)) (xs[j]'(by rw [<- sz]; exact hj)):=by
  have:=congrArg (fun l => l[j]?) h4
  simp only [Array.getElem?_toList,List.getElem?_map] at this
  rw [Array.getElem?_eq_getElem hj,List.getElem?_eq_getElem (by rw [<- sz]; exact hj)] at this
  exact Option.some.inj this
 rw [ek,List.getElem_map]
 rfl
theorem FX {P : Program} {w : World} {K : PySem.W.Frag} {tg : Expr} (a it : Addr) (o : Obj) (kvs : List (List Key × V)) : Turn P w K tg (LC a o kvs) [it] it (fun i h => h.IsKeyIter it a i kvs.length (jP o)) where
 mem:=by simp
 obj:=fun i h st b hb => by
  have e : b = it:=by simpa using hb
  subst e
  obtain ⟨o,e,c,d⟩:=st
  exact ⟨o,e,fun v z => by rw [d] at z; cases z⟩
 keep:=fun i h h' st k => by
  obtain ⟨ob,e,r⟩:=st
  exact ⟨ob,k it (by simp) ob e,r⟩
 item:=by
  intro X hP hw hK hc i pins s σ H E I hf st hg
  subst hP hw hK
  obtain ⟨hi,hfz⟩:=hg
  obtain ⟨bs,es,dat,lo,ho,sz,lb,kt,hk⟩:=uY I.hok hfz
  obtain ⟨f0,f1,f2,f3,f4,f5⟩:=hf it (by simp)
  rw [<- sz] at st
  refine I9 st dat (by omega) fun h' st' sb => ?_
  have I1 : Inv X pins σ H { s with heap:=h' }:=I.turned (t' := s.toks) (fun b o hb e => (sb.2 b hb).trans e) f0 f1 f3 f4 f5
  rw [sz] at st'
  obtain ⟨ob,e,c,d⟩:=id st'
  refine ⟨_,rfl,AE (s:={ s with heap:=h' }) e c d (by decide) ⟨.ref (bs[i]'(by omega)),H,I1,?_,⟨rfl,_,rfl,fun p' hp' => ?_⟩,st',fun b hb => (hf b hb).1⟩⟩
  ·rw [hk i (by omega) (by omega)]
   rfl
  ·have:=uD (j:=i) (by omega) hi kt
   rw [List.getElem?_eq_getElem hi] at hp'
   cases hp'
   exact this
 done:=by
  intro X hP hw hK hc i pins s σ H E I hf st hg
  subst hP hw hK
  obtain ⟨hi,hfz⟩:=hg
  obtain ⟨bs,es,dat,lo,ho,sz,lb,kt,hk⟩:=uY I.hok hfz
  obtain ⟨f0,f1,f2,f3,f4,f5⟩:=hf it (by simp)
  subst hi
  rw [<- sz] at st
  exact Ks (I.ok.hd hc) st dat fun h' eb => ⟨rfl,I.turned (t' := s.toks) (fun b o hb e => eb b o hb e) f0 f1 f3 f4 f5⟩
 self:=fun A i s Q E st h => by
  refine wpAny_pyIter_slot st.typeIs PySem.F.slot_dict_keyiterator_iter (wpAny_call_entry PySem.F.slot_dict_keyiterator_iter st.typeIs PySem.F.entry_dict_keyiterator_iter ?_ (PySem.F.args_dict_keyiterator_iter_1 _))
  show wpAny _ _ (ret (.ref it)) _ _ s
  exact wpAny_pure ⟨_,rfl,"dict_keyiterator",_,st.typeIs,PySem.F.slot_dict_keyiterator_next.lookup,h⟩
section
variable {X : Cx} {tg : Expr}
def II (tl : TE) : TI:=fun σ H R => tl σ H fun x H1 => ∃ a kvs,x = .ref a /\ H1 a = some (.dT kvs) /\ ∀ o,R (LC a o kvs) (upd H1 a (.frz o (.dT kvs)))
theorem JI {l : Expr} {tl : TE} (hl : PE X l tl) : PI X tg l (II tl):=by
 intro pins s σ H R I h
 refine thn (hl pins s σ H _ I h) fun v s1 ⟨x,H1,I1,r1,q1⟩ => ?_
 obtain ⟨a,kvs,e,hd,q⟩:=q1
 subst e
 cases r1
 obtain ⟨z,lo0,xs,kt0,ob,es0,ep,hg,rest⟩:=I1.hok a _ hd
 have I2:=I1.freezeT hd hg
 obtain ⟨bs,es,dat,lo,ho,sz,lb,kt,hk⟩:=uY I2.hok ae
 refine IK lo dat ?_
 refine ⟨s1.heap.objs.size,[s1.heap.objs.size],_,_,_,rfl,I2.kept (t' := s1.toks) fun b o e => Heap.get?_push_of_some _ e,FX a _ ob kvs,⟨_,Heap.get?_push_size _ rfl,rfl,by rw [sz]; rfl⟩,fun b hb => ?_,q ob⟩
 have e : b = s1.heap.objs.size:=by simpa using hb
 subst e
 exact I2.fpOk (Nat.le_refl _) (I2.hok.fresh (Nat.le_refl _))
end
theorem Fd {a : Addr} {o : Obj} {kvs : List (List Key × V)} {ix : List (Option Nat)} {te : TE} {σ : St} {H : Hp} {Qd : Addr -> Hp -> Prop} (Pv : Addr -> Nat -> List V -> Hp -> Prop)
  (h0 : ∀ D,H D = none -> Pv D 0 [] (upd H D (.lst [])))
  (hl : ∀ D i ys H',i <= kvs.length -> Pv D i ys H' -> H' a = some (.frz o (.dT kvs)))
  (hs : ∀ D i p b ys H' (Q' : VK),H D = none -> kvs[i]? = some p -> H' b = some (.tup (p.1.map kV)) -> H' D = some (.lst ys) -> Pv D i ys H' -> (∀ y H4,H4 D = some (.lst ys) -> ys.length < sizeLine -> Pv D (i + 1) (ys ++ [y]) (upd H4 D (.lst (ys ++ [y]))) -> Q' y H4) ->
   te ((aJ ix σ).set 0 (some (.ref b))) H' Q')
  (hd : ∀ D ys H',H D = none -> H' D = some (.lst ys) -> Pv D kvs.length ys H' -> Qd D H') : vb (LC a o kvs) ix (a7 0) te σ H Qd:=by
 intro D hD
 refine ⟨fun i m σ' H' => m = kvs.length - i /\ i <= kvs.length /\ (σ' = aJ ix σ \/ ∃ t,σ' = (aJ ix σ).set 0 t) /\ ∃ ys,H' D = some (.lst ys) /\ Pv D i ys H',⟨kvs.length,by simp,Nat.zero_le _,.inl rfl,[],ae,h0 D hD⟩,?_⟩
 rintro i m σ' H' ⟨rfl,hi,hσ,ys,hy,p⟩
 have q:=hl D i ys H' hi p
 by_cases hlt : i < kvs.length
 ·refine .inr ⟨⟨hlt,q⟩,fun x H2 y => ?_⟩
  obtain ⟨e1,b,rfl,e2⟩:=y
  subst e1
  have ex:=e2 kvs[i] (List.getElem?_eq_getElem hlt)
  have es : σ'.set 0 (some (.ref b)) = (aJ ix σ).set 0 (some (.ref b)):=by
   rcases hσ with z | ⟨t,z⟩
   ·rw [z]
   ·rw [z,List.set_set]
  show te (σ'.set 0 (some (.ref b))) _ _
  rw [es]
  refine hs D i kvs[i] b ys _ _ hD (List.getElem?_eq_getElem hlt) ex hy p fun y H4 h4 hz p4 => ⟨ys,h4,hz,kvs.length - (i + 1),by omega,rfl,hlt,.inr ⟨_,rfl⟩,ys ++ [y],ae,p4⟩
 ·have e : i = kvs.length:=by omega
  subst e
  exact .inl ⟨⟨rfl,q⟩,hd D ys H' hD hy p⟩
end L2
set_option Elab.async false
set_option linter.all false
set_option maxRecDepth 100000
set_option maxHeartbeats 4000000
namespace L2
open PySem PySem.Spec PyProof.Rows
def FU (trs : List (TE × TE)) : TE:=fun σ H Q => ∀ p,H p = none -> y9 trs σ (upd H p (.dT [])) fun ps H2 => H2 p = some (.dT []) /\ ∃ b k y,ps = [(.ref b,y)] /\ H2 b = some (.tup (k.map kV)) /\ Q (.ref p) (upd H2 p (.dT [(k,y)]))
theorem HQ {prog : Program} {w : World} {A : Around} {E : Value -> Shared -> Prop} {s : Shared} {d : Addr} {u r : Value} {Q : PUnit -> Shared -> Prop} (h : wpAny (model prog w) A (dictSet d u r) (fun _ s' => Q PUnit.unit s') E s) : wpAny (model prog w) A (storeAll d [(u,r)]) Q E s:=by
 unfold storeAll
 simp only [List.forIn_cons,List.forIn_nil]
 exact wpAny_bind (wpAny_bind (wpAny_mono h (fun _ s' q => wpAny_pure (wpAny_pure q)) fun _ _ e => e))
theorem JE {X : Cx} {pos : Pos} {k v : Expr} {trs : List (TE × TE)} (hu : X.A.units + 1 < cLine) (h : PPs X pos [some k] [v] trs) : PE X (.Dict [some k] [v] pos) (FU trs):=by
 intro pins s σ H Q I q
 have hn:=I.hok.fresh (Nat.le_refl s.heap.objs.size)
 have I1:=I.laid (a:=s.heap.objs.size) (o:=.dT []) (h' := s.heap.push { cls:=.type "dict",data:=.dict #[] }) (t' := s.toks) (fun _ _ q => Heap.get?_push_of_some _ q) (Nat.le_refl _) (Iy s.heap I.big)
 refine wpAny_Dict_any rfl rfl (by intro z; cases z) (by show 1 <= 15; decide) (thn (h pins _ σ _ _ I1 (q _ hn)) fun ws s2 ⟨ps,H2,I2,rel,e,b,kk,y,ep,hb,q2⟩ => ?_)
 subst ep
 obtain ⟨u,rr,hws,ru,ry⟩ : ∃ u rr,ws = [(u,rr)] /\ RelV (.ref b) u /\ RelV y rr:=by
  cases rel with
  | cons r t =>
   cases t
   exact ⟨_,_,rfl,r.1,r.2⟩
 subst hws
 have eu : u = Value.ref b:=ru
 subst eu
 obtain ⟨z,hd,xs,rl,dd⟩:=Iz I2.hok e
 cases rl
 refine HQ (wpAny_dictSet_heap (hsz:=by decide) (show X.A.units < cLine by omega) (oG I2.hok hb) dd fun h' dd' hs => ⟨.ref s.heap.objs.size,_,?_,rfl,q2⟩)
 obtain ⟨q',es,ep,hq,h2,h3,h4,_,h5⟩:=dd'
 refine pG I2 (by rw [e]; exact True.intro) hs ⟨q',hq⟩ ⟨by show 1 <= sizeLine; decide,hd,_,(KT.put (H:=H2) (kvs:=[]) (xs:=[]) .nil kk hb ry).keeps fun c ys ec => ?_,q',es,ep,hq,h2,h3,h4,h5⟩
 rw [aj (cb ec e (fun z => nomatch z))]
 exact ec
end L2
set_option Elab.async false
set_option linter.all false
set_option maxRecDepth 100000
namespace PySem
theorem zS {prog : Program} {w : World} (d : Addr) (n : Nat) (hd : (d == sysModules) = false) :
  MeetsIn prog w (Builtin.«dict.__len__» { pos:=[Value.ref d] }) fun _ R s => (∃ o es ep,s.heap.get? d = some o /\ o.data = Data.dict es ep /\ es.size = n) /\ R (.ok (.ret (Value.int (n : Int) s.toks))) { s with toks:=s.toks + 1 }:=
 MeetsIn.of_wp fun A R s ⟨⟨o,es,ep,h1,h2,h3⟩,h⟩ => by
  show wpAny (model prog w) A.in1 (do
   let n1 <- dictSize d
   let n2 <- Builtin.Dict.pendingCount d
   retInt ((n1 : Int) + (n2 : Int))) _ _ _
  refine wpAny_bind (wpAny_bind (wpAny_dictEntries h1 h2 (wpAny_pure (wpAny_bind (wpAny_pendingCount_other hd (wpAny_ret_mkInt ?_))))))
  rw [Nat.add_zero,h3]
  exact h
theorem Kz {prog : Program} {w : World} {A : Around} {E : Value -> Shared -> Prop} {s : Shared} {d : Addr} {n : Nat} {Q : Value -> Shared -> Prop} (hd : (d == sysModules) = false) (ty : s.TypeIs (.ref d) "dict")
  (hx : ∃ o es ep,s.heap.get? d = some o /\ o.data = Data.dict es ep /\ es.size = n) (hfit : (n : Int) < 2 ^ 63) (h : Q (Value.int (n : Int) (s.toks + 1)) { s with toks:=s.toks + 1 + 1 }) :
  wpAny (model prog w) A (call (Value.builtin "len") [Value.ref d]) Q E s:=by
 refine Calls.call_function_entry kind_len plain_len entry_len (args_len1 (Value.ref d)) ?_
 show wpAny _ _ _ _ _ _
 refine wpAny_bind (wpAny_pure (wpAny_bind (wpAny_callSpecial?_slot ty F.slot_dict_len (call_meetsIn F.slot_dict_len ty F.entry_dict_len (F.args_dict_len_1 _) (zS d n hd) ⟨hx,?_⟩))))
 show wpAny _ _ _ _ _ _
 refine wpAny_bind (wpAny_holding (wpAny_pure (wpAny_bind (wpAny_letGo ?_))))
 show wpAny _ _ (if _ then _ else _) _ _ _
 rw [if_neg (by omega)]
 show wpAny _ _ (if _ then _ else _) _ _ _
 rw [if_neg (by omega)]
 exact wpAny_bind (wpAny_mkInt (wpAny_pure ⟨_,rfl,h⟩))
end PySem
namespace L2
open PySem PySem.Spec PyProof.Rows
theorem GY {X : Cx} : iE X (.builtin "len") (fun xs H Q => ∃ a kvs,xs = [.ref a] /\ H a = some (.dT kvs) /\ Q (.int kvs.length) H):=by
 intro pins s σ H xs us Q I r h
 obtain ⟨a,kvs,rfl,ha,q⟩:=h
 obtain ⟨u,rfl,rx⟩:=vals1 r
 cases rx
 obtain ⟨hz,lo,xs,kt,o,es,ep,h1,h2,h3,h4,h5⟩:=(show ObjOk X.prog X.w H s.heap a (.dT kvs) from I.hok a _ ha)
 have hlen : kvs.length = xs.length:=Paired.length kt
 have sz : es.size = xs.length:=by
  have:=congrArg List.length h4
  rw [List.length_map] at this
  simpa using this
 have dd:=(Iz I.hok ha).2.2
 obtain ⟨xs',_,dd⟩:=dd
 exact Kz lo dd.typeIs ⟨o,es,ep,h1,h3,by rw [sz,<- hlen]⟩ (by rw [sizeLine_eq] at hz; omega) ⟨.int kvs.length,H,I.tok _,⟨_,rfl⟩,q⟩
end L2
set_option Elab.async false
set_option linter.all false
set_option maxRecDepth 100000
set_option maxHeartbeats 4000000
namespace L2
open PySem PySem.Spec PyProof.Rows
section
variable {X : Cx}
end
end L2
set_option Elab.async false
set_option linter.all false
set_option maxRecDepth 100000
set_option maxHeartbeats 4000000
namespace PySem
section
variable {prog : Program} {w : World} {A : Around} {E : Value -> Shared -> Prop} {s : Shared}
end
end PySem
namespace L2
open PySem PySem.Spec PyProof.Rows
end L2
set_option Elab.async false
set_option linter.all false
set_option maxRecDepth 100000
set_option maxHeartbeats 4000000
namespace L2
open PySem PySem.Spec PyProof.Rows
abbrev NK:=Int × List Int
section
variable {X : Cx} {pins : List (Addr × Obj)} {σ : St} {H : Hp} {s : Shared} {d : Addr} {ks : List (NK × Addr)}
end
section
variable {X : Cx} {pos pos' : Pos} {o i value : Expr} {td ty tv : TE}
end
end L2
set_option Elab.async false
set_option linter.all false
set_option maxRecDepth 100000
namespace L2
open PySem PySem.Spec PyProof.Rows
structure Aloft (base : Heap) (l : List Env) (e : Addr) (cls a0 : Value) (fl : Value) (h : Heap) : Prop where
 stays : base.StaysIn h
 new : base.get? e = none
 fun_ : h.FunFrames base l
 tr : h.TracedAtW base e cls a0 fl
section
variable {P : Program} {w : World} {K : PySem.W.Frag} {mg : Str -> Option Value} {base : Heap} {N : List Str} {qual : Str} {scope : Scope} {f : Addr} {cd : Value} {A : Around} {outer : List Env} {s : Shared} {H : Hp} {E : XK}
end
section
variable {X : Cx} {pins : List (Addr × Obj)} {σ : St} {H : Hp} {s : Shared} {N : List Str} {ix : List (Option Nat)} {scope : Scope} {fp : List Addr} {tg elt iter : Expr} {pos spos : Pos} {J : It} {it : Addr} {tn : Nat -> Heap -> Prop} {g : TG} {te : TXE} {wi : TI} {Ex : XK}
end
end L2
set_option Elab.async false
set_option linter.all false
set_option maxRecDepth 100000
namespace L2
open PySem PySem.Spec PySem.W PySem.Builtin PySem.Builtin.ObjectAttr PyProof.Rows
abbrev dG (C : Addr) (dx : Option Addr) (vs : Array Value) : Obj:={ cls:=.ref C,dict:=dx,data:=.fields vs }
def mroIs (K : PySem.W.Frag) (C : Addr) (as : List Addr) : Bool:=(clsIn K C).any fun cd => cd.mro == as.map Value.ref ++ VEm
theorem vq (self : Value) : ∀ as : List Addr,refuseLoop self "__setattr__" (as.map Value.ref ++ VEm) = pure ()
 | [] => PySem.F.store_ValueError.passes self
 | a :: r => by
  rw [List.map_cons,List.cons_append,refuseLoop_ref]
  exact vq self r
section
variable {prog : Program} {w : World} {A : Around} {E : Value -> Shared -> Prop} {s : Shared} {K : PySem.W.Frag} {x C : Addr} {vs : Array Value} {name : Str} {v : Value} {as : List Addr}
theorem Eh {h : Heap} (hx : h.get? x = some (dG C none vs)) : InstAt h x (dG C none vs) C none:=⟨hx,rfl,rfl,trivial⟩
theorem KI {tk : Tok} {R : Result -> Shared -> Prop} (X : K.In s.heap) (hx : s.heap.get? x = some (dG C none vs)) (hm : mroIs K C as = true) (ob : mroIn K C (.type "object") = some true) (na : findIn K (.ref C) name = some none)
  (h : wpAny (model prog w) A.in1 (storeInOwnDict (.ref x) (.ref C) (.str name tk) name v false)
   (fun fin s' => match fin with | .done f => R (.ok f) s' | .again c' => c'.quiet = true /\ codeAny (model prog w) A c' R s') (fun e s' => R (.error e) s') s) :
  codeAny (model prog w) A (.call (.builtin "object.__setattr__") ⟨[.ref x,.str name tk,v],[]⟩) R s:=by
 have SF:=PySem.F.store_object
 have I:=Eh hx
 obtain ⟨cd,hc,ho⟩:=any_some hm
 have em : cd.mro = as.map Value.ref ++ VEm:=by simpa using ho
 have sub : Looks (model prog w) s.heap (isInstance (.ref x) (.type "object")) true:=I.type.andThen (looks_mroIn X ob)
 refine codeAny_call_builtin SF.slot.plain SF.entry (@check_slot (model prog w) _ _ s "object.__setattr__" "object" "__setattr__" (.ref x) [.str name tk,v] [] _ SF.kind SF.split sub (SF.args (.ref x) (.str name tk) v) ?_)
 have lm : Looks (model prog w) s.heap (mroOf (.ref C)) cd.mro:=(looks_clsIn X hc).andThen .now
 rw [osa_eq,refuse_eq]
 refine wpAny_bind (wpAny_bind (I.type.here (wpAny_bind (lm.here ?_))))
 rw [em,vq]
 refine wpAny_pure (wpAny_bind (I.type.here (wpAny_bind ((looks_findIn X na).here (wpAny_bind (wpAny_pure ?_))))))
 exact h
theorem K9 {Q : Unit -> Shared -> Prop} (X : K.In s.heap) (hx : s.heap.get? x = some (dG C none vs)) (hs : findIn K (.ref C) "__setattr__" = some (some (.builtin "object.__setattr__"))) (hm : mroIs K C as = true) (ob : mroIn K C (.type "object") = some true) (na : findIn K (.ref C) name = some none) (hh : hasDictIn K C = true)
  (h : ∀ h' d,h'.get? x = some (dG C (some d) vs) -> h'.Ns1 d (fun y => if y = name then some v else none) -> s.heap.objs.size <= d -> (∀ b o,b ≠ x -> s.heap.get? b = some o -> h'.get? b = some o) -> Q () { s with heap:=h',toks:=s.toks + 2 }) :
  wpAny (model prog w) A (setAttr (.ref x) name v) Q E s:=by
 have J:=Eh hx
 refine set_plain X J hs (KI (s:={ s with toks:=s.toks + 1 }) X hx hm ob na ?_)
 obtain ⟨cd,hc,hd'⟩:=any_some hh
 refine wpAny_bind (wpAny_pure (wpAny_bind (wpAny_bind (wpAny_loadPart hx (wpAny_bind (PySem.W.Looks.here (s:={ s with toks:=s.toks + 1 }) (looks_clsIn X hc) ?_))))))
 rw [hd']
 rw [if_neg (by decide),if_neg (by simp [typeHasDict])]
 have hx1 : (s.heap.push { cls:=.type "dict",data:=.dict #[] }).get? x = some (dG C none vs):=Heap.get?_push_of_some _ hx
 have hxs : x ≠ s.heap.objs.size:=Nat.ne_of_lt (Heap.lt_size hx)
 refine wpAny_bind (wpAny_alloc' (wpAny_bind (wpAny_update' hx1 (wpAny_pure ?_))))
 have hgd : ((s.heap.push { cls:=.type "dict",data:=.dict #[] }).update x fun o => { cls:=o.cls,dict:=some s.heap.objs.size,data:=o.data,slots:=o.slots }).get? s.heap.objs.size = some { cls:=.type "dict",data:=.dict #[] }:=
  (Heap.get?_update_ne _ _ _ _ hxs.symm).trans (Heap.get?_push_at rfl rfl)
 have hnd : ((s.heap.push { cls:=.type "dict",data:=.dict #[] }).update x fun o => { cls:=o.cls,dict:=some s.heap.objs.size,data:=o.data,slots:=o.slots }).Ns s.heap.objs.size (fun _ => none):=
  ⟨_,#[],_,hgd,rfl,fun e he => absurd he (by simp),fun _ => rfl⟩
 dsimp only
 unfold storeInDict newKeyGuard
 refine wpAny_bind (wpAny_pure (wpAny_bind (wpAny_nsSet1 (Heap.Ns1.of_empty hnd) fun h' hn' hs' => ?_)))
 obtain ⟨oD,esD,epD,hoD,hdD,hcD⟩:=hn'.count (Within.cons name v Within.nil)
 refine wpAny_bind (wpAny_lookBehind hoD (by rw [hdD]; exact pastItsLine_dict (Nat.le_trans hcD (by rw [List.length_cons,List.length_nil,sizeLine_eq]; omega))) ?_)
 refine wpAny_pure (h h' s.heap.objs.size ?_ ?_ (Nat.le_refl _) fun b o hb q => ?_)
 ·exact (hs'.2 x hxs).trans (Heap.get?_update_self _ hx1 rfl)
 ·obtain ⟨o',es,ep,e1,e2,e3,eu,e4⟩:=hn'
  exact ⟨o',es,ep,e1,e2,e3,eu,fun y => by rw [e4 y]⟩
 ·exact (hs'.2 b (Nat.ne_of_lt (Heap.lt_size q))).trans ((Heap.get?_update_ne _ _ _ _ hb).trans (Heap.get?_push_of_some _ q))
end
end L2
set_option Elab.async false
set_option linter.all false
set_option maxRecDepth 100000
namespace L2
open PySem PySem.Spec PySem.W PySem.Builtin PySem.Builtin.ObjectAttr PyProof.Rows
def oj (K : PySem.W.Frag) (C : Addr) (f : Addr) : Bool:=match K.lookup C with
 | some ⟨.type "type",_,.cls cd,sl⟩ => (match cd.mro,sl.toList with
  | .ref C' :: tl,[_,_,_,_,some (.builtin n),_] => C' == C && n == "ValueError.__new__" && !cd.hasDel && tailIn K VEm tl && nsOkIn K cd.ns && nsIn K cd.ns "__init__" == some (some (.ref f))
  | _,_ => false)
 | _ => false
theorem EA {K : PySem.W.Frag} {h : Heap} {N : Addr} {x : Str} {v : Value} (X : K.In h) (e : nsOkIn K N = true) (q : nsIn K N x = some (some v)) : h.nsMap N x = some v:=by
 have G:=PySem.Heap.Ns.of_isNs (isNs_of_in X e)
 obtain ⟨o,es,ep,ho,hd,_,hf⟩:=id G
 unfold nsIn at q
 split at q
 ·rename_i c d es' n' sl z
  have y:=X _ _ z
  rw [ho] at y
  cases y
  cases hd
  split at q
  ·rename_i en he
   cases q
   rw [<- hf]
   unfold nsFind findBy
   rw [<- Array.find?_toList,he]
   rfl
  ·split at q <;> cases q
 ·cases q
theorem BL {K : PySem.W.Frag} {h : Heap} {C f : Addr} (X : K.In h) (q : oj K C f = true) :
  ∃ tl N nm qn bs hd sn sub ab col dd k0 k1 k2 k3 k5 mN,h.get? C = some (excClassObj nm qn C N bs tl hd sn sub ab col dd k0 k1 k2 k3 k5 "ValueError.__new__") /\ h.Ns N mN /\ mN "__init__" = some (.ref f) /\ OwnTail h VEm tl:=by
 unfold oj at q
 cases e : K.lookup C with
 | none => rw [e] at q; cases q
 | some ob =>
  rw [e] at q
  obtain ⟨oc,od,dt,sl⟩:=ob
  split at q
  ·rename_i dd cd sl' he
   cases he
   split at q
   ·rename_i C' tl k0 k1 k2 k3 n k5 m1 m2
    simp only [Bool.and_eq_true,beq_iff_eq,Bool.not_eq_true'] at q
    obtain ⟨⟨⟨⟨⟨rfl,rfl⟩,d1⟩,t1⟩,o1⟩,i1⟩:=q
    obtain ⟨nm,bs,mro,ns,qn,hd,sn,sub,ab,col,del⟩:=cd
    dsimp only at m1 d1 o1 i1
    subst m1 d1
    have es : sl = #[k0,k1,k2,k3,some (.builtin "ValueError.__new__"),k5]:=by
     cases sl with
     | mk l => exact congrArg Array.mk m2
    subst es
    exact ⟨tl,ns,nm,qn,bs,hd,sn,sub,ab,col,_,k0,k1,k2,k3,k5,_,X _ _ e,.of_isNs (isNs_of_in X o1),EA X o1 i1,tail_of_in X t1⟩
   ·cases q
  ·cases q
section
variable {prog : Program} {w : World} {A : Around} {E : Value -> Shared -> Prop} {h : Heap} {g : Array GenState} {d : Drawn} {t : Nat} {os : OsState}
variable {nm q : Str} {C N : Addr} {bs bm : List Value} {hdct : Bool} {sn : List Str} {sub : List Value} {ab : Bool} {col : Option Bool} {dd : Option Addr} {k0 k1 k2 k3 k5 : Option Value}
theorem xn (T : OwnTail h VEm bm) {mN : Str -> Option Value} {rest : List Value} {fI : Addr} {oI : Obj} {Q : Fin -> Shared -> Prop}
  (hC : h.get? C = some (excClassObj nm q C N bs bm hdct sn sub ab col dd k0 k1 k2 k3 k5 "ValueError.__new__")) (hn : h.Ns N mN) (hi : mN "__init__" = some (.ref fI)) (hfI : h.get? fI = some oI) (hfc : oI.cls = .type "function")
  (hq : ∀ h' e tp,h'.get? e = some (dG C none #[.ref tp,.none,.none,.none,.bool false,.none]) -> h.get? e = none -> h.objs.size <= e -> (∀ b o,h.get? b = some o -> h'.get? b = some o) ->
   wpAny (model prog w) A (call (.ref fI) (.ref e :: rest)) (fun r s' => r = .none /\ Q (.done (.ret (.ref e))) s') E ⟨h',g,d,t,os⟩) (hrest : rest.length <= sizeLine) :
  wpAny (model prog w) A (Builtin.«type.__call__» ⟨.ref C :: rest,[]⟩) Q E ⟨h,g,d,t,os⟩:=by
 have Fn:=PySem.F.excBase_ValueError
 repeat (first | with_reducible refine wpAny_loadPart_at hC ?_ | with_reducible refine wpAny_madeBy_exc hC ?_ | wp_step)
 refine codeAny_call_builtin_code (Code.quiet_builtin _ Fn.quiet) (wpAny_check_new_subU Fn (by decide) T hC ?_)
 refine codeAny_exc_new_subU Fn (by decide) Fn T hC ?_ hrest
 show wpAny _ _ _ _ _ _
 generalize hE : ({ cls:=.ref C,data:=.fields #[.ref h.objs.size,.none,.none,.none,.bool false,.none] } : Obj) = oE
 generalize hT : ({ cls:=.type "tuple",data:=.seq rest.toArray } : Obj) = oT
 have keep : ∀ b o,h.get? b = some o -> ((h.push oT).push oE).get? b = some o:=fun b o e => Heap.get?_push_of_some _ (Heap.get?_push_of_some _ e)
 have hC1:=keep _ _ hC
 have hn1 : ((h.push oT).push oE).Ns N mN:=let ⟨o,es,ep,e,r⟩:=hn; ⟨o,es,ep,keep _ _ e,r⟩
 have hget : ((h.push oT).push oE).get? (h.objs.size + 1) = some (dG C none #[.ref h.objs.size,.none,.none,.none,.bool false,.none]):=by
  have q:=Heap.get?_push_size (h.push oT) (o:=oE) (by rw [<- hE]; rfl)
  rw [Heap.size_push] at q
  rw [q,<- hE]
 have hcC : (Value.ref C :: bm).contains (.ref C) = true:=by simp
 have T1:=T.keeps (h' := (h.push oT).push oE) keep
 unfold isInstance
 repeat (first | with_reducible refine wpAny_loadPart_at hget ?_ | (with_reducible refine wpAny_isSubtype_exc hC1 ?_; rw [hcC]) | wp_step)
 show wpAny _ _ (typeLookup (.ref C) _) _ _ _
 refine wpAny_typeLookup_tail hC1 hn1 T1 Fn.mroIs Fn.init.lookup ?_
 rw [hi]
 refine wpAny_holding (wpAny_bind ?_)
 unfold bindSpecial
 refine wpAny_bind (wpAny_typeOf (T := "function") ⟨_,keep _ _ hfI,hfc⟩ ?_)
 rw [if_pos (by decide)]
 refine wpAny_pure (wpAny_bind (wpAny_mono (hq _ (h.objs.size + 1) h.objs.size hget (Heap.get?_none_of_le (Nat.le_succ _)) (Nat.le_succ _) keep) (fun r s' hr => ?_) fun _ _ x => x))
 obtain ⟨rfl,hQ⟩:=hr
 wp_walk
 exact hQ
end
section
variable {prog : Program} {w : World} {A : Around} {E : Value -> Shared -> Prop} {s : Shared} {K : PySem.W.Frag} {x C f : Addr} {vs : Array Value}
theorem Fb {rest : List Value} {Q : Value -> Shared -> Prop} (X : K.In s.heap) (hx : oj K C f = true) (hf : isFn K (.ref f) = true)
  (hq : ∀ h' e tp,h'.get? e = some (dG C none #[.ref tp,.none,.none,.none,.bool false,.none]) -> s.heap.get? e = none -> s.heap.objs.size <= e -> (∀ b o,s.heap.get? b = some o -> h'.get? b = some o) ->
   wpAny (model prog w) (A.under (.builtin "type.__call__" ⟨.ref C :: rest,[]⟩)) (call (.ref f) (.ref e :: rest)) (fun r s' => r = .none /\ Q (.ref e) s') E { s with heap:=h' }) (hrest : rest.length <= sizeLine) :
  wpAny (model prog w) A (call (.ref C) rest) Q E s:=by
 obtain ⟨tl,N,nm,qn,bs,hd,sn,sub,ab,col,dd,k0,k1,k2,k3,k5,mN,hC,hN,hi,T⟩:=BL X hx
 obtain ⟨oI,hfI,hfc⟩ : ∃ oI,s.heap.get? f = some oI /\ oI.cls = .type "function" := by
  have q : (K.lookup f).map (·.cls) = some (.type "function"):=beq_iff_eq.mp hf
  obtain ⟨o,ho,e⟩:=Option.map_eq_some_iff.mp q
  exact ⟨o,X _ _ ho,e⟩
 obtain ⟨hp,g,d,t,os⟩:=s
 have f1:=tc_lookup
 have f2:=tc_bind (.ref C)
 have hT : (⟨hp,g,d,t,os⟩ : Shared).TypeIs (.ref C) "type" := ⟨_,hC,rfl⟩
 refine wpAny_call (codeAny_of_tree ?_)
 show wpAny _ _ (callAny (.ref C) _) _ _ _
 repeat (any_goals (first | assumption | with_reducible refine wpAny_loadPart_at hC ?_ | wp_step))
 refine ⟨rfl,?_⟩
 refine codeAny_call_builtin_at (Code.quiet_builtin _ (by decide +kernel)) entry_typeCall (wpAny_check_type_call_sub hC (xn T hC hN hi hfI hfc (fun h' e tp a1 a2 a3 a4 => ?_) hrest))
 exact hq h' e tp a1 a2 a3 a4
abbrev FK (tp : Addr) : Array Value := #[.ref tp,.none,.none,.none,.bool false,.none]
theorem zt {u : Value} {tp : Addr} {Q : Value -> Shared -> Prop} (X : K.In s.heap) (hxc : oj K C f = true) (hx : s.heap.get? x = some (dG C none (FK tp)))
  (h : ∀ h' tp',h'.get? x = some (dG C none (FK tp')) -> (∀ b o,b ≠ x -> s.heap.get? b = some o -> h'.get? b = some o) -> Q .none { s with heap:=h' }) :
  wpAny (model prog w) A (call (.builtin "ValueError.__init__") [.ref x,u]) Q E s:=by
 obtain ⟨tl,N,nm,qn,bs,hd,sn,sub,ab,col,dd,k0,k1,k2,k3,k5,mN,hC,hN,hi,T⟩:=BL X hxc
 have Fn:=PySem.F.excBase_ValueError
 obtain ⟨hp,g,d,t,os⟩:=s
 refine wpAny_call (codeAny_call_builtin Fn.init.plain Fn.initEntry (wpAny_check_init_subU Fn T hC hx rfl ?_))
 unfold Builtin.«BaseException.__init__»
 dsimp only
 rw [if_neg (by decide)]
 refine wpAny_bind (wpAny_newTuple ?_)
 have hx1 : (hp.push (seqObj "tuple" [u].toArray 0)).get? x = some (dG C none (FK tp)):=Heap.get?_push_of_some _ hx
 refine wpAny_bind (m:=BaseException.bexcPut (.ref x) 0 _) ?_
 unfold BaseException.bexcPut
 refine wpAny_bind (wpAny_field hx1 rfl (x:=.ref tp) rfl ?_)
 refine wpAny_bind (wpAny_setField hx1 rfl (by simp) ?_)
 refine wpAny_letGo (wpAny_pure ?_)
 have hd1:=Obj.data_mapFields (o:=dG C none (FK tp)) rfl (·.setIfInBounds 0 (Value.ref hp.objs.size))
 refine h _ hp.objs.size (Heap.get?_update_self _ hx1 (Obj.isFreed_of_fields hd1)) fun b o hb q => ?_
 exact (Heap.get?_update_other _ _ (Ne.symm hb)).trans (Heap.get?_push_of_some _ q)
end
end L2
set_option Elab.async false
set_option linter.all false
set_option maxRecDepth 100000
namespace L2
open PySem PySem.Spec PyProof.Rows
def iG (x C : Addr) (h : Heap) : Prop := ∃ tp,h.get? x = some (dG C none (FK tp))
def ff (x C d : Addr) (h : Heap) : Prop := ∃ tp,h.get? x = some (dG C (some d) (FK tp))
structure XInit (K : PySem.W.Frag) (C f : Addr) : Prop where
 ex : oj K C f = true
 fn : PySem.W.isFn K (.ref f) = true
 kp : PySem.W.keepIn K (.ref C) = true
 sa : PySem.W.findIn K (.ref C) "__setattr__" = some (some (.builtin "object.__setattr__"))
 hd : PySem.W.hasDictIn K C = true
 mr : ∃ as,mroIs K C as = true
 xc : XCls K C
section
variable {X : Cx} {k : Nat} {f C B : Addr} {fd : FuncData} {ps : List Str} {sp : Sp} {dvs : List V} {ds : List Value} {x y fl : Str} {p pos apos : Pos} {e o value : Expr} {es : List Expr} {t : TA} {ta tv : TE}
def HR (K : PySem.W.Frag) (t : TA) : TE:=fun σ H Q => t σ H fun vs H1 => ∃ (x C f : Addr) (v : V),vs = [.ref x,v] /\ H1 x = some (.ext (iG x C)) /\ oj K C f = true /\ Q .non H1
theorem EI (hg : Gl X y) (hm : X.mg y = some (.ref B)) (hga : PySem.W.specialIn X.K (.ref B) "__getattribute__" = some (some (.builtin "type.__getattribute__"))) (hrd : PySem.W.readsIn X.K B (.type "type") = true)
  (hfc : PySem.W.findCls X.K (.ref B) (.type "type") "__init__" = some (.val (.builtin "ValueError.__init__"))) (ha : PA X (e :: es) t) {pl : Sem Bool}
  (ht : eval (.Call (.Attribute (.Name y p) "__init__" apos) (e :: es) [] pos) X.env = (do
   let ov <- eval (.Name y p) X.env
   standAt apos.atName
   let (f,first) <- holding [ov] (getMethod ov "__init__" pl)
   callWith pos f first (backTo pos (starEach (e :: es) X.env)) (backToKw pos (keywordEach [] X.env))):=by rfl)
  (hdb : (y == ("__debug__" : Str)) = false:=by decide) (he : starEach (e :: es) X.env = (false,eval e X.env) :: starEach es X.env:=by rfl) (hpl : (backTo pos (starEach es X.env)).any (·.1) = false:=by rfl) :
  PE X (.Call (.Attribute (.Name y p) "__init__" apos) (e :: es) [] pos) (HR X.K t):=by
 intro pins s σ H Q I h
 refine PySem.W.methodCall_KW (pl:=pl) (iV I hg hm ?_ hdb) ht
 refine PySem.W.method_cls I.kIn hga (PySem.W.cls_value I.kIn hrd hfc rfl ?_)
 refine PyProof.Rows.callWith_builtin1 (thn (ha pos pins _ σ H _ (I.tok _) h) fun us s1 ⟨vs,H1,I1,r,ea,C,f,v,ev,hx,hxc,q⟩ => ?_) he hpl
 subst ev
 obtain ⟨u1,u2,rfl,r1,r2⟩:=vals2 r
 cases r1
 obtain ⟨⟨tp,z⟩,_,_⟩:=(show ObjOk X.prog X.w H1 s1.heap ea (.ext (iG ea C)) from I1.hok ea _ hx)
 refine zt I1.kIn hxc z fun h' tp' z' keep => ?_
 have I2 : Inv X pins σ (upd H1 ea (.ext (iG ea C))) { s1 with heap:=h' }:=I1.write (x:=ea) (e:=ea) (t' := s1.toks) (by rw [hx]; exact trivial) (.inl rfl) keep ⟨_,z'⟩
  (show iG ea C h' /\ (∃ o,h'.get? ea = some o) /\ ∀ h1 h2 : Heap,iG ea C h1 -> (∀ o,h1.get? ea = some o -> h2.get? ea = some o) -> iG ea C h2 from ⟨⟨tp',z'⟩,⟨_,z'⟩,fun h1 h2 ⟨tp,z⟩ kk => ⟨tp,kk _ z⟩⟩)
 have eH : upd H1 ea (.ext (iG ea C)) = H1:=by
  funext b
  by_cases c : b = ea
  ·rw [c,ae,hx]
  ·rw [aj c]
 rw [eH] at I2
 exact ⟨.non,H1,I2,rfl,q⟩
def Ni (K : PySem.W.Frag) (ta tv : TE) (fl : Str) : TS:=fun D σ H => tv σ H fun y H1 => ta σ H1 fun v H2 => ∃ x C f : Addr,v = .ref x /\ H2 x = some (.ext (iG x C)) /\ XInit K C f /\ PySem.W.findIn K (.ref C) fl = some none /\
 ∀ d,H2 d = none -> d ≠ x -> D.nx σ (upd (upd H2 x (.ext (ff x C d))) d (.xd [(fl,y)]))
theorem K3 {pos' : Pos} (ha : PE X o ta) (hv : PE X value tv) (hs : swapsWith value (some (.Attribute o fl pos')) pos.line X.env = pure false:=by rfl) : PS X (.Assign [.Attribute o fl pos'] value pos) (Ni X.K ta tv fl):=by
 intro pins s σ H D I h
 refine plainObj_wpAny_Assign_Attribute (thn (hv pins s σ H _ I h) fun u s1 ⟨yv,H1,I1,ry,q⟩ => thn (ha pins s1 σ H1 _ I1 q) fun ov s2 ⟨xv,H2,I2,rx,ea,C,f,ex,hx,M,na,q2⟩ => ?_) hs
 subst ex
 obtain rfl : ov = Value.ref ea:=rx
 obtain ⟨⟨tp,z⟩,_,_⟩:=(show ObjOk X.prog X.w H2 s2.heap ea (.ext (iG ea C)) from I2.hok ea _ hx)
 obtain ⟨as,mr⟩:=M.mr
 refine K9 I2.kIn z M.sa mr M.xc.ob na M.hd fun h' d hx' hn hle keep => ?_
 have hd0 : H2 d = none:=I2.hok.fresh hle
 have hdx : d ≠ ea:=fun c => by rw [c,hx] at hd0; cases hd0
 have hok1 : HOk X.prog X.w (upd H2 ea (.ext (ff ea C d))) h' := I2.hok.write (x:=ea) (e:=ea) (by rw [hx]; exact trivial) (.inl rfl) keep ⟨_,hx'⟩
  (show ff ea C d h' /\ (∃ o,h'.get? ea = some o) /\ ∀ h1 h2 : Heap,ff ea C d h1 -> (∀ o,h1.get? ea = some o -> h2.get? ea = some o) -> ff ea C d h2 from ⟨⟨tp,hx'⟩,⟨_,hx'⟩,fun h1 h2 ⟨tp,z⟩ kk => ⟨tp,kk _ z⟩⟩)
 have z1 : (upd H2 ea (.ext (ff ea C d))) d = none:=by rw [aj hdx]; exact hd0
 have hok2 : HOk X.prog X.w (upd (upd H2 ea (.ext (ff ea C d))) d (.xd [(fl,yv)])) h' := by
  intro a uo qa
  by_cases c : a = d
  ·subst c
   rw [ae] at qa
   cases qa
   refine ⟨_,hn,fun g => ?_⟩
   show RelO ([(fl,yv)].lookup g) (if g = fl then some u else none)
   by_cases cg : g = fl
   ·subst cg
    rw [if_pos rfl]
    simp [List.lookup]
    exact ry
   ·rw [if_neg cg]
    have : (g == fl) = false:=beq_eq_false_iff_ne.mpr cg
    simp [List.lookup,this]
    exact trivial
  ·rw [aj c] at qa
   exact (hok1 a uo qa).stay (fun b v _ f => f) (fun b f => by rw [aj (aq f z1)]; exact f) fun b xs f => by rw [aj (aq f z1)]; exact f
 have u1 : Un X.fs [] H2 (upd H2 ea (.ext (ff ea C d))) s2.heap h' := Un.write (by rw [hx]; exact trivial) (.inl rfl) keep ⟨_,hx'⟩
 have u2 : Un X.fs [] H2 (upd (upd H2 ea (.ext (ff ea C d))) d (.xd [(fl,yv)])) s2.heap h' := u1.more (Heap.get?_none_of_le hle) hd0
 exact ⟨σ,_,I2.un (t' := s2.toks + 2) u2 hok2,q2 d hd0 hdx⟩
end
structure DefI (P : Program) (w : World) (K : PySem.W.Frag) (mg : Str -> Option Value) (base : Heap) (x : Str) (C f : Addr) (k : Nat) (ps : List Str) (sp : Sp) : Prop where
 m : mg x = some (.ref C)
 M : XInit K C f
 F : ∃ fd,Binds K fd ps [] /\ FnOk P w K mg base CX0 k f fd ps sp
end L2
set_option Elab.async false
set_option linter.all false
set_option maxRecDepth 100000
set_option maxHeartbeats 4000000
namespace L2
open PySem PySem.Spec PyProof.Rows
structure OnWay (h base : Heap) (e : Addr) (cls a0 fl : Value) (d : Option Addr) : Prop where
 ex : ∃ (oe : Obj) (vs : Array Value) (T : Addr) (oT : Obj) (ts : Array Value),h.get? e = some oe /\ oe.cls = cls /\ oe.dict = d /\ oe.data = .fields vs /\ vs[0]? = some a0 /\ vs[1]? = some (.ref T) /\ base.get? T = none /\ T ≠ e /\ h.get? T = some oT /\ oT.data = .fields ts /\ ts[3]? = some fl
theorem Ec (g : Array Value -> Array Value) (o : Obj) : (Obj.mapFields g o).dict = o.dict:=by
 unfold Obj.mapFields
 split <;> rfl
section
variable {M : Model} {A : Around} {E : Value -> Shared -> Prop} {s : Shared} {base : Heap} {env : Env} {outer : List Env} {L e : Addr} {a0 : Value} {Q : Unit -> Shared -> Prop}
theorem LZ {oe : Obj} {vs : Array Value} {head : Value} {hn : Bool} (hfr : A.frames = some (env :: outer)) (fr : s.heap.FunFrames base (env :: outer)) (hf : env.frame = some L) (xe : s.heap.get? e = some oe) (st : base.StaysIn s.heap) (ne : base.get? e = none) (xd : oe.data = .fields vs) (two : 1 < vs.size) (x0 : vs[0]? = some a0)
  (hQ : ∀ h',base.StaysIn h' -> h'.FunFrames base (env :: outer) -> OnWay h' base e oe.cls a0 .none oe.dict -> s.heap.UpToSlots h' -> Q () { s with heap:=h' }) :
  wpAny M A (do let fv <- frameOf env; let place <- entryPlaceOf L hn; let tb <- EntryCells.newEntry head fv .none (rawInt L) .none place; setField (.ref e) 1 tb) (fun _ s' => wpAny M A (setFlight (.ref e) none) Q E s') E s:=by
 have eNo : e ∉ (env :: outer).filterMap (·.frame):=fun z => by
  obtain ⟨_,o,q,nf⟩:=fr.mem z
  rw [xe] at q
  cases q
  exact nf vs xd
 refine wpAny_bind (wpAny_frameOf_fun hfr fr hf fun g1 only => ?_)
 refine wpAny_bind (wpAny_entryPlaceOf fun place okp => ?_)
 unfold EntryCells.newEntry newFields
 refine wpAny_bind (wpAny_newObj_type ?_ (okp.sizeOk5 _ _ _ _ _))
 generalize etb : ({ cls:=.type "traceback",dict:=none,data:=.fields ([head,.ref L,.none,rawInt L,.none] ++ (if place.isEmpty then List.replicate 6 Value.none else place)).toArray } : Obj) = tb
 have tbd : tb.data = .fields ([head,.ref L,.none,rawInt L,.none] ++ (if place.isEmpty then List.replicate 6 Value.none else place)).toArray:=by rw [<- etb]
 have tbf : tb.isFreed = false:=by rw [<- etb]; rfl
 have q1 : g1.get? e = some oe:=(only.2.1 e eNo).trans xe
 have st1 : base.StaysIn g1:=fun b o z => (only.2.1 b fun y => by rw [(fr.mem y).1] at z; cases z).trans (st b o z)
 have q2 : (g1.push tb).get? e = some oe:=Heap.get?_push_of_some tb q1
 refine wpAny_setField q2 xd two ?_
 have apart : g1.objs.size ≠ e:=Nat.ne_of_gt (Heap.lt_size q1)
 have d3:=Obj.data_mapFields xd (·.setIfInBounds 1 (Value.ref g1.objs.size))
 have q3:=Heap.get?_update_self (Obj.mapFields (·.setIfInBounds 1 (Value.ref g1.objs.size))) q2 (Obj.isFreed_of_fields d3)
 have qT : ((g1.push tb).update e (Obj.mapFields (·.setIfInBounds 1 (Value.ref g1.objs.size)))).get? g1.objs.size = some tb:=by
  rw [Heap.get?_update_other _ _ (Ne.symm apart)]
  exact Heap.get?_push_size g1 tbf
 unfold setFlight
 refine wpAny_bind (wpAny_field q3 d3 (x:=.ref g1.objs.size) (by simp [two]) ?_)
 rw [if_pos (show (Value.ref g1.objs.size != Value.none) = true by simp)]
 have three : 3 < ([head,.ref L,.none,rawInt L,.none] ++ (if place.isEmpty then List.replicate 6 Value.none else place)).toArray.size:=by simp only [List.size_toArray,List.length_append,List.length_cons,List.length_nil]; omega
 obtain ⟨g3,eg3⟩ : ∃ g3,((g1.push tb).update e (Obj.mapFields (·.setIfInBounds 1 (Value.ref g1.objs.size)))).update g1.objs.size (Obj.mapFields (·.setIfInBounds 3 ((none : Option Addr).elim Value.none fun f => rawInt f))) = g3:=⟨_,rfl⟩
 have rest : ∀ b o,b ≠ e -> g1.get? b = some o -> g3.get? b = some o:=fun b o be z => by
  have bT : g1.objs.size ≠ b:=Nat.ne_of_gt (Heap.lt_size z)
  rw [<- eg3,Heap.get?_update_other _ _ bT,Heap.get?_update_other _ _ (Ne.symm be)]
  exact Heap.get?_push_of_some _ z
 have plain : ∀ b o,s.heap.get? b = some o -> (∀ ws,o.data ≠ .fields ws) -> b ≠ e:=fun b o z nf y => by
  rw [y,xe] at z
  cases z
  exact nf vs xd
 refine wpAny_setField qT tbd three ?_
 dsimp only
 rw [eg3]
 refine hQ g3 ?_ ?_ ?_ ?_
 ·exact fun b o z => rest b o (fun y => by rw [y,ne] at z; cases z) (st1 b o z)
 ·refine fr.of_keeps fun b o z nf => ?_
  obtain ⟨sl,y⟩:=only.2.2 b o z
  exact ⟨_,rest b _ (plain b o z nf) y,rfl⟩
 ·have fe : g3.get? e = some (Obj.mapFields (·.setIfInBounds 1 (Value.ref g1.objs.size)) oe):=by
   rw [<- eg3,Heap.get?_update_other _ _ apart]
   exact q3
  have dT:=Obj.data_mapFields tbd (·.setIfInBounds 3 ((none : Option Addr).elim Value.none fun f => rawInt f))
  have fT : g3.get? g1.objs.size = some (Obj.mapFields (·.setIfInBounds 3 ((none : Option Addr).elim Value.none fun f => rawInt f)) tb):=by
   rw [<- eg3]
   exact Heap.get?_update_self _ qT (Obj.isFreed_of_fields dT)
  refine ⟨_,_,g1.objs.size,_,_,fe,Obj.cls_mapFields _ _,Ec _ _,d3,by rw [Array.getElem?_setIfInBounds_ne (by decide)]; exact x0,by simp [two],st1.fresh,apart,fT,dT,?_⟩
  rw [Array.getElem?_setIfInBounds_self_of_lt three]
  rfl
 ·intro b o z nf
  obtain ⟨sl,y⟩:=only.2.2 b o z
  exact ⟨sl,rest b _ (plain b o z nf) y⟩
theorem zO {oe : Obj} {vs : Array Value} (hfr : A.frames = some (env :: outer)) (fr : s.heap.FunFrames base (env :: outer)) (hf : env.frame = some L) (xe : s.heap.get? e = some oe) (st : base.StaysIn s.heap) (ne : base.get? e = none) (xd : oe.data = .fields vs) (x1 : vs[1]? = some .none) (x0 : vs[0]? = some a0)
  (hQ : ∀ h',base.StaysIn h' -> h'.FunFrames base outer -> OnWay h' base e oe.cls a0 .none oe.dict -> s.heap.UpToSlots h' -> Q () { s with heap:=h' }) : wpAny M A (leaving env (.ref e)) Q E s:=by
 unfold leaving noteFrame
 simp only [hf]
 refine wpAny_bind (wpAny_bind (wpAny_field xe xd x1 ?_))
 rw [if_neg (by decide)]
 exact LZ hfr fr hf xe st ne xd (Array.getElem?_eq_some_iff.mp x1).1 x0 fun h' k1 ⟨_,_,k2⟩ k3 k4 => hQ h' k1 k2 k3 k4
end
end L2
set_option Elab.async false
set_option linter.all false
set_option maxRecDepth 100000
set_option maxHeartbeats 4000000
namespace L2
open PySem PySem.Spec PyProof.Rows
def but (H : Hp) (a : Addr) : Hp:=fun b => if b = a then none else H b
theorem xK {H : Hp} {a : Addr} : but H a a = none:=if_pos rfl
theorem iL {H : Hp} {a b : Addr} (h : b ≠ a) : but H a b = H b:=if_neg h
def CX2 (P : Program) (w : World) : CXT:=fun outer H s E e s' => ∃ (ea t C d : Addr) (B : Heap) (H' : Hp),e = .ref ea /\ s'.os = s.os /\ AllBare s'.gens /\ Un (frs outer) [] H H' s.heap s'.heap /\ HOk P w H' B /\
 (B.StaysIn s'.heap /\ B.get? ea = none /\ s'.heap.FunFrames B outer /\ OnWay s'.heap B ea (.ref C) (.ref t) .none (some d)) /\ (∀ b o,s.heap.get? b = some o -> b ∉ frs outer -> ∃ o',B.get? b = some o') /\ H' ea = none /\ E (.ref C) (some d) H'
theorem K8 {M : Model} {A : Around} {E : Value -> Shared -> Prop} {env : Env} {nm q : Str} {C N : Addr} {bs bm : List Value} {hdct : Bool} {sn : List Str} {sub : List Value} {ab : Bool} {col : Option Bool} {dd : Option Addr} {k0 k1 k2 k3 k5 : Option Value} {newId : String} {s : Shared} {x : Sem Value} {Q : Flow -> Shared -> Prop} (hbase : bm.contains (.type "BaseException") = true) (hh : A.handled = none)
  (h : wpAny M A x (fun v s₁ => ∃ e t d,v = .ref e /\ s₁.heap.get? C = some (excClassObj nm q C N bs bm hdct sn sub ab col dd k0 k1 k2 k3 k5 newId) /\ s₁.heap.get? e = some (dG C d (FK t)) /\ E (.ref e) s₁) E s) :
  wpAny M A (raiseStmt env (some x) none) Q E s:=by
 have inB : (Value.ref C :: bm).contains (.type "BaseException") = true:=by rw [List.contains_cons,hbase,Bool.or_true]
 unfold raiseStmt
 refine wpAny_bind (wpAny_mono h (fun v s₁ h₁ => ?_) fun _ _ y => y)
 obtain ⟨e,t,d,rfl,qC,qe,hE⟩:=h₁
 obtain ⟨hp,g,dr,tk,os⟩:=s₁
 repeat (first | with_reducible refine wpAny_loadPart_at qe ?_ | with_reducible refine wpAny_loadPart_at qC ?_ | (with_reducible refine wpAny_isSubtype_exc qC ?_; rw [inB]) | wp_step)
 exact wpAny_raiseNew_none hh hE
def LK (X : Cx) (E : XK) : Prop := ∀ (pins : List (Addr × Obj)) (σ : St) (H : Hp) (s : Shared) (ea C d : Addr),Inv X pins σ H s -> H ea = some (.ext (ff ea C d)) -> X.s₀.heap.get? ea = none -> E (.ref C) (some d) (but H ea) -> X.xe (.ref ea) s
theorem HOk.but {P : Program} {w : World} {H : Hp} {h : Heap} {a : Addr} {T : Heap -> Prop} (x : HOk P w H h) (e : H a = some (.ext T)) : HOk P w (L2.but H a) h:=fun b u q => by
 have hb : b ≠ a:=fun z => by rw [z,xK] at q; cases q
 rw [iL hb] at q
 refine (x b u q).stay (fun _ _ _ y => y) (fun c y => ?_) fun c xs y => ?_ <;> rw [iL] <;> first | exact y | (intro z; rw [z,e] at y; cases y)
theorem Un.but {fs : List Addr} {H H1 : Hp} {h h1 : Heap} {a : Addr} {T : Heap -> Prop} (u : Un fs [] H H1 h h1) (e : H1 a = some (.ext T)) : Un fs [] H (L2.but H1 a) h h1 where
 keep:=u.keep
 slot:=u.slot
 free:=fun b o q n hx => by
  by_cases z : b = a
  ·rw [z]; exact xK
  ·rw [iL z]; exact u.free b o q n hx
 there:=u.there
 tups:=fun b xs q => by
  have y:=u.tups b xs q
  rw [iL fun z => by rw [z,e] at y; cases y]
  exact y
 frzs:=fun b o v q => by
  have y:=u.frzs b o v q
  rw [iL fun z => by rw [z,e] at y; cases y]
  exact y
 tbls:=fun b ps q => by
  obtain ⟨more,y⟩:=u.tbls b ps q
  exact ⟨more,by rw [iL fun z => by rw [z,e] at y; cases y]; exact y⟩
section
variable {P : Program} {w : World} {K : PySem.W.Frag} {mg : Str -> Option Value} {base : Heap} {N : List Str} {qual : Str} {scope : Scope} {f : Addr} {cd : Value} {A : Around} {outer : List Env} {s : Shared} {H : Hp} {E : XK}
theorem J1 : LK (Bz (CX2 P w) P w K mg base N qual scope f cd A outer s H E) E:=by
 intro pins σ H1 s1 ea C d I hea hold hE
 have hold : s.heap.get? ea = none:=hold
 obtain ⟨⟨tp,z⟩,_,_⟩:=(show ObjOk P w H1 s1.heap ea (.ext (ff ea C d)) from I.hok ea _ hea)
 show wpAny (model P w) (A.deeper (envOfC qual scope s.heap.objs.size f cd)) (leaving (envOfC qual scope s.heap.objs.size f cd) (.ref ea)) _ _ _
 have hin : ∀ env ∈ (envOfC qual scope s.heap.objs.size f cd :: outer),∀ b,env.frame = some b -> b ∈ ea :: frs (envOfC qual scope s.heap.objs.size f cd :: outer):=fun env he b hb => List.mem_cons_of_mem _ (List.mem_filterMap.mpr ⟨env,he,hb⟩)
 have fst:=I.stack
 have mem : ∀ {b},b ∈ frs (envOfC qual scope s.heap.objs.size f cd :: outer) -> ∃ o,s1.heap.get? b = some o /\ ∀ vs,o.data ≠ .fields vs:=fun {b} hb => (fst.mem hb).2
 have old : ∀ b o,s.heap.get? b = some o -> b ≠ ea:=fun b o q y => by rw [y,hold] at q; cases q
 refine zO (base:=PySem.W.hideAll s1.heap (ea :: frs (envOfC qual scope s.heap.objs.size f cd :: outer))) I.ok.frames (PySem.W.funFrames_hide fst hin) rfl z (fun b o q => PySem.W.of_hideAll _ q) (PySem.W.hideAll_none _ List.mem_cons_self) rfl rfl rfl fun h'' k1 k2 k3 k4 => ?_
 refine ⟨ea,tp,C,d,_,L2.but H1 ea,rfl,I.os,I.bare,?_,?_,⟨k1,PySem.W.hideAll_none _ List.mem_cons_self,k2,k3⟩,fun b o q hb => ?_,xK,hE⟩
 ·refine Un.fly (h1:=s1.heap) (I.base.but hea) k1 (fun b o o1 q q1 hb => PySem.W.hideAll_get _ q1 fun y => ?_) fun b o hb q => ?_
  ·rcases List.mem_cons.mp y with y | y
   ·exact old b o q y
   ·rcases (yG b).mp y with e | e
    ·exact Nat.lt_irrefl _ (e ▸ Heap.lt_size q)
    ·exact hb e
  ·obtain ⟨o',e',hd⟩:=mem ((yG (qual:=qual) (scope:=scope) (s:=s) (f:=f) (cd:=cd) b).mpr (.inr hb))
   rw [q] at e'
   cases e'
   exact k4 b o q hd
 ·exact (HOk.but I.hok hea).less fun b u ⟨o,e⟩ q => PySem.W.hideAll_get _ q fun y => by
   rcases List.mem_cons.mp y with y | y
   ·rw [y,xK] at e; cases e
   ·have n:=I.stkFree b y
    have n' : L2.but H1 ea b = none:=by
     by_cases yy : b = ea
     ·rw [yy]; exact xK
     ·rw [iL yy]; exact n
    rw [e] at n'
    cases n'
 ·obtain ⟨o',e'⟩:=I.base.there b o q (by intro z; cases z)
  exact ⟨o',PySem.W.hideAll_get _ e' fun y => by
   rcases List.mem_cons.mp y with y | y
   ·exact old b o q y
   ·rcases (yG b).mp y with e | e
    ·exact Nat.lt_irrefl _ (e ▸ Heap.lt_size q)
    ·exact hb e⟩
end
section
variable {X : Cx} {k : Nat} {f C B : Addr} {fd : FuncData} {ps : List Str} {sp : Sp} {dvs : List V} {ds : List Value} {x y fl : Str} {p pos cpos : Pos} {e : Expr} {es : List Expr} {t : TA} {E : XK}
def GQ (C : Addr) (sp : Sp) (dvs : List V) (E : XK) (t : TA) : TS:=fun _ σ H => t σ H fun vs H1 => vs.length <= 8 /\ ∀ x,H1 x = none -> sp (.ref x :: (vs ++ dvs)) (upd H1 x (.ext (iG x C))) (fun v H2 => v = .non /\ ∃ d,H2 x = some (.ext (ff x C d)) /\ E (.ref C) (some d) (L2.but H2 x)) E0
theorem HN (M : XInit X.K C f) (F : FnOk X.prog X.w X.K X.mg X.base CX0 k f fd ps sp) (hr : Room (k + 1) X.A) (hc : X.calm = true) (hm : X.mg x = some (.ref C)) (hb : Binds X.K fd ps ds) (hd : Vals dvs ds) (ht : LK X E)
  (ha : PA X (e :: es) t) (hex : X.ex = []:=by rfl) (hg : Gl X x:=by rfl) (hdb : (x == ("__debug__" : Str)) = false:=by decide) (he : starEach (e :: es) X.env = (false,eval e X.env) :: starEach es X.env:=by rfl) (hpl : (backTo cpos (starEach es X.env)).any (·.1) = false:=by rfl) :
  PS X (.Raise (some (.Call (.Name x p) (e :: es) [] cpos)) none pos) (GQ C sp dvs E t):=by
 intro pins s σ H D I h
 obtain ⟨tl,N,nm,qn,bs,hdd,sn,sub,ab,col,dd,k0,k1,k2,k3,k5,mN,hC,hN,hni,T⟩:=BL I.ok.mod.kin M.ex
 show wpAny _ X.A (do standAt pos; raiseStmt X.env (some (do let v <- eval (.Call (.Name x p) (e :: es) [] cpos) X.env; standAt pos; pure v)) none) _ _ s
 refine wpAny_bind (wpAny_standAt (K8 (C:=C) (nm:=nm) (q:=qn) (N:=N) (bs:=bs) (bm:=tl) (hdct:=hdd) (sn:=sn) (sub:=sub) (ab:=ab) (col:=col) (dd:=dd) (k0:=k0) (k1:=k1) (k2:=k2) (k3:=k3) (k5:=k5) (newId := "ValueError.__new__") (T.hasType (by decide)) (I.ok.hd hc) (wpAny_bind ?_)))
 refine wpAny_Call_Name_kw (iV I hg hm ?_ hdb)
 refine PySem.W.callWith_K (h₀:=X.base) I.ok.mod.kin M.kp (thn (ha cpos pins s σ H _ I h) fun us s1 ⟨vs,H1,I1,r,l8,q⟩ => ⟨I1.kIn,?_⟩) he hpl
 refine Fb I1.kIn M.ex M.fn (fun h' ea tp a1 a2 a3 a4 => ?_) (by show us.length <= sizeLine; rw [<- r.length]; exact Nat.le_trans l8 (by decide))
 have hq:=q ea (I1.hok.fresh a3)
 have I2 : Inv X pins σ (upd H1 ea (.ext (iG ea C))) { s1 with heap:=h' }:=I1.laid (o:=.ext (iG ea C)) (t' := s1.toks) a4 a3
  (show iG ea C h' /\ (∃ o,h'.get? ea = some o) /\ ∀ h1 h2 : Heap,iG ea C h1 -> (∀ o,h1.get? ea = some o -> h2.get? ea = some o) -> iG ea C h2 from ⟨⟨tp,a1⟩,⟨_,a1⟩,fun h1 h2 ⟨tp,z⟩ kk => ⟨tp,kk _ z⟩⟩)
 have r2 : Vals (V.ref ea :: (vs ++ dvs)) (Value.ref ea :: (us ++ ds)):=.cons rfl (r.append hd)
 have hl : (Value.ref ea :: us ++ ds).length = ps.length:=by
  have z:=r2.length
  rw [F.len _ _ _ _ hq] at z
  exact z.symm
 have fresh0 : X.s₀.heap.get? ea = none:=by
  cases z : X.s₀.heap.get? ea with
  | none => rfl
  | some o =>
   obtain ⟨o',z'⟩:=I1.base.there ea o z (by rw [hex]; intro y; cases y)
   rw [a2] at z'
   cases z'
 refine wpAny_call (codeAny_mono (F.run _ X.stack _ _ ⟨Value.ref ea :: us,[]⟩ (Value.ref ea :: (us ++ ds)) _ _ E0 (hr.make C us []) (I2.env0.make C us []) (hb _ (Value.ref ea :: us) I2.kIn hl) r2 hq) fun r s' hq' => ?_)
 cases r with
 | error e => exact hq'.elim
 | ok fl =>
  cases fl with
  | ret u =>
   obtain ⟨v,H',I3,rv,ev,d,hx,hE⟩:=I2.after hq'
   subst ev
   refine ⟨rv,wpAny_bind (wpAny_standAt (wpAny_pure ?_))⟩
   obtain ⟨⟨tp',z⟩,_,_⟩:=(show ObjOk X.prog X.w H' s'.heap ea (.ext (ff ea C d)) from I3.hok ea _ hx)
   exact ⟨ea,tp',some d,rfl,I3.bk _ _ hC,z,ht pins σ H' s' ea C d I3 hx fresh0 hE⟩
  | next => exact False.elim hq'
  | brk => exact False.elim hq'
  | cont => exact False.elim hq'
end
structure DefX2 (P : Program) (w : World) (K : PySem.W.Frag) (mg : Str -> Option Value) (base : Heap) (x : Str) (k : Nat) (ps : List Str) (dvs : List V) (sp : Sp) : Prop where
 ex : ∃ (f : Addr) (fd : FuncData) (ds : List Value),mg x = some (.ref f) /\ PySem.W.keepIn K (.ref f) = true /\ Vals dvs ds /\ Binds K fd ps ds /\ FnOk P w K mg base (CX2 P w) k f fd ps sp
section
variable {X : Cx} {x : Str} {j k : Nat} {ps : List Str} {dvs : List V} {sp : Sp} {p pos : Pos} {e : Expr} {es : List Expr} {t : TA} {E : XK}
end
end L2
set_option Elab.async false
set_option linter.all false
set_option maxRecDepth 100000
set_option maxHeartbeats 4000000
namespace L2
open PySem PySem.Spec PyProof.Rows
section
variable {M : Model} {A : Around} {E : Value -> Shared -> Prop} {s : Shared} {base : Heap} {env : Env} {outer : List Env} {L e : Addr} {a0 : Value} {Q : Unit -> Shared -> Prop}
theorem L3 {oe : Obj} {vs : Array Value} {head : Value} {hn : Bool} (hfr : A.frames = some (env :: outer)) (fr : s.heap.FunFrames base (env :: outer)) (hf : env.frame = some L) (xe : s.heap.get? e = some oe) (st : base.StaysIn s.heap) (ne : base.get? e = none) (xd : oe.data = .fields vs) (two : 1 < vs.size) (x0 : vs[0]? = some a0)
  (hQ : ∀ h',base.StaysIn h' -> h'.FunFrames base (env :: outer) -> OnWay h' base e oe.cls a0 (rawInt L) oe.dict -> s.heap.UpToSlots h' -> Q () { s with heap:=h' }) :
  wpAny M A (do let fv <- frameOf env; let place <- entryPlaceOf L hn; let tb <- EntryCells.newEntry head fv .none (rawInt L) .none place; setField (.ref e) 1 tb) Q E s:=by
 have eNo : e ∉ (env :: outer).filterMap (·.frame):=fun z => by
  obtain ⟨_,o,q,nf⟩:=fr.mem z
  rw [xe] at q
  cases q
  exact nf vs xd
 refine wpAny_bind (wpAny_frameOf_fun hfr fr hf fun g1 only => ?_)
 refine wpAny_bind (wpAny_entryPlaceOf fun place okp => ?_)
 unfold EntryCells.newEntry newFields
 refine wpAny_bind (wpAny_newObj_type ?_ (okp.sizeOk5 _ _ _ _ _))
 generalize etb : ({ cls:=.type "traceback",dict:=none,data:=.fields ([head,.ref L,.none,rawInt L,.none] ++ (if place.isEmpty then List.replicate 6 Value.none else place)).toArray } : Obj) = tb
 have tbd : tb.data = .fields ([head,.ref L,.none,rawInt L,.none] ++ (if place.isEmpty then List.replicate 6 Value.none else place)).toArray:=by rw [<- etb]
 have tbf : tb.isFreed = false:=by rw [<- etb]; rfl
 have q1 : g1.get? e = some oe:=(only.2.1 e eNo).trans xe
 have st1 : base.StaysIn g1:=fun b o z => (only.2.1 b fun y => by rw [(fr.mem y).1] at z; cases z).trans (st b o z)
 have q2 : (g1.push tb).get? e = some oe:=Heap.get?_push_of_some tb q1
 have apart : g1.objs.size ≠ e:=Nat.ne_of_gt (Heap.lt_size q1)
 have d3:=Obj.data_mapFields xd (·.setIfInBounds 1 (Value.ref g1.objs.size))
 have q3:=Heap.get?_update_self (Obj.mapFields (·.setIfInBounds 1 (Value.ref g1.objs.size))) q2 (Obj.isFreed_of_fields d3)
 have qT : ((g1.push tb).update e (Obj.mapFields (·.setIfInBounds 1 (Value.ref g1.objs.size)))).get? g1.objs.size = some tb:=by
  rw [Heap.get?_update_other _ _ (Ne.symm apart)]
  exact Heap.get?_push_size g1 tbf
 obtain ⟨g3,eg3⟩ : ∃ g3,(g1.push tb).update e (Obj.mapFields (·.setIfInBounds 1 (Value.ref g1.objs.size))) = g3:=⟨_,rfl⟩
 have rest : ∀ b o,b ≠ e -> g1.get? b = some o -> g3.get? b = some o:=fun b o be z => by
  rw [<- eg3,Heap.get?_update_other _ _ (Ne.symm be)]
  exact Heap.get?_push_of_some _ z
 have plain : ∀ b o,s.heap.get? b = some o -> (∀ ws,o.data ≠ .fields ws) -> b ≠ e:=fun b o z nf y => by
  rw [y,xe] at z
  cases z
  exact nf vs xd
 refine wpAny_setField q2 xd two ?_
 dsimp only
 rw [eg3]
 refine hQ g3 ?_ ?_ ?_ ?_
 ·exact fun b o z => rest b o (fun y => by rw [y,ne] at z; cases z) (st1 b o z)
 ·refine fr.of_keeps fun b o z nf => ?_
  obtain ⟨sl,y⟩:=only.2.2 b o z
  exact ⟨_,rest b _ (plain b o z nf) y,rfl⟩
 ·have fe : g3.get? e = some (Obj.mapFields (·.setIfInBounds 1 (Value.ref g1.objs.size)) oe):=by
   rw [<- eg3]
   exact q3
  have fT : g3.get? g1.objs.size = some tb:=by
   rw [<- eg3]
   exact qT
  refine ⟨_,_,g1.objs.size,_,_,fe,Obj.cls_mapFields _ _,Ec _ _,d3,by rw [Array.getElem?_setIfInBounds_ne (by decide)]; exact x0,by simp [two],st1.fresh,apart,fT,tbd,?_⟩
  simp
 ·intro b o z nf
  obtain ⟨sl,y⟩:=only.2.2 b o z
  exact ⟨sl,rest b _ (plain b o z nf) y⟩
theorem Md {cls : Value} {d : Option Addr} (hfr : A.frames = some (env :: outer)) (fr : s.heap.FunFrames base (env :: outer)) (hf : env.frame = some L) (w : OnWay s.heap base e cls a0 .none d) (st : base.StaysIn s.heap) (ne : base.get? e = none)
  (hQ : ∀ h',base.StaysIn h' -> h'.FunFrames base (env :: outer) -> OnWay h' base e cls a0 (rawInt L) d -> s.heap.UpToSlots h' -> Q () { s with heap:=h' }) : wpAny M A (noteFrame (.ref e) env) Q E s:=by
 obtain ⟨oe,vs,T,oT,ts,x1,rfl,rfl,x4,x5,x6,x7,x8,x9,x10,x11⟩:=w.ex
 unfold noteFrame
 simp only [hf]
 refine wpAny_bind (wpAny_field x1 x4 x6 ?_)
 rw [if_pos (show (Value.ref T != Value.none) = true by simp)]
 refine wpAny_bind (wpAny_field x9 x10 x11 ?_)
 rw [if_neg (show ¬ ((Value.none == rawInt L) = true) by simp [rawInt])]
 refine wpAny_bind (wpAny_setField x9 x10 (Array.getElem?_eq_some_iff.mp x11).1 ?_)
 have oth : ∀ b,b ≠ T -> (s.heap.update T (Obj.mapFields (·.setIfInBounds 3 Value.none))).get? b = s.heap.get? b:=fun b y => Heap.get?_update_other _ _ (Ne.symm y)
 have pl : ∀ b o,s.heap.get? b = some o -> (∀ ws,o.data ≠ .fields ws) -> b ≠ T:=fun b o z nf y => by
  rw [y,x9] at z
  cases z
  exact nf ts x10
 refine L3 hfr (fr.of_keeps fun b o z nf => ⟨o,(oth b (pl b o z nf)).trans z,rfl⟩) hf ((oth e (Ne.symm x8)).trans x1) (fun b o z => (oth b fun y => by rw [y,x7] at z; cases z).trans (st b o z)) ne x4 (Array.getElem?_eq_some_iff.mp x6).1 x5
  fun h' k1 k2 k3 k4 => hQ h' k1 k2 k3 fun b o z nf => k4 b o ((oth b (pl b o z nf)).trans z) nf
theorem IU {cls fl : Value} {d : Option Addr} {l : List Env} (st : base.StaysIn s.heap) (fr : s.heap.FunFrames base l) (w : OnWay s.heap base e cls a0 fl d)
  (hQ : ∀ h',base.StaysIn h' -> h'.FunFrames base l -> OnWay h' base e cls a0 .none d -> s.heap.UpToSlots h' -> Q () { s with heap:=h' }) : wpAny M A (setFlight (.ref e) none) Q E s:=by
 obtain ⟨oe,vs,T,oT,ts,x1,x2,x3,x4,x5,x6,x7,x8,x9,x10,x11⟩:=w.ex
 have three : 3 < ts.size:=(Array.getElem?_eq_some_iff.mp x11).1
 have oth : ∀ b,b ≠ T -> (s.heap.update T (Obj.mapFields (·.setIfInBounds 3 ((none : Option Addr).elim Value.none fun f => rawInt f)))).get? b = s.heap.get? b:=fun b y => Heap.get?_update_other _ _ (Ne.symm y)
 have pl : ∀ b o,s.heap.get? b = some o -> (∀ ws,o.data ≠ .fields ws) -> b ≠ T:=fun b o z nf y => by
  rw [y,x9] at z
  cases z
  exact nf ts x10
 unfold setFlight
 refine wpAny_bind (wpAny_field x1 x4 x6 ?_)
 rw [if_pos (show (Value.ref T != Value.none) = true by simp)]
 have dT:=Obj.data_mapFields x10 (·.setIfInBounds 3 ((none : Option Addr).elim Value.none fun f => rawInt f))
 refine wpAny_setField x9 x10 three (hQ _ (fun b o z => (oth b fun y => by rw [y,x7] at z; cases z).trans (st b o z)) (fr.of_keeps fun b o z nf => ⟨o,(oth b (pl b o z nf)).trans z,rfl⟩) ?_ fun b o z nf => ⟨o.slots,(oth b (pl b o z nf)).trans z⟩)
 refine ⟨oe,vs,T,_,_,(oth e (Ne.symm x8)).trans x1,x2,x3,x4,x5,x6,x7,x8,Heap.get?_update_self _ x9 (Obj.isFreed_of_fields dT),dT,?_⟩
 rw [Array.getElem?_setIfInBounds_self_of_lt three]
 rfl
end
end L2
set_option Elab.async false
set_option linter.all false
set_option maxRecDepth 100000
set_option maxHeartbeats 4000000
namespace L2
open PySem PySem.Spec PyProof.Rows
def ExIn (x C d : Addr) (h : Heap) : Prop := ∃ (o : Obj) (vs : Array Value),h.get? x = some o /\ o.cls = .ref C /\ o.dict = some d /\ o.data = .fields vs
theorem ExIn.at {x C d : Addr} {h : Heap} (z : ExIn x C d h) : ExAt x C h:=let ⟨o,vs,a,b,_,c⟩:=z; ⟨o,vs,a,b,c⟩
theorem HOk.extIn {P : Program} {w : World} {H : Hp} {h : Heap} {ea C d : Addr} (x : HOk P w H h) (z : H ea = Option.none) (p : ExIn ea C d h) : HOk P w (upd H ea (.ext (ExIn ea C d))) h:=by
 intro a u e
 by_cases q : a = ea
 ·subst q
  rw [ae] at e
  cases e
  obtain ⟨ob,vs,e1,e2,e3,e4⟩:=p
  refine ⟨⟨ob,vs,e1,e2,e3,e4⟩,⟨ob,e1⟩,?_⟩
  rintro h1 h2 ⟨ob',vs',f1,f2⟩ k
  exact ⟨ob',vs',k _ f1,f2⟩
 ·rw [aj q] at e
  exact (x a u e).stay (fun b v _ f => f) (fun b f => by rw [aj (aq f z)]; exact f) fun b xs f => by rw [aj (aq f z)]; exact f
section
def LA (X : Cx) (pins : List (Addr × Obj)) (σ : St) (E : XK) (e : Value) (s' : Shared) : Prop := ∃ s H,Inv X pins σ H s /\ CX2 X.prog X.w X.stack H s E e s'
def LH (X : Cx) (e : Expr) (t : TXE) : Prop := ∀ (pins : List (Addr × Obj)) (s : Shared) (σ : St) (H : Hp) (Q : VK) (E : XK),Inv X pins σ H s -> t σ H Q E -> wpAny (model X.prog X.w) X.A (eval e X.env) (EP X pins σ Q) (LA X pins σ E) s
def LG (X : Cx) (st : Stmt) (t : TX) : Prop := ∀ (pins : List (Addr × Obj)) (s : Shared) (σ : St) (H : Hp) (D : Ends) (E : XK),Inv X pins σ H s -> t D E σ H -> wpAny (model X.prog X.w) X.A (exec st X.env) (SP X pins D) (LA X pins σ E) s
def PX2 (X : Cx) (st : List Stmt) (t : TX) : Prop := ∀ (pins : List (Addr × Obj)) (s : Shared) (σ : St) (H : Hp) (D : Ends) (E : XK),Inv X pins σ H s -> t D E σ H -> wpAny (model X.prog X.w) X.A (execs st X.env) (SP X pins D) (LA X pins σ E) s
end
section
variable {X : Cx} {x : Str} {j k : Nat} {ps : List Str} {dvs : List V} {sp : Sp} {p pos : Pos} {e : Expr} {es : List Expr} {t : TA} {E : XK}
theorem AR (G : DefX2 X.prog X.w X.K X.mg X.base x k ps dvs sp) (hr : Room j X.A) (ha : PA X (e :: es) t) (hx : ∀ e s,X.xe e s = False:=by intro _ _; rfl) (hkj : k <= j:=by decide) (hg : Gl X x:=by rfl) (hdb : (x == ("__debug__" : Str)) = false:=by decide)
  (he : starEach (e :: es) X.env = (false,eval e X.env) :: starEach es X.env:=by rfl) (hpl : (backTo pos (starEach es X.env)).any (·.1) = false:=by rfl) :
  LH X (.Call (.Name x p) (e :: es) [] pos) (MH sp dvs t):=by
 obtain ⟨f,fd,ds,hm,hk,hd,hb,F⟩:=G.ex
 intro pins s σ H Q E I h
 refine wpAny_Call_Name_kw (iV I hg hm ?_ hdb)
 refine PySem.W.callWith_K (h₀:=X.base) I.ok.mod.kin hk (wpAny_mono (ha pos pins s σ H _ I h) (fun us s1 ⟨vs,H1,I1,r,q⟩ => ⟨I1.kIn,?_⟩) fun e' s' z => ((hx e' s').mp z).elim) he hpl
 have r2 : Vals (vs ++ dvs) (us ++ ds):=r.append hd
 have hl : (us ++ ds).length = ps.length:=by rw [<- r2.length]; exact F.len _ _ _ _ q
 refine wpAny_call (codeAny_mono (F.run X.A X.stack s1 H1 ⟨us,[]⟩ (us ++ ds) (vs ++ dvs) Q E (hr.mono hkj) I1.env0 (hb s1 us I1.kIn hl) r2 q) fun r' s' hq => ?_)
 cases r' with
 | error e' => exact ⟨s1,H1,I1,hq⟩
 | ok fl =>
  cases fl with
  | ret u => exact I1.after hq
  | next => exact False.elim hq
  | brk => exact False.elim hq
  | cont => exact False.elim hq
theorem JN {t : TXE} (he : LH X e t) (hs : swapsWith e none pos.line X.env = pure false:=by rfl) : LG X (.Expr e pos) (MJ t):=by
 intro pins s σ H D E I h
 exact wpAny_Expr_any (thn (he pins s σ H _ E I h) fun v s1 ⟨y,H1,I1,r1,q1⟩ => ⟨σ,H1,I1,q1⟩) I.quiet hs
theorem K4 {i : Nat} {t : TXE} {pos' : Pos} (hN : X.N.Nodup) (hi : X.N[i]? = some x) (hx : Loc X.env.scope x) (he : LH X e t) (hs : swapsWith e (some (.Name x pos')) pos.line X.env = pure false:=by rfl)
  (hf : X.fn x = true \/ X.env.scope.names.lookup x = some .local:=by first | exact .inl rfl | exact .inr rfl) : LG X (.Assign [.Name x pos'] e pos) (NB i t):=by
 intro pins s σ H D E I h
 refine wpAny_Assign_Name (thn (he pins s σ H _ E I h) fun v s1 ⟨y,H1,I1,r1,q1⟩ => ?_) hs
 exact pB I1 hN hi hx r1 (fun s2 I2 => ⟨_,H1,I2,q1⟩) hf
theorem GI {st : Stmt} {t : TX} (h : LG X st t) : PX2 X [st] t:=by
 intro pins s σ H D E I q
 refine wpAny_execs_cons (thn (h pins s σ H D E I q) fun f s' hs => ?_)
 cases f with
 | next => exact wpAny_execs_nil hs
 | brk => exact hs
 | cont => exact hs
 | ret u => exact hs
end
section
variable {X : Cx} {pins : List (Addr × Obj)} {σ : St} {H : Hp} {s s' : Shared} {E : XK} {C F : Addr} {i : Nat} {x n : Str} {np pos hpos : Pos} {body : List Stmt} {b₀ : Stmt} {suite : List Stmt} {tb : TX} {ts : TS}
def Nz (C : Addr) (i : Nat) (tb : TX) (ts : TS) : TS:=fun D σ H => tb D (fun c dd H1 => c = .ref C /\ ∃ d,dd = some d /\ ∀ ea,H1 ea = none ->
 ts { nx:=fun σ' H' => D.nx (σ'.set i none) H',rt:=D.rt,bk:=fun σ' H' => D.bk (σ'.set i none) H',ct:=fun σ' H' => D.ct (σ'.set i none) H' } (σ.set i (some (.ref ea))) (upd H1 ea (.ext (ExIn ea C d)))) σ H
theorem GH (hN : X.N.Nodup) (hi : X.N[i]? = some n) (hx : X.env.scope.names.lookup n = some .local) (hm : X.mg x = some (.ref F)) (hq : PySem.W.exmOne X.K (.ref C) (.ref F) = some true) (hb : PX2 X body tb) (hs : ∀ ea,PSs (X.held ea) (b₀ :: suite) ts)
  (hst : X.stack = X.env :: X.outer:=by rfl) (hfr : X.env.frame = some X.env.locals:=by rfl) (hg : Gl X x:=by rfl) (hdb : (x == ("__debug__" : Str)) = false:=by decide) :
  PS X (.Try body [.ExceptHandler (some (.Name x np)) (some n) (b₀ :: suite) hpos] [] [] pos) (Nz C i tb ts):=by
 intro pins s σ H D I h
 refine wpAny_Try_except (wpAny_mono (hb pins s σ H D _ I h) (fun f s1 q => ?_) fun e s1 q => ?_)
 ·cases f with
  | next => exact wpAny_execs_nil q
  | brk => exact q
  | cont => exact q
  | ret u => exact q
 obtain ⟨s0,H0,I0,ea,t,C',d,B,H',rfl,os,bare,un,hok,⟨f1,f2,f3,f4⟩,there,hn,hc,d',ed,k⟩:=q
 cases ed
 obtain rfl : C' = C:=Value.ref.inj hc
 have f3t:=f3
 rw [hst] at f3t
 have ean : s0.heap.get? ea = none:=by
  cases q : s0.heap.get? ea with
  | none => rfl
  | some o =>
   by_cases hb : ea ∈ frs X.stack
   ·exfalso
    obtain ⟨oe,vs,_,_,_,he,_,_,hd,_⟩:=f4.ex
    have hokS : HOk X.prog X.w H' s1.heap:=hok.kept fun b u q => f1 b u q
    have J : Inv X pins σ H' s1:=I0.call' (ch:=[]) os un hokS bare (fun b z => by cases z)
    obtain ⟨_,o',e',hnd⟩:=J.stack.mem hb
    rw [he] at e'
    cases e'
    exact hnd _ hd
   ·obtain ⟨o',e'⟩:=there ea o q hb
    rw [f2] at e'
    cases e'
 have h0n : H0 ea = none:=I0.hok.none ean
 refine Md (I0.ok.frames.trans (by rw [hst])) f3t hfr f4 f1 f2 fun h4 a4 b4 w4 sm4 => ?_
 refine IU a4 b4 w4 fun h5 a5 b5 w5 sm5 => ?_
 have sm:=sm4.trans sm5
 obtain ⟨un5,hok5⟩:=land I0 os bare un hok there f1 a5 sm
 have I5 : Inv X pins σ H' { s1 with heap:=h5 }:=I0.call' (ch:=[]) os un5 hok5 bare (fun b z => by cases z)
 refine wpAny_handleBy_cons (codeAny_handlers_test ?_) (by intro q; cases q)
 refine iV (X:=X.held ea) I5.held hg hm ?_ hdb
 have ty5 : PySem.W.Looks (model X.prog X.w) h5 (typeOf (.ref ea)) (.ref C'):=by
  obtain ⟨ob,_,_,_,_,e1,e2,_⟩:=w5.ex
  exact e2 ▸ (PySem.W.Looks.ld e1).andThen .now
 refine (PySem.W.exm_one (M:=model X.prog X.w) I5.kIn ty5 hq).here ?_
 refine codeAny_handlers_suite_as (IU a5 b5 w5 fun h6 a6 b6 w6 sm6 => ?_)
 obtain ⟨un6,hok6⟩:=land I0 os bare un hok there f1 a6 (sm.trans sm6)
 have ex6 : ExIn ea C' d h6:=by
  obtain ⟨oe,vs,_,_,_,he,hcl,hdi,hd,_⟩:=w6.ex
  exact ⟨oe,vs,he,hcl,hdi,hd⟩
 have I6 : Inv X pins σ (upd H' ea (.ext (ExIn ea C' d))) { s1 with heap:=h6 }:=I0.call' (ch:=[]) os (un6.more ean h0n) (hok6.extIn hn ex6) bare (fun b z => by cases z)
 refine pB (X:=X.held ea) I6.held hN hi (.inl hx) (v:=.ref ea) rfl (fun s7 I7 => ?_) (.inr hx)
 refine wpAny_mono (hs ea pins s7 _ _ _ I7 (k ea hn)) (fun f s8 q8 => ?_) fun _ _ z => z.elim
 have fin : ∀ {σ8 : St} {H8 : Hp} {Q : Unit -> Shared -> Prop},Inv (X.held ea) pins σ8 H8 s8 -> (∀ s9,Inv X pins (σ8.set i none) H8 s9 -> Q () s9) -> wpAny (model X.prog X.w) X.A (do bindName X.env n .none; unbindBehindTheSuite X.env n hpos) Q X.xe s8:=
  fun {σ8 H8 Q} J g => HU (v:=.non) (J.unheld I.ok) hN hi hx g
 cases f with
 | next => obtain ⟨σ8,H8,J,q⟩:=q8; exact fin J fun s9 J9 => ⟨_,H8,J9,q⟩
 | brk => obtain ⟨σ8,H8,J,q⟩:=q8; exact fin J fun s9 J9 => ⟨_,H8,J9,q⟩
 | cont => obtain ⟨σ8,H8,J,q⟩:=q8; exact fin J fun s9 J9 => ⟨_,H8,J9,q⟩
 | ret u => obtain ⟨v,σ8,H8,J,r,q⟩:=q8; exact fin J fun s9 J9 => ⟨v,_,H8,J9,r,q⟩
end
end L2
set_option Elab.async false
set_option linter.all false
set_option maxRecDepth 100000
set_option maxHeartbeats 4000000
namespace L2
section
open PySem PySem.Spec PySem.W PySem.Builtin PySem.Builtin.ObjectAttr PyProof.Rows
variable {prog : Program} {w : World} {A : Around} {E : Value -> Shared -> Prop} {s : Shared} {K : PySem.W.Frag} {x C : Addr} {vs : Array Value} {name : Str} {v : Value} {as : List Addr}
theorem IC {o : Obj} {d : Addr} {mA : Str -> Option Value} {Q : Value -> Shared -> Prop} (c : XCls K C) (X : K.In s.heap) (hx : s.heap.get? x = some o) (hc : o.cls = .ref C) (hdi : o.dict = some d) (hdt : o.data = .fields vs) (hn : s.heap.Ns1 d mA) (na : findIn K (.ref C) name = some none) (hh : hasDictIn K C = true)
  (hv : mA name = some v) (hhv : handedIn v = true) (h : Q v { s with toks:=s.toks + 1 }) : wpAny (model prog w) A (getAttr (.ref x) name true) Q E s:=by
 obtain ⟨od,hod,hl⟩:=AM hn
 have J : InstAt s.heap x o C (some od):=⟨hx,hc,by unfold notCls; rw [hdt],by rw [hdi]; exact hod⟩
 have hf : findObj K C (some od) name = some (.value v):=findObj_own hh na rfl (by rw [hl,hv])
 obtain ⟨hp,g,dr,t,os⟩:=s
 have L0:=J.type (M:=model prog w)
 have L1:=looks_findIn (M:=model prog w) X c.ga
 have L2:=looks_findIn (M:=model prog w) X c.gt
 have LF:=looks_find (M:=model prog w) X J hf
 have LB : Looks (model prog w) hp (isInstance (.ref x) (.type "BaseException")) true:=L0.andThen (looks_mroIn (M:=model prog w) X c.be)
 unfold getAttr getAttrBy
 refine wpAny_bind (wpAny_mkText (wpAny_holding (wpAny_bind (L0.at (wpAny_bind (L1.at ?_))))))
 have ne : (onTheHeap (Value.ref C) && Value.builtin "BaseException.__getattribute__" == Value.builtin "object.__getattribute__") = false:=by
  have : (Value.builtin "BaseException.__getattribute__" == Value.builtin "object.__getattribute__") = false:=by decide +kernel
  rw [this]; rfl
 dsimp only
 rw [ne]
 simp only [Bool.false_eq_true,if_false]
 unfold getAttrByItsOwn hookBefore
 rw [if_pos (show onTheHeap (Value.ref C) = true from rfl)]
 refine wpAny_bind (L2.at ?_)
 refine wpAny_bind (wpAny_attempt (wpAny_holding ?_))
 unfold callGetattribute
 rw [show (true && onTheHeap (Value.builtin "BaseException.__getattribute__")) = false from rfl]
 simp only [Bool.false_eq_true,if_false]
 unfold boundAndCalled
 rw [PySem.F.attrBase_ValueError.ga.bind (.ref x)]
 refine wpAny_bind (wpAny_pure ?_)
 refine wpAny_call (codeAny_call_builtin PySem.F.attrBase_ValueError.ga.plain PySem.F.entry_bexc_ga ?_)
 refine AD LB ?_
 unfold Builtin.«object.__getattribute__»
 refine wpAny_bind (wpAny_pure ?_)
 dsimp only
 refine wpAny_bind ?_
 refine (show wpAny _ _ (pure _) _ _ _ from wpAny_pure ?_)
 refine wpAny_bind (L0.at ?_)
 refine wpAny_bind (LF.at ?_)
 dsimp only
 refine wpAny_pure ?_
 exact handed_on hhv h
end
open PySem PySem.Spec PyProof.Rows
section
variable {P : Program} {w : World} {K : PySem.W.Frag} {mg : Str -> Option Value} {base : Heap}
theorem FunD.okX2 {x qual : Str} {st : Stmt} {dV : Value} {f : Addr} {fd : FuncData} {N ps : List Str} {k : Nat} {sp : Sp} (F : FunD K x qual st dV f fd) (S : FnScope N ps (af st)) (len : ∀ vs H Q E,sp vs H Q E -> vs.length = ps.length)
  (hbody : ∀ (cdv : Value) (A : Around) (outer : List Env) (s : Shared) (H : Hp) (vs : List V) (Q : VK) (E : XK),Room k (A.deeper (envOfC qual (af st) s.heap.objs.size f cdv)) -> sp vs H Q E ->
   ∃ t,PSs (Bz (CX2 P w) P w K mg base N qual (af st) f cdv A outer s H E) (au st) t /\ t { nx:=fun _ H' => Q .non H',rt:=Q } (start N vs) H) : FnOk P w K mg base (CX2 P w) (k + 1) f fd ps sp:=by
 obtain ⟨oc,od,kV,doc,pm,an,cdv,ct,osl,rfl,lk,hcd⟩:=F.ex
 exact Lr lk hcd S len fun A outer s H vs Q E hr hsp => hbody cdv A outer s H vs Q E hr hsp
theorem FnOk.calm {k : Nat} {f : Addr} {fd : FuncData} {ps : List Str} {sp : Sp} (F : FnOk P w K mg base (CX2 P w) k f fd ps sp) : FnOk P w K mg base CX0 k f fd ps (fun vs H Q _ => sp vs H Q fun _ _ _ => False):=
 ⟨fun vs H Q E h => F.len vs H Q _ h,fun A outer s H args us vs Q E hr he hb hv hs => codeAny_mono (F.run A outer s H args us vs Q (fun _ _ _ => False) hr he hb hv hs) fun r s' q => by
  cases r with
  | ok fl => cases fl <;> exact q
  | error e =>
   obtain ⟨_,_,_,_,_,_,_,_,_,_,_,_,_,_,z⟩:=q
   exact z⟩
theorem DefX2.calm {x : Str} {k : Nat} {ps : List Str} {dvs : List V} {sp : Sp} (G : DefX2 P w K mg base x k ps dvs sp) : DefOk P w K mg base x k ps dvs (fun vs H Q _ => sp vs H Q fun _ _ _ => False):=by
 obtain ⟨f,fd,ds,h1,h2,h3,h4,F⟩:=G.ex
 exact ⟨f,fd,ds,h1,h2,h3,h4,F.calm⟩
theorem FnOk.weak {CX : CXT} {k : Nat} {f : Addr} {fd : FuncData} {ps : List Str} {sp sp' : Sp} (F : FnOk P w K mg base CX k f fd ps sp) (h : ∀ vs H Q E,sp' vs H Q E -> sp vs H Q E) : FnOk P w K mg base CX k f fd ps sp' :=
 ⟨fun vs H Q E q => F.len vs H Q E (h _ _ _ _ q),fun A outer s H args us vs Q E hr he hb hv hs => F.run A outer s H args us vs Q E hr he hb hv (h _ _ _ _ hs)⟩
theorem DefMe.weak {C : Addr} {m : Str} {k : Nat} {ps : List Str} {sp sp' : Sp} (G : DefMe P w K mg base C m k ps sp) (h : ∀ vs H Q E,sp' vs H Q E -> sp vs H Q E) : DefMe P w K mg base C m k ps sp' := by
 obtain ⟨cl,f,fd,h1,h2,F⟩:=G
 exact ⟨cl,f,fd,h1,h2,F.weak h⟩
end
section
variable {X : Cx} {k : Nat} {f C B : Addr} {ps : List Str} {sp : Sp} {x y fl : Str} {p pos cpos : Pos} {e : Expr} {es : List Expr} {t : TA} {ta : TE} {E : XK}
theorem HM {j : Nat} (G : DefI X.prog X.w X.K X.mg X.base x C f k ps sp) (hr : Room j X.A) (hc : X.calm = true) (ht : LK X E) (ha : PA X (e :: es) t) (hkj : k + 1 <= j:=by decide) (hex : X.ex = []:=by rfl) (hg : Gl X x:=by rfl) (hdb : (x == ("__debug__" : Str)) = false:=by decide)
  (he : starEach (e :: es) X.env = (false,eval e X.env) :: starEach es X.env:=by rfl) (hpl : (backTo cpos (starEach es X.env)).any (·.1) = false:=by rfl) :
  PS X (.Raise (some (.Call (.Name x p) (e :: es) [] cpos)) none pos) (GQ C sp [] E t):=by
 obtain ⟨fd,hb,F⟩:=G.F
 exact HN G.M F (hr.mono hkj) hc G.m hb .nil ht ha hex hg hdb he hpl
def Np (K : PySem.W.Frag) (ta : TE) (fl : Str) : TE:=fun σ H Q => ta σ H fun v H1 => ∃ (x C d f : Addr) (fs : List (Str × V)) (y : V),v = .ref x /\ H1 x = some (.ext (ExIn x C d)) /\ H1 d = some (.xd fs) /\ XInit K C f /\ PySem.W.findIn K (.ref C) fl = some none /\ fs.lookup fl = some y /\ Q y H1
theorem CF (K : PySem.W.Frag) (he : PE X e ta) (hK : X.K = K:=by rfl) (hb : attributeBase e fl X.env (eval e X.env) = eval e X.env:=by rfl) : PE X (.Attribute e fl pos) (Np K ta fl):=by
 subst hK
 intro pins s σ H Q I h
 refine Gh hb (thn (he pins s σ H _ I h) fun u s1 ⟨v,H1,I1,rv,ea,C,d,f,fs,yv,ev,hx,hd,M,na,l,q⟩ => ?_)
 subst ev
 obtain rfl : u = Value.ref ea:=rv
 obtain ⟨⟨o,vs,z,zc,zd,zf⟩,_,_⟩:=(show ObjOk X.prog X.w H1 s1.heap ea (.ext (ExIn ea C d)) from I1.hok ea _ hx)
 obtain ⟨mA,hn,hr⟩:=(show ObjOk X.prog X.w H1 s1.heap d (.xd fs) from I1.hok d _ hd)
 obtain ⟨w1,hw,rw1⟩:=RelO.some_of (v:=yv) (o:=mA fl) (by rw [<- l]; exact hr fl)
 exact IC M.xc I1.kIn z zc zd zf hn na M.hd hw (AF rw1) ⟨yv,H1,I1.tok _,rw1,q⟩
def NU (K : PySem.W.Frag) : List V -> Hp -> VK -> Prop:=fun xs H Q => ∃ (a C d : Addr) (c : V) (cv : Value) (b : Bool),xs = [.ref a,c] /\ H a = some (.ext (ExIn a C d)) /\ XCls K C /\ MU c = some cv /\ PySem.W.kitOne K (.ref C) cv = some b /\ Q (.bl b) H
theorem DS (K : PySem.W.Frag) (hK : X.K = K:=by rfl) : iE X (.builtin "isinstance") (NU K):=by
 subst hK
 intro pins s σ H xs us Q I r h
 obtain ⟨a,C,d,c,cv,b,rfl,ha,cl,hc,e,q⟩:=h
 obtain ⟨u,v,rfl,ru,rv⟩:=r.two
 cases (show u = Value.ref a from ru)
 cases Im hc rv
 obtain ⟨p,_⟩:=(show ObjOk X.prog X.w H s.heap a (.ext (ExIn a C d)) from I.hok a _ ha)
 exact PySem.W.kia_one (Ek cl) I.kIn p.at e (fun z => nomatch z) fun tk => ⟨.bl b,H,I.tok tk,rfl,q⟩
def Nc (K : PySem.W.Frag) : List V -> Hp -> VK -> Prop:=fun xs H Q => ∃ (a C d p : Addr) (ds : List Addr) (b : Bool),xs = [.ref a,.ref p] /\ H a = some (.ext (ExIn a C d)) /\ XCls K C /\ H p = some (.tup (ds.map V.ref)) /\ PySem.W.kitAny K (.ref C) (ds.map Value.ref) = some b /\ Q (.bl b) H
theorem Ax (K : PySem.W.Frag) (hK : X.K = K:=by rfl) : iE X (.builtin "isinstance") (Nc K):=by
 subst hK
 intro pins s σ H xs us Q I r h
 obtain ⟨a,C,d,p,ds,b,rfl,ha,cl,hp,e,q⟩:=h
 obtain ⟨u,v,rfl,ru,rv⟩:=r.two
 cases (show u = Value.ref a from ru)
 cases (show v = Value.ref p from rv)
 obtain ⟨px,_⟩:=(show ObjOk X.prog X.w H s.heap a (.ext (ExIn a C d)) from I.hok a _ ha)
 obtain ⟨_,its,r2,o,h1,h2,n,h3⟩:=(show ObjOk X.prog X.w H s.heap p (.tup (ds.map V.ref)) from I.hok p _ hp)
 have ei:=uZ r2
 subst ei
 obtain ⟨oc,od,dt,sl⟩:=o
 simp only at h2 h3
 subst h2 h3
 exact PySem.W.kia_tup (Ek cl) I.kIn px.at h1 e (fun z => nomatch z) fun tk => ⟨.bl b,H,I.tok tk,rfl,q⟩
end
end L2
set_option Elab.async false
set_option linter.all false
set_option maxRecDepth 100000
set_option maxHeartbeats 4000000
namespace L2
open PySem PySem.Spec PyProof.Rows
inductive PKd | i | t | n
def Lu : Unit -> Value -> Bool
 | _,.none => true
 | _,_ => false
theorem gY {k : Unit} {v : Value} (h : Lu k v = true) : v = .none:=by cases v <;> first | rfl | cases h
def gZ (P : Program) (w : World) : KeyKind P w Unit where
 is:=Lu
 hash:=fun _ => reduceHash 0xFCA86420
 inj:=fun _ _ _ _ _ => rfl
 byValue:=fun k v h => by rw [gY h]; rfl
 pyHash:=fun {A E s k v Q} hv h => by
  rw [gY hv]
  exact PySem.W.pyHash_slot (T := "NoneType") rfl PySem.F.slot_NoneType_hash PySem.F.entry_NoneType_hash (PySem.F.args_NoneType_hash_1 _) (beq_builtin_none _) (.inl rfl) (wpAny_bind (wpAny_pure (wpAny_bind (wpAny_mkInt (wpAny_pure ⟨_,_,rfl,h⟩)))))
 eqBool:=fun {A E s a b u v Q} hu hv h => by
  rw [gY hu,gY hv]
  exact SeqAt.EqAt.same _ P w E Q h
 «strs» := fun k x t v h => by cases h
def wg (u : List Int) : List Key:=u.map Sum.inl
theorem yj (u : List Int) : (wg u).map kV = u.map V.int:=by
 unfold wg
 rw [List.map_map]
 rfl
theorem IQ {u v : List Int} (h : wg u = wg v) : u = v:=by
 have:=congrArg (List.map fun k : Key => match k with | Sum.inl i => i | Sum.inr _ => 0) h
 unfold wg at this
 rw [List.map_map,List.map_map] at this
 have e : ∀ w : List Int,w.map ((fun k : Key => match k with | Sum.inl i => i | Sum.inr _ => 0) ∘ Sum.inl) = w:=fun w => by
  show w.map (fun i => i) = w
  exact List.map_id' w
 rw [e,e] at this
 exact this
def kvN {κ : Type} (key : List Int -> κ) (ps : List (List Int)) (k : Nat) : List (κ × V):=(ps.zipIdx k).map fun p => (key p.1,V.int (p.2 : Int))
theorem kb {κ : Type} (key : List Int -> κ) (ps : List (List Int)) (k : Nat) : (kvN key ps k).length = ps.length:=by
 unfold kvN
 rw [List.length_map,List.length_zipIdx]
def IOn {κ : Type} (key : List Int -> κ) (ok : List Int -> Prop) : Prop := ∀ u v,ok u -> ok v -> key u = key v -> u = v
section
variable {κ : Type} [DecidableEq κ] {key : List Int -> κ} {ok : List Int -> Prop}
theorem sJ (inj : IOn key ok) : ∀ {ps : List (List Int)} {k : Nat} {u : List Int},(∀ p ∈ ps,ok p) -> ok u -> u ∉ ps -> gK (kvN key ps k) (key u) = none
 | [],_,_,_,_,_ => rfl
 | p :: ps,k,u,hp,hu,h => by
  rw [show kvN key (p :: ps) k = (key p,V.int (k : Int)) :: kvN key ps (k + 1) from rfl,hX (fun z => h (by rw [<- inj _ _ (hp p List.mem_cons_self) hu z]; exact List.mem_cons_self))]
  exact sJ inj (fun q hq => hp q (List.mem_cons_of_mem _ hq)) hu fun z => h (List.mem_cons_of_mem _ z)
theorem Fp (inj : IOn key ok) : ∀ {ps : List (List Int)} {k n : Nat} {u : List Int},(∀ p ∈ ps,ok p) -> ps.Nodup -> ps[n]? = some u -> gK (kvN key ps k) (key u) = some (.int ((k + n : Nat) : Int))
 | [],_,_,_,_,_,h => by cases h
 | p :: ps,k,0,u,_,_,h => by
  cases h
  exact kX rfl
 | p :: ps,k,n + 1,u,hp,nd,h => by
  have nd' := List.nodup_cons.mp nd
  have h' : ps[n]? = some u:=h
  rw [show kvN key (p :: ps) k = (key p,V.int (k : Int)) :: kvN key ps (k + 1) from rfl,hX (fun z => nd'.1 (by rw [inj _ _ (hp p List.mem_cons_self) (hp u (List.mem_cons_of_mem _ (List.mem_of_getElem? h'))) z]; exact List.mem_of_getElem? h')),Fp inj (fun q hq => hp q (List.mem_cons_of_mem _ hq)) nd'.2 h']
  congr 3
  omega
theorem Gz (inj : IOn key ok) {ps : List (List Int)} {u : List Int} (hp : ∀ p ∈ ps,ok p) (hu : ok u) (h : u ∉ ps) : putK (kvN key ps 0) (key u) (V.int (ps.length : Int)) = kvN key (ps ++ [u]) 0:=by
 rw [JM _ (sJ inj hp hu h)]
 unfold kvN
 rw [List.zipIdx_append,List.map_append,Nat.zero_add]
 rfl
theorem Gy {ps : List (List Int)} {i : Nat} {p : κ × V} (h : (kvN key ps 0)[i]? = some p) : ∃ u,ps[i]? = some u /\ p.1 = key u:=by
 unfold kvN at h
 rw [List.getElem?_map,List.getElem?_zipIdx] at h
 cases e : ps[i]? with
 | none => rw [e] at h; cases h
 | some u =>
  rw [e] at h
  cases h
  exact ⟨u,rfl,rfl⟩
end
def Hm (u : List Int) : Key:=Sum.inl (u.headD 0)
theorem yi : IOn Hm fun u => u.length = 1:=fun u v hu hv h => by
 match u,v,hu,hv with
 | [a],[b],_,_ => rw [show a = b from Sum.inl.inj h]
theorem B3 : IOn wg fun _ => True:=fun u v _ _ h => IQ h
def NonH (P : Program) (w : World) (D : Addr) (e : Nat) (h : Heap) : Prop:=(D == sysModules) = false /\ ∃ t,h.DictAt (gZ P w) D [((),.int 0 t)] e
def dctP (P : Program) (w : World) (κ : PKd) (e : Nat) (D : Addr) (ps : List (List Int)) : HO:=match κ with
 | .i => .dK (kvN Hm ps 0)
 | .t => .dT (kvN wg ps 0)
 | .n => .ext (NonH P w D e)
def PsOk (κ : PKd) (ps : List (List Int)) : Prop:=match κ with
 | .i => ∀ u ∈ ps,u.length = 1
 | .t => True
 | .n => ps = [[]]
def encP (κ : PKd) (H : Hp) (v : V) (u : List Int) : Prop:=match κ with
 | .i => ∃ q,u = [q] /\ v = .int q
 | .t => ∃ b,v = .ref b /\ H b = some (.tup (u.map V.int))
 | .n => u = [] /\ v = .non
theorem encP.same {κ : PKd} {H H' : Hp} {v : V} {u : List Int} (h : encP κ H v u) (s : ∀ b xs,H b = some (.tup xs) -> H' b = some (.tup xs)) : encP κ H' v u:=by
 cases κ with
 | i => exact h
 | t => obtain ⟨b,e1,e2⟩:=h; exact ⟨b,e1,s _ _ e2⟩
 | n => exact h
theorem dctP.ne_tup {P : Program} {w : World} {κ : PKd} {e : Nat} {D : Addr} {ps : List (List Int)} {xs : List V} : dctP P w κ e D ps ≠ .tup xs:=by cases κ <;> (intro z; cases z)
theorem dctP.ne_lst {P : Program} {w : World} {κ : PKd} {e : Nat} {D : Addr} {ps : List (List Int)} {xs : List V} : dctP P w κ e D ps ≠ .lst xs:=by cases κ <;> (intro z; cases z)
theorem PsOk.one {κ : PKd} {H : Hp} {v : V} {u : List Int} (h : encP κ H v u) : PsOk κ [u]:=by
 cases κ with
 | i =>
  obtain ⟨q,rfl,_⟩:=h
  intro u hu
  rw [List.mem_singleton.mp hu]
  rfl
 | t => exact trivial
 | n => rw [h.1]; rfl
theorem PsOk.snoc {κ : PKd} {H : Hp} {v : V} {u : List Int} {ps : List (List Int)} (p : PsOk κ ps) (h : encP κ H v u) (hn : u ∉ ps) : PsOk κ (ps ++ [u]) /\ κ ≠ .n:=by
 cases κ with
 | i =>
  obtain ⟨q,rfl,_⟩:=h
  refine ⟨fun u hu => ?_,by intro z; cases z⟩
  rcases List.mem_append.mp hu with z | z
  ·exact p u z
  ·rw [List.mem_singleton.mp z]; rfl
 | t => exact ⟨trivial,by intro z; cases z⟩
 | n =>
  exfalso
  have p' : ps = [[]]:=p
  exact hn (by rw [p',h.1]; exact List.mem_cons_self)
section
variable {P : Program} {w : World} {κ : PKd} {e : Nat} {H : Hp} {D : Addr} {ps : List (List Int)} {v : V} {u : List Int}
theorem DGet.num (hD : H D = some (dctP P w κ e D ps)) (hn : κ ≠ .n) (hp : PsOk κ ps) (hv : encP κ H v u) {n : Nat} (nd : ps.Nodup) (h : ps[n]? = some u) : DGet H D v (some (.int (n : Int))):=by
 cases κ with
 | i =>
  obtain ⟨q,rfl,rfl⟩:=hv
  have z:=DGet.k (k:=Hm [q]) hD
  rw [Fp yi hp nd h,Nat.zero_add] at z
  exact z
 | t =>
  obtain ⟨b,rfl,hb⟩:=hv
  have z:=DGet.t (k:=wg u) hD (b:=b) (by rw [yj]; exact hb)
  rw [Fp B3 (fun _ _ => trivial) nd h,Nat.zero_add] at z
  exact z
 | n => exact absurd rfl hn
theorem DGet.numN (hD : H D = some (dctP P w κ e D ps)) (hn : κ ≠ .n) (hp : PsOk κ ps) (hv : encP κ H v u) (h : u ∉ ps) : DGet H D v none:=by
 cases κ with
 | i =>
  obtain ⟨q,rfl,rfl⟩:=hv
  have z:=DGet.k (k:=Hm [q]) hD
  rw [sJ yi hp rfl h] at z
  exact z
 | t =>
  obtain ⟨b,rfl,hb⟩:=hv
  have z:=DGet.t (k:=wg u) hD (b:=b) (by rw [yj]; exact hb)
  rw [sJ B3 (fun _ _ => trivial) trivial h] at z
  exact z
 | n => exact absurd rfl hn
theorem DPut.num (hD : H D = some (dctP P w κ e D ps)) (hp : PsOk κ ps) (hv : encP κ H v u) (h : u ∉ ps) (hl : ps.length < sizeLine) : DPut H D v (.int (ps.length : Int)) (upd H D (dctP P w κ e D (ps ++ [u]))):=by
 cases κ with
 | i =>
  obtain ⟨q,rfl,rfl⟩:=hv
  have z:=DPut.k (k:=Hm [q]) (v:=.int (ps.length : Int)) hD (by rw [kb]; exact hl)
  rw [Gz yi hp rfl h] at z
  exact z
 | t =>
  obtain ⟨b,rfl,hb⟩:=hv
  have z:=DPut.t (k:=wg u) (v:=.int (ps.length : Int)) hD (b:=b) (by rw [yj]; exact hb) (by rw [kb]; exact hl)
  rw [Gz B3 (fun _ _ => trivial) trivial h] at z
  exact z
 | n => exact absurd rfl (hp.snoc hv h).2
theorem IsD.num (hD : H D = some (dctP P w κ e D ps)) (hn : κ ≠ .n) : IsD H D:=by
 cases κ with
 | i => exact .inl ⟨_,.inl hD⟩
 | t => exact .inr ⟨_,.inl hD⟩
 | n => exact absurd rfl hn
end
end L2
set_option Elab.async false
set_option linter.all false
set_option maxRecDepth 100000
set_option maxHeartbeats 4000000
namespace L2
open PySem PySem.Spec PyProof.Rows
theorem NonH.ok {P : Program} {w : World} {H : Hp} {h : Heap} {D : Addr} {e : Nat} (x : NonH P w D e h) : ObjOk P w H h D (.ext (NonH P w D e)):=
 ⟨x,let ⟨_,_,o,es,h1,_⟩:=x; ⟨o,h1⟩,fun h1 h2 y k => let ⟨a,t,o,es,b,c⟩:=y; ⟨a,t,o,es,k o b,c⟩⟩
theorem rg {X : Cx} {pins : List (Addr × Obj)} {σ : St} {H : Hp} {s : Shared} {D : Addr} {e : Nat} (I : Inv X pins σ H s) (h : H D = some (.ext (NonH X.prog X.w D e))) : NonH X.prog X.w D e s.heap:=(show ObjOk X.prog X.w H s.heap D (.ext (NonH X.prog X.w D e)) from I.hok D _ h).1
def y8 (P : Program) (w : World) (trs : List (TE × TE)) : TE:=fun σ H Q => ∀ p,H p = none -> y9 trs σ (upd H p (.dK [])) fun ps H2 => H2 p = some (.dK []) /\ ps = [(.non,.int 0)] /\ ∀ e,Q (.ref p) (upd H2 p (.ext (NonH P w p e)))
theorem FG {X : Cx} {pos : Pos} {k v : Expr} {trs : List (TE × TE)} (h : PPs X pos [some k] [v] trs) : PE X (.Dict [some k] [v] pos) (y8 X.prog X.w trs):=by
 intro pins s σ H Q I q
 have hn:=I.hok.fresh (Nat.le_refl s.heap.objs.size)
 have I1:=I.laid (a:=s.heap.objs.size) (o:=.dK []) (h' := s.heap.push { cls:=.type "dict",data:=.dict #[] }) (t' := s.toks) (fun _ _ q => Heap.get?_push_of_some _ q) (Nat.le_refl _) (xX s.heap I.big)
 refine wpAny_Dict_walk (knd:=gZ X.prog X.w) rfl rfl (by intro z; cases z) (by show 1 <= 15; decide) (thn (h pins _ σ _ _ I1 (q _ hn)) fun ws s2 ⟨ps,H2,I2,rel,e,ep,q2⟩ => ?_)
 subst ep
 obtain ⟨u,rr,hws,ru,ry⟩ : ∃ u rr,ws = [(u,rr)] /\ RelV .non u /\ RelV (.int 0) rr:=by
  cases rel with
  | cons r t =>
   cases t
   exact ⟨_,_,rfl,r.1,r.2⟩
 subst hws
 have eu : u = Value.none:=ru
 subst eu
 obtain ⟨t,rfl⟩:=(show ∃ t,rr = Value.int 0 t from ry)
 obtain ⟨z,hd,vs0,r0,o,es,ep,d1,d2,d3,d4,d5,d6⟩:=Gq I2.hok e
 cases r0
 have es0 : es.toList = []:=by
  generalize es.toList = l at d5
  cases d5
  rfl
 refine ⟨[((),.int 0 t)],⟨rfl,rfl,trivial⟩,⟨o,es,ep,d1,d2,d3,fun x hx => ?_,by rw [es0]; exact .nil,List.nodup_nil⟩,fun h' dd' hs => ?_⟩
 ·have hx' := Array.mem_toList_iff.mpr hx
  rw [es0] at hx'
  cases hx'
 obtain ⟨o',es',ep',f1,f2,f3,f4,f5,f6⟩:=dd'
 exact ⟨.ref s.heap.objs.size,_,pG I2 (by rw [e]; exact True.intro) hs ⟨o',f1⟩ (NonH.ok ⟨hd,t,o',es',f1,f2,f3,f4,f5,f6⟩),rfl,q2 ep'⟩
theorem EK {X : Cx} {pos : Pos} {k v : Expr} {trs : List (TE × TE)} (hu : X.A.units + 1 < cLine) (h : PPs X pos [some k] [v] trs) : PE X (.Dict [some k] [v] pos) (fun σ H Q => JY trs σ H Q \/ FU trs σ H Q \/ y8 X.prog X.w trs σ H Q):=
 CD (KO h rfl rfl (by intro z; cases z) (by show 1 <= 15; decide)) (CD (JE hu h) (FG h))
theorem Ee {P : Program} {w : World} {κ : PKd} {tk tv : TE} {σ : St} {H : Hp} {Q : VK} {y : V} {u : List Int} (hk : ∀ H' Q,Same H H' -> Q y H' -> tk σ H' Q) (hv : ∀ H' Q,Q (.int 0) H' -> tv σ H' Q) (he : encP κ H y u) (h : ∀ p e H',H p = none -> Same H H' -> H' p = some (dctP P w κ e p [u]) -> Q (.ref p) H') :
  JY [(tk,tv)] σ H Q \/ FU [(tk,tv)] σ H Q \/ y8 P w [(tk,tv)] σ H Q:=by
 have sm : ∀ {p : Addr} (o o' : HO),H p = none -> Same H (upd (upd H p o) p o'):=fun o o' hp b z e => by
  have n:=aq e hp
  rw [aj n,aj n]; exact e
 cases κ with
 | i =>
  obtain ⟨q,rfl,rfl⟩:=he
  exact .inl fun p hp => hk _ _ (ao hp _) (hv _ _ ⟨ae,[(Sum.inl q,.int 0)],rfl,by show 1 <= 15; decide,h p 0 _ hp (sm _ _ hp) ae⟩)
 | t =>
  obtain ⟨b,rfl,hb⟩:=he
  exact .inr (.inl fun p hp => hk _ _ (ao hp _) (hv _ _ ⟨ae,b,wg u,.int 0,rfl,by rw [yj]; exact ao hp _ _ _ hb,h p 0 _ hp (sm _ _ hp) ae⟩))
 | n =>
  obtain ⟨rfl,rfl⟩:=he
  exact .inr (.inr fun p hp => hk _ _ (ao hp _) (hv _ _ ⟨ae,rfl,fun e => h p e _ hp (sm _ _ hp) ae⟩))
section
variable {X : Cx} {o e i : Expr} {apos cpos pos : Pos} {td ty : TE}
def DG (P : Program) (w : World) (td ty : TE) : TE:=fun σ H Q => td σ H fun x H1 => ∃ D n,x = .ref D /\ H1 D = some (.ext (NonH P w D n)) /\ ty σ H1 fun y H2 => y = .non /\ H2 D = some (.ext (NonH P w D n)) /\ Q (.int 0) H2
theorem HJ (ho : PE X o td) (he : PE X e ty) (m : M1 X o "get" apos e cpos) : PE X (.Call (.Attribute o "get" apos) [e] [] cpos) (DG X.prog X.w td ty):=by
 intro pins s σ H Q I h
 refine wpAny_Call_method m.base m.few m.line PySem.F.plainAttrs_dict PySem.F.slot_dict_get PySem.F.type_dict_get (thn (ho pins s σ H _ I h) fun u s1 ⟨x,H1,I1,rx,D,n,ex,d,q1⟩ => ?_)
 subst ex
 obtain rfl : u = Value.ref D:=rx
 obtain ⟨hd,t,da⟩:=rg I1 d
 have dd:=da.dictOf
 refine ⟨dd.typeIs,fun b q => by cases q; obtain ⟨ob,_,h1,h2,_⟩:=da; exact ⟨ob,h1,h2.2.1⟩,?_⟩
 rw [m.trees]
 refine Calls.callWith_builtin rfl (Calls.evalArgs_plain (Calls.spliced_cons (thn (he pins s1 σ H1 _ I1 q1) fun iv s2 ⟨y,H2,I2,ry,ey,d2,q2⟩ => Calls.spliced_nil ?_)))
 subst ey
 cases (show iv = Value.none from ry)
 obtain ⟨hd,t,da⟩:=rg I2 d2
 have dd:=da.dictOf
 exact call_meetsIn PySem.F.slot_dict_get dd.typeIs PySem.F.entry_dict_get (PySem.F.args_dict_get_2 _ _) (meets_dict_get (gZ X.prog X.w) D (k:=()) (key:=.none) rfl hd) ⟨_,dd.mapOf,⟨.int 0,H2,I2.tok _,⟨t,rfl⟩,q2⟩⟩
theorem KQ (hu : X.A.units + 1 < cLine) (ho : PE X o td) (he : PE X e ty) (m : M1 X o "get" apos e cpos) : PE X (.Call (.Attribute o "get" apos) [e] [] cpos) (fun σ H Q => FT td ty σ H Q \/ DG X.prog X.w td ty σ H Q):=CD (JC hu ho he m) (HJ ho he m)
def DH (P : Program) (w : World) (td ty : TE) : TE:=fun σ H Q => td σ H fun x H1 => ty σ H1 fun y H2 => ∃ D n,x = .ref D /\ y = .non /\ H2 D = some (.ext (NonH P w D n)) /\ Q (.int 0) H2
theorem HK (ho : PE X o td) (hi : PE X i ty) (hs : Km i) : PE X (.Subscript o i pos) (DH X.prog X.w td ty):=by
 intro pins s σ H Q I h
 refine GL PySem.F.slot_dict_getitem.lookup hs (thn (ho pins s σ H _ I h) fun u s1 ⟨x,H1,I1,rx,q1⟩ => thn (hi pins s1 σ H1 _ I1 q1) fun iv s2 ⟨y,H2,I2,ry,D,n,ex,ey,d,q2⟩ => ?_)
 subst ex ey
 obtain rfl : u = Value.ref D:=rx
 cases (show iv = Value.none from ry)
 obtain ⟨hd,t,da⟩:=rg I2 d
 have dd:=da.dictOf
 exact ⟨dd.typeIs,wpAny_getItem_of (knd:=gZ X.prog X.w) (k:=()) rfl dd.mapOf rfl ⟨.int 0,H2,I2.tok _,⟨t,rfl⟩,q2⟩⟩
theorem KW (hu : X.A.units + 1 < cLine) (ho : PE X o td) (hi : PE X i ty) (hs : Km i) : PE X (.Subscript o i pos) (fun σ H Q => JX td ty σ H Q \/ DH X.prog X.w td ty σ H Q):=CD (KN hu ho hi hs) (HK ho hi hs)
def GP (P : Program) (w : World) (ty td : TE) : TE:=fun σ H Q => ty σ H fun y H1 => td σ H1 fun x H2 => ∃ D n,x = .ref D /\ y = .non /\ H2 D = some (.ext (NonH P w D n)) /\ Q (.bl false) H2
theorem KJ (hu : X.A.units + 1 < cLine) (hi : PE X i ty) (ho : PE X o td) : PC X .NotIn i o (fun σ H Q => xy ty td σ H Q \/ GP X.prog X.w ty td σ H Q):=by
 intro pins s σ H Q I h
 rcases h with h | h
 ·exact AQ hu hi ho pins s σ H Q I h
 refine thn (hi pins s σ H _ I h) fun iv s1 ⟨y,H1,I1,ry,q1⟩ => thn (ho pins s1 σ H1 _ I1 q1) fun u s2 ⟨x,H2,I2,rx,D,n,ex,ey,d,q2⟩ => ?_
 subst ex ey
 obtain rfl : u = Value.ref D:=rx
 cases (show iv = Value.none from ry)
 obtain ⟨hd,t,da⟩:=rg I2 d
 exact wpAny_notIn_of (knd:=gZ X.prog X.w) (k:=()) rfl hd da.dictOf.mapOf ⟨.bl false,H2,I2.tok _,rfl,q2⟩
end
section
variable {P : Program} {w : World} {κ : PKd} {e : Nat} {H : Hp} {D : Addr} {ps : List (List Int)} {v : V} {u : List Int} {td ty : TE} {σ : St} {Q : VK}
theorem Gu (hd : ∀ Q,Q (.ref D) H -> td σ H Q) (hy : ∀ Q,Q v H -> ty σ H Q) (hD : H D = some (dctP P w κ e D ps)) (hp : PsOk κ ps) (hv : encP κ H v u) (nd : ps.Nodup) (h : (∃ n : Nat,ps[n]? = some u /\ Q (.int n) H) \/ (u ∉ ps /\ Q .non H)) : FT td ty σ H Q \/ DG P w td ty σ H Q:=by
 cases κ with
 | n =>
  refine .inr (hd _ ⟨D,e,rfl,hD,hy _ ⟨hv.2,hD,?_⟩⟩)
  have hp' : ps = [[]]:=hp
  rcases h with ⟨n,h1,h2⟩ | ⟨h1,_⟩
  ·have : n = 0:=by
    rw [hp'] at h1
    match n,h1 with
    | 0,_ => rfl
   rw [this] at h2
   exact h2
  ·exact absurd (by rw [hp',hv.1]; exact List.mem_cons_self) h1
 | i =>
  refine .inl (hd _ ⟨D,rfl,IsD.num hD (by intro z; cases z),hy _ ?_⟩)
  rcases h with ⟨n,h1,h2⟩ | ⟨h1,h2⟩
  ·exact ⟨_,DGet.num hD (by intro z; cases z) hp hv nd h1,h2⟩
  ·exact ⟨_,DGet.numN hD (by intro z; cases z) hp hv h1,h2⟩
 | t =>
  refine .inl (hd _ ⟨D,rfl,IsD.num hD (by intro z; cases z),hy _ ?_⟩)
  rcases h with ⟨n,h1,h2⟩ | ⟨h1,h2⟩
  ·exact ⟨_,DGet.num hD (by intro z; cases z) hp hv nd h1,h2⟩
  ·exact ⟨_,DGet.numN hD (by intro z; cases z) hp hv h1,h2⟩
theorem Lh (hd : ∀ Q,Q (.ref D) H -> td σ H Q) (hy : ∀ Q,Q v H -> ty σ H Q) (hD : H D = some (dctP P w κ e D ps)) (hp : PsOk κ ps) (hv : encP κ H v u) (nd : ps.Nodup) {n : Nat} (h : ps[n]? = some u) (q : Q (.int n) H) : JX td ty σ H Q \/ DH P w td ty σ H Q:=by
 cases κ with
 | n =>
  refine .inr (hd _ (hy _ ⟨D,e,rfl,hv.2,hD,?_⟩))
  have hp' : ps = [[]]:=hp
  have : n = 0:=by
   rw [hp'] at h
   match n,h with
   | 0,_ => rfl
  rw [this] at q
  exact q
 | i => exact .inl (hd _ (hy _ ⟨D,_,rfl,DGet.num hD (by intro z; cases z) hp hv nd h,q⟩))
 | t => exact .inl (hd _ (hy _ ⟨D,_,rfl,DGet.num hD (by intro z; cases z) hp hv nd h,q⟩))
theorem KA (hd : ∀ Q,Q (.ref D) H -> td σ H Q) (hy : ∀ Q,Q v H -> ty σ H Q) (hD : H D = some (dctP P w κ e D ps)) (hp : PsOk κ ps) (hv : encP κ H v u) (nd : ps.Nodup) (h : Q (.bl (decide (u ∉ ps))) H) : xy ty td σ H Q \/ GP P w ty td σ H Q:=by
 have main : κ ≠ .n -> xy ty td σ H Q:=fun hn => by
  refine hy _ (hd _ ?_)
  by_cases c : u ∈ ps
  ·obtain ⟨n,hl,en⟩:=List.getElem_of_mem c
   refine ⟨D,_,rfl,DGet.num hD hn hp hv nd (n:=n) (by rw [List.getElem?_eq_getElem hl,en]),?_⟩
   rw [decide_eq_false (not_not_intro c)] at h
   exact h
  ·refine ⟨D,_,rfl,DGet.numN hD hn hp hv c,?_⟩
   rw [decide_eq_true c] at h
   exact h
 cases κ with
 | n =>
  have c : u ∈ ps:=by
   have hp' : ps = [[]]:=hp
   rw [hp',hv.1]
   exact List.mem_cons_self
  rw [decide_eq_false (not_not_intro c)] at h
  exact .inr (hy _ (hd _ ⟨D,e,rfl,hv.2,hD,h⟩))
 | i => exact .inl (main (by intro z; cases z))
 | t => exact .inl (main (by intro z; cases z))
end
theorem GZ {X : Cx} : iE X (.builtin "len") (fun xs H Q => ∃ D κ e ps,xs = [.ref D] /\ κ ≠ PKd.n /\ H D = some (dctP X.prog X.w κ e D ps) /\ Q (.int ps.length) H):=by
 intro pins s σ H xs us Q I r h
 obtain ⟨D,κ,e,ps,rfl,hn,hD,q⟩:=h
 cases κ with
 | i => exact GX pins s σ H _ us Q I r ⟨D,_,rfl,hD,by rw [kb]; exact q⟩
 | t => exact GY pins s σ H _ us Q I r ⟨D,_,rfl,hD,by rw [kb]; exact q⟩
 | n => exact absurd rfl hn
def Lo (P : Program) (w : World) (D : Addr) (n : Nat) : It:=
 ⟨fun i H => i < 1 /\ H D = some (.ext (NonH P w D n)),fun _ H x H' => H' = H /\ x = .non,fun i H => 1 <= i /\ H D = some (.ext (NonH P w D n))⟩
theorem J3 {P : Program} {w : World} {K : PySem.W.Frag} {tg : Expr} (a it : Addr) (n : Nat) : Turn P w K tg (Lo P w a n) [it] it (fun i h => h.IsKeyIter it a i 1 n) where
 mem:=by simp
 obj:=fun i h st b hb => by
  have e : b = it:=by simpa using hb
  subst e
  obtain ⟨o,e,c,d⟩:=st
  exact ⟨o,e,fun v z => by rw [d] at z; cases z⟩
 keep:=fun i h h' st k => by
  obtain ⟨ob,e,r⟩:=st
  exact ⟨ob,k it (by simp) ob e,r⟩
 item:=by
  intro X hP hw hK hc i pins s σ H E I hf st hg
  subst hP hw hK
  obtain ⟨hi,hd⟩:=hg
  obtain ⟨lo,t,dat⟩:=rg I hd
  have i0 : i = 0:=by omega
  subst i0
  obtain ⟨f0,f1,f2,f3,f4,f5⟩:=hf it (by simp)
  refine wpAny_pyNext_dict_item (knd:=gZ X.prog X.w) (kvs:=[((),.int 0 t)]) st dat (k:=()) (v:=.int 0 t) rfl fun key h' hk st' sb => ?_
  have I1 : Inv X pins σ H { s with heap:=h' }:=I.turned (t' := s.toks) (fun b o hb e => (sb.2 b hb).trans e) f0 f1 f3 f4 f5
  obtain ⟨ob,e,c,d⟩:=id st'
  exact ⟨key,rfl,AE (s:={ s with heap:=h' }) e c d (by decide) ⟨.non,H,I1,gY hk,⟨rfl,rfl⟩,st',fun b hb => (hf b hb).1⟩⟩
 done:=by
  intro X hP hw hK hc i pins s σ H E I hf st hg
  subst hP hw hK
  obtain ⟨hi,hd⟩:=hg
  obtain ⟨lo,t,dat⟩:=rg I hd
  obtain ⟨f0,f1,f2,f3,f4,f5⟩:=hf it (by simp)
  exact wpAny_pyNext_dict_end (knd:=gZ X.prog X.w) (kvs:=[((),.int 0 t)]) (I.ok.hd hc) st dat (List.getElem?_eq_none hi) fun h' eb => ⟨rfl,I.turned (t' := s.toks) (fun b o hb e => eb b o hb e) f0 f1 f3 f4 f5⟩
 self:=fun A i s Q E st h => by
  refine wpAny_pyIter_slot st.typeIs PySem.F.slot_dict_keyiterator_iter (wpAny_call_entry PySem.F.slot_dict_keyiterator_iter st.typeIs PySem.F.entry_dict_keyiterator_iter ?_ (PySem.F.args_dict_keyiterator_iter_1 _))
  show wpAny _ _ (ret (.ref it)) _ _ s
  exact wpAny_pure ⟨_,rfl,"dict_keyiterator",_,st.typeIs,PySem.F.slot_dict_keyiterator_next.lookup,h⟩
section
variable {X : Cx} {tg : Expr}
def MZ (P : Program) (w : World) (tl : TE) : TI:=fun σ H R => tl σ H fun x H1 => ∃ D n,x = .ref D /\ H1 D = some (.ext (NonH P w D n)) /\ R (Lo P w D n) H1
theorem Mt {l : Expr} {tl : TE} (hl : PE X l tl) : PI X tg l (MZ X.prog X.w tl):=by
 intro pins s σ H R I h
 refine thn (hl pins s σ H _ I h) fun v s1 ⟨x,H1,I1,r1,q1⟩ => ?_
 obtain ⟨D,n,e,hd,q⟩:=q1
 subst e
 cases r1
 obtain ⟨lo,t,dat⟩:=rg I1 hd
 refine wpAny_pyIter_dict (knd:=gZ X.prog X.w) lo dat ?_
 refine ⟨s1.heap.objs.size,[s1.heap.objs.size],_,_,H1,rfl,I1.kept (t' := s1.toks) fun b o e => Heap.get?_push_of_some _ e,J3 D _ n,⟨_,Heap.get?_push_size _ rfl,rfl,rfl⟩,fun b hb => ?_,q⟩
 have e : b = s1.heap.objs.size:=by simpa using hb
 subst e
 exact I1.fpOk (Nat.le_refl _) (I1.hok.fresh (Nat.le_refl _))
def M0 (P : Program) (w : World) (tl : TE) : TI:=fun σ H R => Ls tl σ H R \/ II tl σ H R \/ MZ P w tl σ H R
theorem Mu {l : Expr} {tl : TE} (hl : PE X l tl) : PI X tg l (M0 X.prog X.w tl):=by
 intro pins s σ H R I h
 rcases h with h | h | h
 ·exact K0 hl pins s σ H R I h
 ·exact JI hl pins s σ H R I h
 ·exact Mt hl pins s σ H R I h
end
theorem Ip {P : Program} {w : World} {κ : PKd} {e : Nat} {D : Addr} {ps : List (List Int)} {ix : List (Option Nat)} {te tl : TE} {σ : St} {H : Hp} {Qd : Addr -> Hp -> Prop} (hl : ∀ Q,Q (.ref D) H -> tl σ H Q) (hD : H D = some (dctP P w κ e D ps)) (hp : PsOk κ ps)
  (go : ∀ Hf,(∀ b,b ≠ D -> Hf b = H b) -> (∀ b xs,H b = some (.tup xs) -> Hf b = some (.tup xs)) -> (∃ o,Hf D = some o) -> ∃ Pv : Addr -> Nat -> List V -> Hp -> Prop,(∀ L,Hf L = none -> Pv L 0 [] (upd Hf L (.lst []))) /\ (∀ L i ys H',i <= ps.length -> Pv L i ys H' -> H' D = Hf D) /\
   (∀ L i v u ys H' (Q' : VK),Hf L = none -> ps[i]? = some u -> encP κ H' v u -> H' L = some (.lst ys) -> Pv L i ys H' -> (∀ y H4,H4 L = some (.lst ys) -> ys.length < sizeLine -> Pv L (i + 1) (ys ++ [y]) (upd H4 L (.lst (ys ++ [y]))) -> Q' y H4) -> te ((aJ ix σ).set 0 (some v)) H' Q') /\
   ∀ L ys H',Hf L = none -> H' L = some (.lst ys) -> Pv L ps.length ys H' -> Qd L H') : M0 P w tl σ H fun J H1 => vb J ix (a7 0) te σ H1 Qd:=by
 cases κ with
 | i =>
  refine .inl (hl _ ⟨D,_,rfl,.inl ⟨hD,fun o => ?_⟩⟩)
  obtain ⟨Pv,h0,h1,h2,h3⟩:=go (upd H D (.frz o (.dK (kvN Hm ps 0)))) (fun b hb => aj hb) (fun b xs q => by rw [aj (cb q hD (by intro z; cases z))]; exact q) ⟨_,ae⟩
  refine G4 Pv h0 (fun L i ys H' hi p => by rw [h1 L i ys H' (by rw [kb] at hi; exact hi) p,ae]) (fun L i p ys H' Q' hL hi hy pv kk => ?_) fun L ys H' hL hy pv => h3 L ys H' hL hy (by rw [kb] at pv; exact pv)
  obtain ⟨u,hu,eu⟩:=Gy hi
  have l1:=hp u (List.mem_of_getElem? hu)
  obtain ⟨q,rfl⟩ : ∃ q,u = [q]:=by
   match u,l1 with
   | [q],_ => exact ⟨q,rfl⟩
  rw [eu]
  exact h2 L i _ [q] ys H' Q' hL hu ⟨q,rfl,rfl⟩ hy pv kk
 | t =>
  refine .inr (.inl (hl _ ⟨D,_,rfl,hD,fun o => ?_⟩))
  obtain ⟨Pv,h0,h1,h2,h3⟩:=go (upd H D (.frz o (.dT (kvN wg ps 0)))) (fun b hb => aj hb) (fun b xs q => by rw [aj (cb q hD (by intro z; cases z))]; exact q) ⟨_,ae⟩
  refine Fd Pv h0 (fun L i ys H' hi p => by rw [h1 L i ys H' (by rw [kb] at hi; exact hi) p,ae]) (fun L i p b ys H' Q' hL hi hb hy pv kk => ?_) fun L ys H' hL hy pv => h3 L ys H' hL hy (by rw [kb] at pv; exact pv)
  obtain ⟨u,hu,eu⟩:=Gy hi
  rw [eu,yj] at hb
  exact h2 L i _ u ys H' Q' hL hu ⟨b,rfl,hb⟩ hy pv kk
 | n =>
  refine .inr (.inr (hl _ ⟨D,e,rfl,hD,?_⟩))
  obtain ⟨Pv,h0,h1,h2,h3⟩:=go H (fun b _ => rfl) (fun b xs q => q) ⟨_,hD⟩
  have hp' : ps = [[]]:=hp
  subst hp'
  intro L hL
  refine ⟨fun i m σ' H' => m = 1 - i /\ i <= 1 /\ (σ' = aJ ix σ \/ ∃ t,σ' = (aJ ix σ).set 0 t) /\ ∃ ys,H' L = some (.lst ys) /\ Pv L i ys H',⟨1,rfl,by omega,.inl rfl,[],ae,h0 L hL⟩,?_⟩
  rintro i m σ' H' ⟨rfl,hi,hσ,ys,hy,p⟩
  have q:=(h1 L i ys H' hi p).trans hD
  by_cases hlt : i < 1
  ·refine .inr ⟨⟨hlt,q⟩,fun x H2 y => ?_⟩
   obtain ⟨e1,rfl⟩:=y
   subst e1
   have es : σ'.set 0 (some V.non) = (aJ ix σ).set 0 (some V.non):=by
    rcases hσ with z | ⟨t,z⟩
    ·rw [z]
    ·rw [z,List.set_set]
   show te (σ'.set 0 (some V.non)) _ _
   rw [es]
   have i0 : i = 0:=by omega
   subst i0
   exact h2 L 0 .non [] ys _ _ hL rfl ⟨rfl,rfl⟩ hy p fun y H4 h4 hz p4 => ⟨ys,h4,hz,0,by omega,rfl,by omega,.inr ⟨_,rfl⟩,ys ++ [y],ae,p4⟩
  ·have e1 : i = 1:=by omega
   subst e1
   exact .inl ⟨⟨Nat.le_refl _,q⟩,h3 L ys H' hL hy p⟩
end L2
set_option Elab.async false
set_option linter.all false
set_option maxRecDepth 100000
set_option maxHeartbeats 8000000
namespace My
open PySem L2
abbrev LL:=List (List Int)
abbrev LI:=List Int
abbrev OV:=Option V
theorem gi_ {α : Type} {l : List α} {i : Nat} {a : α} (h : l[i]? = some a) : ∃ h : i < l.length,l[i] = a:=List.getElem?_eq_some_iff.mp h
theorem mq_ {α : Type} {l : List α} {i : Nat} {a : α} (h : l[i]? = some a) : a ∈ l:=List.mem_of_getElem? h
theorem ma_ {α : Type} {a : α} {s t : List α} : a ∈ s ++ t ↔ a ∈ s \/ a ∈ t:=List.mem_append
theorem lm_ {α β : Type} {f : α -> β} {l : List α} : (l.map f).length = l.length:=List.length_map f
theorem qT_ {K : PySem.W.Frag} {H : Hp} {a : Addr} {xs : List V} (h : H a = some (.tup xs)) : SqT K H a xs:=SqT.of h
theorem qL_ {K : PySem.W.Frag} {H : Hp} {a : Addr} {xs : List V} (h : H a = some (.lst xs)) : SqL K H a xs:=SqL.of h
def top (i : Nat) : Stmt:=PySem.Challenge.pw_figuretell_k23_grown.main.body.getD i (.Pass ⟨0,0,0,0⟩)
abbrev gJ : Stmt:=top 12
abbrev cS : Stmt:=top 14
abbrev a9 : Stmt:=top 15
abbrev cJ : Stmt:=top 22
abbrev fb : Stmt:=top 23
abbrev cx : Stmt:=top 24
abbrev ke : Stmt:=top 25
abbrev cT : Stmt:=top 27
abbrev cR : Stmt:=top 28
abbrev eV : Stmt:=top 29
abbrev bE : Stmt:=top 30
abbrev cL : Stmt:=top 31
abbrev dC : Stmt:=top 32
abbrev eZ : Stmt:=top 33
abbrev cI : Stmt:=top 34
abbrev eU : Stmt:=top 35
abbrev eY : Stmt:=top 36
abbrev cQ : Stmt:=top 37
abbrev eX : Stmt:=top 38
abbrev cP : Stmt:=top 39
abbrev bI : Stmt:=top 40
abbrev cU : Stmt:=top 41
abbrev bH : Stmt:=top 42
abbrev b8 : Stmt:=top 43
abbrev bG : Stmt:=top 44
abbrev tH : Stmt:=top 45
abbrev bo : Stmt:=inClass (top 6) 0
abbrev dB : Stmt:=inClass (top 17) 0
abbrev eS : Stmt:=inClass (top 17) 1
abbrev eR : Stmt:=inClass (top 17) 2
abbrev bx : Stmt:=inClass (top 18) 0
abbrev cm : Stmt:=inClass (top 18) 1
abbrev cH : Stmt:=inClass (top 18) 2
abbrev cG : Stmt:=inClass (top 18) 3
abbrev bw : Stmt:=inClass (top 19) 0
abbrev ck : Stmt:=inClass (top 19) 1
abbrev cF : Stmt:=inClass (top 19) 2
abbrev cE : Stmt:=inClass (top 19) 3
abbrev bc : Stmt:=inClass (top 20) 0
abbrev bF : Stmt:=inClass (top 20) 1
abbrev bW : Stmt:=inClass (top 20) 2
abbrev bV : Stmt:=inClass (top 20) 3
abbrev bj : Stmt:=inClass (top 21) 0
abbrev bU : Stmt:=inClass (top 21) 1
abbrev bM : Stmt:=inClass (top 21) 2
abbrev bL : Stmt:=inClass (top 21) 3
theorem zH {c A B : Prop} [Decidable c] (h1 : c -> A) (h2 : ¬ c -> B) : if decide c = true then A else B:=Hl (fun h => h1 (of_decide_eq_true h)) fun h => h2 fun z => h (decide_eq_true z)
theorem ye {c A B : Prop} [Decidable c] (h1 : ¬ c -> A) (h2 : c -> B) : if (!decide c) = true then A else B:=Hl (fun h => h1 fun z => by rw [decide_eq_true z] at h; cases h) fun h => h2 (Decidable.byContradiction fun z => h (by rw [decide_eq_false z]; rfl))
theorem kE {a b : Int} {A B : Prop} (h1 : a = b -> A) (h2 : a ≠ b -> B) : if decide (V.int a = V.int b) = true then A else B:=zH (fun h => h1 (V.int.inj h)) fun h => h2 fun z => h (congrArg V.int z)
theorem rb {a b m n : Int} (a0 : 0 <= a) (a1 : a <= m) (b0 : 0 <= b) (b1 : b <= n) : 0 <= a * b /\ a * b <= m * n:=⟨Int.mul_nonneg a0 b0,Int.mul_le_mul a1 b1 b0 (Int.le_trans a0 a1)⟩
theorem dg {a b : Int} (h : 0 < b) : 0 <= a % b /\ a % b < b:=⟨Int.emod_nonneg a (by omega),Int.emod_lt_of_pos a h⟩
theorem gn {t u : TS} {D : Ends} {σ : St} {H : Hp} (R : St -> Hp -> Prop) (h1 : ∀ σ' H',R σ' H' -> u D σ' H') (h2 : ∀ D' : Ends,(∀ σ' H',R σ' H' -> D'.nx σ' H') -> t D' σ H) : Lk t u D σ H:=h2 { D with nx:=u D } h1
theorem aM {H H' : Hp} {p : Addr} {o : HO} (h : Same H H') (hp : H p = none) : Same H (upd H' p o):=fun b u e => by rw [aj (aq e hp)]; exact h b u e
theorem gI {x : Int} (h : 0 <= x) : ∃ n : Nat,x = (n : Int):=⟨x.toNat,by omega⟩
theorem getD_at {α : Type} {xs : List α} {i : Nat} {d : α} (h : i < xs.length) : xs.getD i d = xs[i]:=by simp [h]
theorem c7 {ns : LI} {k : Int} (h0 : 0 <= k) (h : k < (ns.length : Int)) : atI (ns.map V.int) k = some (.int (ns.getD k.toNat 0)):=by
 have hk : k.toNat < ns.length:=by omega
 have ek : k = ((k.toNat : Nat) : Int):=by omega
 have q : atI (ns.map V.int) ((k.toNat : Nat) : Int) = some (.int ns[k.toNat]):=rZ (by rw [List.getElem?_map,List.getElem?_eq_getElem hk] <;> rfl)
 rw [<- ek] at q
 rw [q,getD_at hk]
theorem xG {ras : List Addr} {k : Int} {ra : Addr} (h0 : 0 <= k) (h : ras[k.toNat]? = some ra) : atI (ras.map V.ref) k = some (.ref ra):=by
 have ek : k = ((k.toNat : Nat) : Int):=by omega
 have q : atI (ras.map V.ref) ((k.toNat : Nat) : Int) = some (.ref ra):=rZ (by rw [List.getElem?_map,h] <;> rfl)
 rw [<- ek] at q
 exact q
theorem fS {ns : LI} {i : Nat} {y : V} (h : (ns.map V.int)[i]? = some y) : ∃ z,y = V.int z /\ ns[i]? = some z:=by
 rw [List.getElem?_map] at h
 cases e : ns[i]? with
 | none => rw [e] at h; cases h
 | some z => rw [e] at h; exact ⟨z,(Option.some.inj h).symm,rfl⟩
theorem d7 (K : PySem.W.Frag) : PySem.W.kitOne K (.type "tuple") (.type "tuple") = some true:=by with_unfolding_all rfl
theorem AA {ns : LI} {c : Nat} : ud (ns.map V.int) none (some (c : Int)) = (ns.take c).map V.int:=by
 unfold ud
 rw [HT.sIx_none,HT.sIx_nat,lm_,List.drop_zero,Nat.sub_zero]
 rw [<- List.map_take]
 congr 1
 rcases Nat.le_total c ns.length with h | h
 ·rw [Nat.min_eq_left h]
 ·rw [Nat.min_eq_right h,List.take_length,List.take_of_length_le h]
def stepI (rows : LL) (h f : Int) : Int:=(rows.getD h.toNat []).getD f.toNat 0
def J6 (rows : LL) (row : LI) (h : Int) : Int:=row.foldl (stepI rows) h
structure RowsOk (many wide : Nat) (rows : LL) : Prop where
 len : rows.length = many
 row : ∀ r ∈ rows,r.length = wide
 val : ∀ r ∈ rows,∀ v ∈ r,0 <= v /\ v < (many : Int)
theorem kW {many wide : Nat} {rows : LL} {h f : Int} (R : RowsOk many wide rows) (h0 : 0 <= h) (h1 : h < many) (f0 : 0 <= f) (f1 : f < wide) : 0 <= stepI rows h f /\ stepI rows h f < many:=by
 have l1 : h.toNat < rows.length:=by rw [R.len]; omega
 have l2 : f.toNat < rows[h.toNat].length:=by rw [R.row _ (List.getElem_mem l1)]; omega
 unfold stepI
 rw [getD_at l1,getD_at l2]
 exact R.val _ (List.getElem_mem l1) _ (List.getElem_mem l2)
def RowsAt (H : Hp) : List Addr -> LL -> Prop:=Paired fun a r => H a = some (.tup (r.map V.int))
theorem RowsAt.length {H : Hp} {ras : List Addr} {rows : LL} (h : RowsAt H ras rows) : ras.length = rows.length:=Paired.length h
theorem RowsAt.get : ∀ {H : Hp} {ras : List Addr} {rows : LL} {i : Nat},RowsAt H ras rows -> (h : i < rows.length) -> ∃ ra,ras[i]? = some ra /\ H ra = some (.tup (rows[i].map V.int))
 | _,_,_,_,.nil,h => by simp at h
 | _,_,_,0,.cons (a:=a) r _,_ => ⟨a,rfl,r⟩
 | _,_,_,i + 1,.cons _ t,h => by
  obtain ⟨ra,h1,h2⟩:=RowsAt.get (i:=i) t (by simpa using h)
  exact ⟨ra,by simpa using h1,by simpa using h2⟩
theorem RowsAt.same {H H' : Hp} {ras : List Addr} {rows : LL} (h : RowsAt H ras rows) (s : ∀ b xs,H b = some (.tup xs) -> H' b = some (.tup xs)) : RowsAt H' ras rows:=Paired.mapP h fun _ _ q => s _ _ q
theorem RowsAt.snoc : ∀ {H : Hp} {ras : List Addr} {rows : LL} {a : Addr} {r : LI},RowsAt H ras rows -> H a = some (.tup (r.map V.int)) -> RowsAt H (ras ++ [a]) (rows ++ [r])
 | _,_,_,_,_,.nil,h => .cons h .nil
 | _,_,_,_,_,.cons q t,h => .cons q (RowsAt.snoc t h)
structure MachAt (H : Hp) (m r g : Addr) (wide : Nat) (rows : LL) (signs : LI) : Prop where
 tup : H m = some (.tup [.int wide,.ref r,.ref g])
 rows : ∃ ras,H r = some (.tup (ras.map V.ref)) /\ RowsAt H ras rows
 sgn : H g = some (.tup (signs.map V.int))
theorem MachAt.same {H H' : Hp} {m r g : Addr} {wide : Nat} {rows : LL} {signs : LI} (M : MachAt H m r g wide rows signs) (s : ∀ b xs,H b = some (.tup xs) -> H' b = some (.tup xs)) : MachAt H' m r g wide rows signs:=by
 obtain ⟨h1,⟨ras,h2,h3⟩,h4⟩:=M
 exact ⟨s _ _ h1,⟨ras,s _ _ h2,h3.same s⟩,s _ _ h4⟩
theorem hJ {H : Hp} {ras : List Addr} {rows : LL} {many wide : Nat} {h f : Int} (A : RowsAt H ras rows) (R : RowsOk many wide rows) (h0 : 0 <= h) (h1 : h < many) (f0 : 0 <= f) (f1 : f < wide) :
  ∃ (ra : Addr) (r : LI),atI (ras.map V.ref) h = some (.ref ra) /\ H ra = some (.tup (r.map V.int)) /\ atI (r.map V.int) f = some (.int (stepI rows h f)):=by
 have l1 : h.toNat < rows.length:=by rw [R.len]; omega
 have l2 : rows[h.toNat].length = wide:=R.row _ (List.getElem_mem l1)
 obtain ⟨ra,e1,e2⟩:=A.get l1
 refine ⟨ra,rows[h.toNat],xG h0 e1,e2,?_⟩
 rw [c7 f0 (by rw [l2]; exact f1)]
 unfold stepI
 rw [getD_at l1]
theorem AL {α : Type} (p : α -> Bool) : ∀ l : List α,l.length = (l.filter p).length + (l.filter fun x => !p x).length
 | [] => rfl
 | x :: l => by
  have ih:=AL p l
  cases e : p x
  ·rw [List.filter_cons_of_neg (by rw [e]; decide),List.filter_cons_of_pos (by rw [e]; rfl),List.length_cons,List.length_cons]
   omega
  ·rw [List.filter_cons_of_pos e,List.filter_cons_of_neg (by rw [e]; decide),List.length_cons,List.length_cons]
   omega
theorem eN : ∀ (many : Nat) {ks : LI},ks.Nodup -> (∀ q ∈ ks,0 <= q /\ q < (many : Int)) -> ks.length <= many
 | 0,ks,_,h => by
  cases ks with
  | nil => exact Nat.le_refl _
  | cons q r => have:=h q List.mem_cons_self; omega
 | many + 1,ks,nd,h => by
  have e : (ks.filter fun q => decide (q ≠ (many : Int))).length <= many:=eN many (nd.filter _) fun q hq => by
   have h1:=h q (List.mem_filter.mp hq).1
   have h2 : q ≠ (many : Int):=of_decide_eq_true (List.mem_filter.mp hq).2
   omega
  have c : (ks.filter fun q => !decide (q ≠ (many : Int))).length <= 1:=by
   have nd2:=nd.filter fun q => !decide (q ≠ (many : Int))
   have al : ∀ q ∈ ks.filter (fun q => !decide (q ≠ (many : Int))),q = (many : Int):=fun q hq => by
    have:=(List.mem_filter.mp hq).2
    simpa using this
   match hm : ks.filter (fun q => !decide (q ≠ (many : Int))),nd2,al with
   | [],_,_ => exact Nat.zero_le _
   | [x],_,_ => exact Nat.le_refl _
   | x :: y :: r,nd2,al =>
    have h1:=al x List.mem_cons_self
    have h2:=al y (List.mem_cons_of_mem _ List.mem_cons_self)
    rw [h1,h2] at nd2
    exact absurd List.mem_cons_self (List.nodup_cons.mp nd2).1
  have t:=AL (fun q => decide (q ≠ (many : Int))) ks
  omega
def kvT (ks : LI) : List (Key × V):=ks.map fun q => (Sum.inl q,V.bl true)
theorem B8 (ks : LI) (q : Int) : (gK (kvT ks) (Sum.inl q)).isSome = decide (q ∈ ks):=by
 induction ks with
 | nil => rfl
 | cons k r ih =>
  by_cases e : k = q
  ·subst e
   rw [show kvT (k :: r) = (Sum.inl k,V.bl true) :: kvT r from rfl,kX rfl]
   simp
  ·rw [show kvT (k :: r) = (Sum.inl k,V.bl true) :: kvT r from rfl,hX (fun z => e (Sum.inl.inj z)),ih]
   simp [Ne.symm e]
theorem B7 {ks : LI} {q : Int} (h : q ∉ ks) : putK (kvT ks) (Sum.inl q) (V.bl true) = kvT (ks ++ [q]):=by
 unfold putK
 rw [if_neg (by
  intro z
  obtain ⟨p,hp,e⟩:=List.any_eq_true.mp z
  obtain ⟨k,hk,rfl⟩:=List.mem_map.mp hp
  have:=Sum.inl.inj (of_decide_eq_true e)
  exact h (this ▸ hk))]
 unfold kvT
 rw [List.map_append]
 rfl
def kvL (es : List (Int × Addr)) : List (Key × V):=es.map fun e => (Sum.inl e.1,V.ref e.2)
theorem El : ∀ {es : List (Int × Addr)} {q : Int},q ∉ es.map Prod.fst -> gK (kvL es) (Sum.inl q) = none
 | [],_,_ => rfl
 | e :: es,q,h => by
  rw [show kvL (e :: es) = (Sum.inl e.1,V.ref e.2) :: kvL es from rfl,hX (fun z => h (by rw [<- Sum.inl.inj z]; exact List.mem_cons_self))]
  exact El fun z => h (List.mem_cons_of_mem _ z)
theorem B6 : ∀ {es : List (Int × Addr)} {q : Int} {a : Addr} {j : Nat},(es.map Prod.fst).Nodup -> es[j]? = some (q,a) -> gK (kvL es) (Sum.inl q) = some (V.ref a)
 | [],_,_,_,_,h => by cases h
 | e :: es,q,a,0,_,h => by
  cases h
  exact kX rfl
 | e :: es,q,a,j + 1,nd,h => by
  have nd' := List.nodup_cons.mp (show (e.1 :: es.map Prod.fst).Nodup from nd)
  have h' : es[j]? = some (q,a):=h
  rw [show kvL (e :: es) = (Sum.inl e.1,V.ref e.2) :: kvL es from rfl,hX (fun z => nd'.1 (by
   have : e.1 = q:=Sum.inl.inj z
   rw [this]
   exact List.mem_map.mpr ⟨(q,a),mq_ h',rfl⟩))]
  exact B6 nd'.2 h'
theorem Kx {es : List (Int × Addr)} {q : Int} {a : Addr} (h : q ∉ es.map Prod.fst) : putK (kvL es) (Sum.inl q) (V.ref a) = kvL (es ++ [(q,a)]):=by
 unfold putK
 rw [if_neg (by
  intro z
  obtain ⟨p,hp,e⟩:=List.any_eq_true.mp z
  obtain ⟨k,hk,rfl⟩:=List.mem_map.mp hp
  have:=Sum.inl.inj (of_decide_eq_true e)
  exact h (this ▸ List.mem_map.mpr ⟨k,hk,rfl⟩))]
 unfold kvL
 rw [List.map_append]
 rfl
theorem snoc_cases {α : Type} {xs : List α} {y z : α} {j : Nat} (h : (xs ++ [y])[j]? = some z) : xs[j]? = some z \/ (j = xs.length /\ z = y):=by
 rcases Nat.lt_or_ge j xs.length with q | q
 ·rw [List.getElem?_append_left q] at h
  exact .inl h
 ·rw [List.getElem?_append_right q] at h
  rcases Nat.lt_or_ge (j - xs.length) 1 with p | p
  ·have e : j = xs.length:=by omega
   subst e
   rw [Nat.sub_self] at h
   exact .inr ⟨rfl,(Option.some.inj h).symm⟩
  ·rw [List.getElem?_eq_none (by simpa using p)] at h
   cases h
section
variable {α : Type} [DecidableEq α]
def pN (ps : List α) (t : α) : List α:=if t ∈ ps then ps else ps ++ [t]
def rM (st : α -> Nat -> α) (p : α) (ps : List α) (k : Nat) : List α:=(List.range k).foldl (fun ps f => pN ps (st p f)) ps
def cj (st : α -> Nat -> α) (b : α) (wide : Nat) : Nat -> List α
 | 0 => [b]
 | n + 1 => match (cj st b wide n)[n]? with
  | some p => rM st p (cj st b wide n) wide
  | none => cj st b wide n
variable {st : α -> Nat -> α} {b p t : α} {wide n m j k : Nat} {ps : List α} {rows : LL} {r : LI}
theorem eP (st : α -> Nat -> α) (p : α) (ps : List α) (k : Nat) : rM st p ps (k + 1) = pN (rM st p ps k) (st p k):=by
 unfold rM
 rw [List.range_succ,List.foldl_append]
 rfl
theorem HZ : ps <+: pN ps t:=by
 unfold pN
 by_cases c : t ∈ ps
 ·rw [if_pos c]; exact List.prefix_refl _
 ·rw [if_neg c]; exact List.prefix_append ..
theorem HY : t ∈ pN ps t:=by
 unfold pN
 by_cases c : t ∈ ps
 ·rw [if_pos c]; exact c
 ·rw [if_neg c]; exact List.mem_append_right _ List.mem_cons_self
theorem DP (h : t ∈ ps) : pN ps t = ps:=if_pos h
theorem xC (h : t ∉ ps) : pN ps t = ps ++ [t]:=if_neg h
theorem Gb (h : ps.Nodup) : (pN ps t).Nodup:=by
 unfold pN
 by_cases c : t ∈ ps
 ·rw [if_pos c]; exact h
 ·rw [if_neg c]
  exact List.nodup_append.mpr ⟨h,List.nodup_cons.mpr ⟨by simp,List.nodup_nil⟩,fun a ha c' hc e => c (by rw [<- List.mem_singleton.mp hc,<- e]; exact ha)⟩
theorem uL (h : j <= k) : rM st p ps j <+: rM st p ps k:=by
 induction k with
 | zero => rw [Nat.le_zero.mp h]; exact List.prefix_refl _
 | succ k ih =>
  by_cases c : j = k + 1
  ·rw [c]; exact List.prefix_refl _
  ·rw [eP]; exact (ih (by omega)).trans HZ
theorem tG : ps <+: rM st p ps k:=uL (j:=0) (Nat.zero_le k)
theorem C4 (h : ps.Nodup) : (rM st p ps k).Nodup:=by
 induction k with
 | zero => exact h
 | succ k ih => rw [eP]; exact Gb ih
theorem gx (h : (cj st b wide n)[n]? = some p) : cj st b wide (n + 1) = rM st p (cj st b wide n) wide:=by
 show (match (cj st b wide n)[n]? with | some p => _ | none => _) = _
 rw [h]
theorem pF (h : (cj st b wide n).length <= n) : cj st b wide (n + 1) = cj st b wide n:=by
 show (match (cj st b wide n)[n]? with | some p => _ | none => _) = _
 rw [List.getElem?_eq_none h]
theorem pD (h : n <= m) : cj st b wide n <+: cj st b wide m:=by
 induction m with
 | zero => rw [Nat.le_zero.mp h]; exact List.prefix_refl _
 | succ m ih =>
  by_cases c : n = m + 1
  ·rw [c]; exact List.prefix_refl _
  ·refine (ih (by omega)).trans ?_
   cases e : (cj st b wide m)[m]? with
   | some p => rw [gx e]; exact tG
   | none => rw [pF (List.getElem?_eq_none_iff.mp e)]; exact List.prefix_refl _
theorem pE : ∀ n,(cj st b wide n).Nodup
 | 0 => List.nodup_cons.mpr ⟨by simp,List.nodup_nil⟩
 | n + 1 => by
  cases e : (cj st b wide n)[n]? with
  | some p => rw [gx e]; exact C4 (pE n)
  | none => rw [pF (List.getElem?_eq_none_iff.mp e)]; exact pE n
theorem tS (h : (cj st b wide n).length <= n) : ∀ k,cj st b wide (n + k) = cj st b wide n
 | 0 => rfl
 | k + 1 => by
  have ih:=tS h k
  have : (cj st b wide (n + k)).length <= n + k:=by rw [ih]; omega
  exact (pF this).trans ih
theorem JP {φ : α -> Prop} (h : ∀ u ∈ ps,φ u) (hs : ∀ f,f < k -> φ (st p f)) : ∀ u ∈ rM st p ps k,φ u:=by
 induction k with
 | zero => exact h
 | succ k ih =>
  rw [eP]
  intro u hu
  unfold pN at hu
  by_cases c : st p k ∈ rM st p ps k
  ·rw [if_pos c] at hu; exact ih (fun f hf => hs f (by omega)) u hu
  ·rw [if_neg c] at hu
   rcases ma_.mp hu with z | z
   ·exact ih (fun f hf => hs f (by omega)) u z
   ·rw [List.mem_singleton.mp z]; exact hs k (by omega)
theorem rV {φ : α -> Prop} (h0 : φ b) (hs : ∀ u f,φ u -> f < wide -> φ (st u f)) : ∀ n,∀ u ∈ cj st b wide n,φ u
 | 0 => fun u hu => by rw [List.mem_singleton.mp hu]; exact h0
 | n + 1 => by
  cases e : (cj st b wide n)[n]? with
  | some p =>
   rw [gx e]
   exact JP (rV h0 hs n) fun f hf => hs p f (rV h0 hs n p (mq_ e)) hf
  | none => rw [pF (List.getElem?_eq_none_iff.mp e)]; exact rV h0 hs n
theorem yK {xs ys : List α} {i : Nat} {x : α} (h : xs <+: ys) (e : xs[i]? = some x) : ys[i]? = some x:=by
 obtain ⟨zs,rfl⟩:=h
 rw [List.getElem?_append_left (gi_ e).1]
 exact e
theorem IZ {xs : List α} {i j : Nat} {x : α} (nd : xs.Nodup) (h : xs[i]? = some x) (h' : xs[j]? = some x) : i = j:=by
 obtain ⟨hi,ei⟩:=gi_ h
 obtain ⟨hj,ej⟩:=gi_ h'
 exact (List.getElem_inj nd).mp (ei.trans ej.symm)
structure GrA (st : α -> Nat -> α) (b : α) (wide : Nat) (ps : List α) (rows : LL) : Prop where
 pl : ps = cj st b wide rows.length
 le : rows.length <= ps.length
 row : ∀ (i : Nat) (r : LI),rows[i]? = some r -> r.length = wide
 to : ∀ (i : Nat) (r : LI) (f : Nat) (t : Int),rows[i]? = some r -> r[f]? = some t -> ∃ (n : Nat) (p : α),t = (n : Int) /\ ps[i]? = some p /\ ps[n]? = some (st p f)
structure GrR (st : α -> Nat -> α) (b : α) (wide : Nat) (ps : List α) (rows : LL) (p : α) (r : LI) : Prop where
 pl : ps = rM st p (cj st b wide rows.length) r.length
 at_ : (cj st b wide rows.length)[rows.length]? = some p
 row : ∀ (i : Nat) (r : LI),rows[i]? = some r -> r.length = wide
 to : ∀ (i : Nat) (r : LI) (f : Nat) (t : Int),rows[i]? = some r -> r[f]? = some t -> ∃ (n : Nat) (p : α),t = (n : Int) /\ ps[i]? = some p /\ ps[n]? = some (st p f)
 now : ∀ (f : Nat) (t : Int),r[f]? = some t -> ∃ n : Nat,t = (n : Int) /\ ps[n]? = some (st p f)
theorem GrA.nd (g : GrA st b wide ps rows) : ps.Nodup:=by rw [g.pl]; exact pE _
theorem GrR.nd (g : GrR st b wide ps rows p r) : ps.Nodup:=by rw [g.pl]; exact C4 (pE _)
theorem GrA.start (st : α -> Nat -> α) (b : α) (wide : Nat) : GrA st b wide [b] []:=
 ⟨rfl,Nat.zero_le _,(fun i r h => by cases h),fun i r f t h => by cases h⟩
theorem GrA.next (g : GrA st b wide ps rows) (h : ps[rows.length]? = some p) : GrR st b wide ps rows p []:=
 ⟨g.pl,by rw [<- g.pl]; exact h,g.row,g.to,fun f t h => by cases h⟩
theorem GrR.old (g : GrR st b wide ps rows p r) {n : Nat} (h : ps[n]? = some (st p r.length)) : GrR st b wide ps rows p (r ++ [(n : Int)]):=by
 refine ⟨?_,g.at_,g.row,g.to,fun f t hf => ?_⟩
 ·rw [List.length_append,List.length_singleton,eP,<- g.pl,DP (mq_ h)]
 ·rcases snoc_cases hf with z | ⟨rfl,rfl⟩
  ·exact g.now f t z
  ·exact ⟨n,rfl,h⟩
theorem GrR.new (g : GrR st b wide ps rows p r) (h : st p r.length ∉ ps) : GrR st b wide (ps ++ [st p r.length]) rows p (r ++ [(ps.length : Int)]):=by
 have up : ∀ (n : Nat) (x : α),ps[n]? = some x -> (ps ++ [st p r.length])[n]? = some x:=fun n x hx => yK (List.prefix_append ..) hx
 refine ⟨?_,g.at_,g.row,fun i r' f t h1 h2 => ?_,fun f t hf => ?_⟩
 ·rw [List.length_append,List.length_singleton,eP,<- g.pl,xC h]
 ·obtain ⟨n,q,e1,e2,e3⟩:=g.to i r' f t h1 h2
  exact ⟨n,q,e1,up _ _ e2,up _ _ e3⟩
 ·rcases snoc_cases hf with z | ⟨rfl,rfl⟩
  ·obtain ⟨n,e1,e2⟩:=g.now f t z
   exact ⟨n,e1,up _ _ e2⟩
  ·exact ⟨ps.length,rfl,by rw [List.getElem?_append_right (Nat.le_refl _),Nat.sub_self]; rfl⟩
theorem GrR.over (g : GrR st b wide ps rows p r) (hw : r.length < wide) (h : st p r.length ∉ ps) : ps.length < (cj st b wide (rows.length + 1)).length:=by
 rw [gx g.at_]
 have h1:=(uL (st:=st) (p:=p) (ps:=cj st b wide rows.length) (show r.length + 1 <= wide by omega)).length_le
 rw [eP,<- g.pl,xC h,List.length_append,List.length_singleton] at h1
 omega
theorem GrR.done (g : GrR st b wide ps rows p r) (hw : r.length = wide) : GrA st b wide ps (rows ++ [r]):=by
 have pa:=yK (tG (st:=st) (p:=p) (k:=r.length)) g.at_
 rw [<- g.pl] at pa
 have lt:=(gi_ pa).1
 refine ⟨?_,by rw [List.length_append,List.length_singleton]; omega,fun i r' h => ?_,fun i r' f t h1 h2 => ?_⟩
 ·have e:=g.pl
  rw [hw] at e
  rw [List.length_append,List.length_singleton,gx g.at_]
  exact e
 ·rcases snoc_cases h with z | ⟨_,rfl⟩
  ·exact g.row i r' z
  ·exact hw
 ·rcases snoc_cases h1 with z | ⟨rfl,rfl⟩
  ·exact g.to i r' f t z h2
  ·obtain ⟨n,e1,e2⟩:=g.now f t h2
   exact ⟨n,p,e1,pa,e2⟩
theorem GrA.ok (g : GrA st b wide ps rows) (h : rows.length = ps.length) : RowsOk rows.length wide rows:=by
 refine ⟨rfl,fun r hr => ?_,fun r hr v hv => ?_⟩
 ·obtain ⟨i,hi,e⟩:=List.getElem_of_mem hr
  exact g.row i r (by rw [List.getElem?_eq_getElem hi,e])
 ·obtain ⟨i,hi,e⟩:=List.getElem_of_mem hr
  obtain ⟨f,hf,ef⟩:=List.getElem_of_mem hv
  obtain ⟨n,p,e1,_,e3⟩:=g.to i r f v (by rw [List.getElem?_eq_getElem hi,e]) (by rw [List.getElem?_eq_getElem hf,ef])
  have:=(gi_ e3).1
  omega
theorem GrA.all (g : GrA st b wide ps rows) (h : rows.length = ps.length) (n : Nat) : (cj st b wide n).length <= ps.length:=by
 have l : (cj st b wide rows.length).length <= rows.length:=by rw [<- g.pl]; omega
 by_cases c : n <= rows.length
 ·have:=(pD (st:=st) (b:=b) (wide:=wide) c).length_le
  rw [<- g.pl] at this
  exact this
 ·obtain ⟨k,rfl⟩ : ∃ k,n = rows.length + k:=⟨n - rows.length,by omega⟩
  rw [tS l k,<- g.pl]
  exact Nat.le_refl _
theorem GrA.one {ps' : List α} {rows' : LL} (g : GrA st b wide ps rows) (h : rows.length = ps.length) (g' : GrA st b wide ps' rows') (h' : rows'.length = ps'.length) : ps = ps' /\ rows = rows' := by
 have e1:=g.all h rows'.length
 have e2:=g'.all h' rows.length
 rw [<- g'.pl] at e1
 rw [<- g.pl] at e2
 have el : rows.length = rows'.length:=by omega
 have ep : ps = ps' := by rw [g.pl,g'.pl,el]
 subst ep
 refine ⟨rfl,List.ext_getElem el fun i h1 h2 => ?_⟩
 have lr:=g.row i _ (List.getElem?_eq_getElem h1)
 have lr' := g'.row i _ (List.getElem?_eq_getElem h2)
 refine List.ext_getElem (by omega) fun f f1 f2 => ?_
 obtain ⟨n,p,a1,a2,a3⟩:=g.to i _ f _ (List.getElem?_eq_getElem h1) (List.getElem?_eq_getElem f1)
 obtain ⟨n',p',b1,b2,b3⟩:=g'.to i _ f _ (List.getElem?_eq_getElem h2) (List.getElem?_eq_getElem f2)
 rw [a2] at b2
 cases b2
 rw [a1,b1,IZ g.nd a3 b3]
end
def Dx (C : Addr) : Sp:=fun vs H Q _ => ∃ (x : Addr) (n : Int),vs = [.ref x,.int n] /\ H x = some (.ext (iG x C)) /\ (n.natAbs.log2 < 1920 /\ (Str.ofString (toString n)).length <= 1000) /\
 ∀ d,H d = none -> d ≠ x -> Q .non (upd (upd H x (.ext (ff x C d))) d (.xd [("most",.int n)]))
section
variable {P : Program} {w : World} {K : PySem.W.Frag} {mg : Str -> Option Value} {base : Heap} {f : Addr} {fd : FuncData} {dV : Value} {C F0 f0 : Addr}
theorem pq : FnScope ["self","most"] ["self","most"] (af bo):=⟨rfl,rfl,rfl,by decide +kernel,rfl,by decide +kernel,by decide +kernel⟩
theorem KG (F : FunD K "__init__" "TooGreat.__init__" bo dV f fd) (M : XInit K C f0) (na : PySem.W.findIn K (.ref C) "most" = some none) (bQ : mg "FigureError" = some (.ref F0)) (ga_FigureError : PySem.W.specialIn K (.ref F0) "__getattribute__" = some (some (.builtin "type.__getattribute__")))
  (rd_FigureError : PySem.W.readsIn K F0 (.type "type") = true) (fc_FigureError : PySem.W.findCls K (.ref F0) (.type "type") "__init__" = some (.val (.builtin "ValueError.__init__"))) : FnOk P w K mg base CX0 1 f fd ["self","most"] (Dx C):=by
 refine F.ok pq (fun vs H Q E h => ?_) (fun cdv A outer s H vs Q E hr h => ?_)
 ·obtain ⟨x,n,rfl,_⟩:=h
  rfl
 obtain ⟨x,n,rfl,hx,⟨l1,l2⟩,k⟩:=h
 refine ⟨_,(ak (iX (EI rfl bQ ga_FigureError rd_FigureError fc_FigureError (aa (pv 0) (aa (KR (EM Mr (EM (Mq (pv 1)) KY))) ag))))
   (ai (K3 (pv 0) (pv 1)))),?_⟩
 refine ⟨_,rfl,_,rfl,.inr ⟨n,rfl,l1,l2,fun z => ?_⟩⟩
 refine ⟨x,C,f0,_,rfl,hx,M.ex,?_⟩
 exact ⟨_,rfl,_,rfl,x,C,f0,rfl,hx,M,na,fun d hd ne => k d hd ne⟩
end
end My
set_option Elab.async false
set_option linter.all false
set_option maxRecDepth 100000
set_option maxHeartbeats 8000000
namespace My
open PySem L2
structure Wlk where
 κ : PKd
 st : LI -> Nat -> LI
 b : LI
 sg : LI -> Int
 wide : Nat
 inn : LI -> Prop
structure Wlk.Ok (W : Wlk) : Prop where
 hb : W.inn W.b
 hs : ∀ u f,W.inn u -> f < W.wide -> W.inn (W.st u f)
abbrev WO:=Hp -> Addr -> Wlk -> Prop
structure WOk (C : Addr) (O : WO) : Prop where
 ok : ∀ {H : Hp} {x : Addr} {W : Wlk},O H x W -> W.Ok
 same : ∀ {H H' : Hp} {x : Addr} {W : Wlk},O H x W -> Same H H' -> O H' x W
 ins : ∀ {H : Hp} {x : Addr} {W : Wlk},O H x W -> ∃ (dx : Addr) (fs : List (Str × V)),H x = some (.ins C dx fs) /\ fs.lookup ("begin" : Str) = none /\ fs.lookup ("step" : Str) = none /\ fs.lookup ("sign" : Str) = none
def N2 (O : WO) : Sp:=fun vs H Q _ => ∃ (x : Addr) (W : Wlk),vs = [.ref x] /\ O H x W /\ ∀ (v : V) (H' : Hp),Same H H' -> encP W.κ H' v W.b -> Q v H'
def N4 (O : WO) : Sp:=fun vs H Q _ => ∃ (x : Addr) (W : Wlk) (v : V) (u : LI) (f : Nat),vs = [.ref x,v,.int f] /\ O H x W /\ encP W.κ H v u /\ W.inn u /\ f < W.wide /\ ∀ (v' : V) (H' : Hp),Same H H' -> encP W.κ H' v' (W.st u f) -> Q v' H'
def N3 (O : WO) : Sp:=fun vs H Q _ => ∃ (x : Addr) (W : Wlk) (v : V) (u : LI),vs = [.ref x,v] /\ O H x W /\ encP W.κ H v u /\ W.inn u /\ ∀ H' : Hp,Same H H' -> Q (.int (W.sg u)) H'
def EncL (κ : PKd) (H : Hp) : List V -> LL -> Prop:=Paired fun v u => encP κ H v u
theorem EncL.same {κ : PKd} {H H' : Hp} {lv : List V} {us : LL} (h : EncL κ H lv us) (s : ∀ b xs,H b = some (.tup xs) -> H' b = some (.tup xs)) : EncL κ H' lv us:=Paired.mapP h fun _ _ q => q.same s
theorem EncL.get : ∀ {κ : PKd} {H : Hp} {lv : List V} {us : LL} {i : Nat},EncL κ H lv us -> (h : i < us.length) -> ∃ v,lv[i]? = some v /\ encP κ H v us[i]
 | _,_,_,_,_,.nil,h => by simp at h
 | _,_,_,_,0,.cons (a:=a) r _,_ => ⟨a,rfl,r⟩
 | _,_,_,_,i + 1,.cons _ t,h => by
  obtain ⟨ra,h1,h2⟩:=EncL.get (i:=i) t (by simpa using h)
  exact ⟨ra,by simpa using h1,by simpa using h2⟩
theorem EncL.snoc : ∀ {κ : PKd} {H : Hp} {lv : List V} {us : LL} {v : V} {u : LI},EncL κ H lv us -> encP κ H v u -> EncL κ H (lv ++ [v]) (us ++ [u])
 | _,_,_,_,_,_,.nil,h => .cons h .nil
 | _,_,_,_,_,_,.cons q t,h => .cons q (EncL.snoc t h)
theorem FW {n : Int} (h0 : 0 <= n) (h : n < 10 ^ 18) : n.natAbs.log2 < 1920 /\ (Str.ofString (toString n)).length <= 1000:=by
 have hn : n.natAbs < 10 ^ 18:=by
  have e : ((n.natAbs : Nat) : Int) = n:=Int.natAbs_of_nonneg h0
  have : ((n.natAbs : Nat) : Int) < ((10 ^ 18 : Nat) : Int):=by rw [e]; exact h
  exact Int.ofNat_lt.mp this
 constructor
 ·rcases Nat.eq_zero_or_pos n.natAbs with z | z
  ·rw [z]; decide
  ·exact (Nat.log2_lt (by omega)).mpr (Nat.lt_trans hn (by decide))
 ·have q:=int_text_length_le10 (a:=n) (k:=18) (by decide) hn
  rw [ofString_length]
  omega
def hU (CT : Addr) (O : WO) : Sp:=fun vs H Q E => ∃ (x : Addr) (wide most : Nat) (W : Wlk),vs = [.ref x,.int wide,.int most] /\ O H x W /\ wide <= W.wide /\ wide <= 1000 /\ (1 <= most /\ most <= 1000) /\
 (∀ (m' r' g' : Addr) (rows' ps : LL) (H' : Hp),Same H H' -> MachAt H' m' r' g' wide rows' (ps.map W.sg) -> GrA W.st W.b wide ps rows' -> rows'.length = ps.length -> ps.length <= most -> (∀ u ∈ ps,W.inn u) -> Q (.ref m') H') /\
 ∀ (d : Addr) (H' : Hp) (n : Nat),Same H H' -> H' d = some (.xd [("most",.int most)]) -> most < (cj W.st W.b wide n).length -> E (.ref CT) (some d) H'
section
variable {P : Program} {w : World} {K : PySem.W.Frag} {mg : Str -> Option Value} {base : Heap} {f : Addr} {fd : FuncData} {dV : Value} {C CT f0 : Addr} {O : WO}
theorem sc_grown : FnScope ["walk","wide","most","begin","numbers","rows","level","fresh","place","row","figure","there","number"] ["walk","wide","most"] (af ke):=⟨rfl,rfl,rfl,by decide +kernel,rfl,by decide +kernel,by decide +kernel⟩
theorem bk_grown_0 : BlkScope ["walk","wide","most","begin","numbers","rows","level","fresh","place","row","figure","there","number"] (af ke) ["place","walk"] [none,some 0] { kind:=ScopeKind.function,names:=[(".0",NameKind.local),("place",NameKind.local),("walk",NameKind.free)],isGenerator:=false,isCoroutine:=false,more:=[] }:=⟨rfl,by decide +kernel,by decide +kernel,by decide +kernel,by decide +kernel,rfl,by decide +kernel⟩
theorem kS (F : FunD K "grown" "grown" ke dV f fd) (wo : WOk C O) (HX : DefMe P w K mg base C "begin" 3 ["self"] (N2 O)) (Kl : DefMe P w K mg base C "step" 3 ["self","place","figure"] (N4 O)) (Kk : DefMe P w K mg base C "sign" 3 ["self","place"] (N3 O)) (bP : DefI P w K mg base "TooGreat" CT f0 1 ["self","most"] (Dx CT)) (aF : mg "range" = none) (aZ : mg "len" = none) (aS : mg "tuple" = none) : FnOk P w K mg base (CX2 P w) 4 f fd ["walk","wide","most"] (hU CT O):=by
 refine F.okX2 sc_grown (fun vs H Q E h => ?_) (fun cdv A outer s H vs Q E hr h => ?_)
 ·obtain ⟨x,wide,most,W,rfl,_⟩:=h
  rfl
 obtain ⟨x,wide,most,W,rfl,o0,hw,w1,⟨m0,m1⟩,k,kx⟩:=h
 have hu:=Eg hr
 obtain ⟨dx,fs,hx,lb,ls,lg⟩:=wo.ins o0
 refine xJ (aU (PSW.mk (aC (i:=3) sc_grown.nd rfl (Or.inl rfl) (CG HX hr (pv 0))))
   (aU (PSW.mk (aC (i:=4) sc_grown.nd rfl (Or.inl rfl) (EK hu (ER (pv 3) ah GG))))
   (aU (PSW.mk (aC (i:=5) sc_grown.nd rfl (Or.inl rfl) (mv ag)))
   (aU (PSW.mk (aC (i:=6) sc_grown.nd rfl (Or.inl rfl) (mv (aa (pv 3) ag))))
   (aU (PSW.mk (ES PassesOwn.leaving (ET (pv 6) (fun _ => rfl)) (ak (aC (i:=7) sc_grown.nd rfl (Or.inl rfl) (mv ag))
   (ak (cD PassesOwn.leaving rfl (CK (pv 6)) (aL (i:=8) sc_grown.nd rfl (Or.inl rfl)) (ak (aC (i:=9) sc_grown.nd rfl (Or.inl rfl) (mv ag))
   (ak (cD PassesOwn.leaving rfl (ba rfl aF (aa (pv 1) ag)) (aL (i:=10) sc_grown.nd rfl (Or.inl rfl)) (ak (aC (i:=11) sc_grown.nd rfl (Or.inl rfl) (vp Kl hr (pv 0) (aa (pv 8) (aa (pv 10) ag))))
   (ak (aC (i:=12) sc_grown.nd rfl (Or.inl rfl) (KQ hu (pv 4) (pv 11) ⟨rfl,rfl,rfl,rfl⟩))
   (ak (br (aO Ml (pv 12) uE (aQ _)) (ak (aC (i:=12) sc_grown.nd rfl (Or.inl rfl) (aK GZ (by rfl) aZ cA (aa (pv 4) ag)))
   (ak (br (aO Jw (pv 12) (pv 2) (aQ _)) (ai (HM bP hr rfl J1 (aa (pv 2) ag))) aP)
   (ak (xt hu (pv 4) (pv 11) (pv 12) rfl)
   (ai (iX (vo PySem.F.plainAttrs_list PySem.F.slot_list_append PySem.F.type_list_append dA (pv 7) (aa (pv 11) ag))))))) aP)
   (ai (iX (vo PySem.F.plainAttrs_list PySem.F.slot_list_append PySem.F.type_list_append dA (pv 9) (aa (pv 12) ag))))))))
   (ai (iX (vo PySem.F.plainAttrs_list PySem.F.slot_list_append PySem.F.type_list_append dA (pv 5) (aa (bS bf (by rfl) aS cq (aa (pv 9) ag)) ag)))))))
   (ai (aC (i:=6) sc_grown.nd rfl (Or.inl rfl) (pv 7)))))))
   (u9 (Lx (Lz (bA (PEW.mk (pv 1)) (bA (PEW.mk (bS bf (by rfl) aS cq (aa (pv 5) ag))) (bA (PEW.mk (bS bf (by rfl) aS cq (aa (mq rfl bk_grown_0 (Mu (pv 4)) (fun _ _ _ _ => (aL (i:=0) bk_grown_0.nd rfl (Or.inl rfl))) (fun _ _ _ _ => (vp Kk hr (pv 1) (aa (pv 0) ag)))) ag))) ze))))))))))) ?_
 refine ⟨_,rfl,x,dx,_,rfl,hx,lb,x,W,rfl,o0,fun bv H0 s0 he0 => ?_⟩
 refine Ee (P:=P) (w:=w) (κ:=W.κ) (y:=bv) (u:=W.b) (fun H' Q _ q => ⟨_,rfl,q⟩) (fun H' Q q => q) he0 fun D e H1 hD t1 hD1 => ?_
 have fD : H D = none:=s0.free hD
 have s1 : Same H H1:=s0.trans t1
 refine ⟨(by show 0 <= sizeLine; decide),fun RR hRR => ?_⟩
 have sR:=ao hRR (HO.lst [])
 have nDR : D ≠ RR:=aq hD1 hRR
 refine ⟨_,rfl,(by show 1 <= sizeLine; decide),fun L0 hL0 => ?_⟩
 obtain ⟨H2,eH2⟩ : ∃ H2,upd (upd H1 RR (HO.lst [])) L0 (HO.lst [bv]) = H2:=⟨_,rfl⟩
 have s12 : Same H1 H2:=by rw [<- eH2]; exact sR.trans (ao hL0 _)
 have hD2:=s12 _ _ hD1
 have hRR2 : H2 RR = some (.lst []):=by rw [<- eH2,aj (aq ae hL0),ae]
 have hL2 : H2 L0 = some (.lst [bv]):=by rw [<- eH2,ae]
 have s2:=s1.trans s12
 have fRR : H RR = none:=s1.free hRR
 have he2 : encP W.κ H2 bv W.b:=he0.same fun b xs z => s12 _ _ (t1 _ _ z)
 rw [eH2]
 try dsimp only [a7,cy,List.set]
 refine gn (t:=DI _ _) (fun σ' H' => ∃ (ps rows' : LL) (ras : List Addr) (v6 v7 v8 v9 v10 v11 v12 : OV),σ' = [some (.ref x),some (.int wide),some (.int most),some bv,some (.ref D),some (.ref RR),v6,v7,v8,v9,v10,v11,v12] /\ Same H H' /\ H' D = some (dctP P w W.κ e D ps) /\ PsOk W.κ ps /\ (∀ u ∈ ps,W.inn u) /\ ps.length <= most /\ H' RR = some (.lst (ras.map V.ref)) /\ RowsAt H' ras rows' /\ GrA W.st W.b wide ps rows' /\ rows'.length = ps.length) ?_ (fun D' nxt => ?_)
 rotate_left
 ·refine GR (fun mm σ' H' => ∃ (ps rows' us : LL) (ras : List Addr) (lv : List V) (L : Addr) (v7 v8 v9 v10 v11 v12 : OV),mm = most - rows'.length /\ σ' = [some (.ref x),some (.int wide),some (.int most),some bv,some (.ref D),some (.ref RR),some (.ref L),v7,v8,v9,v10,v11,v12] /\ Same H H' /\ H' D = some (dctP P w W.κ e D ps) /\ PsOk W.κ ps /\ (∀ u ∈ ps,W.inn u) /\ ps.length <= most /\ H' RR = some (.lst (ras.map V.ref)) /\ RowsAt H' ras rows' /\ GrA W.st W.b wide ps rows' /\ H' L = some (.lst lv) /\ RR ≠ L /\ EncL W.κ H' lv us /\ ps.drop rows'.length = us)
   ⟨_,[W.b],[],[W.b],[],[bv],L0,none,none,none,none,none,none,rfl,rfl,s2,hD2,PsOk.one he2,(fun u hu' => by rw [List.mem_singleton.mp hu']; exact (wo.ok o0).hb),m0,hRR2,.nil,GrA.start _ _ _,hL2,aq ae hL0,.cons he2 .nil,rfl⟩ ?_
  rintro mm σ' H3 ⟨ps,rows',us,ras,lv,L,v7,v8,v9,v10,v11,v12,rfl,rfl,s3,hD3,po3,in3,le3,hR3,A3,G,hL3,nRL,TA,du⟩
  by_cases en : lv = []
  ·subst en
   cases TA
   refine ⟨_,rfl,_,.inl ⟨_,qL_ hL3,rfl⟩,kD ?_⟩
   have e : ps.length <= rows'.length:=List.drop_eq_nil_iff.mp du
   exact nxt _ _ ⟨ps,rows',ras,_,v7,v8,v9,v10,v11,v12,rfl,s3,hD3,po3,in3,le3,hR3,A3,G,Nat.le_antisymm G.le e⟩
  refine ⟨_,rfl,_,.inl ⟨_,qL_ hL3,rfl⟩,?_⟩
  have ne : (!lv.isEmpty) = true:=by
   cases lv with
   | nil => exact absurd rfl en
   | cons x r => rfl
  rw [ne]
  have lv1 : 1 <= lv.length:=by
   cases lv with
   | nil => exact absurd rfl en
   | cons x r => exact Nat.succ_le_succ (Nat.zero_le _)
  have llu : lv.length = us.length:=Paired.length TA
  have pl : ps.length = rows'.length + us.length:=by
   have:=congrArg List.length du
   rw [List.length_drop] at this
   have:=G.le
   omega
  refine lY ⟨fun σ' H' => ∃ m',m' < most - rows'.length /\ ∃ (ps rows' us : LL) (ras : List Addr) (lv : List V) (L : Addr) (v7 v8 v9 v10 v11 v12 : OV),m' = most - rows'.length /\ σ' = [some (.ref x),some (.int wide),some (.int most),some bv,some (.ref D),some (.ref RR),some (.ref L),v7,v8,v9,v10,v11,v12] /\ Same H H' /\ H' D = some (dctP P w W.κ e D ps) /\ PsOk W.κ ps /\ (∀ u ∈ ps,W.inn u) /\ ps.length <= most /\ H' RR = some (.lst (ras.map V.ref)) /\ RowsAt H' ras rows' /\ GrA W.st W.b wide ps rows' /\ H' L = some (.lst lv) /\ RR ≠ L /\ EncL W.κ H' lv us /\ ps.drop rows'.length = us,fun _ _ h => h,?_⟩
  refine ⟨(by show 0 <= sizeLine; decide),fun Fr hFr => ?_⟩
  have sF:=ao hFr (HO.lst [])
  have fFr : H Fr = none:=s3.free hFr
  have nFD : D ≠ Fr:=aq hD3 hFr
  have nFR : RR ≠ Fr:=aq hR3 hFr
  have nFL : L ≠ Fr:=aq hL3 hFr
  obtain ⟨H4,eH4⟩ : ∃ H4,upd H3 Fr (HO.lst []) = H4:=⟨_,rfl⟩
  have s4 : Same H H4:=by rw [<- eH4]; exact s3.trans sF
  have t4 : Same H3 H4:=by rw [<- eH4]; exact sF
  have hF4 : H4 Fr = some (.lst []):=by rw [<- eH4,ae]
  rw [eH4]
  try dsimp only [a7,cy,List.set]
  refine ⟨_,rfl,L,rfl,⟨_,qL_ (t4 _ _ hL3)⟩,xY (K:=K) (xs:=lv) (fun i σ' H' => ∃ (ps' rows2 qs : LL) (ras' : List Addr) (fr : List V) (v8 v9 v10 v11 v12 : OV),
    σ' = [some (.ref x),some (.int wide),some (.int most),some bv,some (.ref D),some (.ref RR),some (.ref L),some (.ref Fr),v8,v9,v10,v11,v12] /\ Same H H' /\ H' D = some (dctP P w W.κ e D ps') /\ PsOk W.κ ps' /\ (∀ u ∈ ps',W.inn u) /\ ps'.length <= most /\ H' RR = some (.lst (ras'.map V.ref)) /\ RowsAt H' ras' rows2 /\ GrA W.st W.b wide ps' rows2 /\ rows2.length = rows'.length + i /\ ps' = ps ++ qs /\ H' Fr = some (.lst fr) /\ EncL W.κ H' fr qs /\ H' L = some (.lst lv) /\ EncL W.κ H' lv us)
   ⟨ps,rows',[],ras,[],v8,v9,v10,v11,v12,rfl,s4,t4 _ _ hD3,po3,in3,le3,t4 _ _ hR3,A3.same (fun b xs e => t4 _ _ e),G,rfl,(List.append_nil _).symm,hF4,.nil,t4 _ _ hL3,TA.same (fun b xs e => t4 _ _ e)⟩ (fun i σ' H' _ ⟨_,_,_,_,_,_,_,_,_,_,_,_,_,_,_,_,_,_,_,_,_,_,_,e,_⟩ => qL_ e) ?_ ?_⟩
  ·rintro i y σ' H5 hi ⟨ps',rows2,qs,ras',fr,v8,v9,v10,v11,v12,rfl,s5,hD5,po5,in5,le5,hR5,A5,G5,l5,rfl,hF5,TF5,hL5,TA5⟩
   have il : i < us.length:=by
    have:=(gi_ hi).1
    omega
   obtain ⟨pa,e1,e2⟩:=TA5.get il
   have ey : y = pa:=by rw [e1] at hi; exact (Option.some.inj hi).symm
   subst ey
   have atp : ps[rows2.length]? = some us[i]:=by
    have : (ps.drop rows'.length)[i]? = some us[i]:=by rw [du]; exact List.getElem?_eq_getElem il
    rw [List.getElem?_drop] at this
    rw [l5]; exact this
   have atp' : (ps ++ qs)[rows2.length]? = some us[i]:=by rw [List.getElem?_append_left (gi_ atp).1]; exact atp
   have iu : W.inn us[i]:=in5 _ (mq_ atp')
   refine ⟨(by show 0 <= sizeLine; decide),fun Ro hRo => ?_⟩
   have sO:=ao hRo (HO.lst [])
   have fRo : H Ro = none:=s5.free hRo
   have nOD : D ≠ Ro:=aq hD5 hRo
   have nOR : RR ≠ Ro:=aq hR5 hRo
   have nOF : Fr ≠ Ro:=aq hF5 hRo
   have nOL : L ≠ Ro:=aq hL5 hRo
   obtain ⟨H6,eH6⟩ : ∃ H6,upd H5 Ro (HO.lst []) = H6:=⟨_,rfl⟩
   have t6 : Same H5 H6:=by rw [<- eH6]; exact sO
   have hO6 : H6 Ro = some (.lst (([] : LI).map V.int)):=by rw [<- eH6,ae]; rfl
   rw [eH6]
   try dsimp only [a7,cy,List.set]
   refine gn (t:=FV _ _ _) (fun σ' H' => ∃ (ps' qs : LL) (fr : List V) (row : LI) (v10 v11 v12 : OV),
    σ' = [some (.ref x),some (.int wide),some (.int most),some bv,some (.ref D),some (.ref RR),some (.ref L),some (.ref Fr),some y,some (.ref Ro),v10,v11,v12] /\ Same H H' /\ H' D = some (dctP P w W.κ e D ps') /\ PsOk W.κ ps' /\ (∀ u ∈ ps',W.inn u) /\ ps'.length <= most /\ H' RR = some (.lst (ras'.map V.ref)) /\ RowsAt H' ras' rows2 /\ GrR W.st W.b wide ps' rows2 us[i] row /\ row.length = wide /\ H' Ro = some (.lst (row.map V.int)) /\ ps' = ps ++ qs /\ H' Fr = some (.lst fr) /\ EncL W.κ H' fr qs /\ H' L = some (.lst lv) /\ EncL W.κ H' lv us /\ encP W.κ H' y us[i]) ?_ (fun D1 nxt1 => ?_)
   rotate_left
   ·refine ⟨_,rfl,_,rfl,by omega,by omega,?_⟩
    refine cC (fun j σ' H' => ∃ (ps' qs : LL) (fr : List V) (row : LI) (v10 v11 v12 : OV),
     σ' = [some (.ref x),some (.int wide),some (.int most),some bv,some (.ref D),some (.ref RR),some (.ref L),some (.ref Fr),some y,some (.ref Ro),v10,v11,v12] /\ Same H H' /\ H' D = some (dctP P w W.κ e D ps') /\ PsOk W.κ ps' /\ (∀ u ∈ ps',W.inn u) /\ ps'.length <= most /\ H' RR = some (.lst (ras'.map V.ref)) /\ RowsAt H' ras' rows2 /\ GrR W.st W.b wide ps' rows2 us[i] row /\ row.length = j /\ H' Ro = some (.lst (row.map V.int)) /\ ps' = ps ++ qs /\ H' Fr = some (.lst fr) /\ EncL W.κ H' fr qs /\ H' L = some (.lst lv) /\ EncL W.κ H' lv us /\ encP W.κ H' y us[i])
     ⟨ps ++ qs,qs,fr,[],v10,v11,v12,rfl,s5.trans t6,t6 _ _ hD5,po5,in5,le5,t6 _ _ hR5,A5.same (fun b xs e => t6 _ _ e),G5.next atp',rfl,hO6,rfl,t6 _ _ hF5,TF5.same (fun b xs e => t6 _ _ e),t6 _ _ hL5,TA5.same (fun b xs e => t6 _ _ e),e2.same fun b xs e => t6 _ _ e⟩ ?_ ?_
    ·rintro j σ' H7 hj ⟨ps',qs,fr,row,v10,v11,v12,rfl,s7,hD7,po7,in7,le7,hR7,A7,G7,rfl,hO7,rfl,hF7,TF7,hL7,TA7,hpa7⟩
     rw [Int.toNat_natCast] at hj
     refine ⟨_,rfl,x,dx,_,rfl,s7 _ _ hx,ls,_,rfl,_,rfl,x,W,y,us[i],row.length,by rw [Int.zero_add]; rfl,wo.same o0 s7,hpa7,iu,by omega,fun th H8 s8 hTh => ?_⟩
     have hD8:=s8 _ _ hD7
     have hO8:=s8 _ _ hO7
     have hF8:=s8 _ _ hF7
     have iu' : W.inn (W.st us[i] row.length):=(wo.ok o0).hs _ _ iu (by omega)
     by_cases c : W.st us[i] row.length ∈ ps ++ qs
     ·obtain ⟨n,nl,en'⟩:=List.getElem_of_mem c
      have hn : (ps ++ qs)[n]? = some (W.st us[i] row.length):=by rw [List.getElem?_eq_getElem nl,en']
      refine Gu (P:=P) (w:=w) (fun Q q => ⟨_,rfl,q⟩) (fun Q q => ⟨_,rfl,q⟩) hD8 po7 hTh G7.nd (.inl ⟨n,hn,?_⟩)
      refine ⟨_,rfl,rfl,_,rfl,kD ?_⟩
      refine ⟨_,rfl,.inl ⟨rfl,_,qL_ hO8⟩,_,rfl,Ro,_,_,rfl,rfl,hO8,aR (by rw [lm_]; omega),?_⟩
      have oth : ∀ b u,b ≠ Ro -> H7 b = some u -> (upd H8 Ro (.lst (row.map V.int ++ [V.int (n : Int)]))) b = some u:=fun b u n e => by
       rw [aj n]; exact s8 _ _ e
      have up : ∀ b xs,H7 b = some (.tup xs) -> (upd H8 Ro (.lst (row.map V.int ++ [V.int (n : Int)]))) b = some (.tup xs):=fun b xs e => oth b _ (cb e hO7 (by intro z; cases z)) e
      exact ⟨_,qs,fr,row ++ [(n : Int)],_,_,_,rfl,aM (s7.trans s8) fRo,oth _ _ nOD hD7,po7,in7,le7,oth _ _ nOR hR7,A7.same up,G7.old hn,by rw [List.length_append]; rfl,by rw [ae,List.map_append]; rfl,rfl,oth _ _ nOF hF7,TF7.same up,oth _ _ nOL hL7,TA7.same up,hpa7.same up⟩
     ·obtain ⟨po8,kn⟩:=po7.snoc hTh c
      refine Gu (P:=P) (w:=w) (fun Q q => ⟨_,rfl,q⟩) (fun Q q => ⟨_,rfl,q⟩) hD8 po7 hTh G7.nd (.inr ⟨c,?_⟩)
      refine ⟨_,rfl,rfl,_,rfl,lY ?_⟩
      refine ⟨_,rfl,D,W.κ,e,ps ++ qs,rfl,kn,hD8,_,rfl,_,rfl,_,_,rfl,rfl,_,rfl,Hl (fun z => ?_) (fun z => ?_)⟩
      ·have z' := of_decide_eq_true z
       refine ⟨_,rfl,(by show 1 <= 8; decide),fun xa hxa => ⟨xa,(most : Int),rfl,ae,FW (by omega) (by omega),fun d hd nd => ⟨rfl,d,?_,?_⟩⟩⟩
       ·rw [aj (Ne.symm nd),ae]
       ·refine kx d _ (rows2.length + 1) ?_ ?_ ?_
        ·intro b u eb
         have e8:=(s7.trans s8) _ _ eb
         have nb : b ≠ xa:=aq e8 hxa
         have nbd : b ≠ d:=aq (a:=b) (show (upd H8 xa _) b = some u by rw [aj nb]; exact e8) hd
         rw [iL nb,aj nbd,aj nb,aj nb]
         exact e8
        ·rw [iL nd,ae]
        ·have:=G7.over hj c
         omega
      have z' : ¬ (most : Int) <= ((ps ++ qs).length : Int):=fun q => z (decide_eq_true q)
      have G8:=G7.new c
      refine ⟨_,rfl,_,rfl,_,rfl,D,_,rfl,DPut.num hD8 po7 hTh c (aR (by omega)),?_⟩
      obtain ⟨u',eu⟩ : ∃ u',W.st us[i] row.length = u' := ⟨_,rfl⟩
      rw [eu] at G8 hTh po8 iu' ⊢
      obtain ⟨H9,e9⟩ : ∃ H9,upd H8 D (dctP P w W.κ e D (ps ++ qs ++ [u'])) = H9:=⟨_,rfl⟩
      rw [e9]
      have o9 : ∀ b u,b ≠ D -> H8 b = some u -> H9 b = some u:=fun b u n e => by rw [<- e9,aj n]; exact e
      have hF9:=o9 _ _ (Ne.symm nFD) hF8
      have hO9:=o9 _ _ (Ne.symm nOD) hO8
      have lfr : fr.length = qs.length:=Paired.length TF7
      have lpq : (ps ++ qs).length = ps.length + qs.length:=List.length_append
      refine ⟨_,rfl,.inl ⟨rfl,_,qL_ hF9⟩,_,rfl,Fr,_,_,rfl,rfl,hF9,aR (by omega),?_⟩
      have hO10 : (upd H9 Fr (.lst (fr ++ [th]))) Ro = some (.lst (row.map V.int)):=by rw [aj (Ne.symm nOF)]; exact hO9
      refine ⟨_,rfl,.inl ⟨rfl,_,qL_ hO10⟩,_,rfl,Ro,_,_,rfl,rfl,hO10,aR (by rw [lm_]; omega),?_⟩
      obtain ⟨H11,e11⟩ : ∃ H11,upd (upd H9 Fr (.lst (fr ++ [th]))) Ro (.lst (row.map V.int ++ [V.int ((ps ++ qs).length : Int)])) = H11:=⟨_,rfl⟩
      have oth : ∀ b u,b ≠ Ro -> b ≠ Fr -> b ≠ D -> H8 b = some u -> H11 b = some u:=fun b u n1 n2 n3 e => by
       rw [<- e11,aj n1,aj n2]; exact o9 _ _ n3 e
      have up8 : ∀ b xs,H8 b = some (.tup xs) -> H11 b = some (.tup xs):=fun b xs e => oth b _ (cb e hO8 (by intro z; cases z)) (cb e hF8 (by intro z; cases z)) (cb e hD8 (fun z => dctP.ne_tup z.symm)) e
      have up : ∀ b xs,H7 b = some (.tup xs) -> H11 b = some (.tup xs):=fun b xs e => up8 _ _ (s8 _ _ e)
      have s11 : Same H H11:=by
       rw [<- e11,<- e9]
       exact aM (aM (aM (s7.trans s8) fD) fFr) fRo
      have hD11 : H11 D = some (dctP P w W.κ e D (ps ++ qs ++ [u'])):=by rw [<- e11,aj nOD,aj nFD,<- e9,ae]
      have hF11 : H11 Fr = some (.lst (fr ++ [th])):=by rw [<- e11,aj nOF,ae]
      have hO11 : H11 Ro = some (.lst ((row ++ [((ps ++ qs).length : Int)]).map V.int)):=by rw [<- e11,ae,List.map_append]; rfl
      have in11 : ∀ u ∈ ps ++ qs ++ [u'],W.inn u:=fun u hu' => by
       rcases ma_.mp hu' with q | q
       ·exact in7 _ q
       ·rw [List.mem_singleton.mp q]; exact iu'
      have goal : ∃ (ps' qs' : LL) (fr : List V) (row' : LI) (v10' v11 v12 : OV),[some (V.ref x),some (.int wide),some (.int most),some bv,some (.ref D),some (.ref RR),some (.ref L),some (.ref Fr),some y,some (.ref Ro),some (.int (0 + (row.length : Int))),some th,some (.int ((ps ++ qs).length : Int))] = [some (.ref x),some (.int wide),some (.int most),some bv,some (.ref D),some (.ref RR),some (.ref L),some (.ref Fr),some y,some (.ref Ro),v10',v11,v12] /\ Same H H11 /\ H11 D = some (dctP P w W.κ e D ps') /\ PsOk W.κ ps' /\ (∀ u ∈ ps',W.inn u) /\ ps'.length <= most /\ H11 RR = some (.lst (ras'.map V.ref)) /\ RowsAt H11 ras' rows2 /\ GrR W.st W.b wide ps' rows2 us[i] row' /\ row'.length = row.length + 1 /\ H11 Ro = some (.lst (row'.map V.int)) /\ ps' = ps ++ qs' /\ H11 Fr = some (.lst fr) /\ EncL W.κ H11 fr qs' /\ H11 L = some (.lst lv) /\ EncL W.κ H11 lv us /\ encP W.κ H11 y us[i]:=
       ⟨ps ++ qs ++ [u'],qs ++ [u'],fr ++ [th],row ++ [((ps ++ qs).length : Int)],_,_,_,rfl,s11,hD11,po8,in11,by rw [List.length_append,List.length_singleton]; omega,oth _ _ nOR nFR (Ne.symm nDR) (s8 _ _ hR7),A7.same up,G8,by rw [List.length_append]; rfl,hO11,List.append_assoc ..,hF11,EncL.snoc (TF7.same up) (hTh.same up8),oth _ _ nOL nFL (cb hL7 hD7 (fun z => dctP.ne_lst z.symm)) (s8 _ _ hL7),TA7.same up,hpa7.same up⟩
      rw [<- e11] at goal
      exact goal
    ·rintro σ' H7 ⟨ps',qs,fr,row,v10,v11,v12,rfl,s7,hD7,po7,in7,le7,hR7,A7,G7,lr7,hO7,rfl,hF7,TF7,hL7,TA7,hpa7⟩
     rw [Int.toNat_natCast] at lr7
     exact nxt1 _ _ ⟨_,qs,fr,row,v10,v11,v12,rfl,s7,hD7,po7,in7,le7,hR7,A7,G7,lr7,hO7,rfl,hF7,TF7,hL7,TA7,hpa7⟩
   ·rintro σ' H7 ⟨ps',qs,fr,row,v10,v11,v12,rfl,s7,hD7,po7,in7,le7,hR7,A7,G7,lr7,hO7,rfl,hF7,TF7,hL7,TA7,_⟩
    have lt7 : rows2.length < (ps ++ qs).length:=by
     have q1:=(gi_ G7.at_).1
     have q2:=(tG (st:=W.st) (p:=us[i]) (ps:=cj W.st W.b wide rows2.length) (k:=row.length)).length_le
     rw [<- G7.pl] at q2
     omega
    refine ⟨_,rfl,.inl ⟨rfl,_,qL_ hR7⟩,_,rfl,Ro,_,rfl,.inl ⟨qL_ hO7,fun t ht => ?_⟩⟩
    have nRt : RR ≠ t:=aq hR7 ht
    have s8:=ao ht (HO.tup (row.map V.int))
    have lra:=A7.length
    refine ⟨RR,_,_,rfl,rfl,s8 _ _ hR7,aR (by rw [lm_]; omega),?_⟩
    have up : ∀ b xs,H7 b = some (.tup xs) -> (upd (upd H7 t (.tup (row.map V.int))) RR (.lst (ras'.map V.ref ++ [V.ref t]))) b = some (.tup xs):=fun b xs e => by
     rw [aj (cb e hR7 (by intro z; cases z)),aj (aq e ht)]
     exact e
    have oth : ∀ b u,b ≠ RR -> H7 b = some u -> (upd (upd H7 t (.tup (row.map V.int))) RR (.lst (ras'.map V.ref ++ [V.ref t]))) b = some u:=fun b u n e => by
     rw [aj n]; exact s8 _ _ e
    refine ⟨ps ++ qs,rows2 ++ [row],qs,ras' ++ [t],fr,_,_,_,_,_,rfl,aM (s7.trans s8) fRR,oth _ _ nDR hD7,po7,in7,le7,by rw [ae,List.map_append]; rfl,RowsAt.snoc (A7.same up) (by rw [aj (Ne.symm nRt),ae]),G7.done lr7,by rw [List.length_append,List.length_singleton,l5]; rfl,rfl,oth _ _ (Ne.symm nFR) hF7,TF7.same up,oth _ _ (Ne.symm nRL) hL7,TA7.same up⟩
  ·rintro σ' H5 ⟨ps',rows2,qs,ras',fr,v8,v9,v10,v11,v12,rfl,s5,hD5,po5,in5,le5,hR5,A5,G5,l5,rfl,hF5,TF5,hL5,TA5⟩
   refine ⟨_,rfl,most - rows2.length,?_,ps ++ qs,rows2,qs,ras',fr,Fr,some (.ref Fr),v8,v9,v10,v11,v12,rfl,rfl,s5,hD5,po5,in5,le5,hR5,A5,G5,hF5,nFR,TF5,?_⟩
   ·omega
   ·rw [l5,llu,<- pl,List.drop_append_of_le_length (Nat.le_refl _),List.drop_length,List.nil_append]
 rintro σ' H3 ⟨ps,rows',ras,v6,v7,v8,v9,v10,v11,v12,rfl,s3,hD3,po3,in3,le3,hR3,A3,G,el⟩
 refine ⟨_,rfl,_,rfl,RR,_,rfl,.inl ⟨qL_ hR3,fun rt hrt => ?_⟩⟩
 have s4:=ao hrt (HO.tup (ras.map V.ref))
 refine Ip (P:=P) (w:=w) (κ:=W.κ) (e:=e) (D:=D) (ps:=ps) (fun Q q => ⟨_,rfl,q⟩) (s4 _ _ hD3) po3 fun Hf eHf upf ⟨od,hod⟩ => ?_
 have sf : Same H Hf:=fun b u eb => by
  have nb : b ≠ D:=aq eb fD
  rw [eHf b nb]
  exact (s3.trans s4) _ _ eb
 refine ⟨fun Dl i ys H' => Same Hf H' /\ ys = ((ps.take i).map W.sg).map V.int,fun Dl hDl => ⟨ao hDl _,rfl⟩,fun Dl i ys H' _ ⟨e',_⟩ => by rw [hod]; exact e' _ _ hod,?_,?_⟩
 ·rintro Dl i v u ys H4 Q' hDl hu' hv hy ⟨s5,rfl⟩ k'
  have il:=(gi_ hu').1
  refine ⟨_,rfl,x,dx,_,rfl,s5 _ _ (sf _ _ hx),lg,_,rfl,x,W,v,u,rfl,wo.same o0 (sf.trans s5),hv,in3 _ (mq_ hu'),fun H5 s6 => ?_⟩
  refine k' _ _ (s6 _ _ hy) (aR (by rw [lm_,lm_,List.length_take]; omega)) ⟨aM (s5.trans s6) hDl,?_⟩
  rw [List.take_add_one,hu',List.map_append,List.map_append]
  rfl
 ·rintro Dl ys H4 hDl hy ⟨s5,rfl⟩
  rw [List.take_length] at hy
  refine ⟨Dl,_,rfl,.inl ⟨qL_ hy,fun gt hgt => ?_⟩⟩
  have s6:=ao hgt (HO.tup ((ps.map W.sg).map V.int))
  refine ⟨(by show 3 <= sizeLine; decide),fun m' hm' => ?_⟩
  have s7:=ao hm' (HO.tup [V.int wide,V.ref rt,V.ref gt])
  have s67:=s6.trans s7
  exact k m' rt gt rows' ps _ (sf.trans (s5.trans s67)) ⟨ae,⟨ras,s67 _ _ (s5 _ _ (upf _ _ ae)),A3.same fun b xs e => s67 _ _ (s5 _ _ (upf _ _ (s4 _ _ e)))⟩,s7 _ _ ae⟩ G el le3 in3
end
def aY (x b lo : Int) : Int:=x % lo + lo * (x / (lo * b))
def hZ (x b lo p : Int) : Int:=x % lo + lo * p + lo * b * (x / lo)
def xw : Sp:=fun vs H Q _ => ∃ (b : Int) (n : Nat),vs = [.int b,.int n] /\ (0 <= b /\ b <= 1000) /\ n <= 1000 /\ Q (.int (b ^ n)) H
def uX : Sp:=fun vs H Q _ => ∃ x b lo : Int,vs = [.int x,.int b,.int lo] /\ (0 < b /\ b <= 1000) /\ (0 < lo /\ lo <= 100000) /\ Q (.int (aY x b lo)) H
def DF : Sp:=fun vs H Q _ => ∃ x b lo p : Int,vs = [.int x,.int b,.int lo,.int p] /\ (0 < b /\ b <= 1000) /\ (0 < lo /\ lo <= 100000) /\ Q (.int (hZ x b lo p)) H
def DC : Sp:=fun vs H Q _ => ∃ (b : Nat) (lo : Int),vs = [.int b,.int lo] /\ b <= 1000 /\ (0 < lo /\ lo <= 100000) /\ ∀ (l : Addr) (H' : Hp),Same H H' -> H l = none -> H' l = some (.lst (((List.range b).map fun i : Nat => lo * (i : Int)).map V.int)) -> Q (.ref l) H'
structure RCls (K : PySem.W.Frag) (C : Addr) : Prop where
 cl : Cls K C
 nr : NoAttr K C "rows"
 ns : NoAttr K C "signs"
structure RdAt (H : Hp) (C x r g : Addr) : Prop where
 ob : ∃ dx : Addr,H x = some (.ins C dx [("rows",.ref r),("signs",.ref g)])
theorem RdAt.same {H H' : Hp} {C x r g : Addr} (h : RdAt H C x r g) (s : Same H H') : RdAt H' C x r g:=by
 obtain ⟨dx,h1⟩:=h.ob
 exact ⟨dx,s _ _ h1⟩
def xx (C : Addr) : Sp:=fun vs H Q _ => ∃ (x dx m r g : Addr) (wide : Nat) (rows : LL) (signs : LI),vs = [.ref x,.ref m] /\ H x = some (.ins C dx []) /\ MachAt H m r g wide rows signs /\
 ∀ H' : Hp,(∀ c u,c ≠ x -> H c = some u -> H' c = some u) -> RdAt H' C x r g -> Q .non H'
def pA : Sp:=fun vs H Q _ => ∃ x : Addr,vs = [.ref x] /\ Q (.int 0) H
def tR (C : Addr) : Sp:=fun vs H Q _ => ∃ (x m r g : Addr) (q f : Int) (many wide : Nat) (rows : LL) (signs : LI),vs = [.ref x,.int q,.int f] /\ RdAt H C x r g /\ MachAt H m r g wide rows signs /\ RowsOk many wide rows /\ (0 <= q /\ q < (many : Int)) /\ (0 <= f /\ f < (wide : Int)) /\ Q (.int (stepI rows q f)) H
def tQ (C : Addr) : Sp:=fun vs H Q _ => ∃ (x m r g : Addr) (q : Int) (wide : Nat) (rows : LL) (signs : LI),vs = [.ref x,.int q] /\ RdAt H C x r g /\ MachAt H m r g wide rows signs /\ (0 <= q /\ q < (signs.length : Int)) /\ Q (.int (signs.getD q.toNat 0)) H
section
variable {P : Program} {w : World} {K : PySem.W.Frag} {mg : Str -> Option Value} {base : Heap} {f : Addr} {fd : FuncData} {dV : Value} {C : Addr}
theorem sc_power_of : FnScope ["base","times","power","turn"] ["base","times"] (af gJ):=⟨rfl,rfl,rfl,by decide +kernel,rfl,by decide +kernel,by decide +kernel⟩
theorem wZ : FnScope ["figure","base","below"] ["figure","base","below"] (af cJ):=⟨rfl,rfl,rfl,by decide +kernel,rfl,by decide +kernel,by decide +kernel⟩
theorem Dd : FnScope ["figure","base","below","part"] ["figure","base","below","part"] (af fb):=⟨rfl,rfl,rfl,by decide +kernel,rfl,by decide +kernel,by decide +kernel⟩
theorem yM : FnScope ["base","below"] ["base","below"] (af cx):=⟨rfl,rfl,rfl,by decide +kernel,rfl,by decide +kernel,by decide +kernel⟩
theorem bk_parts_alone_0 : BlkScope ["base","below"] (af cx) ["part","below"] [none,some 1] { kind:=ScopeKind.function,names:=[(".0",NameKind.local),("part",NameKind.local),("below",NameKind.free)],isGenerator:=false,isCoroutine:=false,more:=[] }:=⟨rfl,by decide +kernel,by decide +kernel,by decide +kernel,by decide +kernel,rfl,by decide +kernel⟩
theorem qg : FnScope ["self","machine"] ["self","machine"] (af bx):=⟨rfl,rfl,rfl,by decide +kernel,rfl,by decide +kernel,by decide +kernel⟩
theorem uO : FnScope ["self"] ["self"] (af cm):=⟨rfl,rfl,rfl,by decide +kernel,rfl,by decide +kernel,by decide +kernel⟩
theorem wY : FnScope ["self","place","figure"] ["self","place","figure"] (af cH):=⟨rfl,rfl,rfl,by decide +kernel,rfl,by decide +kernel,by decide +kernel⟩
theorem wX : FnScope ["self","place"] ["self","place"] (af cG):=⟨rfl,rfl,rfl,by decide +kernel,rfl,by decide +kernel,by decide +kernel⟩
theorem Jn (F : FunD K "power_of" "power_of" gJ dV f fd) (aF : mg "range" = none) : FnOk P w K mg base CX0 1 f fd ["base","times"] xw:=by
 refine F.ok sc_power_of (fun vs H Q E h => ?_) (fun cdv A outer s H vs Q E hr h => ?_)
 ·obtain ⟨b,n,rfl,_⟩:=h
  rfl
 obtain ⟨b,n,rfl,⟨b0,b1⟩,hn,q⟩:=h
 refine ⟨_,(ak (aC (i:=2) sc_power_of.nd rfl (Or.inl rfl) ah)
   (ak (cD PassesOwn.never rfl (ba rfl aF (aa (pv 1) ag)) (aL (i:=3) sc_power_of.nd rfl (Or.inl rfl)) (ai (aC (i:=2) sc_power_of.nd rfl (Or.inl rfl) (ay bK (pv 2) (pv 0)))))
   (ai (ax (pv 2))))),?_⟩
 refine ⟨_,rfl,(n : Int),rfl,by omega,by omega,cC (fun i σ' H' => ∃ v,σ' = [some (.int b),some (.int n),some (.int (b ^ i)),v] /\ H' = H) ⟨none,by rw [Int.pow_zero]; rfl,rfl⟩ ?_ ?_⟩
 ·rintro i σ' H' hi ⟨v,rfl,rfl⟩
  exact ⟨_,rfl,_,rfl,_,_,rfl,rfl,.inr ⟨by omega,by omega⟩,some (.int (0 + i)),by rw [Int.pow_succ]; rfl,rfl⟩
 ·rintro σ' H' ⟨v,rfl,rfl⟩
  rw [Int.toNat_natCast]
  exact ⟨_,rfl,q⟩
theorem FF (F : FunD K "without_part" "without_part" cJ dV f fd) : FnOk P w K mg base CX0 1 f fd ["figure","base","below"] uX:=by
 refine F.ok wZ (fun vs H Q E h => ?_) (fun cdv A outer s H vs Q E hr h => ?_)
 ·obtain ⟨x,b,lo,rfl,_⟩:=h
  rfl
 obtain ⟨x,b,lo,rfl,⟨b0,b1⟩,⟨l0,l1⟩,q⟩:=h
 have mm:=rb (a:=lo) (b:=b) (m:=100000) (n:=1000) (by omega) l1 (by omega) b1
 have m0 : 0 < lo * b:=Int.mul_pos l0 b0
 refine ⟨_,(ai (ax (ay bD (ay bu (pv 0) (pv 2)) (ay bK (pv 2) (ay mj (pv 0) (ay bK (pv 2) (pv 1))))))),?_⟩
 exact ⟨_,rfl,_,rfl,_,_,rfl,rfl,l0,_,rfl,_,rfl,_,rfl,_,rfl,_,_,rfl,rfl,.inl ⟨by omega,by omega⟩,_,_,rfl,rfl,⟨m0,by omega⟩,_,_,rfl,rfl,.inl ⟨by omega,by omega⟩,_,_,rfl,rfl,q⟩
theorem Jt (F : FunD K "with_part" "with_part" fb dV f fd) : FnOk P w K mg base CX0 1 f fd ["figure","base","below","part"] DF:=by
 refine F.ok Dd (fun vs H Q E h => ?_) (fun cdv A outer s H vs Q E hr h => ?_)
 ·obtain ⟨x,b,lo,p,rfl,_⟩:=h
  rfl
 obtain ⟨x,b,lo,p,rfl,⟨b0,b1⟩,⟨l0,l1⟩,q⟩:=h
 have mm:=rb (a:=lo) (b:=b) (m:=100000) (n:=1000) (by omega) l1 (by omega) b1
 refine ⟨_,(ai (ax (ay bD (ay bD (ay bu (pv 0) (pv 2)) (ay bK (pv 2) (pv 3))) (ay bK (ay bK (pv 2) (pv 1)) (ay mj (pv 0) (pv 2)))))),?_⟩
 exact ⟨_,rfl,_,rfl,_,_,rfl,rfl,l0,_,rfl,_,rfl,_,_,rfl,rfl,.inl ⟨by omega,by omega⟩,_,_,rfl,rfl,_,rfl,_,rfl,_,_,rfl,rfl,.inl ⟨by omega,by omega⟩,_,rfl,_,rfl,_,_,rfl,rfl,⟨l0,by omega⟩,_,_,rfl,rfl,.inl ⟨by omega,by omega⟩,_,_,rfl,rfl,q⟩
theorem Jl (F : FunD K "parts_alone" "parts_alone" cx dV f fd) (aF : mg "range" = none) : FnOk P w K mg base CX0 1 f fd ["base","below"] DC:=by
 refine F.ok yM (fun vs H Q E h => ?_) (fun cdv A outer s H vs Q E hr h => ?_)
 ·obtain ⟨b,lo,rfl,_⟩:=h
  rfl
 obtain ⟨b,lo,rfl,b1,⟨l0,l1⟩,k⟩:=h
 refine ⟨_,(ai (ax (mq rfl bk_parts_alone_0 (ba rfl aF (aa (pv 0) ag)) (fun _ _ _ _ => (aL (i:=0) bk_parts_alone_0.nd rfl (Or.inl rfl))) (fun _ _ _ _ => (ay bK (pv 1) (pv 0)))))),?_⟩
 refine ⟨_,rfl,(b : Int),rfl,by omega,by omega,?_⟩
 refine js (fun D i ys H' => Same H H' /\ ys = ((List.range i).map fun i : Nat => lo * (i : Int)).map V.int) (fun D hD => ⟨ao hD _,rfl⟩) ?_ ?_
 ·rintro D i ys H' Q' hD hi hy ⟨hs,rfl⟩ k'
  refine ⟨_,rfl,_,rfl,_,_,rfl,rfl,.inl ⟨by omega,by omega⟩,k' _ _ hy (aR (by simp; omega)) ⟨aM hs hD,?_⟩⟩
  rw [List.range_succ,List.map_append,List.map_append,Int.zero_add]
  rfl
 ·rintro D ys H' hD hy ⟨hs,rfl⟩
  rw [Int.toNat_natCast] at hy
  exact k D _ hs hD hy
theorem Jo (F : FunD K "__init__" "Reading.__init__" bx dV f fd) (rc : RCls K C) : FnOk P w K mg base CX0 1 f fd ["self","machine"] (xx C):=by
 refine F.ok qg (fun vs H Q E h => ?_) (fun cdv A outer s H vs Q E hr h => ?_)
 ·obtain ⟨x,dx,m,r,g,wide,rows,signs,rfl,_⟩:=h
  rfl
 obtain ⟨x,dx,m,r,g,wide,rows,signs,rfl,hx,M,k⟩:=h
 refine ⟨_,(ak (iC (pv 0) (aH az (pv 1) ah (fun _ _ => rfl)) rfl)
   (ai (iC (pv 0) (aH az (pv 1) ah (fun _ _ => rfl)) rfl))),?_⟩
 have nmx : m ≠ x:=cb M.tup hx (by intro z; cases z)
 refine ⟨_,rfl,m,_,_,_,rfl,rfl,qT_ M.tup,rfl,_,rfl,x,C,dx,[],rfl,hx,rc.cl,rc.nr,by decide,?_⟩
 refine ⟨_,rfl,m,_,_,_,rfl,rfl,qT_ (by rw [aj nmx]; exact M.tup),rfl,_,rfl,x,C,dx,_,rfl,ae,rc.cl,rc.ns,by show 1 < 1000; decide,?_⟩
 refine k _ (fun c u hc e => ?_) ⟨dx,ae⟩
 rw [aj hc,aj hc]
 exact e
theorem HD (F : FunD K "begin" "Reading.begin" cm dV f fd) : FnOk P w K mg base CX0 1 f fd ["self"] pA:=by
 refine F.ok uO (fun vs H Q E h => ?_) (fun cdv A outer s H vs Q E hr h => ?_)
 ·obtain ⟨x,rfl,_⟩:=h
  rfl
 obtain ⟨x,rfl,q⟩:=h
 exact ⟨_,(ai (ax ah)),q⟩
theorem Jq (F : FunD K "step" "Reading.step" cH dV f fd) (rc : RCls K C) : FnOk P w K mg base CX0 1 f fd ["self","place","figure"] (tR C):=by
 refine F.ok wY (fun vs H Q E h => ?_) (fun cdv A outer s H vs Q E hr h => ?_)
 ·obtain ⟨x,m,r,g,q,fg,many,wide,rows,signs,rfl,_⟩:=h
  rfl
 obtain ⟨x,m,r,g,q,fg,many,wide,rows,signs,rfl,⟨dx,hx⟩,M,R,⟨q0,q1⟩,⟨f0,f1⟩,k⟩:=h
 obtain ⟨hm,⟨ras,hr',hA⟩,hg⟩:=M
 obtain ⟨ra,rr,e1,e2,e3⟩:=hJ hA R q0 q1 f0 f1
 refine ⟨_,(ai (ax (aH az (aH az (cO (pv 0) rfl) (pv 1) (fun _ _ => rfl)) (pv 2) (fun _ _ => rfl)))),?_⟩
 exact ⟨_,rfl,x,C,dx,_,_,rfl,hx,rc.cl,rc.nr,rfl,_,rfl,r,_,_,_,rfl,rfl,qT_ hr',e1,_,rfl,ra,_,_,_,rfl,rfl,qT_ e2,e3,k⟩
theorem Jp (F : FunD K "sign" "Reading.sign" cG dV f fd) (rc : RCls K C) : FnOk P w K mg base CX0 1 f fd ["self","place"] (tQ C):=by
 refine F.ok wX (fun vs H Q E h => ?_) (fun cdv A outer s H vs Q E hr h => ?_)
 ·obtain ⟨x,m,r,g,q,wide,rows,signs,rfl,_⟩:=h
  rfl
 obtain ⟨x,m,r,g,q,wide,rows,signs,rfl,⟨dx,hx⟩,M,⟨q0,q1⟩,k⟩:=h
 refine ⟨_,(ai (ax (aH az (cO (pv 0) rfl) (pv 1) (fun _ _ => rfl)))),?_⟩
 exact ⟨_,rfl,x,C,dx,_,_,rfl,hx,rc.cl,rc.ns,rfl,_,rfl,g,_,_,_,rfl,rfl,qT_ M.sgn,c7 q0 q1,k⟩
end
structure NCls (K : PySem.W.Frag) (C : Addr) : Prop where
 cl : Cls K C
 nw : NoAttr K C "walk"
 nb : NoAttr K C "base"
 nl : NoAttr K C "below"
structure NwAt (H : Hp) (C x wk : Addr) (b lo : Int) : Prop where
 ob : ∃ dx : Addr,H x = some (.ins C dx [("walk",.ref wk),("base",.int b),("below",.int lo)])
theorem NwAt.same {H H' : Hp} {C x wk : Addr} {b lo : Int} (h : NwAt H C x wk b lo) (s : Same H H') : NwAt H' C x wk b lo:=by
 obtain ⟨dx,h1⟩:=h.ob
 exact ⟨dx,s _ _ h1⟩
def Dy (C : Addr) : Sp:=fun vs H Q _ => ∃ (x dx wk : Addr) (b : Int) (n : Nat),vs = [.ref x,.ref wk,.int b,.int n] /\ H x = some (.ins C dx []) /\ (0 <= b /\ b <= 1000) /\ n <= 1000 /\
 ∀ H' : Hp,(∀ c u,c ≠ x -> H c = some u -> H' c = some u) -> NwAt H' C x wk b (b ^ n) -> Q .non H'
def uW (C CR : Addr) : Sp:=fun vs H Q _ => ∃ (x wk r g : Addr) (b lo : Int),vs = [.ref x] /\ NwAt H C x wk b lo /\ RdAt H CR wk r g /\ Q (.int 0) H
def yW (C CR : Addr) : Sp:=fun vs H Q _ => ∃ (x wk m r g : Addr) (b lo q f : Int) (many wide : Nat) (rows : LL) (signs : LI),vs = [.ref x,.int q,.int f] /\ NwAt H C x wk b lo /\ RdAt H CR wk r g /\ MachAt H m r g wide rows signs /\ RowsOk many wide rows /\ (0 <= q /\ q < (many : Int)) /\ (0 < b /\ b <= 1000) /\ (0 < lo /\ lo <= 100000) /\ (0 <= aY f b lo /\ aY f b lo < (wide : Int)) /\ Q (.int (stepI rows q (aY f b lo))) H
def yV (C CR : Addr) : Sp:=fun vs H Q _ => ∃ (x wk m r g : Addr) (b lo q : Int) (wide : Nat) (rows : LL) (signs : LI),vs = [.ref x,.int q] /\ NwAt H C x wk b lo /\ RdAt H CR wk r g /\ MachAt H m r g wide rows signs /\ (0 <= q /\ q < (signs.length : Int)) /\ Q (.int (signs.getD q.toNat 0)) H
section
variable {P : Program} {w : World} {K : PySem.W.Frag} {mg : Str -> Option Value} {base : Heap} {f : Addr} {fd : FuncData} {dV : Value} {C CR : Addr}
theorem mS : FnScope ["self","walk","base","at"] ["self","walk","base","at"] (af bc):=⟨rfl,rfl,rfl,by decide +kernel,rfl,by decide +kernel,by decide +kernel⟩
theorem rN : FnScope ["self"] ["self"] (af bF):=⟨rfl,rfl,rfl,by decide +kernel,rfl,by decide +kernel,by decide +kernel⟩
theorem tK : FnScope ["self","place","figure"] ["self","place","figure"] (af bW):=⟨rfl,rfl,rfl,by decide +kernel,rfl,by decide +kernel,by decide +kernel⟩
theorem tJ : FnScope ["self","place"] ["self","place"] (af bV):=⟨rfl,rfl,rfl,by decide +kernel,rfl,by decide +kernel,by decide +kernel⟩
theorem Jk (F : FunD K "__init__" "Narrowing.__init__" bc dV f fd) (nc : NCls K C) (gq : DefOk P w K mg base "power_of" 1 ["base","times"] [] xw) : FnOk P w K mg base CX0 2 f fd ["self","walk","base","at"] (Dy C):=by
 refine F.ok mS (fun vs H Q E h => ?_) (fun cdv A outer s H vs Q E hr h => ?_)
 ·obtain ⟨x,dx,wk,b,n,rfl,_⟩:=h
  rfl
 obtain ⟨x,dx,wk,b,n,rfl,hx,hb,hn,k⟩:=h
 refine ⟨_,(ak (iC (pv 0) (pv 1) rfl)
   (ak (iC (pv 0) (pv 2) rfl)
   (ai (iC (pv 0) (aV gq hr (aa (pv 2) (aa (pv 3) ag))) rfl)))),?_⟩
 refine ⟨_,rfl,_,rfl,x,C,dx,[],rfl,hx,nc.cl,nc.nw,by decide,?_⟩
 refine ⟨_,rfl,_,rfl,x,C,dx,_,rfl,ae,nc.cl,nc.nb,by show 1 < 1000; decide,?_⟩
 refine ⟨_,rfl,_,rfl,b,n,rfl,hb,hn,_,rfl,x,C,dx,_,rfl,ae,nc.cl,nc.nl,by show 2 < 1000; decide,?_⟩
 refine k _ (fun c u hc e => ?_) ⟨dx,ae⟩
 rw [aj hc,aj hc,aj hc]
 exact e
theorem FD (F : FunD K "begin" "Narrowing.begin" bF dV f fd) (nc : NCls K C) (GER_begin : DefMe P w K mg base CR "begin" 1 ["self"] pA) : FnOk P w K mg base CX0 2 f fd ["self"] (uW C CR):=by
 refine F.ok rN (fun vs H Q E h => ?_) (fun cdv A outer s H vs Q E hr h => ?_)
 ·obtain ⟨x,wk,r,g,b,lo,rfl,_⟩:=h
  rfl
 obtain ⟨x,wk,r,g,b,lo,rfl,⟨dx,hx⟩,⟨dw,hw⟩,q⟩:=h
 refine ⟨_,(ai (ax (CG GER_begin hr (cO (pv 0) rfl)))),?_⟩
 exact ⟨_,rfl,x,C,dx,_,_,rfl,hx,nc.cl,nc.nw,rfl,wk,dw,_,rfl,hw,rfl,wk,rfl,q⟩
theorem HA (F : FunD K "step" "Narrowing.step" bW dV f fd) (nc : NCls K C) (GER_step : DefMe P w K mg base CR "step" 1 ["self","place","figure"] (tR CR)) (iZ : DefOk P w K mg base "without_part" 1 ["figure","base","below"] [] uX) : FnOk P w K mg base CX0 2 f fd ["self","place","figure"] (yW C CR):=by
 refine F.ok tK (fun vs H Q E h => ?_) (fun cdv A outer s H vs Q E hr h => ?_)
 ·obtain ⟨x,wk,m,r,g,b,lo,q,fg,many,wide,rows,signs,rfl,_⟩:=h
  rfl
 obtain ⟨x,wk,m,r,g,b,lo,q,fg,many,wide,rows,signs,rfl,⟨dx,hx⟩,RD,M,R,hq,hb,hlo,hf,k⟩:=h
 obtain ⟨dw,hw⟩:=RD.ob
 refine ⟨_,(ai (ax (vp GER_step hr (cO (pv 0) rfl) (aa (pv 1) (aa (aV iZ hr (aa (pv 2) (aa (cO (pv 0) rfl) (aa (cO (pv 0) rfl) ag)))) ag))))),?_⟩
 refine ⟨_,rfl,x,C,dx,_,_,rfl,hx,nc.cl,nc.nw,rfl,wk,dw,_,rfl,hw,rfl,_,rfl,_,rfl,_,rfl,x,C,dx,_,_,rfl,hx,nc.cl,nc.nb,rfl,_,rfl,x,C,dx,_,_,rfl,hx,nc.cl,nc.nl,rfl,fg,b,lo,rfl,hb,hlo,?_⟩
 exact ⟨wk,m,r,g,q,_,many,wide,rows,signs,rfl,RD,M,R,hq,hf,k⟩
theorem Hz (F : FunD K "sign" "Narrowing.sign" bV dV f fd) (nc : NCls K C) (GER_sign : DefMe P w K mg base CR "sign" 1 ["self","place"] (tQ CR)) : FnOk P w K mg base CX0 2 f fd ["self","place"] (yV C CR):=by
 refine F.ok tJ (fun vs H Q E h => ?_) (fun cdv A outer s H vs Q E hr h => ?_)
 ·obtain ⟨x,wk,m,r,g,b,lo,q,wide,rows,signs,rfl,_⟩:=h
  rfl
 obtain ⟨x,wk,m,r,g,b,lo,q,wide,rows,signs,rfl,⟨dx,hx⟩,RD,M,hq,k⟩:=h
 obtain ⟨dw,hw⟩:=RD.ob
 refine ⟨_,(ai (ax (vp GER_sign hr (cO (pv 0) rfl) (aa (pv 1) ag)))),?_⟩
 exact ⟨_,rfl,x,C,dx,_,_,rfl,hx,nc.cl,nc.nw,rfl,wk,dw,_,rfl,hw,rfl,_,rfl,wk,m,r,g,q,wide,rows,signs,rfl,RD,M,hq,k⟩
end
def MC (f : Addr) (sp : Sp) (tf : TE) (t : TA) : TE:=fun σ H Q => tf σ H fun v H1 => v = .ref f /\ t σ H1 fun vs H2 => sp (vs ++ []) H2 Q E0
theorem JB {X : Cx} {x g : Str} {f : Addr} {j k : Nat} {ps : List Str} {sp : Sp} {p pos : Pos} {e : Expr} {es : List Expr} {t : TA} {tf : TE} (G : DefOk X.prog X.w X.K X.mg X.base g k ps [] sp) (hm : X.mg g = some (.ref f)) (hr : Room j X.A) (hf : PE X (.Name x p) tf) (ha : PA X (e :: es) t) (hkj : k <= j:=by decide)
  (he : starEach (e :: es) X.env = (false,eval e X.env) :: starEach es X.env:=by rfl) (hpl : (backTo pos (starEach es X.env)).any (·.1) = false:=by rfl) : PE X (.Call (.Name x p) (e :: es) [] pos) (MC f sp tf t):=by
 obtain ⟨f',fd,ds,hm',hk,hd,hb,F⟩:=G.ex
 rw [hm] at hm'
 cases hm'
 cases hd
 intro pins s σ H Q I h
 refine wpAny_Call_Name_kw (thn (hf pins s σ H _ I h) fun u s1 ⟨v,H1,I1,r,ev,q⟩ => ?_)
 subst ev
 obtain rfl : u = Value.ref f:=r
 refine PySem.W.callWith_K (h₀:=X.base) I.ok.mod.kin hk (thn (ha pos pins s1 σ H1 _ I1 q) fun us s2 ⟨vs,H2,I2,r2,q2⟩ => ⟨I2.kIn,?_⟩) he hpl
 exact C5 F (hr.mono hkj) hb .nil (fun _ _ _ _ _ _ _ h => h.elim) I2 r2 q2
def yU : Sp:=fun vs H Q _ => ∃ x : Addr,vs = [.ref x] /\ Q .non H
def Dr : Sp:=fun vs H Q _ => ∃ (x : Addr) (p f : V),vs = [.ref x,p,f] /\ Q .non H
def Dq : Sp:=fun vs H Q _ => ∃ (x : Addr) (p : V),vs = [.ref x,p] /\ Q (.int 0) H
structure PCls (K : PySem.W.Frag) (C : Addr) : Prop where
 cl : Cls K C
 n1 : NoAttr K C "one"
 n2 : NoAttr K C "other"
 n3 : NoAttr K C "rule"
def Dz (C : Addr) : Sp:=fun vs H Q _ => ∃ (x dx o1 o2 fn : Addr),vs = [.ref x,.ref o1,.ref o2,.ref fn] /\ H x = some (.ins C dx []) /\
 ∀ H' : Hp,(∀ c u,c ≠ x -> H c = some u -> H' c = some u) -> H' x = some (.ins C dx [("one",.ref o1),("other",.ref o2),("rule",.ref fn)]) -> Q .non H'
structure PrAt (H : Hp) (C CR x r1 g1 r2 g2 fn : Addr) : Prop where
 ob : ∃ dx o1 o2 : Addr,H x = some (.ins C dx [("one",.ref o1),("other",.ref o2),("rule",.ref fn)]) /\ RdAt H CR o1 r1 g1 /\ RdAt H CR o2 r2 g2
theorem PrAt.same {H H' : Hp} {C CR x r1 g1 r2 g2 fn : Addr} (h : PrAt H C CR x r1 g1 r2 g2 fn) (s : Same H H') : PrAt H' C CR x r1 g1 r2 g2 fn:=by
 obtain ⟨dx,o1,o2,h1,h2,h3⟩:=h.ob
 exact ⟨dx,o1,o2,s _ _ h1,h2.same s,h3.same s⟩
def JQ (a b : Int) : Int:=(5 * a + 3 * b + 1) % 1000000
def DD : Sp:=fun vs H Q _ => ∃ a b : Int,vs = [.int a,.int b] /\ Q (.int (JQ a b)) H
def yX (C CR : Addr) : Sp:=fun vs H Q _ => ∃ x r1 g1 r2 g2 fn : Addr,vs = [.ref x] /\ PrAt H C CR x r1 g1 r2 g2 fn /\ ∀ (T : Addr) (H' : Hp),Same H H' -> H' T = some (.tup [.int 0,.int 0]) -> Q (.ref T) H'
def DB (C CR : Addr) : Sp:=fun vs H Q _ => ∃ (x r1 g1 r2 g2 fn m1 m2 t : Addr) (p q f : Int) (many1 many2 wide : Nat) (rows1 rows2 : LL) (signs1 signs2 : LI),vs = [.ref x,.ref t,.int f] /\ PrAt H C CR x r1 g1 r2 g2 fn /\ MachAt H m1 r1 g1 wide rows1 signs1 /\ RowsOk many1 wide rows1 /\ MachAt H m2 r2 g2 wide rows2 signs2 /\ RowsOk many2 wide rows2 /\
 H t = some (.tup [.int p,.int q]) /\ (0 <= p /\ p < (many1 : Int)) /\ (0 <= q /\ q < (many2 : Int)) /\ (0 <= f /\ f < (wide : Int)) /\ ∀ (T : Addr) (H' : Hp),Same H H' -> H' T = some (.tup [.int (stepI rows1 p f),.int (stepI rows2 q f)]) -> Q (.ref T) H'
def DA (C CR fn : Addr) : Sp:=fun vs H Q _ => ∃ (x r1 g1 r2 g2 m1 m2 t : Addr) (p q : Int) (wide : Nat) (rows1 rows2 : LL) (signs1 signs2 : LI),vs = [.ref x,.ref t] /\ PrAt H C CR x r1 g1 r2 g2 fn /\ MachAt H m1 r1 g1 wide rows1 signs1 /\ MachAt H m2 r2 g2 wide rows2 signs2 /\
 H t = some (.tup [.int p,.int q]) /\ (0 <= p /\ p < (signs1.length : Int)) /\ (0 <= q /\ q < (signs2.length : Int)) /\ Q (.int (JQ (signs1.getD p.toNat 0) (signs2.getD q.toNat 0))) H
section
variable {P : Program} {w : World} {K : PySem.W.Frag} {mg : Str -> Option Value} {base : Heap} {f : Addr} {fd : FuncData} {dV : Value} {C CR fn : Addr}
theorem Ag : FnScope ["self"] ["self"] (af dB):=⟨rfl,rfl,rfl,by decide +kernel,rfl,by decide +kernel,by decide +kernel⟩
theorem C7 : FnScope ["self","place","figure"] ["self","place","figure"] (af eS):=⟨rfl,rfl,rfl,by decide +kernel,rfl,by decide +kernel,by decide +kernel⟩
theorem C6 : FnScope ["self","place"] ["self","place"] (af eR):=⟨rfl,rfl,rfl,by decide +kernel,rfl,by decide +kernel,by decide +kernel⟩
theorem qf : FnScope ["self","one","other","rule"] ["self","one","other","rule"] (af bw):=⟨rfl,rfl,rfl,by decide +kernel,rfl,by decide +kernel,by decide +kernel⟩
theorem uN : FnScope ["self"] ["self"] (af ck):=⟨rfl,rfl,rfl,by decide +kernel,rfl,by decide +kernel,by decide +kernel⟩
theorem wW : FnScope ["self","place","figure"] ["self","place","figure"] (af cF):=⟨rfl,rfl,rfl,by decide +kernel,rfl,by decide +kernel,by decide +kernel⟩
theorem sc_Pairing_sign : FnScope ["self","place","rule"] ["self","place"] (af cE):=⟨rfl,rfl,rfl,by decide +kernel,rfl,by decide +kernel,by decide +kernel⟩
theorem C8 : FnScope ["_law_here","_law_there"] ["_law_here","_law_there"] (af eU):=⟨rfl,rfl,rfl,by decide +kernel,rfl,by decide +kernel,by decide +kernel⟩
theorem Hy (F : FunD K "begin" "Walk.begin" dB dV f fd) : FnOk P w K mg base CX0 1 f fd ["self"] yU:=by
 refine F.ok Ag (fun vs H Q E h => ?_) (fun cdv A outer s H vs Q E hr h => ?_)
 ·obtain ⟨x,rfl,_⟩:=h
  rfl
 obtain ⟨x,rfl,q⟩:=h
 exact ⟨_,(ai (ax uE)),q⟩
theorem Je (F : FunD K "step" "Walk.step" eS dV f fd) : FnOk P w K mg base CX0 1 f fd ["self","place","figure"] Dr:=by
 refine F.ok C7 (fun vs H Q E h => ?_) (fun cdv A outer s H vs Q E hr h => ?_)
 ·obtain ⟨x,p,fg,rfl,_⟩:=h
  rfl
 obtain ⟨x,p,fg,rfl,q⟩:=h
 exact ⟨_,(ai (ax uE)),q⟩
theorem Jd (F : FunD K "sign" "Walk.sign" eR dV f fd) : FnOk P w K mg base CX0 1 f fd ["self","place"] Dq:=by
 refine F.ok C6 (fun vs H Q E h => ?_) (fun cdv A outer s H vs Q E hr h => ?_)
 ·obtain ⟨x,p,rfl,_⟩:=h
  rfl
 obtain ⟨x,p,rfl,q⟩:=h
 exact ⟨_,(ai (ax ah)),q⟩
theorem KH (F : FunD K "_law_rule" "_law_rule" eU dV f fd) : FnOk P w K mg base CX0 1 f fd ["_law_here","_law_there"] DD:=by
 refine F.ok C8 (fun vs H Q E h => ?_) (fun cdv A outer s H vs Q E hr h => ?_)
 ·obtain ⟨a,b,rfl,_⟩:=h
  rfl
 obtain ⟨a,b,rfl,q⟩:=h
 refine ⟨_,(ai (ax (ay bu (ay bD (ay bD (ay bK ah (pv 0)) (ay bK ah (pv 1))) ah) ah))),?_⟩
 exact ⟨_,rfl,_,_,rfl,rfl,.inl ⟨by omega,by omega⟩,_,rfl,_,_,rfl,rfl,.inl ⟨by omega,by omega⟩,_,_,rfl,rfl,_,_,rfl,rfl,_,_,rfl,rfl,by omega,q⟩
theorem Jm (F : FunD K "__init__" "Pairing.__init__" bw dV f fd) (pc : PCls K C) : FnOk P w K mg base CX0 1 f fd ["self","one","other","rule"] (Dz C):=by
 refine F.ok qf (fun vs H Q E h => ?_) (fun cdv A outer s H vs Q E hr h => ?_)
 ·obtain ⟨x,dx,o1,o2,fn,rfl,_⟩:=h
  rfl
 obtain ⟨x,dx,o1,o2,fn,rfl,hx,k⟩:=h
 refine ⟨_,(ak (iC (pv 0) (pv 1) rfl)
   (ak (iC (pv 0) (pv 2) rfl)
   (ai (iC (pv 0) (pv 3) rfl)))),?_⟩
 refine ⟨_,rfl,_,rfl,x,C,dx,[],rfl,hx,pc.cl,pc.n1,by decide,?_⟩
 refine ⟨_,rfl,_,rfl,x,C,dx,_,rfl,ae,pc.cl,pc.n2,by show 1 < 1000; decide,?_⟩
 refine ⟨_,rfl,_,rfl,x,C,dx,_,rfl,ae,pc.cl,pc.n3,by show 2 < 1000; decide,?_⟩
 refine k _ (fun c u hc e => ?_) ae
 rw [aj hc,aj hc,aj hc]
 exact e
theorem FE (F : FunD K "begin" "Pairing.begin" ck dV f fd) (pc : PCls K C) (GER_begin : DefMe P w K mg base CR "begin" 1 ["self"] pA) : FnOk P w K mg base CX0 2 f fd ["self"] (yX C CR):=by
 refine F.ok uN (fun vs H Q E h => ?_) (fun cdv A outer s H vs Q E hr h => ?_)
 ·obtain ⟨x,r1,g1,r2,g2,fn,rfl,_⟩:=h
  rfl
 obtain ⟨x,r1,g1,r2,g2,fn,rfl,⟨dx,o1,o2,hx,⟨d1,h1⟩,⟨d2,h2⟩⟩,q⟩:=h
 refine ⟨_,(ai (ax (cw (aa (CG GER_begin hr (cO (pv 0) rfl)) (aa (CG GER_begin hr (cO (pv 0) rfl)) ag))))),?_⟩
 refine ⟨_,rfl,x,C,dx,_,_,rfl,hx,pc.cl,pc.n1,rfl,o1,d1,_,rfl,h1,rfl,o1,rfl,?_⟩
 refine ⟨_,rfl,x,C,dx,_,_,rfl,hx,pc.cl,pc.n2,rfl,o2,d2,_,rfl,h2,rfl,o2,rfl,?_⟩
 exact ⟨(by show 2 <= sizeLine; decide),fun T hT => q T _ (ao hT _) ae⟩
theorem HC (F : FunD K "step" "Pairing.step" cF dV f fd) (pc : PCls K C) (GER_step : DefMe P w K mg base CR "step" 1 ["self","place","figure"] (tR CR)) : FnOk P w K mg base CX0 2 f fd ["self","place","figure"] (DB C CR):=by
 refine F.ok wW (fun vs H Q E h => ?_) (fun cdv A outer s H vs Q E hr h => ?_)
 ·obtain ⟨x,r1,g1,r2,g2,fn,m1,m2,t,p,q,fg,many1,many2,wide,rows1,rows2,signs1,signs2,rfl,_⟩:=h
  rfl
 obtain ⟨x,r1,g1,r2,g2,fn,m1,m2,t,p,q,fg,many1,many2,wide,rows1,rows2,signs1,signs2,rfl,⟨dx,o1,o2,hx,R1,R2⟩,M1,O1,M2,O2,ht,hp,hq,hf,k⟩:=h
 obtain ⟨d1,h1⟩:=R1.ob
 obtain ⟨d2,h2⟩:=R2.ob
 refine ⟨_,(ai (ax (cw (aa (vp GER_step hr (cO (pv 0) rfl) (aa (aH az (pv 1) ah (fun _ _ => rfl)) (aa (pv 2) ag))) (aa (vp GER_step hr (cO (pv 0) rfl) (aa (aH az (pv 1) ah (fun _ _ => rfl)) (aa (pv 2) ag))) ag))))),?_⟩
 refine ⟨_,rfl,x,C,dx,_,_,rfl,hx,pc.cl,pc.n1,rfl,o1,d1,_,rfl,h1,rfl,_,rfl,t,_,_,_,rfl,rfl,qT_ ht,rfl,_,rfl,o1,m1,r1,g1,p,fg,many1,wide,rows1,signs1,rfl,R1,M1,O1,hp,hf,?_⟩
 refine ⟨_,rfl,x,C,dx,_,_,rfl,hx,pc.cl,pc.n2,rfl,o2,d2,_,rfl,h2,rfl,_,rfl,t,_,_,_,rfl,rfl,qT_ ht,rfl,_,rfl,o2,m2,r2,g2,q,fg,many2,wide,rows2,signs2,rfl,R2,M2,O2,hq,hf,?_⟩
 exact ⟨(by show 2 <= sizeLine; decide),fun T hT => k T _ (ao hT _) ae⟩
theorem HB (F : FunD K "sign" "Pairing.sign" cE dV f fd) (pc : PCls K C) (GER_sign : DefMe P w K mg base CR "sign" 1 ["self","place"] (tQ CR)) (eM : DefOk P w K mg base "_law_rule" 1 ["_law_here","_law_there"] [] DD) (eO : mg "_law_rule" = some (.ref fn)) : FnOk P w K mg base CX0 2 f fd ["self","place"] (DA C CR fn):=by
 refine F.ok sc_Pairing_sign (fun vs H Q E h => ?_) (fun cdv A outer s H vs Q E hr h => ?_)
 ·obtain ⟨x,r1,g1,r2,g2,m1,m2,t,p,q,wide,rows1,rows2,signs1,signs2,rfl,_⟩:=h
  rfl
 obtain ⟨x,r1,g1,r2,g2,m1,m2,t,p,q,wide,rows1,rows2,signs1,signs2,rfl,⟨dx,o1,o2,hx,R1,R2⟩,M1,M2,ht,hp,hq,k⟩:=h
 obtain ⟨d1,h1⟩:=R1.ob
 obtain ⟨d2,h2⟩:=R2.ob
 refine ⟨_,(ak (aC (i:=2) sc_Pairing_sign.nd rfl (Or.inl rfl) (cO (pv 0) rfl))
   (ai (ax (JB eM eO hr (pv 2) (aa (vp GER_sign hr (cO (pv 0) rfl) (aa (aH az (pv 1) ah (fun _ _ => rfl)) ag)) (aa (vp GER_sign hr (cO (pv 0) rfl) (aa (aH az (pv 1) ah (fun _ _ => rfl)) ag)) ag)))))),?_⟩
 refine ⟨_,rfl,x,C,dx,_,_,rfl,hx,pc.cl,pc.n3,rfl,?_⟩
 refine ⟨_,rfl,rfl,?_⟩
 refine ⟨_,rfl,x,C,dx,_,_,rfl,hx,pc.cl,pc.n1,rfl,o1,d1,_,rfl,h1,rfl,_,rfl,t,_,_,_,rfl,rfl,qT_ ht,rfl,o1,m1,r1,g1,p,wide,rows1,signs1,rfl,R1,M1,hp,?_⟩
 refine ⟨_,rfl,x,C,dx,_,_,rfl,hx,pc.cl,pc.n2,rfl,o2,d2,_,rfl,h2,rfl,_,rfl,t,_,_,_,rfl,rfl,qT_ ht,rfl,o2,m2,r2,g2,q,wide,rows2,signs2,rfl,R2,M2,hq,?_⟩
 exact ⟨_,_,rfl,k⟩
end
theorem PairsV.same {H H' : Hp} {ts : List Addr} {kvs : List (Key × V)} (h : PairsV H ts kvs) (s : ∀ b xs,H b = some (.tup xs) -> H' b = some (.tup xs)) : PairsV H' ts kvs:=Paired.mapP h fun _ _ q => s _ _ q
theorem Et : ∀ {gs ks : LI},(ks ++ gs).Nodup -> jH (kvT ks) (kvT gs) = kvT (ks ++ gs)
 | [],ks,_ => by rw [List.append_nil]; rfl
 | g :: gs,ks,nd => by
  have hg : g ∉ ks:=fun z => (List.nodup_append.mp nd).2.2 g z g List.mem_cons_self rfl
  show jH (putK (kvT ks) (Sum.inl g) (V.bl true)) (kvT gs) = _
  rw [B7 hg,Et (by rw [List.append_assoc]; exact nd),List.append_assoc]
  rfl
theorem Hr {gs : LI} (nd : gs.Nodup) : jH [] (kvT gs) = kvT gs:=Et (ks:=[]) nd
structure BackOk (H0 H : Hp) (B : Addr) (es : List (Int × Addr)) (P : Int -> LI -> Prop) : Prop where
 at_ : H B = some (.dK (kvL es))
 nd : (es.map Prod.fst).Nodup
 nd2 : (es.map Prod.snd).Nodup
 fresh : ∀ e ∈ es,H0 e.2 = none
 lst : ∀ e ∈ es,∃ ls : LI,H e.2 = some (.lst (ls.map V.int)) /\ P e.1 ls
 non : ∀ q,q ∉ es.map Prod.fst -> P q []
theorem BackOk.get {H0 H : Hp} {B : Addr} {es : List (Int × Addr)} {P : Int -> LI -> Prop} (b : BackOk H0 H B es P) {q : Int} {v : V} (h : gK (kvL es) (Sum.inl q) = some v) : ∃ la ls,v = .ref la /\ (q,la) ∈ es /\ H la = some (.lst (ls.map V.int)) /\ P q ls:=by
 have hm : q ∈ es.map Prod.fst:=Classical.byContradiction fun z => by rw [El z] at h; cases h
 obtain ⟨e,he,rfl⟩:=List.mem_map.mp hm
 obtain ⟨j,hj⟩:=List.mem_iff_getElem?.mp he
 have:=B6 b.nd (q:=e.1) (a:=e.2) hj
 rw [this] at h
 obtain ⟨ls,h1,h2⟩:=b.lst e he
 exact ⟨e.2,ls,(Option.some.inj h).symm,he,h1,h2⟩
theorem Ku {es : List (Int × Addr)} (nd : (es.map Prod.fst).Nodup) {e e' : Int × Addr} (h : e ∈ es) (h' : e' ∈ es) (q : e.1 = e'.1) : e = e' := by
 obtain ⟨i,hi,ei⟩:=List.getElem_of_mem h
 obtain ⟨j,hj,ej⟩:=List.getElem_of_mem h'
 have : (es.map Prod.fst)[i]'(by simpa using hi) = (es.map Prod.fst)[j]'(by simpa using hj):=by simp [ei,ej,q]
 have:=(List.getElem_inj nd).mp this
 subst this
 rw [<- ei,<- ej]
theorem Lf {es : List (Int × Addr)} (nd : (es.map Prod.snd).Nodup) {e e' : Int × Addr} (h : e ∈ es) (h' : e' ∈ es) (q : e.2 = e'.2) : e = e' := by
 obtain ⟨i,hi,ei⟩:=List.getElem_of_mem h
 obtain ⟨j,hj,ej⟩:=List.getElem_of_mem h'
 have : (es.map Prod.snd)[i]'(by simpa using hi) = (es.map Prod.snd)[j]'(by simpa using hj):=by simp [ei,ej,q]
 have:=(List.getElem_inj nd).mp this
 subst this
 rw [<- ei,<- ej]
theorem BackOk.old {H0 H : Hp} {B la : Addr} {es : List (Int × Addr)} {P P' : Int -> LI -> Prop} {q h : Int} {ls : LI} (b : BackOk H0 H B es P) (hm : (q,la) ∈ es) (hla : H la = some (.lst (ls.map V.int))) (hp : P' q (ls ++ [h])) (ho : ∀ p ls,p ≠ q -> P p ls -> P' p ls) :
  BackOk H0 (upd H la (.lst (ls.map V.int ++ [.int h]))) B es P' where
 at_:=by rw [aj (cb b.at_ hla (by intro z; cases z))]; exact b.at_
 nd:=b.nd
 nd2:=b.nd2
 fresh:=b.fresh
 lst:=fun e he => by
  by_cases c : e.2 = la
  ·have:=Lf b.nd2 he hm c
   subst this
   exact ⟨ls ++ [h],by rw [ae,List.map_append]; rfl,hp⟩
  ·obtain ⟨ms,h1,h2⟩:=b.lst e he
   refine ⟨ms,by rw [aj c]; exact h1,ho _ _ (fun z => c ?_) h2⟩
   have:=Ku b.nd he hm z
   rw [this]
 non:=fun p hp' => ho p [] (fun z => hp' (by rw [z]; exact List.mem_map.mpr ⟨_,hm,rfl⟩)) (b.non p hp')
theorem BackOk.new {H0 H : Hp} {B L : Addr} {es : List (Int × Addr)} {P P' : Int -> LI -> Prop} {q h : Int} (b : BackOk H0 H B es P) (hq : q ∉ es.map Prod.fst) (hL : H L = some (.lst [])) (fL : H0 L = none) (nL : ∀ e ∈ es,e.2 ≠ L) (hp : P' q [h]) (ho : ∀ p ls,p ≠ q -> P p ls -> P' p ls) :
  BackOk H0 (upd (upd H B (.dK (putK (kvL es) (Sum.inl q) (.ref L)))) L (.lst [.int h])) B (es ++ [(q,L)]) P' where
 at_:=by rw [aj (cb b.at_ hL (by intro z; cases z)),ae,Kx hq]
 nd:=by rw [List.map_append]; exact sU b.nd hq
 nd2:=by
  rw [List.map_append]
  refine sU b.nd2 fun z => ?_
  obtain ⟨e,he,e2⟩:=List.mem_map.mp z
  exact nL e he e2
 fresh:=fun e he => by
  rcases ma_.mp he with z | z
  ·exact b.fresh e z
  ·rw [List.mem_singleton.mp z]; exact fL
 lst:=fun e he => by
  rcases ma_.mp he with z | z
  ·obtain ⟨ms,h1,h2⟩:=b.lst e z
   refine ⟨ms,by rw [aj (nL e z),aj (cb h1 b.at_ (by intro z; cases z))]; exact h1,ho _ _ (fun y => hq ?_) h2⟩
   rw [<- y]
   exact List.mem_map.mpr ⟨e,z,rfl⟩
  ·rw [List.mem_singleton.mp z]
   exact ⟨[h],by rw [ae]; rfl,hp⟩
 non:=fun p hp' => by
  rw [List.map_append] at hp'
  exact ho p [] (fun z => hp' (by rw [z]; exact List.mem_append_right _ List.mem_cons_self)) (b.non p fun z => hp' (List.mem_append_left _ z))
theorem BackOk.keep {H0 H H' : Hp} {B : Addr} {es : List (Int × Addr)} {P : Int -> LI -> Prop} (b : BackOk H0 H B es P) (hB : H' B = H B) (hl : ∀ e ∈ es,H' e.2 = H e.2) : BackOk H0 H' B es P where
 at_:=by rw [hB]; exact b.at_
 nd:=b.nd
 nd2:=b.nd2
 fresh:=b.fresh
 lst:=fun e he => by rw [hl e he]; exact b.lst e he
 non:=b.non
theorem BackOk.same {H0 H H' : Hp} {B : Addr} {es : List (Int × Addr)} {P : Int -> LI -> Prop} (b : BackOk H0 H B es P) (s : Same H H') : BackOk H0 H' B es P where
 at_:=s _ _ b.at_
 nd:=b.nd
 nd2:=b.nd2
 fresh:=b.fresh
 lst:=fun e he => by
  obtain ⟨ls,h1,h2⟩:=b.lst e he
  exact ⟨ls,s _ _ h1,h2⟩
 non:=b.non
theorem BackOk.weak {H0 H : Hp} {B : Addr} {es : List (Int × Addr)} {P P' : Int -> LI -> Prop} (b : BackOk H0 H B es P) (h : ∀ q ls,P q ls -> P' q ls) : BackOk H0 H B es P' :=
 ⟨b.at_,b.nd,b.nd2,b.fresh,fun e he => by
  obtain ⟨ls,h1,h2⟩:=b.lst e he
  exact ⟨ls,h1,h _ _ h2⟩,fun q hq => h _ _ (b.non q hq)⟩
theorem di {xs : LI} {j : Nat} {t p : Int} (h : xs[j]? = some t) : p ∈ xs.take (j + 1) ↔ p ∈ xs.take j \/ p = t:=by
 rw [List.take_add_one,h,List.mem_append]
 show _ \/ p ∈ [t] ↔ _
 rw [List.mem_singleton]
def LeadsTo (rows : LL) (fs gs : LI) (q : Int) : Prop := ∃ row : LI,(∀ f ∈ row,f ∈ fs) /\ J6 rows row q ∈ gs
theorem LeadsTo.goal {rows : LL} {fs gs : LI} {q : Int} (h : q ∈ gs) : LeadsTo rows fs gs q:=⟨[],(fun f z => by cases z),h⟩
theorem LeadsTo.step {rows : LL} {fs gs : LI} {q f : Int} (hf : f ∈ fs) (h : LeadsTo rows fs gs (stepI rows q f)) : LeadsTo rows fs gs q:=by
 obtain ⟨row,h1,h2⟩:=h
 refine ⟨f :: row,fun g hg => ?_,h2⟩
 rcases List.mem_cons.mp hg with z | z
 ·rw [z]; exact hf
 ·exact h1 g z
def PB (rows : LL) (fs : LI) (many n i j : Nat) (q : Int) (ls : LI) : Prop:=ls.length <= n /\ (∀ h ∈ ls,(0 <= h /\ h < (many : Int)) /\ ∃ f ∈ fs,stepI rows h f = q) /\ ∀ (h : Nat) (f : Int),((h < i /\ f ∈ fs) \/ (h = i /\ f ∈ fs.take j)) -> stepI rows h f = q -> (h : Int) ∈ ls
def Dv (K : PySem.W.Frag) : Sp:=fun vs H Q _ => ∃ (m r g gl tk : Addr) (many wide : Nat) (rows : LL) (signs gs fs : LI),vs = [.ref m,.ref gl,.ref tk] /\ MachAt H m r g wide rows signs /\ RowsOk many wide rows /\ (1 <= many /\ many <= 400) /\ (1 <= wide /\ wide <= 400) /\
 H gl = some (.lst (gs.map V.int)) /\ gs.Nodup /\ (∀ q ∈ gs,0 <= q /\ q < (many : Int)) /\ H tk = some (.lst (fs.map V.int)) /\ fs.length <= 400 /\ (∀ f ∈ fs,0 <= f /\ f < (wide : Int)) /\
 ∀ (D : Addr) (H' : Hp) (ks : LI),Same H H' -> H D = none -> H' D = some (.dK (kvT ks)) -> ks.Nodup -> (∀ q ∈ ks,(0 <= q /\ q < (many : Int)) /\ LeadsTo rows fs gs q) -> (∀ q : Int,0 <= q -> q < (many : Int) -> LeadsTo rows fs gs q -> q ∈ ks) -> Q (.ref D) H'
section
variable {P : Program} {w : World} {K : PySem.W.Frag} {mg : Str -> Option Value} {base : Heap} {f : Addr} {fd : FuncData} {dV : Value}
theorem sc_rooms_leading_to : FnScope ["machine","goals","taken","back","here","row","figure","waiting","leading","there"] ["machine","goals","taken"] (af a9):=⟨rfl,rfl,rfl,by decide +kernel,rfl,by decide +kernel,by decide +kernel⟩
theorem bk_rooms_leading_to_0 : BlkScope ["machine","goals","taken","back","here","row","figure","waiting","leading","there"] (af a9) ["here"] [none] { kind:=ScopeKind.function,names:=[(".0",NameKind.local),("here",NameKind.local)],isGenerator:=false,isCoroutine:=false,more:=[] }:=⟨rfl,by decide +kernel,by decide +kernel,by decide +kernel,by decide +kernel,rfl,by decide +kernel⟩
theorem Jf (F : FunD K "rooms_leading_to" "rooms_leading_to" a9 dV f fd) (fc : mg "enumerate" = none) (F7 : mg "list" = none) (F6 : mg "dict" = none) : FnOk P w K mg base CX0 1 f fd ["machine","goals","taken"] (Dv K):=by
 refine F.ok sc_rooms_leading_to (fun vs H Q E h => ?_) (fun cdv A outer s H vs Q E hr h => ?_)
 ·obtain ⟨m,r,g,gl,tk,many,wide,rows,signs,gs,fs,rfl,_⟩:=h
  rfl
 obtain ⟨m,r,g,gl,tk,many,wide,rows,signs,gs,fs,rfl,M,R,⟨n0,n1⟩,⟨w0,w1⟩,hgl,ndg,hgs,htk,lfs,hfs,k⟩:=h
 obtain ⟨ras,hr',hA⟩:=M.rows
 have hu:=Eg hr
 refine ⟨_,(ak (aC (i:=3) sc_rooms_leading_to.nd rfl (Or.inl rfl) EL)
   (ak (cD PassesOwn.never rfl (EN rfl fc (aa (aH az (pv 0) ah (fun _ _ => rfl)) ag)) (CJ rfl (dh (aL (i:=4) sc_rooms_leading_to.nd rfl (Or.inl rfl)) (dh (aL (i:=5) sc_rooms_leading_to.nd rfl (Or.inl rfl)) xr))) (ai (cD PassesOwn.never rfl (CK (pv 2)) (aL (i:=6) sc_rooms_leading_to.nd rfl (Or.inl rfl)) (ai (iX (vo PySem.F.plainAttrs_list PySem.F.slot_list_append PySem.F.type_list_append dA (KP (pv 3) (aH az (pv 5) (pv 6) (fun _ _ => rfl)) (mv ag) ⟨rfl,rfl,rfl,rfl⟩) (aa (pv 4) ag)))))))
   (ak (aC (i:=7) sc_rooms_leading_to.nd rfl (Or.inl rfl) (bS Bk (by rfl) F7 Kq (aa (pv 1) ag)))
   (ak (aC (i:=8) sc_rooms_leading_to.nd rfl (Or.inl rfl) (bS (DR rfl) (by rfl) F6 Kp (aa (mq rfl bk_rooms_leading_to_0 (CK (pv 7)) (fun _ _ _ _ => (aL (i:=0) bk_rooms_leading_to_0.nd rfl (Or.inl rfl))) (fun _ _ _ _ => (cw (aa (pv 0) (aa g9 ag))))) ag)))
   (ak (ES PassesOwn.never (ET (pv 7) (fun _ => rfl)) (ak (aC (i:=4) sc_rooms_leading_to.nd rfl (Or.inl rfl) (Mm PySem.F.plainAttrs_list PySem.F.slot_list_pop PySem.F.type_list_pop Me (pv 7)))
   (ai (cD PassesOwn.never rfl (Mv (JD hu (pv 3) (pv 4) (cw ag) ⟨rfl,rfl,rfl,rfl⟩)) (aL (i:=9) sc_rooms_leading_to.nd rfl (Or.inl rfl)) (ai (br (FJ (AQ hu (pv 9) (pv 8)) (by with_unfolding_all rfl)) (ak (xt hu (pv 8) (pv 9) g9 rfl)
   (ai (iX (vo PySem.F.plainAttrs_list PySem.F.slot_list_append PySem.F.type_list_append dA (pv 7) (aa (pv 9) ag))))) aP))))))
   (ai (ax (pv 8)))))))),?_⟩
 refine fun B hB => ?_
 have kr0 : ∀ e ∈ ([] : List (Int × Addr)),0 <= e.1 /\ e.1 < (many : Int):=fun e h => by cases h
 have b0 : BackOk H (upd H B (.dK [])) B [] (PB rows fs many 0 0 0):=⟨ae,List.Pairwise.nil,List.Pairwise.nil,(fun e h => by cases h),(fun e h => by cases h),(fun q _ => ⟨Nat.le_refl _,(fun h z => by cases z),fun h f z _ => by
  rcases z with z | z
  ·omega
  ·have:=z.2
   simp at this⟩)⟩
 try dsimp only [a7]
 refine gn (t:=FV _ _ _) (fun σ' H' => ∃ (es : List (Int × Addr)) (v1 v2 v3 : OV),σ' = [some (.ref m),some (.ref gl),some (.ref tk),some (.ref B),v1,v2,v3,none,none,none] /\ Same H H' /\ BackOk H H' B es (PB rows fs many (rows.length * fs.length) rows.length 0)) ?_ (fun D' nxt => ?_)
 rotate_left
 ·have s0:=ao hB (HO.dK [])
  refine ⟨_,rfl,m,_,_,_,rfl,rfl,qT_ (s0 _ _ M.tup),rfl,r,rfl,⟨_,qT_ (s0 _ _ hr')⟩,He (K:=K) (xs:=ras.map V.ref) (fun i σ' H' => ∃ (es : List (Int × Addr)) (v1 v2 v3 : OV),σ' = [some (.ref m),some (.ref gl),some (.ref tk),some (.ref B),v1,v2,v3,none,none,none] /\ Same H H' /\ (∀ e ∈ es,0 <= e.1 /\ e.1 < (many : Int)) /\ BackOk H H' B es (PB rows fs many (i * fs.length) i 0))
   ⟨[],none,none,none,rfl,s0,kr0,by rw [Nat.zero_mul]; exact b0⟩ (fun i σ' H' _ ⟨_,_,_,_,_,e,_⟩ => qT_ (e _ _ hr')) ?_ ?_⟩
  ·rintro i y σ' H1 T hi ⟨es,v1,v2,v3,rfl,s1,kr1,b1⟩ hT
   have il : i < rows.length:=by
    have:=(gi_ hi).1
    rw [lm_,hA.length] at this
    exact this
   obtain ⟨ra,e1,e2⟩:=hA.get il
   have ey : y = .ref ra:=by rw [List.getElem?_map,e1] at hi; exact (Option.some.inj hi).symm
   subst ey
   have im : i < many:=by rw [<- R.len]; exact il
   have lrow : rows[i].length = wide:=R.row _ (List.getElem_mem il)
   have sT:=ao hT (HO.tup [V.int i,V.ref ra])
   have big : i * fs.length + fs.length <= 400 * 400 + 400:=by
    have:=Nat.mul_le_mul (show i <= 400 by omega) lfs
    omega
   refine ⟨T,_,rfl,qT_ ae,rfl,_,_,rfl,_,_,rfl,rfl,?_⟩
   refine ⟨_,rfl,tk,rfl,⟨_,qL_ (sT _ _ (s1 _ _ htk))⟩,xY (K:=K) (xs:=fs.map V.int) (fun j σ' H' => ∃ (es : List (Int × Addr)) (v3 : OV),σ' = [some (.ref m),some (.ref gl),some (.ref tk),some (.ref B),some (.int i),some (.ref ra),v3,none,none,none] /\ Same H H' /\ (∀ e ∈ es,0 <= e.1 /\ e.1 < (many : Int)) /\ BackOk H H' B es (PB rows fs many (i * fs.length + j) i j))
    ⟨es,v3,rfl,s1.trans sT,kr1,b1.same sT⟩ (fun j σ' H' _ ⟨_,_,_,e,_⟩ => qL_ (e _ _ htk)) ?_ ?_⟩
   ·rintro j y σ' H2 hj ⟨es,v3,rfl,s2,kr2,b2⟩
    obtain ⟨fi,rfl,hfi⟩:=fS hj
    have jl : j < fs.length:=(gi_ hfi).1
    have fm:=mq_ hfi
    have fr:=hfs fi fm
    have es0 : (rows[i]).getD fi.toNat 0 = stepI rows (i : Int) fi:=by
     unfold stepI
     rw [Int.toNat_natCast,getD_at il]
    have at1 : atI (rows[i].map V.int) fi = some (.int (stepI rows (i : Int) fi)):=by
     rw [c7 fr.1 (by rw [lrow]; exact fr.2),es0]
    refine ⟨_,rfl,B,rfl,.inl ⟨_,.inl b2.at_⟩,_,rfl,_,rfl,ra,_,_,_,rfl,rfl,qT_ (s2 _ _ e2),at1,(by show 0 <= sizeLine; decide),fun L hL => ?_⟩
    have sL:=ao hL (HO.lst [])
    have b3:=b2.same sL
    have nL : ∀ e ∈ es,e.2 ≠ L:=fun e he z => by
     obtain ⟨ls,h1,_⟩:=b2.lst e he
     rw [z,hL] at h1
     cases h1
    have nLB : B ≠ L:=aq b2.at_ hL
    have fL : H L = none:=s2.free hL
    have stq:=kW R (show (0 : Int) <= (i : Int) by omega) (by omega) fr.1 fr.2
    have few:=eN many b3.nd (fun q hq => by
     obtain ⟨e,he,rfl⟩:=List.mem_map.mp hq
     exact kr2 e he)
    rw [lm_] at few
    have len : (kvL es).length < sizeLine:=aR (by unfold kvL; rw [lm_]; omega)
    have oth : ∀ (p : Int) (ls : LI),p ≠ stepI rows (i : Int) fi -> PB rows fs many (i * fs.length + j) i j p ls -> PB rows fs many (i * fs.length + (j + 1)) i (j + 1) p ls:=fun p ls np z => ⟨by have:=z.1; omega,z.2.1,fun h f c e => by
     rcases c with c | ⟨rfl,c⟩
     ·exact z.2.2 h f (.inl c) e
     ·rcases (di hfi).mp c with d | d
      ·exact z.2.2 h f (.inr ⟨rfl,d⟩) e
      ·rw [d] at e; exact absurd e.symm np⟩
    have one : (0 <= (i : Int) /\ (i : Int) < (many : Int)) /\ ∃ f ∈ fs,stepI rows (i : Int) f = stepI rows (i : Int) fi:=⟨⟨by omega,by omega⟩,fi,fm,rfl⟩
    have grow : ∀ ls : LI,PB rows fs many (i * fs.length + j) i j (stepI rows (i : Int) fi) ls -> PB rows fs many (i * fs.length + (j + 1)) i (j + 1) (stepI rows (i : Int) fi) (ls ++ [(i : Int)]):=fun ls z => ⟨by rw [List.length_append,List.length_singleton]; have:=z.1; omega,fun h hh => by
      rcases ma_.mp hh with y | y
      ·exact z.2.1 h y
      ·rw [List.mem_singleton.mp y]; exact one,fun h f c e => by
      rcases c with c | ⟨rfl,c⟩
      ·exact List.mem_append_left _ (z.2.2 h f (.inl c) e)
      ·exact List.mem_append_right _ List.mem_cons_self⟩
    refine ⟨_,Sum.inl (stepI rows (i : Int) fi),b3.at_,rfl,len,fun v hv => ?_,fun hn => ?_⟩
    ·obtain ⟨la,ls,rfl,hm,hla,hp⟩:=b3.get hv
     have lz : (ls.map V.int).length < sizeLine:=Nat.lt_of_le_of_lt (show _ <= 1000000 by rw [lm_]; have:=hp.1; omega) (by decide)
     refine ⟨.inl ⟨rfl,_,qL_ hla⟩,_,rfl,la,_,_,rfl,rfl,hla,lz,?_⟩
     refine ⟨es,_,rfl,aM (s2.trans sL) (b2.fresh _ hm),kr2,b3.old hm hla (grow ls hp) oth⟩
    ·have hq : stepI rows (i : Int) fi ∉ es.map Prod.fst:=fun z => by
      obtain ⟨e,he,ee⟩:=List.mem_map.mp z
      obtain ⟨jj,hjj⟩:=List.mem_iff_getElem?.mp he
      have:=B6 b3.nd (q:=e.1) (a:=e.2) hjj
      rw [ee,hn] at this
      cases this
     have hL3 : (upd (upd H2 L (HO.lst [])) B (HO.dK (putK (kvL es) (Sum.inl (stepI rows (i : Int) fi)) (V.ref L)))) L = some (.lst []):=by rw [aj (Ne.symm nLB),ae]
     refine ⟨.inl ⟨rfl,_,qL_ hL3⟩,_,rfl,L,_,_,rfl,rfl,hL3,(by show 0 < sizeLine; decide),?_⟩
     refine ⟨es ++ [(stepI rows (i : Int) fi,L)],_,rfl,aM (aM (s2.trans sL) hB) fL,fun e he => ?_,b3.new hq ae fL nL (grow [] (b3.non _ hq)) oth⟩
     rcases ma_.mp he with z | z
     ·exact kr2 e z
     ·rw [List.mem_singleton.mp z]; exact stq
   ·rintro σ' H2 ⟨es,v3,rfl,s2,kr2,b2⟩
    rw [lm_] at b2
    refine ⟨es,_,_,_,rfl,s2,kr2,b2.weak fun q ls z => ⟨by rw [Nat.succ_mul]; exact z.1,z.2.1,fun h f c e => ?_⟩⟩
    rcases c with c | c
    ·rcases Nat.lt_or_ge h i with d | d
     ·exact z.2.2 h f (.inl ⟨d,c.2⟩) e
     ·exact z.2.2 h f (.inr ⟨by omega,by rw [List.take_length]; exact c.2⟩) e
    ·have:=c.2
     simp at this
  ·rintro σ' H1 ⟨es,v1,v2,v3,rfl,s1,kr1,b1⟩
   rw [lm_,hA.length] at b1
   exact nxt _ _ ⟨es,_,_,_,rfl,s1,b1⟩
 rintro σ' H1 ⟨es,v1,v2,v3,rfl,s1,b1⟩
 refine ⟨_,rfl,gl,_,rfl,.inl (qL_ (s1 _ _ hgl)),fun W hW => ?_⟩
 have sW:=ao hW (HO.lst (gs.map V.int))
 have fW : H W = none:=s1.free hW
 refine ⟨_,rfl,W,rfl,⟨_,qL_ ae⟩,?_⟩
 refine G6 (K:=K) (xs:=gs.map V.int) (fun D i ys H' => Same (upd H1 W (HO.lst (gs.map V.int))) H' /\ ∃ ts,ys = ts.map V.ref /\ PairsV H' ts (kvT (gs.take i))) (fun D hD => ⟨ao hD _,[],rfl,.nil⟩) (fun D i ys H' _ ⟨e,_⟩ => qL_ (e _ _ ae)) ?_ ?_
 ·rintro D i y ys H' Q' hD hi hy ⟨hs,ts,rfl,pv⟩ k'
  obtain ⟨q,rfl,hq⟩:=fS hi
  have il : i < gs.length:=(gi_ hq).1
  have gl4:=eN many ndg hgs
  refine ⟨_,rfl,(by show 2 <= sizeLine; decide),fun T hT => ?_⟩
  have sT:=ao hT (HO.tup [V.int q,V.bl true])
  have nD : D ≠ T:=aq hy hT
  have lts : ts.length = i:=by
   rw [Paired.length pv]
   unfold kvT
   rw [lm_,List.length_take]
   omega
  have hyT : (upd H' T (HO.tup [V.int q,V.bl true])) D = some (.lst (ts.map V.ref)):=by rw [aj nD]; exact hy
  refine k' _ _ hyT (aR (by rw [lm_]; omega)) ⟨aM (aM hs (hs.free hT)) hD,ts ++ [T],by rw [List.map_append]; rfl,?_⟩
  rw [List.take_add_one,hq]
  have up : ∀ b xs,(upd H' T (HO.tup [V.int q,V.bl true])) b = some (.tup xs) -> (upd (upd H' T (HO.tup [V.int q,V.bl true])) D (.lst (ts.map V.ref ++ [V.ref T]))) b = some (.tup xs):=fun b xs e => by
   rw [aj (cb e hyT (by intro z; cases z))]; exact e
  show PairsV _ _ (kvT (gs.take i ++ [q]))
  unfold kvT
  rw [List.map_append]
  exact Paired.snoc (PairsV.same pv fun b xs e => up b xs (sT _ _ e)) (up _ _ ae)
 rintro L ys H2 fL hL ⟨s2,ts,rfl,pv⟩
 rw [lm_,List.take_length] at pv
 refine ⟨L,ts,_,rfl,hL,pv,fun D hD => ?_⟩
 rw [Hr ndg]
 have s3:=s2.trans (ao hD (HO.dK (kvT gs)))
 have fD : H D = none:=(s1.trans sW).free (s2.free hD)
 have hW3:=s3 _ _ (show (upd H1 W (HO.lst (gs.map V.int))) W = _ from ae)
 have hWD : W ≠ D:=cb hW3 (show (upd H2 D (HO.dK (kvT gs))) D = some (.dK (kvT gs)) from ae) (by intro z; cases z)
 have b3 : BackOk H (upd H2 D (HO.dK (kvT gs))) B es (PB rows fs many (rows.length * fs.length) rows.length 0):=(b1.same sW).same s3
 have nW : ∀ e ∈ es,e.2 ≠ W:=fun e he z => by
  obtain ⟨ls,h1,_⟩:=b1.lst e he
  rw [z,hW] at h1
  cases h1
 have nBD : B ≠ D:=fun z => by
  have:=(b1.same sW).same s2
  rw [<- z,this.at_] at hD
  cases hD
 have neD : ∀ e ∈ es,e.2 ≠ D:=fun e he z => by
  obtain ⟨ls,h1,_⟩:=((b1.same sW).same s2).lst e he
  rw [z,hD] at h1
  cases h1
 try dsimp only [a7]
 refine gn (t:=DI _ _) (fun σ' H' => ∃ (ks : LI) (v1 v2 v3 v4 : OV),σ' = [some (.ref m),some (.ref gl),some (.ref tk),some (.ref B),v1,v2,v3,some (.ref W),some (.ref D),v4] /\ Same H H' /\ H' D = some (.dK (kvT ks)) /\ ks.Nodup /\ (∀ q ∈ ks,(0 <= q /\ q < (many : Int)) /\ LeadsTo rows fs gs q) /\ (∀ q ∈ gs,q ∈ ks) /\ (∀ q ∈ ks,∀ (h : Nat) (f : Int),h < many -> f ∈ fs -> stepI rows h f = q -> (h : Int) ∈ ks)) ?_ (fun D' nxt => ?_)
 rotate_left
 ·refine GR (fun mm σ' H' => ∃ (ks ws : LI) (v1 v2 v3 v4 : OV),mm = 2 * (many - ks.length) + ws.length /\ σ' = [some (.ref m),some (.ref gl),some (.ref tk),some (.ref B),v1,v2,v3,some (.ref W),some (.ref D),v4] /\ Same H H' /\ H' D = some (.dK (kvT ks)) /\ H' W = some (.lst (ws.map V.int)) /\ ks.Nodup /\ (∀ q ∈ ks,(0 <= q /\ q < (many : Int)) /\ LeadsTo rows fs gs q) /\ (∀ q ∈ ws,q ∈ ks) /\ ws.length <= ks.length /\ (∀ q ∈ gs,q ∈ ks) /\ (∀ q ∈ ks,q ∉ ws -> ∀ (h : Nat) (f : Int),h < many -> f ∈ fs -> stepI rows h f = q -> (h : Int) ∈ ks) /\ BackOk H H' B es (PB rows fs many (rows.length * fs.length) rows.length 0))
   ⟨_,gs,gs,v1,v2,v3,none,rfl,rfl,s1.trans (sW.trans s3),ae,hW3,ndg,fun q hq => ⟨hgs q hq,LeadsTo.goal hq⟩,fun q h => h,Nat.le_refl _,fun q h => h,fun q h n => absurd h n,b3⟩ ?_
  rintro mm σ' H4 ⟨ks,ws,v1,v2,v3,v4,rfl,rfl,s4,hD4,hW4,ndk,hk,hwk,lw,hgk,hcl,b4⟩
  have kl:=eN many ndk fun q hq => (hk q hq).1
  by_cases en : ws = []
  ·subst en
   refine ⟨_,rfl,_,.inl ⟨_,qL_ hW4,rfl⟩,kD ?_⟩
   exact nxt _ _ ⟨ks,_,_,_,_,rfl,s4,hD4,ndk,hk,hgk,fun q hq => hcl q hq (fun z => by cases z)⟩
  refine ⟨_,rfl,_,.inl ⟨_,qL_ hW4,rfl⟩,?_⟩
  have ne : (!(ws.map V.int).isEmpty) = true:=by
   cases ws with
   | nil => exact absurd rfl en
   | cons x r => rfl
  rw [ne]
  refine lY ⟨fun σ' H' => ∃ m',m' < 2 * (many - ks.length) + ws.length /\ ∃ (ks ws : LI) (v1 v2 v3 v4 : OV),m' = 2 * (many - ks.length) + ws.length /\ σ' = [some (.ref m),some (.ref gl),some (.ref tk),some (.ref B),v1,v2,v3,some (.ref W),some (.ref D),v4] /\ Same H H' /\ H' D = some (.dK (kvT ks)) /\ H' W = some (.lst (ws.map V.int)) /\ ks.Nodup /\ (∀ q ∈ ks,(0 <= q /\ q < (many : Int)) /\ LeadsTo rows fs gs q) /\ (∀ q ∈ ws,q ∈ ks) /\ ws.length <= ks.length /\ (∀ q ∈ gs,q ∈ ks) /\ (∀ q ∈ ks,q ∉ ws -> ∀ (h : Nat) (f : Int),h < many -> f ∈ fs -> stepI rows h f = q -> (h : Int) ∈ ks) /\ BackOk H H' B es (PB rows fs many (rows.length * fs.length) rows.length 0),fun σ' H' h => h,?_⟩
  have wl : 0 < ws.length:=by
   cases ws with
   | nil => exact absurd rfl en
   | cons x r => exact Nat.succ_pos _
  have lastI : ws.length - 1 < ws.length:=by omega
  obtain ⟨here,hlast⟩ : ∃ here,ws[ws.length - 1]? = some here:=⟨_,List.getElem?_eq_getElem lastI⟩
  have hks:=hwk here (mq_ hlast)
  refine ⟨_,rfl,.inl ⟨rfl,_,qL_ hW4⟩,W,_,V.int here,rfl,rfl,hW4,by rw [lm_,List.getElem?_map,hlast]; rfl,?_⟩
  have eDL : (ws.map V.int).dropLast = ws.dropLast.map V.int:=by rw [List.map_dropLast]
  rw [eDL]
  have nBW : B ≠ W:=cb b4.at_ hW4 (by intro z; cases z)
  have b5 : BackOk H (upd H4 W (HO.lst (ws.dropLast.map V.int))) B es (PB rows fs many (rows.length * fs.length) rows.length 0):=b4.keep (by rw [aj nBW]) fun e he => by rw [aj (nW e he)]
  have hD5 : (upd H4 W (HO.lst (ws.dropLast.map V.int))) D = some (.dK (kvT ks)):=by rw [aj (Ne.symm hWD)]; exact hD4
  have sub5 : ∀ q ∈ ws.dropLast,q ∈ ks:=fun q hq => hwk q (List.dropLast_subset _ hq)
  have ld5 : ws.dropLast.length = ws.length - 1:=List.length_dropLast
  have last5 : ∀ q,q ∈ ws -> q ∉ ws.dropLast -> q = here:=fun q h1 h2 => by
   have hl : ws.length - 1 + 1 = ws.length:=by omega
   have h3 : q ∈ ws.take (ws.length - 1 + 1):=by rw [hl,List.take_length]; exact h1
   rcases (di hlast).mp h3 with z | z
   ·exact absurd (by rw [List.dropLast_eq_take]; exact z) h2
   ·exact z
  have cl5 : ∀ q ∈ ks,q ∉ ws.dropLast -> q ≠ here -> ∀ (h : Nat) (f : Int),h < many -> f ∈ fs -> stepI rows h f = q -> (h : Int) ∈ ks:=fun q hq h1 h2 => hcl q hq fun z => h2 (last5 q z h1)
  refine ⟨_,rfl,B,rfl,.inl ⟨_,.inl b5.at_⟩,_,rfl,(by show 0 <= sizeLine; decide),fun t0 ht0 => ?_⟩
  have st0:=ao ht0 (HO.tup [])
  have b6:=b5.same st0
  refine ⟨_,DGet.k (k:=Sum.inl here) b6.at_,?_⟩
  have hD6:=st0 _ _ hD5
  have hW6:=st0 _ _ (show (upd H4 W (HO.lst (ws.dropLast.map V.int))) W = _ from ae)
  have s6 : Same H (upd (upd H4 W (HO.lst (ws.dropLast.map V.int))) t0 (HO.tup [])):=(aM s4 fW).trans st0
  cases hv : gK (kvL es) (Sum.inl here) with
  | none =>
   refine ⟨t0,rfl,.inr ⟨⟨_,qT_ ae⟩,?_⟩⟩
   refine pH (K:=K) (xs:=[]) (fun i σ' H' => ∃ v4 v3,σ' = [some (.ref m),some (.ref gl),some (.ref tk),some (.ref B),some (.int here),v2,v3,some (.ref W),some (.ref D),v4] /\ H' = (upd (upd H4 W (HO.lst (ws.dropLast.map V.int))) t0 (HO.tup []))) ⟨_,_,rfl,rfl⟩ (fun i σ' H' _ ⟨_,_,_,e⟩ => by rw [e]; exact qT_ ae) (fun i x σ' H' hx _ => by simp at hx) ?_
   rintro σ' H' ⟨v4,v3,rfl,rfl⟩
   exact ⟨_,(by rw [ld5]; omega : 2 * (many - ks.length) + ws.dropLast.length < _),ks,ws.dropLast,_,_,_,_,rfl,rfl,s6,hD6,hW6,ndk,hk,sub5,by omega,hgk,(fun q hq hn h f hh hf e => by
    by_cases c : q = here
    ·subst c
     have np : q ∉ es.map Prod.fst:=fun z => by
      obtain ⟨e',he',ee⟩:=List.mem_map.mp z
      obtain ⟨jj,hjj⟩:=List.mem_iff_getElem?.mp he'
      have:=B6 b6.nd (q:=e'.1) (a:=e'.2) hjj
      rw [ee,hv] at this
      cases this
     exact absurd ((b6.non q np).2.2 h f (.inl ⟨by rw [R.len]; exact hh,hf⟩) e) (by simp)
    ·exact cl5 q hq hn c h f hh hf e),b6⟩
  | some v =>
   obtain ⟨la,ls,rfl,hm,hla,hp⟩:=b6.get hv
   refine ⟨la,rfl,.inl ⟨⟨_,qL_ hla⟩,?_⟩⟩
   refine xY (K:=K) (xs:=ls.map V.int) (fun i σ' H' => ∃ (ks' ws' : LI) (v4 : OV) (v3 : OV),σ' = [some (.ref m),some (.ref gl),some (.ref tk),some (.ref B),some (.int here),v2,v3,some (.ref W),some (.ref D),v4] /\ Same H H' /\ H' D = some (.dK (kvT ks')) /\ H' W = some (.lst (ws'.map V.int)) /\ ks'.Nodup /\ (∀ q ∈ ks',(0 <= q /\ q < (many : Int)) /\ LeadsTo rows fs gs q) /\ (∀ q ∈ ws',q ∈ ks') /\ ws'.length <= ks'.length /\ (∀ q ∈ gs,q ∈ ks') /\ (∀ q ∈ ks',q ∉ ws' -> q ≠ here -> ∀ (h : Nat) (f : Int),h < many -> f ∈ fs -> stepI rows h f = q -> (h : Int) ∈ ks') /\ (∀ h ∈ ls.take i,h ∈ ks') /\ 2 * (many - ks'.length) + ws'.length < 2 * (many - ks.length) + ws.length /\ here ∈ ks' /\ H' la = some (.lst (ls.map V.int)) /\ BackOk H H' B es (PB rows fs many (rows.length * fs.length) rows.length 0))
    ⟨ks,ws.dropLast,_,_,rfl,s6,hD6,hW6,ndk,hk,sub5,by omega,hgk,cl5,(fun h z => by simp at z),by omega,hks,hla,b6⟩ (fun i σ' H' _ ⟨_,_,_,_,_,_,_,_,_,_,_,_,_,_,_,_,_,e,_⟩ => qL_ e) ?_ ?_
   ·rintro i y σ' H7 hi ⟨ks',ws',v4,v3,rfl,s7,hD7,hW7,nd7,hk7,sub7,lw7,hg7,cl7,tk7,meas,hh7,hla7,b7⟩
    obtain ⟨th,rfl,hth⟩:=fS hi
    obtain ⟨thr,fi,hfi,stp⟩:=hp.2.1 th (mq_ hth)
    have kl7:=eN many nd7 fun q hq => (hk7 q hq).1
    refine ⟨_,rfl,_,rfl,D,_,rfl,DGet.k (k:=Sum.inl th) hD7,_,rfl,?_⟩
    rw [B8]
    refine ye (fun c => ?_) (fun c => ?_)
    ·refine ⟨_,rfl,_,rfl,D,_,rfl,DPut.k (k:=Sum.inl th) hD7 (aR (by unfold kvT; rw [lm_]; omega)),?_⟩
     rw [B7 c]
     have hW8 : (upd H7 D (HO.dK (kvT (ks' ++ [th])))) W = some (.lst (ws'.map V.int)):=by rw [aj hWD]; exact hW7
     have nd8 : (ks' ++ [th]).Nodup:=sU nd7 c
     have hk8 : ∀ q ∈ ks' ++ [th],(0 <= q /\ q < (many : Int)) /\ LeadsTo rows fs gs q:=fun q hq => by
      rcases ma_.mp hq with z | z
      ·exact hk7 q z
      ·rw [List.mem_singleton.mp z]
       exact ⟨thr,LeadsTo.step hfi (by rw [stp]; exact (hk7 here hh7).2)⟩
     have kl8:=eN many nd8 fun q hq => (hk8 q hq).1
     rw [List.length_append,List.length_singleton] at kl8
     refine ⟨_,rfl,.inl ⟨rfl,_,qL_ hW8⟩,_,rfl,W,_,_,rfl,rfl,hW8,aR (by rw [lm_]; omega),?_⟩
     refine ⟨ks' ++ [th],ws' ++ [th],_,_,rfl,aM (aM s7 fD) fW,by rw [aj (Ne.symm hWD),ae],by rw [ae,List.map_append]; rfl,nd8,hk8,?_,by rw [List.length_append,List.length_append,List.length_singleton]; omega,fun q hq => List.mem_append_left _ (hg7 q hq),fun q hq hn nh h f hh hf e => ?_,fun h hh => ?_,by rw [List.length_append,List.length_append,List.length_singleton]; omega,List.mem_append_left _ hh7,?_,?_⟩
     ·intro q hq
      rcases ma_.mp hq with z | z
      ·exact List.mem_append_left _ (sub7 q z)
      ·exact List.mem_append_right _ z
     ·rcases ma_.mp hq with z | z
      ·exact List.mem_append_left _ (cl7 q z (fun y => hn (List.mem_append_left _ y)) nh h f hh hf e)
      ·exact absurd (List.mem_append_right _ z) hn
     ·rcases (di hth).mp hh with z | z
      ·exact List.mem_append_left _ (tk7 h z)
      ·rw [z]; exact List.mem_append_right _ List.mem_cons_self
     ·rw [aj (nW _ hm),aj (neD _ hm)]; exact hla7
     ·exact b7.keep (by rw [aj nBW,aj nBD]) fun e he => by rw [aj (nW e he),aj (neD e he)]
    ·refine ⟨ks',ws',_,_,rfl,s7,hD7,hW7,nd7,hk7,sub7,lw7,hg7,cl7,fun h hh => ?_,meas,hh7,hla7,b7⟩
     rcases (di hth).mp hh with z | z
     ·exact tk7 h z
     ·rw [z]; exact c
   ·rintro σ' H7 ⟨ks',ws',v4,v3,rfl,s7,hD7,hW7,nd7,hk7,sub7,lw7,hg7,cl7,tk7,meas,hh7,hla7,b7⟩
    rw [lm_,List.take_length] at tk7
    refine ⟨_,meas,ks',ws',_,_,_,_,rfl,rfl,s7,hD7,hW7,nd7,hk7,sub7,lw7,hg7,fun q hq hn h f hh hf e => ?_,b7⟩
    by_cases c : q = here
    ·subst c
     exact tk7 _ (hp.2.2 h f (.inl ⟨by rw [R.len]; exact hh,hf⟩) e)
    ·exact cl7 q hq hn c h f hh hf e
 rintro σ' H4 ⟨ks,v1,v2,v3,v4,rfl,s4,hD4,ndk,hk,hgk,hcl⟩
 refine ⟨_,rfl,k D H4 ks s4 fD hD4 ndk hk ?_⟩
 have go : ∀ (row : LI) (q : Int),0 <= q -> q < (many : Int) -> (∀ f ∈ row,f ∈ fs) -> J6 rows row q ∈ gs -> q ∈ ks:=by
  intro row
  induction row with
  | nil => intro q _ _ _ h; exact hgk q h
  | cons f r ih =>
   intro q q0 q1 hf h
   have fin:=hf f List.mem_cons_self
   have st:=kW R q0 q1 (hfs f fin).1 (hfs f fin).2
   have h2:=ih (stepI rows q f) st.1 st.2 (fun g hg => hf g (List.mem_cons_of_mem _ hg)) h
   obtain ⟨n,rfl⟩:=gI q0
   exact hcl _ h2 n f (by omega) fin rfl
 exact fun q q0 q1 ⟨row,hr1,hr2⟩ => go row q q0 q1 hr1 hr2
end
def bO (signs : LI) (sg : Int) (n : Nat) : LI:=((List.range n).filter fun i => decide (signs.getD i 0 = sg)).map fun i : Nat => (i : Int)
theorem vt (signs : LI) (sg : Int) (n : Nat) : bO signs sg (n + 1) = bO signs sg n ++ (if signs.getD n 0 = sg then [(n : Int)] else []):=by
 unfold bO
 rw [List.range_succ,List.filter_append,List.map_append]
 congr 1
 by_cases c : signs.getD n 0 = sg
 ·rw [if_pos c,List.filter_cons_of_pos (by exact decide_eq_true c)]; rfl
 ·rw [if_neg c,List.filter_cons_of_neg (by rw [decide_eq_false c]; decide)]; rfl
theorem FO (signs : LI) (sg : Int) (n : Nat) : (bO signs sg n).length <= n:=by
 unfold bO
 rw [lm_]
 exact Nat.le_trans (List.length_filter_le _ _) (by simp)
theorem roomsI_mem {signs : LI} {sg : Int} {n : Nat} {q : Int} : q ∈ bO signs sg n ↔ 0 <= q /\ q < (n : Int) /\ signs.getD q.toNat 0 = sg:=by
 unfold bO
 rw [List.mem_map]
 constructor
 ·rintro ⟨i,hi,rfl⟩
  have h:=List.mem_filter.mp hi
  have h1:=List.mem_range.mp h.1
  exact ⟨by omega,by omega,by rw [Int.toNat_natCast]; exact of_decide_eq_true h.2⟩
 ·rintro ⟨h0,h1,h2⟩
  exact ⟨q.toNat,List.mem_filter.mpr ⟨List.mem_range.mpr (by omega),decide_eq_true h2⟩,by omega⟩
def yZ : Sp:=fun vs H Q _ => ∃ (m r g : Addr) (wide : Nat) (rows : LL) (signs : LI) (sg : Int),vs = [.ref m,.int sg] /\ MachAt H m r g wide rows signs /\ signs.length <= 1000 /\
 ∀ (l : Addr) (H' : Hp),Same H H' -> H l = none -> H' l = some (.lst ((bO signs sg signs.length).map V.int)) -> Q (.ref l) H'
section
variable {P : Program} {w : World} {K : PySem.W.Frag} {mg : Str -> Option Value} {base : Heap} {f : Addr} {fd : FuncData} {dV : Value}
theorem Ai : FnScope ["machine","sign"] ["machine","sign"] (af cS):=⟨rfl,rfl,rfl,by decide +kernel,rfl,by decide +kernel,by decide +kernel⟩
theorem bk_rooms_with_0 : BlkScope ["machine","sign"] (af cS) ["here","other","sign"] [none,none,some 1] { kind:=ScopeKind.function,names:=[(".0",NameKind.local),("here",NameKind.local),("other",NameKind.local),("sign",NameKind.free)],isGenerator:=false,isCoroutine:=false,more:=[] }:=⟨rfl,by decide +kernel,by decide +kernel,by decide +kernel,by decide +kernel,rfl,by decide +kernel⟩
theorem HF (F : FunD K "rooms_with" "rooms_with" cS dV f fd) (fc : mg "enumerate" = none) : FnOk P w K mg base CX0 1 f fd ["machine","sign"] yZ:=by
 refine F.ok Ai (fun vs H Q E h => ?_) (fun cdv A outer s H vs Q E hr h => ?_)
 ·obtain ⟨m,r,g,wide,rows,signs,sg,rfl,_⟩:=h
  rfl
 obtain ⟨m,r,g,wide,rows,signs,sg,rfl,M,hl,k⟩:=h
 refine ⟨_,(ai (ax (EJ rfl bk_rooms_with_0 (EN rfl fc (aa (aH az (pv 0) ah (fun _ _ => rfl)) ag)) (fun _ _ _ _ => (KZ K (n:=2) rfl (dh (aL (i:=0) bk_rooms_with_0.nd rfl (Or.inl rfl)) (dh (aL (i:=1) bk_rooms_with_0.nd rfl (Or.inl rfl)) xr)))) (fun _ _ _ _ => (aO cK (pv 1) (pv 2) (aQ _))) (fun _ _ _ _ => (pv 0))))),?_⟩
 refine ⟨_,rfl,m,_,_,_,rfl,rfl,qT_ M.tup,rfl,g,rfl,⟨_,qT_ M.sgn⟩,?_⟩
 refine DX (K:=K) (xs:=signs.map V.int) (fun D i ys H' => Same H H' /\ ys = (bO signs sg i).map V.int) (fun T σ H Q x y h q => ⟨T,[x,y],rfl,qT_ h,rfl,x,[y],rfl,y,[],rfl,rfl,q⟩) (fun D hD => ⟨ao hD _,rfl⟩) (fun D i ys H' _ p => qT_ (p.1 _ _ M.sgn)) ?_ ?_
 ·rintro D i x ys H' T Qy Qn hD hx hy ⟨hs,rfl⟩ hT ky kn
  obtain ⟨z,rfl,hz⟩:=fS hx
  have li:=(gi_ hz).1
  have ez : signs.getD i 0 = z:=by rw [List.getD_eq_getElem?_getD,hz]; rfl
  have nD : D ≠ T:=aq hy hT
  have lr:=FO signs sg i
  refine ⟨_,rfl,_,rfl,rfl,_,rfl,kE (fun c => ?_) (fun c => ?_)⟩
  ·refine ⟨_,rfl,ky _ _ (by rw [aj nD]; exact hy) (aR (by rw [lm_]; omega)) ⟨aM (aM hs (hs.free hT)) hD,?_⟩⟩
   rw [vt,if_pos (by rw [ez]; exact c),List.map_append]
   rfl
  ·refine kn _ (by rw [aj nD]; exact hy) ⟨aM hs (hs.free hT),?_⟩
   rw [vt,if_neg (by rw [ez]; exact c),List.append_nil]
 ·rintro D ys H' hD hy ⟨hs,rfl⟩
  rw [lm_] at hy
  exact k D _ hs hD hy
end
theorem C3 (signs : LI) (sg : Int) (n : Nat) : (bO signs sg n).Nodup:=by
 unfold bO
 refine List.pairwise_map.mpr (List.Pairwise.imp (fun {a b} h => ?_) (List.nodup_range.filter _))
 intro z
 exact h (by omega)
structure CCls (K : PySem.W.Frag) (C : Addr) : Prop where
 cl : Cls K C
 nr : NoAttr K C "rows"
 nb : NoAttr K C "base"
 nl : NoAttr K C "below"
 nw : NoAttr K C "winning"
structure ChAt (H : Hp) (C x r : Addr) (b lo : Int) (ks : LI) : Prop where
 ob : ∃ dx D : Addr,H x = some (.ins C dx [("rows",.ref r),("base",.int b),("below",.int lo),("winning",.ref D)]) /\ H D = some (.dK (kvT ks))
theorem ChAt.same {H H' : Hp} {C x r : Addr} {b lo : Int} {ks : LI} (h : ChAt H C x r b lo ks) (s : Same H H') : ChAt H' C x r b lo ks:=by
 obtain ⟨dx,D,h1,h2⟩:=h.ob
 exact ⟨dx,D,s _ _ h1,s _ _ h2⟩
def dP (lo : Int) (b : Nat) : LI:=(List.range b).map fun i : Nat => lo * (i : Int)
def LO (rows : LL) (signs : LI) (lo : Int) (b many : Nat) (ks : LI) : Prop:=ks.Nodup /\ (∀ q ∈ ks,(0 <= q /\ q < (many : Int)) /\ LeadsTo rows (dP lo b) (bO signs 1 many) q) /\ ∀ q : Int,0 <= q -> q < (many : Int) -> LeadsTo rows (dP lo b) (bO signs 1 many) q -> q ∈ ks
def tP (C : Addr) : Sp:=fun vs H Q _ => ∃ (x dx m r g : Addr) (b n many wide : Nat) (rows : LL) (signs : LI),vs = [.ref x,.ref m,.int b,.int n] /\ H x = some (.ins C dx []) /\ MachAt H m r g wide rows signs /\ RowsOk many wide rows /\ signs.length = many /\ (1 <= many /\ many <= 400) /\ (1 <= wide /\ wide <= 400) /\ (1 <= b /\ b <= 400) /\ n <= 1000 /\ (0 < (b : Int) ^ n /\ (b : Int) ^ n <= 100000) /\ (∀ i : Nat,i < b -> (b : Int) ^ n * (i : Int) < (wide : Int)) /\
 ∀ (H' : Hp) (ks : LI),(∀ c u,c ≠ x -> H c = some u -> H' c = some u) -> ChAt H' C x r b ((b : Int) ^ n) ks -> LO rows signs ((b : Int) ^ n) b many ks -> Q .non H'
def uU : Sp:=fun vs H Q _ => ∃ x : Addr,vs = [.ref x] /\ ∀ (t : Addr) (H' : Hp),Same H H' -> H' t = some (.tup [.int 0]) -> Q (.ref t) H'
section
variable {P : Program} {w : World} {K : PySem.W.Frag} {mg : Str -> Option Value} {base : Heap} {f : Addr} {fd : FuncData} {dV : Value} {C : Addr}
theorem pk : FnScope ["self","machine","base","at"] ["self","machine","base","at"] (af bj):=⟨rfl,rfl,rfl,by decide +kernel,rfl,by decide +kernel,by decide +kernel⟩
theorem tI : FnScope ["self"] ["self"] (af bU):=⟨rfl,rfl,rfl,by decide +kernel,rfl,by decide +kernel,by decide +kernel⟩
theorem Hv (F : FunD K "__init__" "Choosing.__init__" bj dV f fd) (cc : CCls K C) (gq : DefOk P w K mg base "power_of" 1 ["base","times"] [] xw) (lq : DefOk P w K mg base "rooms_with" 1 ["machine","sign"] [] yZ) (kh : DefOk P w K mg base "parts_alone" 1 ["base","below"] [] DC)
  (d8 : DefOk P w K mg base "rooms_leading_to" 1 ["machine","goals","taken"] [] (Dv K)) : FnOk P w K mg base CX0 2 f fd ["self","machine","base","at"] (tP C):=by
 refine F.ok pk (fun vs H Q E h => ?_) (fun cdv A outer s H vs Q E hr h => ?_)
 ·obtain ⟨x,dx,m,r,g,b,n,many,wide,rows,signs,rfl,_⟩:=h
  rfl
 obtain ⟨x,dx,m,r,g,b,n,many,wide,rows,signs,rfl,hx,M,R,lsg,⟨n0,n1⟩,⟨w0,w1⟩,⟨b0,b1⟩,hn,⟨p0,p1⟩,hf,k⟩:=h
 refine ⟨_,(ak (iC (pv 0) (aH az (pv 1) ah (fun _ _ => rfl)) rfl)
   (ak (iC (pv 0) (pv 2) rfl)
   (ak (iC (pv 0) (aV gq hr (aa (pv 2) (aa (pv 3) ag))) rfl)
   (ai (iC (pv 0) (aV d8 hr (aa (pv 1) (aa (aV lq hr (aa (pv 1) (aa ah ag))) (aa (aV kh hr (aa (pv 2) (aa (cO (pv 0) rfl) ag))) ag)))) rfl))))),?_⟩
 have ntx : ∀ {a : Addr} {ys : List V},H a = some (.tup ys) -> a ≠ x:=fun e => cb e hx (by intro z; cases z)
 refine ⟨_,rfl,m,_,_,_,rfl,rfl,qT_ M.tup,rfl,_,rfl,x,C,dx,[],rfl,hx,cc.cl,cc.nr,by decide,?_⟩
 refine ⟨_,rfl,_,rfl,x,C,dx,_,rfl,ae,cc.cl,cc.nb,by show 1 < 1000; decide,?_⟩
 refine ⟨_,rfl,_,rfl,(b : Int),n,rfl,⟨by omega,by omega⟩,hn,_,rfl,x,C,dx,_,rfl,ae,cc.cl,cc.nl,by show 2 < 1000; decide,?_⟩
 obtain ⟨H3,eH3⟩ : ∃ H3,upd (upd (upd H x (HO.ins C dx (jK "rows" (V.ref r) []))) x (HO.ins C dx (jK "base" (V.int b) (jK "rows" (V.ref r) [])))) x (HO.ins C dx (jK "below" (V.int ((b : Int) ^ n)) (jK "base" (V.int b) (jK "rows" (V.ref r) [])))) = H3:=⟨_,rfl⟩
 have keep : ∀ c u,c ≠ x -> H c = some u -> H3 c = some u:=fun c u hc e => by rw [<- eH3,aj hc,aj hc,aj hc]; exact e
 have hx3 : H3 x = some (.ins C dx [("rows",.ref r),("base",.int b),("below",.int ((b : Int) ^ n))]):=by rw [<- eH3,ae]; rfl
 have M3:=M.same fun a ys e => keep a _ (ntx e) e
 rw [eH3]
 refine ⟨_,rfl,_,rfl,m,r,g,wide,rows,signs,1,rfl,M3,by omega,fun gl H4 s4 hgl0 hgl => ?_⟩
 rw [lsg] at hgl
 have hx4:=s4 _ _ hx3
 refine ⟨_,rfl,_,rfl,x,C,dx,_,_,rfl,hx4,cc.cl,cc.nl,rfl,b,_,rfl,by omega,⟨p0,p1⟩,fun tk H5 s5 htk0 htk => ?_⟩
 have hx5:=s5 _ _ hx4
 have M5:=M3.same fun a ys e => (s4.trans s5) _ _ e
 refine ⟨m,r,g,gl,tk,many,wide,rows,signs,bO signs 1 many,dP ((b : Int) ^ n) b,rfl,M5,R,⟨n0,n1⟩,⟨w0,w1⟩,s5 _ _ hgl,C3 _ _ _,fun q hq => ⟨(roomsI_mem.mp hq).1,(roomsI_mem.mp hq).2.1⟩,htk,by unfold dP; simp; omega,fun fg hfg => ?_,fun D H6 ks s6 hD0 hD nd k1 k2 => ?_⟩
 ·obtain ⟨i,hi,rfl⟩:=List.mem_map.mp hfg
  exact ⟨Int.mul_nonneg (by omega) (by omega),hf i (List.mem_range.mp hi)⟩
 have hx6:=s6 _ _ hx5
 refine ⟨_,rfl,x,C,dx,_,rfl,hx6,cc.cl,cc.nw,by show 3 < 1000; decide,?_⟩
 have nDx : D ≠ x:=cb hD hx6 (by intro z; cases z)
 refine k _ ks (fun c u hc e => ?_) ⟨dx,D,ae,by rw [aj nDx]; exact hD⟩ ⟨nd,k1,k2⟩
 rw [aj hc]
 exact (s4.trans (s5.trans s6)) _ _ (keep c u hc e)
theorem Fz (F : FunD K "begin" "Choosing.begin" bU dV f fd) : FnOk P w K mg base CX0 1 f fd ["self"] uU:=by
 refine F.ok tI (fun vs H Q E h => ?_) (fun cdv A outer s H vs Q E hr h => ?_)
 ·obtain ⟨x,rfl,_⟩:=h
  rfl
 obtain ⟨x,rfl,q⟩:=h
 refine ⟨_,(ai (ax (cw (aa ah ag)))),?_⟩
 exact ⟨(by show 1 <= sizeLine; decide),fun t ht => q t _ (ao ht _) ae⟩
end
theorem uT : ∀ {xs ys : LI},xs.Pairwise (· < ·) -> ys.Pairwise (· < ·) -> (∀ q,q ∈ xs ↔ q ∈ ys) -> xs = ys
 | [],[],_,_,_ => rfl
 | [],y :: ys,_,_,h => by cases (h y).mpr List.mem_cons_self
 | x :: xs,[],_,_,h => by cases (h x).mp List.mem_cons_self
 | x :: xs,y :: ys,hx,hy,h => by
  have hx' := List.pairwise_cons.mp hx
  have hy' := List.pairwise_cons.mp hy
  have e : x = y:=by
   rcases List.mem_cons.mp ((h x).mp List.mem_cons_self) with z | z
   ·exact z
   ·rcases List.mem_cons.mp ((h y).mpr List.mem_cons_self) with z2 | z2
    ·exact z2.symm
    ·have h1:=hx'.1 y z2
     have h2:=hy'.1 x z
     omega
  subst e
  congr 1
  refine uT hx'.2 hy'.2 fun q => ⟨fun hq => ?_,fun hq => ?_⟩
  ·rcases List.mem_cons.mp ((h q).mp (List.mem_cons_of_mem _ hq)) with z | z
   ·have h1:=hx'.1 q hq
    omega
   ·exact z
  ·rcases List.mem_cons.mp ((h q).mpr (List.mem_cons_of_mem _ hq)) with z | z
   ·have h1:=hy'.1 q hq
    omega
   ·exact z
def kd (rows : LL) (ps fs : LI) (many : Nat) : LI:=((List.range many).filter fun q : Nat => decide (∃ p ∈ ps,∃ f ∈ fs,stepI rows p f = (q : Int))).map fun q : Nat => (q : Int)
theorem nextI_mem {rows : LL} {ps fs : LI} {many : Nat} {q : Int} : q ∈ kd rows ps fs many ↔ (0 <= q /\ q < (many : Int)) /\ ∃ p ∈ ps,∃ f ∈ fs,stepI rows p f = q:=by
 unfold kd
 rw [List.mem_map]
 constructor
 ·rintro ⟨i,hi,rfl⟩
  have h:=List.mem_filter.mp hi
  have h1:=List.mem_range.mp h.1
  exact ⟨⟨by omega,by omega⟩,of_decide_eq_true h.2⟩
 ·rintro ⟨⟨h0,h1⟩,h2⟩
  obtain ⟨n,rfl⟩:=gI h0
  exact ⟨n,List.mem_filter.mpr ⟨List.mem_range.mpr (by omega),decide_eq_true h2⟩,rfl⟩
theorem sV (rows : LL) (ps fs : LI) (many : Nat) : (kd rows ps fs many).Pairwise (· < ·):=by
 unfold kd
 refine List.pairwise_map.mpr (List.Pairwise.imp (fun {a b} h => ?_) (List.pairwise_lt_range.filter _))
 omega
theorem AN (rows : LL) (ps fs : LI) (many : Nat) : (kd rows ps fs many).length <= many:=by
 unfold kd
 rw [lm_]
 exact Nat.le_trans (List.length_filter_le _ _) (by simp)
theorem EX {rows : LL} {ps fs ms : LI} {many : Nat} (hs : ms.Pairwise (· <= ·)) (nd : ms.Nodup) (h : ∀ q,q ∈ ms ↔ (0 <= q /\ q < (many : Int)) /\ ∃ p ∈ ps,∃ f ∈ fs,stepI rows p f = q) : ms = kd rows ps fs many:=by
 refine uT ((hs.and nd).imp fun h => ?_) (sV ..) fun q => by rw [h,nextI_mem]
 have h1:=h.1
 have h2:=h.2
 omega
def cz (g : Int) (b : Nat) (lo : Int) : LI:=(List.range b).map fun i : Nat => hZ g b lo (i : Int)
def jJ (rows : LL) (ps fs : LI) : LI:=fs.flatMap fun f => ps.map fun p => stepI rows p f
theorem FL {rows : LL} {ps fs : LI} {q : Int} : q ∈ jJ rows ps fs ↔ ∃ p ∈ ps,∃ f ∈ fs,stepI rows p f = q:=by
 unfold jJ
 rw [List.mem_flatMap]
 constructor
 ·rintro ⟨f,hf,hq⟩
  obtain ⟨p,hp,e⟩:=List.mem_map.mp hq
  exact ⟨p,hp,f,hf,e⟩
 ·rintro ⟨p,hp,f,hf,e⟩
  exact ⟨f,hf,List.mem_map.mpr ⟨p,hp,e⟩⟩
theorem rK (rows : LL) (ps : LI) : ∀ fs : LI,(jJ rows ps fs).length = fs.length * ps.length
 | [] => by show 0 = 0 * _; omega
 | f :: fs => by
  have ih:=rK rows ps fs
  have e : jJ rows ps (f :: fs) = (ps.map fun p => stepI rows p f) ++ jJ rows ps fs:=rfl
  rw [e,List.length_append,lm_,ih,List.length_cons,Nat.succ_mul]
  omega
theorem EU (rows : LL) (ps fs : LI) (f : Int) : jJ rows ps (fs ++ [f]) = jJ rows ps fs ++ ps.map fun p => stepI rows p f:=by
 unfold jJ
 rw [List.flatMap_append]
 simp
theorem kR {many wide : Nat} {rows : LL} (R : RowsOk many wide rows) {y f : Int} (y0 : 0 <= y) (y1 : y < (many : Int)) (f0 : 0 <= f) (f1 : f < (wide : Int)) : 0 <= stepI rows y f /\ stepI rows y f < (many : Int):=by
 obtain ⟨r0,rl,rv⟩:=R
 have l : y.toNat < rows.length:=by omega
 have e : rows.getD y.toNat [] = rows[y.toNat]:=by rw [List.getD_eq_getElem?_getD,List.getElem?_eq_getElem l]; rfl
 have hm:=List.getElem_mem l
 have l2 : f.toNat < rows[y.toNat].length:=by rw [rl _ hm]; omega
 have e2 : rows[y.toNat].getD f.toNat 0 = rows[y.toNat][f.toNat]:=by rw [List.getD_eq_getElem?_getD,List.getElem?_eq_getElem l2]; rfl
 unfold stepI
 rw [e,e2]
 exact rv _ hm _ (List.getElem_mem l2)
def yT (C : Addr) : Sp:=fun vs H Q _ => ∃ (x t m r g : Addr) (b many wide : Nat) (lo fg : Int) (ks ps : LI) (rows : LL) (signs : LI),vs = [.ref x,.ref t,.int fg] /\ ChAt H C x r b lo ks /\ MachAt H m r g wide rows signs /\ RowsOk many wide rows /\ many <= 60 /\
 H t = some (.tup (ps.map V.int)) /\ ps.length <= 20 /\ (∀ p ∈ ps,0 <= p /\ p < (many : Int)) /\ (1 <= b /\ b <= 20) /\ (0 < lo /\ lo <= 100000) /\ (∀ f ∈ cz fg b lo,0 <= f /\ f < (wide : Int)) /\
 ∀ (T : Addr) (H' : Hp),Same H H' -> H' T = some (.tup ((kd rows ps (cz fg b lo) many).map V.int)) -> Q (.ref T) H'
def yS (C : Addr) : Sp:=fun vs H Q _ => ∃ (x t r : Addr) (b lo : Int) (ks ps : LI),vs = [.ref x,.ref t] /\ ChAt H C x r b lo ks /\ H t = some (.tup (ps.map V.int)) /\ ps.length <= 1000 /\
 ∀ H' : Hp,Same H H' -> Q (.int (if (ps.map fun p => decide (p ∈ ks)).any id = true then 1 else 0)) H'
section
variable {P : Program} {w : World} {K : PySem.W.Frag} {mg : Str -> Option Value} {base : Heap} {f : Addr} {fd : FuncData} {dV : Value} {C : Addr}
theorem sc_Choosing_step : FnScope ["self","place","figure","reached","part","whole"] ["self","place","figure"] (af bM):=⟨rfl,rfl,rfl,by decide +kernel,rfl,by decide +kernel,by decide +kernel⟩
theorem bk_Choosing_step_0 : BlkScope ["self","place","figure","reached","part","whole"] (af bM) ["here","self","whole"] [none,some 0,some 5] { kind:=ScopeKind.function,names:=[(".0",NameKind.local),("here",NameKind.local),("self",NameKind.free),("whole",NameKind.free)],isGenerator:=false,isCoroutine:=false,more:=[] }:=⟨rfl,by decide +kernel,by decide +kernel,by decide +kernel,by decide +kernel,rfl,by decide +kernel⟩
theorem uM : FnScope ["self","place"] ["self","place"] (af bL):=⟨rfl,rfl,rfl,by decide +kernel,rfl,by decide +kernel,by decide +kernel⟩
theorem bk_Choosing_sign_0 : BlkScope ["self","place"] (af bL) ["here","self"] [none,some 0] { kind:=ScopeKind.function,names:=[(".0",NameKind.local),("here",NameKind.local),("self",NameKind.free)],isGenerator:=false,isCoroutine:=false,more:=[] }:=⟨rfl,by decide +kernel,by decide +kernel,by decide +kernel,by decide +kernel,rfl,by decide +kernel⟩
theorem Hx (F : FunD K "step" "Choosing.step" bM dV f fd) (cc : CCls K C) (nk : DefOk P w K mg base "with_part" 1 ["figure","base","below","part"] [] DF) (aF : mg "range" = none) (aS : mg "tuple" = none) (zh : mg "sorted" = none) (Kj : mg "set" = none) : FnOk P w K mg base CX0 2 f fd ["self","place","figure"] (yT C):=by
 refine F.ok sc_Choosing_step (fun vs H Q E h => ?_) (fun cdv A outer s H vs Q E hr h => ?_)
 ·obtain ⟨x,t,m,r,g,b,many,wide,lo,fg,ks,ps,rows,signs,rfl,_⟩:=h
  rfl
 obtain ⟨x,t,m,r,g,b,many,wide,lo,fg,ks,ps,rows,signs,rfl,CH,M,R,n1,ht,lp,hp,⟨b0,b1⟩,⟨l0,l1⟩,hf,k⟩:=h
 obtain ⟨dx,D,hx,hD⟩:=CH.ob
 obtain ⟨hm,⟨ras,hr',hA⟩,hg⟩:=M
 refine ⟨_,(ak (aC (i:=3) sc_Choosing_step.nd rfl (Or.inl rfl) (mv ag))
   (ak (cD PassesOwn.never rfl (ba rfl aF (aa (cO (pv 0) rfl) ag)) (aL (i:=4) sc_Choosing_step.nd rfl (Or.inl rfl)) (ak (aC (i:=5) sc_Choosing_step.nd rfl (Or.inr rfl) (aV nk hr (aa (pv 2) (aa (cO (pv 0) rfl) (aa (cO (pv 0) rfl) (aa (pv 4) ag))))))
   (ai (iX (vo PySem.F.plainAttrs_list PySem.F.slot_list_extend PySem.F.type_list_extend Hs (pv 3) (aa (mq rfl bk_Choosing_step_0 (pd (pv 1)) (fun _ _ _ _ => (aL (i:=0) bk_Choosing_step_0.nd rfl (Or.inl rfl))) (fun _ _ _ _ => (aH (Gx K) (aH (Gx K) (GD K (pv 1) rfl) (pv 0) (fun _ _ => rfl)) (pv 2) (fun _ _ => rfl)))) ag))))))
   (ai (ax (bS bf (by rfl) aS cq (aa (aK (Bl rfl) (by rfl) zh GW (aa (bS (G1 rfl) (by rfl) Kj LW (aa (pv 3) ag)) ag)) ag)))))),?_⟩
 refine ⟨(by show 0 <= sizeLine; decide),fun L hL => ?_⟩
 have sL:=ao hL (HO.lst [])
 refine ⟨_,rfl,x,C,dx,_,_,rfl,sL _ _ hx,cc.cl,cc.nb,rfl,(b : Int),rfl,by omega,by omega,?_⟩
 refine cC (fun i σ' H' => ∃ v1 v2,σ' = [some (.ref x),some (.ref t),some (.int fg),some (.ref L),v1,v2] /\ Same H H' /\ H' L = some (.lst ((jJ rows ps ((cz fg b lo).take i)).map V.int))) ⟨none,none,rfl,sL,ae⟩ ?_ ?_
 ·rintro i σ' H1 hi ⟨v1,v2,rfl,s1,hL1⟩
  rw [Int.toNat_natCast] at hi
  have hx1:=s1 _ _ hx
  obtain ⟨w0,ew⟩ : ∃ w0,hZ fg b lo (0 + (i : Int)) = w0:=⟨_,rfl⟩
  have ei : (cz fg b lo).take (i + 1) = (cz fg b lo).take i ++ [w0]:=by
   unfold cz
   rw [<- List.map_take,<- List.map_take,List.take_range,List.take_range,Nat.min_eq_left (by omega),Nat.min_eq_left (by omega),List.range_succ,List.map_append,<- ew,Int.zero_add]
   rfl
  have hw : w0 ∈ cz fg b lo:=by
   rw [<- ew,Int.zero_add]
   exact List.mem_map.mpr ⟨i,List.mem_range.mpr hi,rfl⟩
  obtain ⟨f0,f1⟩:=hf w0 hw
  have ll : (jJ rows ps ((cz fg b lo).take i)).length <= 400:=by
   rw [rK,List.length_take]
   exact Nat.le_trans (Nat.mul_le_mul (Nat.le_trans (Nat.min_le_left _ _) (show i <= 20 by omega)) lp) (by decide)
  refine ⟨_,rfl,_,rfl,x,C,dx,_,_,rfl,hx1,cc.cl,cc.nb,rfl,_,rfl,x,C,dx,_,_,rfl,hx1,cc.cl,cc.nl,rfl,_,rfl,fg,(b : Int),lo,0 + (i : Int),rfl,⟨by omega,by omega⟩,⟨l0,l1⟩,?_⟩
  rw [ew]
  refine ⟨_,rfl,.inl ⟨rfl,_,qL_ hL1⟩,_,rfl,t,rfl,⟨_,qT_ (s1 _ _ ht)⟩,?_⟩
  refine xQ (K:=K) (xs:=ps.map V.int) (fun D j ys H' => Same H1 H' /\ ys = ((ps.take j).map fun p => stepI rows p w0).map V.int) (fun D hD => ⟨ao hD _,rfl⟩) (fun D j ys H' _ ⟨e,_⟩ => qT_ (e _ _ (s1 _ _ ht))) ?_ ?_
  ·rintro D j y ys H2 Q' hD hj hy ⟨s2,rfl⟩ k'
   obtain ⟨z,rfl,hz⟩:=fS hj
   have lj:=(gi_ hz).1
   obtain ⟨z0,z1⟩:=hp z (mq_ hz)
   have s12:=s1.trans s2
   obtain ⟨ra,rr,e1,e2,e3⟩:=hJ (hA.same fun a ys e => s12 _ _ e) R z0 z1 f0 f1
   refine ⟨_,rfl,x,C,dx,_,_,rfl,s12 _ _ hx,cc.cl,cc.nr,rfl,_,rfl,r,_,_,_,rfl,rfl,qT_ (s12 _ _ hr'),e1,_,rfl,ra,_,_,_,rfl,rfl,qT_ e2,e3,?_⟩
   refine k' _ _ hy (aR (by rw [lm_,lm_,List.length_take]; omega)) ⟨aM s2 hD,?_⟩
   rw [List.take_add_one,hz,List.map_append,List.map_append]
   rfl
  ·rintro D ys H2 hD hy ⟨s2,rfl⟩
   rw [lm_,List.take_length] at hy
   have nDL : L ≠ D:=aq hL1 hD
   refine ⟨L,D,_,_,rfl,rfl,s2 _ _ hL1,hy,small (by rw [lm_,lm_,lm_]; omega),?_⟩
   refine ⟨_,_,rfl,aM (s1.trans s2) hL,?_⟩
   rw [ae,ei,EU,List.map_append]
 ·rintro σ' H1 ⟨v1,v2,rfl,s1,hL1⟩
  rw [Int.toNat_natCast,List.take_of_length_le (by unfold cz; simp)] at hL1
  obtain ⟨ns,en⟩ : ∃ ns,jJ rows ps (cz fg b lo) = ns:=⟨_,rfl⟩
  have hns : ∀ q,q ∈ ns ↔ ∃ p ∈ ps,∃ f ∈ cz fg b lo,stepI rows p f = q:=fun q => by rw [<- en]; exact FL
  have hin : ∀ q ∈ ns,0 <= q /\ q < (many : Int):=fun q hq => by
   obtain ⟨p,hp',fg',hf',e⟩:=(hns q).mp hq
   rw [<- e]
   exact kR R (hp p hp').1 (hp p hp').2 (hf _ hf').1 (hf _ hf').2
  have lw : (cz fg b lo).length = b:=by unfold cz; simp
  have ll : ns.length <= 400:=by
   rw [<- en,rK,lw]
   exact Nat.le_trans (Nat.mul_le_mul b1 lp) (by decide)
  rw [en] at hL1
  have lo60 : (kT ns).length <= many:=eN many (yF ns) fun q hq => hin q (once_mem.mp hq)
  refine ⟨_,rfl,L,ns,rfl,hL1,by omega,fun S hS => ⟨S,kT ns,rfl,ae,by omega,fun l ms hl pm srt => ⟨l,_,rfl,.inl ⟨qL_ ae,fun T hT => ?_⟩⟩⟩⟩
  refine k T _ (s1.trans ((ao hS _).trans ((ao hl _).trans (ao hT _)))) ?_
  rw [ae,EX srt (pm.nodup_iff.mpr (yF ns)) fun q => ?_]
  rw [pm.mem_iff,once_mem]
  exact ⟨fun h => ⟨hin q h,(hns q).mp h⟩,fun h => (hns q).mpr h.2⟩
theorem Hw (F : FunD K "sign" "Choosing.sign" bL dV f fd) (cc : CCls K C) (Kh : mg "any" = none) : FnOk P w K mg base CX0 1 f fd ["self","place"] (yS C):=by
 refine F.ok uM (fun vs H Q E h => ?_) (fun cdv A outer s H vs Q E hr h => ?_)
 ·obtain ⟨x,t,r,b,lo,ks,ps,rfl,_⟩:=h
  rfl
 obtain ⟨x,t,r,b,lo,ks,ps,rfl,CH,ht,lp,k⟩:=h
 obtain ⟨dx,D,hx,hD⟩:=CH.ob
 have hu:=Eg hr
 refine ⟨_,(ai (ax (JF (gj (aK (Ik rfl) (by rfl) Kh LU (aa (mq rfl bk_Choosing_sign_0 (pd (pv 1)) (fun _ _ _ _ => (aL (i:=0) bk_Choosing_sign_0.nd rfl (Or.inl rfl))) (fun _ _ _ _ => (Mn (JA hu (pv 0) (GD K (pv 1) rfl)) (by with_unfolding_all rfl)))) ag))) ah ah))),?_⟩
 refine ⟨_,rfl,t,rfl,⟨_,qT_ ht⟩,?_⟩
 refine xQ (K:=K) (xs:=ps.map V.int) (fun D j ys H' => Same H H' /\ ys = ((ps.take j).map fun p => decide (p ∈ ks)).map V.bl) (fun D hD => ⟨ao hD _,rfl⟩) (fun D j ys H' _ ⟨e,_⟩ => qT_ (e _ _ ht)) ?_ ?_
 ·rintro L j y ys H2 Q' hL hj hy ⟨s2,rfl⟩ k'
  obtain ⟨z,rfl,hz⟩:=fS hj
  refine ⟨_,rfl,_,rfl,x,C,dx,_,_,rfl,s2 _ _ hx,cc.cl,cc.nw,rfl,D,_,rfl,DGet.k (k:=Sum.inl z) (s2 _ _ hD),?_⟩
  refine k' _ _ hy (aR (by rw [lm_,lm_,List.length_take]; omega)) ⟨aM s2 hL,?_⟩
  rw [List.take_add_one,hz,List.map_append,List.map_append,B8]
  rfl
 ·rintro L ys H2 hL hy ⟨s2,rfl⟩
  rw [lm_,List.take_length] at hy
  refine ⟨L,_,rfl,qL_ hy,_,rfl,?_⟩
  have kk:=k H2 s2
  cases c : (ps.map fun p => decide (p ∈ ks)).any id with
  | true =>
   rw [c,if_pos rfl] at kk
   exact lY kk
  | false =>
   rw [c,if_neg (by decide)] at kk
   exact kD kk
end
section
variable {P : Program} {w : World} {K : PySem.W.Frag} {mg : Str -> Option Value} {base : Heap} {f : Addr} {fd : FuncData} {dV : Value} {C CC : Addr}
end
theorem Fy {l x r : Int} (l0 : 0 < l) (r0 : 0 <= r) (r1 : r < l) : (r + l * x) % l = r /\ (r + l * x) / l = x:=by
 refine ⟨?_,?_⟩
 ·rw [Int.add_mul_emod_self_left]
  exact Int.emod_eq_of_lt r0 r1
 ·rw [Int.add_mul_ediv_left _ _ (by omega),Int.ediv_eq_zero_of_lt r0 r1,Int.zero_add]
theorem DL {g b lo p : Int} (l0 : 0 < lo) (p0 : 0 <= p) (p1 : p < b) : aY (hZ g b lo p) b lo = g:=by
 have b0 : 0 < b:=by omega
 have m0 : 0 <= g % lo:=Int.emod_nonneg _ (by omega)
 have m1 : g % lo < lo:=Int.emod_lt_of_pos _ l0
 have e1 : hZ g b lo p = g % lo + lo * (p + b * (g / lo)):=by
  unfold hZ
  rw [Int.mul_add,Int.mul_assoc,Int.add_assoc]
 have h1:=Fy (x:=p + b * (g / lo)) l0 m0 m1
 have h2:=Fy (x:=g / lo) b0 p0 p1
 unfold aY
 rw [e1,h1.1,<- Int.ediv_ediv_of_nonneg (show 0 <= lo by omega),h1.2,h2.2]
 exact Int.emod_add_mul_ediv g lo
theorem DK {f b lo : Int} (l0 : 0 < lo) (b0 : 0 < b) : hZ (aY f b lo) b lo (f / lo % b) = f:=by
 have m0 : 0 <= f % lo:=Int.emod_nonneg _ (by omega)
 have m1 : f % lo < lo:=Int.emod_lt_of_pos _ l0
 have h1:=Fy (x:=f / (lo * b)) l0 m0 m1
 unfold hZ
 unfold aY
 rw [h1.1,h1.2,<- Int.ediv_ediv_of_nonneg (show 0 <= lo by omega)]
 have e1 : f / lo % b + b * (f / lo / b) = f / lo:=Int.emod_add_mul_ediv _ _
 have e2 : f % lo + lo * (f / lo) = f:=Int.emod_add_mul_ediv _ _
 have e3 : lo * (f / lo % b) + lo * b * (f / lo / b) = lo * (f / lo):=by rw [Int.mul_assoc,<- Int.mul_add,e1]
 omega
theorem HW {g f lo M : Int} {b : Nat} (l0 : 0 < lo) (b0 : 0 < b) (g0 : 0 <= g) (g1 : g < lo * M) : f ∈ cz g b lo ↔ (0 <= f /\ f < lo * b * M) /\ aY f b lo = g:=by
 unfold cz
 rw [List.mem_map]
 have lb0 : 0 < lo * (b : Int):=Int.mul_pos l0 (by omega)
 constructor
 ·rintro ⟨i,hi,rfl⟩
  have hi' := List.mem_range.mp hi
  have m0 : 0 <= g % lo:=Int.emod_nonneg _ (by omega)
  have m1 : g % lo < lo:=Int.emod_lt_of_pos _ l0
  have q0 : 0 <= g / lo:=Int.ediv_nonneg g0 (by omega)
  have q1 : g / lo < M:=Int.ediv_lt_of_lt_mul l0 (by rw [Int.mul_comm]; exact g1)
  have k0 : 0 <= lo * (i : Int):=Int.mul_nonneg (by omega) (by omega)
  have k1 : lo * (i : Int) <= lo * ((b : Int) - 1):=Int.mul_le_mul_of_nonneg_left (by omega) (by omega)
  have k2 : lo * ((b : Int) - 1) = lo * b - lo:=by rw [Int.mul_sub,Int.mul_one]
  have k3 : 0 <= lo * (b : Int) * (g / lo):=Int.mul_nonneg (by omega) q0
  have k4 : lo * (b : Int) * (g / lo) <= lo * b * (M - 1):=Int.mul_le_mul_of_nonneg_left (by omega) (by omega)
  have k5 : lo * (b : Int) * (M - 1) = lo * b * M - lo * b:=by rw [Int.mul_sub,Int.mul_one]
  refine ⟨⟨?_,?_⟩,DL l0 (by omega) (by omega)⟩
  ·unfold hZ
   omega
  ·unfold hZ
   omega
 ·rintro ⟨⟨f0,f1⟩,rfl⟩
  have m0 : 0 <= f / lo % (b : Int):=Int.emod_nonneg _ (by omega)
  have m1 : f / lo % (b : Int) < b:=Int.emod_lt_of_pos _ (by omega)
  obtain ⟨n,hn⟩:=gI m0
  refine ⟨n,List.mem_range.mpr (by omega),?_⟩
  show hZ (aY f b lo) b lo (n : Int) = f
  rw [<- hn]
  exact DK l0 (by omega)
theorem F3 {f b lo M : Int} (l0 : 0 < lo) (b0 : 0 < b) (f0 : 0 <= f) (f1 : f < lo * b * M) : 0 <= aY f b lo /\ aY f b lo < lo * M:=by
 have m0 : 0 <= f % lo:=Int.emod_nonneg _ (by omega)
 have m1 : f % lo < lo:=Int.emod_lt_of_pos _ l0
 have lb : 0 < lo * b:=Int.mul_pos l0 b0
 have q0 : 0 <= f / (lo * b):=Int.ediv_nonneg f0 (by omega)
 have q1 : f / (lo * b) < M:=Int.ediv_lt_of_lt_mul lb (by rw [Int.mul_comm]; exact f1)
 have k0 : 0 <= lo * (f / (lo * b)):=Int.mul_nonneg (by omega) q0
 have k1 : lo * (f / (lo * b)) <= lo * (M - 1):=Int.mul_le_mul_of_nonneg_left (by omega) (by omega)
 have k2 : lo * (M - 1) = lo * M - lo:=by rw [Int.mul_sub,Int.mul_one]
 unfold aY
 omega
theorem Ar (lo : Int) (b : Nat) : dP lo b = cz 0 b lo:=by
 unfold dP cz
 refine List.map_congr_left fun i _ => ?_
 show lo * (i : Int) = hZ 0 b lo i
 unfold hZ
 rw [Int.zero_emod,Int.zero_ediv,Int.mul_zero]
 omega
def GK (K : PySem.W.Frag) : Sp:=fun vs H Q _ => ∃ (a : Addr) (k : Int) (ns : LI),vs = [.ref a,.int k] /\ SqL K H a (ns.map V.int) /\ ns.length <= 63 /\ 0 <= k /\ k < 1000000 /\
 ∀ v : Int,0 <= v -> v < 2147483399 -> Q (.int v) H
section
variable {P : Program} {w : World} {K : PySem.W.Frag} {mg : Str -> Option Value} {base : Heap} {f : Addr} {fd : FuncData} {dV : Value}
theorem sc__law_number : FnScope ["_law_script","_law_k","_law_number_here"] ["_law_script","_law_k"] (af cT):=⟨rfl,rfl,rfl,by decide +kernel,rfl,by decide +kernel,by decide +kernel⟩
theorem Mi (F : FunD K "_law_number" "_law_number" cT dV f fd) (aZ : mg "len" = none) : FnOk P w K mg base CX0 1 f fd ["_law_script","_law_k"] (GK K):=by
 refine F.ok sc__law_number (fun vs H Q E h => ?_) (fun cdv A outer s H vs Q E hr h => ?_)
 ·obtain ⟨a,k,ns,rfl,_⟩:=h
  rfl
 obtain ⟨a,k,ns,rfl,hS,h63,h0,h1,q⟩:=h
 have hl : (ns.map V.int).length = ns.length:=List.length_map _
 refine ⟨_,(ak (br (aO Jx (pv 1) (aK aN (by rfl) aZ cA (aa (pv 0) ag)) (aQ _)) (ai (ax (ay bu (aH iO (pv 0) (pv 1) (fun _ _ => rfl)) ah))) aP)
   (ak (aC (i:=2) sc__law_number.nd rfl (Or.inl rfl) (ay bD (ay bD (ay bK (ay bK ah (pv 1)) (pv 1)) (ay bK ah (pv 1))) ah))
   (ak (br (aO GC (aK aN (by rfl) aZ cA (aa (pv 0) ag)) ah (aQ _)) (ai (aC (i:=2) sc__law_number.nd rfl (Or.inl rfl) (ay bK (pv 2) (ay bD (ay bu (aH iO (pv 0) (ay bu (pv 1) (aK aN (by rfl) aZ cA (aa (pv 0) ag))) (fun _ _ => rfl)) ah) ah)))) aP)
   (ai (ax (ay bu (ay bK (pv 2) ah) ah)))))),?_⟩
 have fin : ∀ c : Int,Q (.int (c * 40692 % 2147483399)) H:=fun c => by
  have r:=dg (a:=c * 40692) (b:=2147483399) (by decide)
  exact q _ r.1 r.2
 refine ⟨_,rfl,_,rfl,a,_,rfl,.inl hS,_,_,rfl,rfl,_,rfl,zH (fun c => ?_) (fun c => ?_)⟩
 ·rw [hl] at c
  have r:=dg (a:=ns.getD k.toNat 0) (b:=1000000007) (by decide)
  exact ⟨_,rfl,_,rfl,a,_,_,_,rfl,rfl,hS,c7 h0 c,_,_,rfl,rfl,(by show (0 : Int) < 1000000007; decide),q _ r.1 (by omega)⟩
 refine ⟨_,rfl,_,_,rfl,rfl,.inl ⟨by decide,by decide⟩,_,rfl,_,_,rfl,rfl,.inr ⟨by omega,by omega⟩,_,rfl,_,_,rfl,rfl,.inl ⟨by decide,by decide⟩,_,_,rfl,rfl,_,_,rfl,rfl,?_⟩
 refine ⟨_,rfl,a,_,rfl,.inl hS,_,_,rfl,rfl,_,rfl,?_⟩
 refine zH (fun c => ?_) (fun c => ?_)
 ·have c' : (0 : Int) < (((ns.map V.int).length : Nat) : Int):=c
  have m0:=Int.emod_nonneg k (show (((ns.map V.int).length : Nat) : Int) ≠ 0 by omega)
  have m1:=Int.emod_lt_of_pos k c'
  have m2:=dg (a:=ns.getD (k % (((ns.map V.int).length : Nat) : Int)).toNat 0) (b:=65521) (by decide)
  refine ⟨_,rfl,_,rfl,_,rfl,_,rfl,a,_,rfl,.inl hS,_,_,rfl,rfl,c',a,_,_,_,rfl,rfl,hS,c7 m0 (by rw [<- hl]; exact m1),_,_,rfl,rfl,(by show (0 : Int) < 65521; decide),_,_,rfl,rfl,_,_,rfl,rfl,.inr ⟨by omega,by omega⟩,?_⟩
  exact ⟨_,rfl,_,_,rfl,rfl,.inr ⟨by decide,by decide⟩,_,_,rfl,rfl,(by show (0 : Int) < 2147483399; decide),fin _⟩
 ·exact ⟨_,rfl,_,_,rfl,rfl,.inr ⟨by decide,by decide⟩,_,_,rfl,rfl,(by show (0 : Int) < 2147483399; decide),fin _⟩
end
def DE : Sp:=fun vs H Q _ => ∃ n : Int,vs = [.int n] /\ 0 <= n /\ ∀ v : Int,0 <= v -> v < 1000000 -> Q (.int v) H
def pK : Sp:=fun vs H Q _ => ∃ (b : Int) (n : Nat),vs = [.int b,.int n] /\ (0 <= b /\ b < 2 ^ 64) /\ n <= 1000 /\ Q (.int (b ^ n)) H
def Dw (K : PySem.W.Frag) : Sp:=fun vs H Q _ => ∃ (a : Addr) (st : Int) (many wide : Nat) (xs : LI),vs = [.ref a,.int st,.int wide,.int many] /\ SqL K H a (xs.map V.int) /\ xs.length <= 63 /\ (0 <= st /\ st < 100) /\ (1 <= many /\ many <= 10) /\ (1 <= wide /\ wide <= 1000) /\
 ∀ (m r g : Addr) (H' : Hp) (rows : LL) (signs : LI),Same H H' -> MachAt H' m r g wide rows signs -> RowsOk many wide rows -> signs.length = many -> Q (.ref m) H'
@[reducible] def AZ (b n : Nat) : Prop:=(2 <= b /\ b <= 9) /\ n <= 3 /\ b ^ n <= 9
def y3 : Sp:=fun vs H Q _ => ∃ nu : Int,vs = [.int nu] /\ ∀ (t : Addr) (H' : Hp) (b n : Nat),Same H H' -> H' t = some (.tup [.int b,.int n]) -> AZ b n -> Q (.ref t) H'
def rT : Sp:=fun vs H Q _ => ∃ f B at_ : Nat,vs = [.int f,.int B,.int at_] /\ (0 < B /\ B <= 1000) /\ at_ <= 1000 /\ B ^ at_ <= 1000 /\ f <= 1000 /\ Q (.int (aY (f : Int) (B : Int) ((B : Int) ^ at_))) H
def FR : Sp:=fun vs H Q _ => ∃ (wide many : Nat) (nu : Int),vs = [.int wide,.int many,.int nu] /\ (1 <= wide /\ wide <= 2) /\ (1 <= many /\ many <= 300) /\
 ∀ (m r g : Addr) (H' : Hp) (rows : LL) (signs : LI),Same H H' -> MachAt H' m r g wide rows signs -> RowsOk many wide rows -> signs.length = many -> Q (.ref m) H'
theorem Lc {X : Cx} (K : PySem.W.Frag) (h : X.K = K:=by rfl) : SlR X (rSl K):=by subst h; exact Mz
theorem JT {rows : LL} (h : ∀ r ∈ rows,∃ b n : Nat,r = [(b : Int),(n : Int)] /\ AZ b n) {r : LI} (hr : r ∈ rows) : ∃ b n : Nat,r.map V.int = [V.int b,V.int n] /\ AZ b n:=by
 obtain ⟨b,n,rfl,ok⟩:=h r hr
 exact ⟨b,n,rfl,ok⟩
section
variable {P : Program} {w : World} {K : PySem.W.Frag} {mg : Str -> Option Value} {base : Heap} {f : Addr} {fd : FuncData} {dV : Value}
theorem C9 : FnScope ["_law_number_here"] ["_law_number_here"] (af eV):=⟨rfl,rfl,rfl,by decide +kernel,rfl,by decide +kernel,by decide +kernel⟩
theorem sc__law_machine : FnScope ["_law_script","_law_start","_law_wide_here","_law_many","_law_rows","_law_q","_law_at","_law_signs"] ["_law_script","_law_start","_law_wide_here","_law_many"] (af bE):=⟨rfl,rfl,rfl,by decide +kernel,rfl,by decide +kernel,by decide +kernel⟩
theorem bk__law_machine_0 : BlkScope ["_law_script","_law_start","_law_wide_here","_law_many","_law_rows","_law_q","_law_at","_law_signs"] (af bE) ["_law_f","_law_many","_law_q","_law_script","_law_start","_law_wide_here"] [none,some 3,some 5,some 0,some 1,some 2] { kind:=ScopeKind.function,names:=[(".0",NameKind.local),("_law_f",NameKind.local),("_law_number",NameKind.globalImplicit),("_law_many",NameKind.free),("_law_q",NameKind.free),("_law_script",NameKind.free),("_law_start",NameKind.free),("_law_wide_here",NameKind.free)],isGenerator:=false,isCoroutine:=false,more:=[] }:=⟨rfl,by decide +kernel,by decide +kernel,by decide +kernel,by decide +kernel,rfl,by decide +kernel⟩
theorem bk__law_machine_1 : BlkScope ["_law_script","_law_start","_law_wide_here","_law_many","_law_rows","_law_q","_law_at","_law_signs"] (af bE) ["_law_q","_law_at","_law_script"] [none,some 6,some 0] { kind:=ScopeKind.function,names:=[(".0",NameKind.local),("_law_q",NameKind.local),("_law_sign",NameKind.globalImplicit),("_law_number",NameKind.globalImplicit),("_law_at",NameKind.free),("_law_script",NameKind.free)],isGenerator:=false,isCoroutine:=false,more:=[] }:=⟨rfl,by decide +kernel,by decide +kernel,by decide +kernel,by decide +kernel,rfl,by decide +kernel⟩
theorem Ah : FnScope ["_law_number_here"] ["_law_number_here"] (af dC):=⟨rfl,rfl,rfl,by decide +kernel,rfl,by decide +kernel,by decide +kernel⟩
theorem sc__law_wide : FnScope ["_law_base","_law_many","_law_wide_here","_law_k"] ["_law_base","_law_many"] (af eZ):=⟨rfl,rfl,rfl,by decide +kernel,rfl,by decide +kernel,by decide +kernel⟩
theorem sc__law_without : FnScope ["_law_figure","_law_base","_law_at","_law_low"] ["_law_figure","_law_base","_law_at"] (af cI):=⟨rfl,rfl,rfl,by decide +kernel,rfl,by decide +kernel,by decide +kernel⟩
theorem sc__law_long : FnScope ["_law_wide_here","_law_many","_law_number_here","_law_rows"] ["_law_wide_here","_law_many","_law_number_here"] (af cL):=⟨rfl,rfl,rfl,by decide +kernel,rfl,by decide +kernel,by decide +kernel⟩
theorem bk__law_long_0 : BlkScope ["_law_wide_here","_law_many","_law_number_here","_law_rows"] (af cL) ["_law_q","_law_many","_law_wide_here"] [none,some 1,some 0] { kind:=ScopeKind.function,names:=[(".0",NameKind.local),("_law_q",NameKind.local),("_law_many",NameKind.free),("_law_wide_here",NameKind.free)],isGenerator:=false,isCoroutine:=false,more:=[] }:=⟨rfl,by decide +kernel,by decide +kernel,by decide +kernel,by decide +kernel,rfl,by decide +kernel⟩
theorem bk__law_long_1 : BlkScope ["_law_wide_here","_law_many","_law_number_here","_law_rows"] (af cL) ["_law_q","_law_number_here"] [none,some 2] { kind:=ScopeKind.function,names:=[(".0",NameKind.local),("_law_q",NameKind.local),("_law_number_here",NameKind.free)],isGenerator:=false,isCoroutine:=false,more:=[] }:=⟨rfl,by decide +kernel,by decide +kernel,by decide +kernel,by decide +kernel,rfl,by decide +kernel⟩
theorem Jr (F : FunD K "_law_sign" "_law_sign" eV dV f fd) : FnOk P w K mg base CX0 1 f fd ["_law_number_here"] DE:=by
 refine F.ok C9 (fun vs H Q E h => ?_) (fun cdv A outer s H vs Q E hr h => ?_)
 ·obtain ⟨n,rfl,_⟩:=h
  rfl
 obtain ⟨n,rfl,n0,q⟩:=h
 refine ⟨_,(ak (br (aO cK (ay bu (pv 0) ah) ah (aQ _)) (ai (ax (ay bu (ay mj (pv 0) ah) ah))) aP)
   (ai (ax (ay bu (ay bu (pv 0) ah) ah)))),?_⟩
 refine ⟨_,rfl,_,_,rfl,rfl,(by show (0 : Int) < 5; decide),rfl,_,rfl,kE (fun _ => ?_) (fun _ => ?_)⟩
 ·have md:=dg (a:=n / 5) (b:=1000000) (by decide)
  exact ⟨_,rfl,_,_,rfl,rfl,⟨by decide,by decide⟩,_,_,rfl,rfl,(by show (0 : Int) < 1000000; decide),q _ md.1 md.2⟩
 ·have md:=dg (a:=n % 5) (b:=3) (by decide)
  exact ⟨_,rfl,_,_,rfl,rfl,(by show (0 : Int) < 5; decide),_,_,rfl,rfl,(by show (0 : Int) < 3; decide),q _ md.1 (by omega)⟩
theorem Js (F : FunD K "_law_wide" "_law_wide" eZ dV f fd) (aF : mg "range" = none) : FnOk P w K mg base CX0 1 f fd ["_law_base","_law_many"] pK:=by
 refine F.ok sc__law_wide (fun vs H Q E h => ?_) (fun cdv A outer s H vs Q E hr h => ?_)
 ·obtain ⟨b,n,rfl,_⟩:=h
  rfl
 obtain ⟨b,n,rfl,b0,hn,q⟩:=h
 refine ⟨_,(ak (aC (i:=2) sc__law_wide.nd rfl (Or.inl rfl) ah)
   (ak (cD PassesOwn.never rfl (ba rfl aF (aa (pv 1) ag)) (aL (i:=3) sc__law_wide.nd rfl (Or.inl rfl)) (ai (aC (i:=2) sc__law_wide.nd rfl (Or.inl rfl) (ay bK (pv 2) (pv 0)))))
   (ai (ax (pv 2))))),?_⟩
 refine ⟨_,rfl,(n : Int),rfl,by omega,by omega,cC (fun i σ' H' => ∃ v,σ' = [some (.int b),some (.int n),some (.int (b ^ i)),v] /\ H' = H) ⟨none,by rw [Int.pow_zero]; rfl,rfl⟩ ?_ ?_⟩
 ·rintro i σ' H' hi ⟨v,rfl,rfl⟩
  exact ⟨_,rfl,_,rfl,_,_,rfl,rfl,.inr ⟨by omega,by omega⟩,some (.int (0 + i)),by rw [Int.pow_succ]; rfl,rfl⟩
 ·rintro σ' H' ⟨v,rfl,rfl⟩
  rw [Int.toNat_natCast]
  exact ⟨_,rfl,q⟩
theorem Jj (F : FunD K "_law_machine" "_law_machine" bE dV f fd) (aI : DefOk P w K mg base "_law_number" 1 ["_law_script","_law_k"] [] (GK K)) (ng : DefOk P w K mg base "_law_sign" 1 ["_law_number_here"] [] DE) (aF : mg "range" = none) (aS : mg "tuple" = none) :
  FnOk P w K mg base CX0 2 f fd ["_law_script","_law_start","_law_wide_here","_law_many"] (Dw K):=by
 refine F.ok sc__law_machine (fun vs H Q E h => ?_) (fun cdv A outer s H vs Q E hr h => ?_)
 ·obtain ⟨a,st,many,wide,xs,rfl,_⟩:=h
  rfl
 obtain ⟨a,st,many,wide,xs,rfl,hS,h63,⟨st0,st1⟩,⟨m0,m1⟩,⟨w0,w1⟩,k⟩:=h
 refine ⟨_,(ak (aC (i:=4) sc__law_machine.nd rfl (Or.inl rfl) (mv ag))
   (ak (cD PassesOwn.never rfl (ba rfl aF (aa (pv 3) ag)) (aL (i:=5) sc__law_machine.nd rfl (Or.inr rfl)) (ai (iX (vo PySem.F.plainAttrs_list PySem.F.slot_list_append PySem.F.type_list_append dA (pv 4) (aa (bS bf (by rfl) aS cq (aa (mq rfl bk__law_machine_0 (ba rfl aF (aa (pv 2) ag)) (fun _ _ _ _ => (aL (i:=0) bk__law_machine_0.nd rfl (Or.inl rfl))) (fun _ _ _ _ => (ay bu (aV aI hr (aa (pv 3) (aa (ay bD (ay bD (pv 4) (ay bK (pv 2) (pv 5))) (pv 0)) ag))) (pv 1)))) ag)) ag)))))
   (ak (aC (i:=6) sc__law_machine.nd rfl (Or.inr rfl) (ay bD (pv 1) (ay bK (pv 3) (pv 2))))
   (ak (rJ (i:=7) rfl sc__law_machine.nd rfl (Or.inl rfl) bk__law_machine_1 (ba rfl aF (aa (pv 3) ag)) (fun _ _ _ _ => (aL (i:=0) bk__law_machine_1.nd rfl (Or.inl rfl))) (fun _ _ _ _ => (aV ng hr (aa (aV aI hr (aa (pv 2) (aa (ay bD (pv 1) (pv 0)) ag))) ag))))
   (ai (ax (cw (aa (pv 2) (aa (bS bf (by rfl) aS cq (aa (pv 4) ag)) (aa (bS bf (by rfl) aS cq (aa (pv 7) ag)) ag)))))))))),?_⟩
 have prod : ∀ i : Nat,i <= many -> 0 <= ((i : Int) * (wide : Int)) /\ ((i : Int) * (wide : Int)) <= 10 * 1000:=fun i hi => rb (by omega) (by omega) (by omega) (by omega)
 refine ⟨(by show 0 <= sizeLine; decide),fun R hR => ?_⟩
 try dsimp only [a7]
 refine gn (t:=FV _ _ _) (fun σ' H' => ∃ (ras : List Addr) (rws : LL) (v : OV),σ' = [some (.ref a),some (.int st),some (.int wide),some (.int many),some (.ref R),v,none,none] /\ Same H H' /\ H' R = some (.lst (ras.map V.ref)) /\ RowsAt H' ras rws /\ RowsOk many wide rws) ?_ (fun D' nxt => ?_)
 rotate_left
 ·refine ⟨_,rfl,(many : Int),rfl,by omega,by omega,cC (fun i σ' H' => ∃ (ras : List Addr) (rws : LL) (v : OV),σ' = [some (.ref a),some (.int st),some (.int wide),some (.int many),some (.ref R),v,none,none] /\ Same H H' /\ H' R = some (.lst (ras.map V.ref)) /\ RowsAt H' ras rws /\ rws.length = i /\ (∀ r ∈ rws,r.length = wide) /\ ∀ r ∈ rws,∀ v ∈ r,0 <= v /\ v < (many : Int))
   ⟨[],[],none,rfl,ao hR _,ae,.nil,rfl,(fun r h => by cases h),(fun r h => by cases h)⟩ ?_ ?_⟩
  ·rintro i σ' H3 hi ⟨ras,rws,v,rfl,hs3,hR3,hA3,hn3,hl3,hv3⟩
   rw [Int.toNat_natCast] at hi
   have pi:=prod i (by omega)
   have z0 : (0 : Int) + (i : Int) = (i : Int):=Int.zero_add _
   rw [z0]
   refine ⟨_,rfl,.inl ⟨rfl,_,qL_ hR3⟩,_,rfl,(wide : Int),rfl,by omega,by omega,?_⟩
   refine js (fun D j zs H4 => Same H3 H4 /\ ∃ row : LI,zs = row.map V.int /\ row.length = j /\ ∀ v ∈ row,0 <= v /\ v < (many : Int)) (fun D hD => ⟨ao hD _,[],rfl,rfl,(fun v h => by cases h)⟩) ?_ ?_
   ·rintro D j zs H4 Q' hD hj hz ⟨hs4,row,rfl,hl4,hv4⟩ k'
    refine ⟨_,rfl,_,rfl,_,rfl,_,rfl,_,_,rfl,rfl,.inl ⟨by omega,by omega⟩,_,_,rfl,rfl,_,rfl,_,_,rfl,rfl,a,_,xs,rfl,(hs3.trans hs4).seq hS,h63,by omega,by omega,fun x x0 x1 => ?_⟩
    have md:=dg (a:=x) (b:=(many : Int)) (by omega)
    refine ⟨_,rfl,_,_,rfl,rfl,(by omega),k' _ _ hz (aR (by rw [lm_]; omega)) ⟨aM hs4 hD,row ++ [_],by rw [List.map_append]; rfl,by simp [hl4],fun v hv => ?_⟩⟩
    rcases ma_.mp hv with z | z
    ·exact hv4 v z
    ·rw [List.mem_singleton.mp z]; exact md
   rintro D zs H4 hD hz ⟨hs4,row,rfl,hl4,hv4⟩
   rw [Int.toNat_natCast] at hl4
   refine ⟨D,_,rfl,.inl ⟨qL_ hz,fun t ht => ?_⟩⟩
   have hR4:=hs4 _ _ hR3
   have nR : R ≠ t:=aq hR4 ht
   refine ⟨R,_,_,rfl,rfl,by rw [aj nR]; exact hR4,aR (by rw [lm_,hA3.length]; omega),?_⟩
   have sT : ∀ b xs,H3 b = some (.tup xs) -> (upd (upd H4 t (.tup (row.map V.int))) R (.lst (ras.map V.ref ++ [V.ref t]))) b = some (.tup xs):=fun b xs e => by
    have e4:=hs4 _ _ e
    rw [aj (cb e4 hR4 (by intro z; cases z)),aj (aq e4 ht)]
    exact e4
   refine ⟨ras ++ [t],rws ++ [row],_,rfl,aM (aM (hs3.trans hs4) ((hs3.trans hs4).free ht)) hR,by rw [ae,List.map_append]; rfl,RowsAt.snoc (hA3.same sT) (by rw [aj (Ne.symm nR),ae]),by simp [hn3],?_,?_⟩
   ·intro r hr'
    rcases ma_.mp hr' with z | z
    ·exact hl3 r z
    ·rw [List.mem_singleton.mp z]; exact hl4
   ·intro r hr'
    rcases ma_.mp hr' with z | z
    ·exact hv3 r z
    ·rw [List.mem_singleton.mp z]; exact hv4
  ·rintro σ' H3 ⟨ras,rws,v,rfl,hs3,hR3,hA3,hn3,hl3,hv3⟩
   rw [Int.toNat_natCast] at hn3
   exact nxt _ _ ⟨ras,rws,v,rfl,hs3,hR3,hA3,⟨hn3,hl3,hv3⟩⟩
 rintro σ' H3 ⟨ras,rws,v,rfl,hs3,hR3,hA3,RO⟩
 have pm:=prod many (Nat.le_refl _)
 refine ⟨_,rfl,_,rfl,_,rfl,_,_,rfl,rfl,.inl ⟨by omega,by omega⟩,_,_,rfl,rfl,?_⟩
 refine ⟨_,rfl,(many : Int),rfl,by omega,by omega,?_⟩
 refine js (fun D j ys H4 => Same H3 H4 /\ ∃ sg : LI,ys = sg.map V.int /\ sg.length = j) (fun D hD => ⟨ao hD _,[],rfl,rfl⟩) ?_ ?_
 ·rintro D j ys H4 Q' hD hj hy ⟨hs4,sg,rfl,hl4⟩ k'
  rw [Int.toNat_natCast] at hj
  refine ⟨_,rfl,_,rfl,_,rfl,_,_,rfl,rfl,a,_,xs,rfl,(hs3.trans hs4).seq hS,h63,by omega,by omega,fun x x0 x1 => ⟨x,rfl,x0,fun u u0 u1 => k' _ _ hy (aR (by rw [lm_]; omega)) ⟨aM hs4 hD,sg ++ [u],by rw [List.map_append]; rfl,by simp [hl4]⟩⟩⟩
 rintro G ys H4 hG0 hG ⟨hs4,sg,rfl,hl4⟩
 rw [Int.toNat_natCast] at hl4
 refine ⟨_,rfl,_,rfl,R,_,rfl,.inl ⟨qL_ (hs4 _ _ hR3),fun rt hrt => ?_⟩⟩
 have s5:=ao hrt (HO.tup (ras.map V.ref))
 refine ⟨_,rfl,G,_,rfl,.inl ⟨qL_ (s5 _ _ hG),fun gt hgt => ?_⟩⟩
 have s6:=ao hgt (HO.tup (sg.map V.int))
 refine ⟨(by show 3 <= sizeLine; decide),fun m hm => ?_⟩
 have s7:=ao hm (HO.tup [V.int wide,V.ref rt,V.ref gt])
 exact k m rt gt _ rws sg (hs3.trans (hs4.trans (s5.trans (s6.trans s7)))) ⟨ae,⟨ras,(s6.trans s7) _ _ ae,hA3.same fun b zs e => (hs4.trans (s5.trans (s6.trans s7))) _ _ e⟩,s7 _ _ ae⟩ RO hl4
theorem EH (F : FunD K "_law_without" "_law_without" cI dV f fd) (bq : DefOk P w K mg base "_law_wide" 1 ["_law_base","_law_many"] [] pK) : FnOk P w K mg base CX0 2 f fd ["_law_figure","_law_base","_law_at"] rT:=by
 refine F.ok sc__law_without (fun vs H Q E h => ?_) (fun cdv A outer s H vs Q E hr h => ?_)
 ·obtain ⟨f,B,at_,rfl,_⟩:=h
  rfl
 obtain ⟨f,B,at_,rfl,⟨B0,B1⟩,a1,p1,f1,q⟩:=h
 have bp : 0 < B ^ at_:=Nat.pow_pos B0
 have ep : (B : Int) ^ at_ = ((B ^ at_ : Nat) : Int):=by push_cast; rfl
 obtain ⟨b,eb⟩ : ∃ b,B ^ at_ = b:=⟨_,rfl⟩
 rw [eb] at ep p1 bp
 rw [ep] at q
 have bB:=rb (a:=(b : Int)) (b:=(B : Int)) (m:=1000) (n:=1000) (by omega) (by omega) (by omega) (by omega)
 have bBp : (0 : Int) < (b : Int) * (B : Int):=Int.mul_pos (by omega) (by omega)
 refine ⟨_,(ak (aC (i:=3) sc__law_without.nd rfl (Or.inl rfl) (aV bq hr (aa (pv 1) (aa (pv 2) ag))))
   (ai (ax (ay bD (ay bu (pv 0) (pv 3)) (ay bK (ay mj (pv 0) (ay bK (pv 3) (pv 1))) (pv 3)))))),?_⟩
 refine ⟨_,rfl,_,rfl,(B : Int),at_,rfl,⟨by omega,by omega⟩,a1,?_⟩
 try dsimp only [a7,cy,List.set]
 rw [ep]
 refine ⟨_,rfl,_,rfl,_,_,rfl,rfl,by omega,_,rfl,_,rfl,_,rfl,_,_,rfl,rfl,.inl ⟨by omega,by omega⟩,_,_,rfl,rfl,⟨bBp,by omega⟩,_,rfl,_,_,rfl,rfl,.inr ⟨by omega,by omega⟩,_,_,rfl,rfl,?_⟩
 have e : (f : Int) % (b : Int) + ((f : Int) / ((b : Int) * (B : Int))) * (b : Int) = aY (f : Int) (B : Int) (b : Int):=by
  unfold aY
  rw [Int.mul_comm ((f : Int) / ((b : Int) * (B : Int)))]
 show Q (V.int ((f : Int) % (b : Int) + ((f : Int) / ((b : Int) * (B : Int))) * (b : Int))) H
 rw [e]
 exact q
theorem HG (F : FunD K "_law_sides" "_law_sides" dC dV f fd) : FnOk P w K mg base CX0 1 f fd ["_law_number_here"] y3:=by
 refine F.ok Ah (fun vs H Q E h => ?_) (fun cdv A outer s H vs Q E hr h => ?_)
 ·obtain ⟨nu,rfl,_⟩:=h
  rfl
 obtain ⟨nu,rfl,k⟩:=h
 refine xJ (u9 (Lx (NC iO (J5 (bA (PEW.mk (cw (aa ah (aa ah ag)))) (bA (PEW.mk (cw (aa ah (aa ah ag)))) (bA (PEW.mk (cw (aa ah (aa ah ag)))) (bA (PEW.mk (cw (aa ah (aa ah ag)))) (bA (PEW.mk (cw (aa ah (aa ah ag)))) (bA (PEW.mk (cw (aa ah (aa ah ag)))) (bA (PEW.mk (cw (aa ah (aa ah ag)))) ze)))))))) (PEW.mk (ay bu (pv 0) ah)) (fun _ _ => rfl)))) ?_
 have two : 2 <= sizeLine:=by decide
 refine ⟨two,fun t0 h0 => ?_⟩
 have s0:=ao h0 (HO.tup [V.int 2,V.int 1])
 have A0:=RowsAt.snoc (.nil : RowsAt (upd H t0 (HO.tup [V.int 2,V.int 1])) [] []) (r:=[2,1]) (a:=t0) ae
 refine ⟨two,fun t1 h1 => ?_⟩
 have s1:=ao h1 (HO.tup [V.int 2,V.int 2])
 have A1:=RowsAt.snoc (A0.same fun c xs e => s1 _ _ e) (r:=[2,2]) (a:=t1) ae
 refine ⟨two,fun t2 h2 => ?_⟩
 have s2:=ao h2 (HO.tup [V.int 3,V.int 1])
 have A2:=RowsAt.snoc (A1.same fun c xs e => s2 _ _ e) (r:=[3,1]) (a:=t2) ae
 refine ⟨two,fun t3 h3 => ?_⟩
 have s3:=ao h3 (HO.tup [V.int 2,V.int 3])
 have A3:=RowsAt.snoc (A2.same fun c xs e => s3 _ _ e) (r:=[2,3]) (a:=t3) ae
 refine ⟨two,fun t4 h4 => ?_⟩
 have s4:=ao h4 (HO.tup [V.int 5,V.int 0])
 have A4:=RowsAt.snoc (A3.same fun c xs e => s4 _ _ e) (r:=[5,0]) (a:=t4) ae
 refine ⟨two,fun t5 h5 => ?_⟩
 have s5:=ao h5 (HO.tup [V.int 9,V.int 1])
 have A5:=RowsAt.snoc (A4.same fun c xs e => s5 _ _ e) (r:=[9,1]) (a:=t5) ae
 refine ⟨two,fun t6 h6 => ?_⟩
 have s6:=ao h6 (HO.tup [V.int 3,V.int 2])
 have A6:=RowsAt.snoc (A5.same fun c xs e => s6 _ _ e) (r:=[3,2]) (a:=t6) ae
 refine ⟨(by show 7 <= sizeLine; decide),fun l hl => ?_⟩
 have sl:=ao hl (HO.lst [V.ref t0,V.ref t1,V.ref t2,V.ref t3,V.ref t4,V.ref t5,V.ref t6])
 have A : RowsAt _ [t0,t1,t2,t3,t4,t5,t6] [[2,1],[2,2],[3,1],[2,3],[5,0],[9,1],[3,2]]:=A6.same fun c xs e => sl _ _ e
 have S:=s0.trans (s1.trans (s2.trans (s3.trans (s4.trans (s5.trans (s6.trans sl))))))
 have md:=dg (a:=nu) (b:=7) (by decide)
 obtain ⟨ra,e1,e2⟩:=A.get (i:=(nu % 7).toNat) (by show (nu % 7).toNat < 7; omega)
 obtain ⟨b,n,er,ok⟩:=JT (rows:=[[2,1],[2,2],[3,1],[2,3],[5,0],[9,1],[3,2]]) (by
  intro r hr
  simp only [List.mem_cons,List.not_mem_nil,or_false] at hr
  rcases hr with rfl | rfl | rfl | rfl | rfl | rfl | rfl
  ·exact ⟨2,1,rfl,by decide⟩
  ·exact ⟨2,2,rfl,by decide⟩
  ·exact ⟨3,1,rfl,by decide⟩
  ·exact ⟨2,3,rfl,by decide⟩
  ·exact ⟨5,0,rfl,by decide⟩
  ·exact ⟨9,1,rfl,by decide⟩
  ·exact ⟨3,2,rfl,by decide⟩) (List.getElem_mem (by show (nu % 7).toNat < 7; omega))
 rw [er] at e2
 exact ⟨_,rfl,_,_,rfl,rfl,(by show (0 : Int) < 7; decide),l,_,_,_,rfl,rfl,qL_ ae,xG md.1 e1,k ra _ b n S e2 ok⟩
theorem KD (F : FunD K "_law_long" "_law_long" cL dV f fd) (aF : mg "range" = none) (aS : mg "tuple" = none) : FnOk P w K mg base CX0 1 f fd ["_law_wide_here","_law_many","_law_number_here"] FR:=by
 refine F.ok sc__law_long (fun vs H Q E h => ?_) (fun cdv A outer s H vs Q E hr h => ?_)
 ·obtain ⟨wide,many,nu,rfl,_⟩:=h
  rfl
 obtain ⟨wide,many,nu,rfl,⟨w0,w1⟩,⟨m0,m1⟩,k⟩:=h
 refine ⟨_,(ak (rJ (i:=3) rfl sc__law_long.nd rfl (Or.inl rfl) bk__law_long_0 (ba rfl aF (aa (pv 1) ag)) (fun _ _ _ _ => (aL (i:=0) bk__law_long_0.nd rfl (Or.inl rfl))) (fun _ _ _ _ => (JH ((Lc K)) (cw (aa (ay bu (ay bD (pv 0) ah) (pv 1)) (aa (ay mj (pv 0) ah) ag))) K1 (K2 (pv 2)))))
   (ai (ax (cw (aa (pv 0) (aa (bS bf (by rfl) aS cq (aa (pv 3) ag)) (aa (bS bf (by rfl) aS cq (aa (mq rfl bk__law_long_1 (ba rfl aF (aa (pv 1) ag)) (fun _ _ _ _ => (aL (i:=0) bk__law_long_1.nd rfl (Or.inl rfl))) (fun _ _ _ _ => (ay bu (ay bD (ay bK (pv 0) (pv 0)) (pv 1)) ah))) ag)) ag))))))),?_⟩
 refine ⟨_,rfl,(many : Int),rfl,by omega,by omega,?_⟩
 refine js (fun D j zs H4 => Same H H4 /\ ∃ (ras : List Addr) (rws : LL),zs = ras.map V.ref /\ RowsAt H4 ras rws /\ rws.length = j /\ (∀ r ∈ rws,r.length = wide) /\ ∀ r ∈ rws,∀ v ∈ r,0 <= v /\ v < (many : Int)) (fun D hD => ⟨ao hD _,[],[],rfl,.nil,rfl,(fun r h => by cases h),(fun r h => by cases h)⟩) ?_ ?_
 ·rintro D j zs H4 Q' hD hj hz ⟨hs4,ras,rws,rfl,A4,hl4,hw4,hv4⟩ k'
  rw [Int.toNat_natCast] at hj
  have md:=dg (a:=(0 : Int) + (j : Int) + 1) (b:=(many : Int)) (by omega)
  refine ⟨_,rfl,_,_,rfl,rfl,_,rfl,_,_,rfl,rfl,by omega,_,rfl,_,_,rfl,rfl,⟨by decide,by decide⟩,(by show 2 <= sizeLine; decide),fun t ht => ?_⟩
  have s5:=ao ht (HO.tup ([((0 : Int) + (j : Int) + 1) % (many : Int),(0 + (j : Int)) / 2].map V.int))
  have fin : ∀ (p : Addr) (H6 : Hp),Same H4 H6 -> H6 p = some (.tup (([((0 : Int) + (j : Int) + 1) % (many : Int),(0 + (j : Int)) / 2].take wide).map V.int)) -> Q' (.ref p) H6:=fun p H6 s6 hp => by
   have z6:=s6 _ _ hz
   have up : ∀ b xs,H6 b = some (.tup xs) -> (upd H6 D (.lst (ras.map V.ref ++ [V.ref p]))) b = some (.tup xs):=fun b xs e => by
    rw [aj (cb e z6 (by intro z; cases z))]; exact e
   refine k' _ _ z6 (aR (by rw [lm_,A4.length]; omega)) ⟨aM (hs4.trans s6) hD,ras ++ [p],rws ++ [_],by rw [List.map_append]; rfl,RowsAt.snoc (A4.same fun b xs e => up _ _ (s6 _ _ e)) (up _ _ hp),by rw [List.length_append,hl4]; rfl,fun r hr' => ?_,fun r hr' => ?_⟩
   ·rcases ma_.mp hr' with z | z
    ·exact hw4 r z
    ·rw [List.mem_singleton.mp z,List.length_take]
     show min wide 2 = wide
     omega
   ·rcases ma_.mp hr' with z | z
    ·exact hv4 r z
    ·rw [List.mem_singleton.mp z]
     intro v hv
     have hv' := List.mem_of_mem_take hv
     simp only [List.mem_cons,List.not_mem_nil,or_false] at hv'
     rcases hv' with rfl | rfl
     ·exact md
     ·omega
  refine ⟨_,rfl,_,rfl,t,_,rfl,.inr ⟨qT_ ae,fun e => ?_,fun p hp => ?_⟩⟩
  ·refine fin t _ s5 ?_
   have e' := e
   rw [show [V.int (((0 : Int) + (j : Int) + 1) % (many : Int)),V.int ((0 + (j : Int)) / 2)] = [((0 : Int) + (j : Int) + 1) % (many : Int),(0 + (j : Int)) / 2].map V.int from rfl,AA] at e'
   rw [e',ae]
   rfl
  ·refine fin p _ (s5.trans (ao hp _)) ?_
   rw [ae]
   exact congrArg (fun x => some (HO.tup x)) (AA (ns:=[((0 : Int) + (j : Int) + 1) % (many : Int),(0 + (j : Int)) / 2]) (c:=wide))
 ·rintro R zs H4 hR hz ⟨hs4,ras,rws,rfl,A4,hl4,hw4,hv4⟩
  rw [Int.toNat_natCast] at hl4
  refine ⟨_,rfl,_,rfl,R,_,rfl,.inl ⟨qL_ hz,fun rt hrt => ?_⟩⟩
  have s5:=ao hrt (HO.tup (ras.map V.ref))
  refine ⟨_,rfl,(many : Int),rfl,by omega,by omega,?_⟩
  refine js (fun D j ys H5 => Same (upd H4 rt (HO.tup (ras.map V.ref))) H5 /\ ∃ sg : LI,ys = sg.map V.int /\ sg.length = j) (fun D hD => ⟨ao hD _,[],rfl,rfl⟩) ?_ ?_
  ·rintro D j ys H5 Q' hD hj hy ⟨hs5,sg,rfl,hl5⟩ k'
   rw [Int.toNat_natCast] at hj
   have jj:=rb (a:=(0 : Int) + (j : Int)) (b:=(0 : Int) + (j : Int)) (m:=300) (n:=300) (by omega) (by omega) (by omega) (by omega)
   refine ⟨_,rfl,_,rfl,_,_,rfl,rfl,.inl ⟨by omega,by omega⟩,_,rfl,_,_,rfl,rfl,_,_,rfl,rfl,(by show (0 : Int) < 7; decide),k' _ _ hy (aR (by rw [lm_]; omega)) ⟨aM hs5 hD,sg ++ [_],by rw [List.map_append]; rfl,by simp [hl5]⟩⟩
  ·rintro G ys H5 hG0 hG ⟨hs5,sg,rfl,hl5⟩
   rw [Int.toNat_natCast] at hl5
   refine ⟨G,_,rfl,.inl ⟨qL_ hG,fun gt hgt => ?_⟩⟩
   have s6:=ao hgt (HO.tup (sg.map V.int))
   refine ⟨(by show 3 <= sizeLine; decide),fun m hm => ?_⟩
   have s7:=ao hm (HO.tup [V.int wide,V.ref rt,V.ref gt])
   have s57:=hs5.trans (s6.trans s7)
   exact k m rt gt _ rws sg (hs4.trans (s5.trans s57)) ⟨ae,⟨ras,s57 _ _ ae,A4.same fun b zs e => (s5.trans s57) _ _ e⟩,s7 _ _ ae⟩ ⟨hl4,hw4,hv4⟩ hl5
end
theorem Ky : ∀ {ks : LI} {q : Int},q ∈ ks -> ks.Nodup -> putK (kvT ks) (Sum.inl q) (V.bl true) = kvT ks:=by
 intro ks q h nd
 unfold putK
 rw [if_pos (show ((kvT ks).any fun kv => decide (kv.fst = Sum.inl q)) = true from List.any_eq_true.mpr ⟨(Sum.inl q,V.bl true),List.mem_map.mpr ⟨q,h,rfl⟩,by simp⟩)]
 refine (List.map_congr_left fun kv hk => ?_).trans (List.map_id _)
 obtain ⟨k,_,rfl⟩:=List.mem_map.mp hk
 show (if (Sum.inl k : Key) = Sum.inl q then ((Sum.inl k : Key),V.bl true) else (Sum.inl k,V.bl true)) = (Sum.inl k,V.bl true)
 split <;> rfl
def GU (ks : LI) (q : Int) : LI:=if q ∈ ks then ks else ks ++ [q]
theorem Ib {ks : LI} {q : Int} (nd : ks.Nodup) : putK (kvT ks) (Sum.inl q) (V.bl true) = kvT (GU ks q):=by
 unfold GU
 by_cases c : q ∈ ks
 ·rw [if_pos c]; exact Ky c nd
 ·rw [if_neg c]; exact B7 c
theorem Ia {ks : LI} {q p : Int} : p ∈ GU ks q ↔ p ∈ ks \/ p = q:=by
 unfold GU
 by_cases c : q ∈ ks
 ·rw [if_pos c]
  exact ⟨.inl,fun h => by rcases h with z | z; exact z; rw [z]; exact c⟩
 ·rw [if_neg c,List.mem_append,List.mem_singleton]
theorem Kn {ks : LI} {q : Int} (nd : ks.Nodup) : (GU ks q).Nodup:=by
 unfold GU
 by_cases c : q ∈ ks
 ·rw [if_pos c]; exact nd
 ·rw [if_neg c]; exact sU nd c
theorem yw (rows : LL) (ps fs : LI) (n : Nat) : kd rows ps fs (n + 1) = kd rows ps fs n ++ (if ∃ p ∈ ps,∃ f ∈ fs,stepI rows p f = (n : Int) then [(n : Int)] else []):=by
 unfold kd
 rw [List.range_succ,List.filter_append,List.map_append]
 congr 1
 by_cases c : ∃ p ∈ ps,∃ f ∈ fs,stepI rows p f = (n : Int)
 ·rw [if_pos c,List.filter_cons_of_pos (by exact decide_eq_true c)]; rfl
 ·rw [if_neg c,List.filter_cons_of_neg (by rw [decide_eq_false c]; decide)]; rfl
def fy (al : List Bool) : LI -> Int
 | [] => 0
 | q :: r => if al.getD q.toNat false = true then 1 else fy al r
theorem vc {al : List Bool} {q : Int} {r : LI} (h : al.getD q.toNat false = false) : fy al (q :: r) = fy al r:=by
 show (if al.getD q.toNat false = true then 1 else fy al r) = _
 rw [if_neg (by rw [h]; decide)]
theorem Gf {bs : List Bool} {k : Int} (h0 : 0 <= k) (h : k < (bs.length : Int)) : atI (bs.map V.bl) k = some (.bl (bs.getD k.toNat false)):=by
 have hk : k.toNat < bs.length:=by omega
 have ek : k = ((k.toNat : Nat) : Int):=by omega
 have q : atI (bs.map V.bl) ((k.toNat : Nat) : Int) = some (.bl bs[k.toNat]):=rZ (by rw [List.getElem?_map,List.getElem?_eq_getElem hk] <;> rfl)
 rw [<- ek] at q
 rw [q,getD_at hk]
def alG (al : List Bool) (q : Nat) : Bool:=al.getD q false
theorem Ge {al : List Bool} {z q : Nat} (hz : z < al.length) : alG (al.set z true) q = if q = z then true else alG al q:=by
 unfold alG
 rw [List.getD_eq_getElem?_getD,List.getD_eq_getElem?_getD,List.getElem?_set]
 by_cases e : z = q
 ·subst e
  rw [if_pos rfl,if_pos rfl,if_pos hz]
  rfl
 ·rw [if_neg e,if_neg (Ne.symm e)]
def Lets (rows : LL) (al : List Bool) (q : Nat) (f : Int) : Prop:=alG al (stepI rows (q : Int) f).toNat = true -> alG al q = true
def mY (rows : LL) (fs : LI) (many : Nat) (al : List Bool) : Prop := ∀ q : Nat,q < many -> ∀ f ∈ fs,Lets rows al q f
def Bn (al : List Bool) : Nat:=al.countP id
structure AlOk (rows : LL) (fs gs : LI) (many : Nat) (al : List Bool) : Prop where
 len : al.length = many
 snd : ∀ q : Nat,alG al q = true -> LeadsTo rows fs gs (q : Int)
 gol : ∀ q : Nat,q < many -> (q : Int) ∈ gs -> alG al q = true
def Tri (rows : LL) (fs : LI) (many k z j : Nat) (al : List Bool) : Prop:=mY rows fs many al \/ k + 1 <= Bn al \/ (k <= Bn al /\ (∀ q : Nat,q < z -> ∀ f ∈ fs,Lets rows al q f) /\ ∀ f ∈ fs.take j,Lets rows al z f)
section
variable {rows : LL} {fs gs : LI} {many wide k z j : Nat} {al : List Bool} {fg : Int}
theorem E1 (h : Tri rows fs many k z j al) (hj : fs[j]? = some fg) (c : Lets rows al z fg) : Tri rows fs many k z (j + 1) al:=by
 rcases h with h | h | ⟨h1,h2,h3⟩
 ·exact .inl h
 ·exact .inr (.inl h)
 ·refine .inr (.inr ⟨h1,h2,fun f hf => ?_⟩)
  rcases (di hj).mp hf with q | q
  ·exact h3 f q
  ·rw [q]; exact c
theorem LR (o : AlOk rows fs gs many al) (R : RowsOk many wide rows) (hz : z < many) (hj : fs[j]? = some fg) (hf : 0 <= fg /\ fg < (wide : Int)) (h : Tri rows fs many k z j al) (c : alG al (stepI rows (z : Int) fg).toNat = true) : AlOk rows fs gs many (al.set z true) /\ Tri rows fs many k z (j + 1) (al.set z true):=by
 have hl : z < al.length:=by rw [o.len]; exact hz
 cases e : alG al z with
 | true =>
  have es : al.set z true = al:=by
   have e1 : al[z] = true:=by
    have : alG al z = al[z]:=by unfold alG; rw [List.getD_eq_getElem?_getD,List.getElem?_eq_getElem hl]; rfl
    rw [<- this]; exact e
   rw [<- e1]
   exact List.set_getElem_self hl
  rw [es]
  exact ⟨o,E1 h hj fun _ => e⟩
 | false =>
  have ec : Bn (al.set z true) = Bn al + 1:=by
   unfold Bn
   have e1 : al[z] = false:=by
    have : alG al z = al[z]:=by unfold alG; rw [List.getD_eq_getElem?_getD,List.getElem?_eq_getElem hl]; rfl
    rw [<- this]; exact e
   rw [List.countP_set hl,e1]
   simp
  refine ⟨⟨by rw [List.length_set]; exact o.len,fun q hq => ?_,fun q hq hg => ?_⟩,.inr (.inl ?_)⟩
  ·rw [Ge hl] at hq
   by_cases eq : q = z
   ·subst eq
    refine LeadsTo.step (mq_ hj) ?_
    have h1:=o.snd _ c
    have h2:=(kR R (show (0 : Int) <= (q : Int) by omega) (by omega) hf.1 hf.2).1
    rw [Int.toNat_of_nonneg h2] at h1
    exact h1
   ·rw [if_neg eq] at hq
    exact o.snd q hq
  ·rw [Ge hl]
   by_cases eq : q = z
   ·rw [if_pos eq]
   ·rw [if_neg eq]; exact o.gol q hq hg
  ·rw [ec]
   rcases h with h | h | ⟨h1,_⟩
   ·have:=h z hz fg (mq_ hj) c
    rw [e] at this
    cases this
   ·omega
   ·omega
theorem Ll (h : Tri rows fs many k z fs.length al) : Tri rows fs many k (z + 1) 0 al:=by
 rcases h with h | h | ⟨h1,h2,h3⟩
 ·exact .inl h
 ·exact .inr (.inl h)
 ·refine .inr (.inr ⟨h1,fun q hq f hf => ?_,fun f hf => by cases hf⟩)
  rcases Nat.lt_or_ge q z with y | y
  ·exact h2 q y f hf
  ·have : q = z:=by omega
   subst this
   exact h3 f (by rw [List.take_length]; exact hf)
theorem J2 (h : Tri rows fs many k many 0 al) : mY rows fs many al \/ k + 1 <= Bn al:=by
 rcases h with h | h | ⟨h1,h2,h3⟩
 ·exact .inl h
 ·exact .inr h
 ·exact .inl h2
theorem LP (o : AlOk rows fs gs many al) (h : mY rows fs many al \/ many <= Bn al) : mY rows fs many al:=by
 rcases h with h | h
 ·exact h
 ·have hc : al.countP id = al.length:=Nat.le_antisymm List.countP_le_length (by rw [o.len]; exact h)
  have hall:=List.countP_eq_length.mp hc
  intro q hq f hf _
  have hl : q < al.length:=by rw [o.len]; exact hq
  have : alG al q = al[q]:=by unfold alG; rw [List.getD_eq_getElem?_getD,List.getElem?_eq_getElem hl]; rfl
  rw [this]
  exact hall _ (List.getElem_mem hl)
theorem Ic (o : AlOk rows fs gs many al) (R : RowsOk many wide rows) (hfs : ∀ f ∈ fs,0 <= f /\ f < (wide : Int)) (h : mY rows fs many al) : ∀ (row : LI) (q : Nat),q < many -> (∀ f ∈ row,f ∈ fs) -> J6 rows row (q : Int) ∈ gs -> alG al q = true
 | [],q,hq,_,hg => o.gol q hq hg
 | f :: row,q,hq,hr,hg => by
  have hf:=hr f List.mem_cons_self
  have st:=kR R (show (0 : Int) <= (q : Int) by omega) (by omega) (hfs f hf).1 (hfs f hf).2
  refine h q hq f hf (Ic o R hfs h row _ (by omega) (fun g hg' => hr g (List.mem_cons_of_mem _ hg')) ?_)
  rw [Int.toNat_of_nonneg st.1]
  exact hg
theorem LQ (o : AlOk rows fs gs many al) (R : RowsOk many wide rows) (hfs : ∀ f ∈ fs,0 <= f /\ f < (wide : Int)) (h : mY rows fs many al) (q : Int) (q0 : 0 <= q) (q1 : q < (many : Int)) : al.getD q.toNat false = true ↔ LeadsTo rows fs gs q:=by
 obtain ⟨n,rfl⟩:=gI q0
 rw [Int.toNat_natCast]
 exact ⟨fun e => o.snd n e,fun ⟨row,hr,hg⟩ => Ic o R hfs h row n (by omega) hr hg⟩
end
theorem Kv {n z : Nat} (h : z < n) : ixN n (z : Int) = some z:=by
 unfold ixN
 rw [if_pos (by omega),if_pos (by omega),Int.toNat_natCast]
theorem IY (al : List Bool) (z : Nat) : (al.map V.bl).set z (V.bl true) = (al.set z true).map V.bl:=(List.map_set ..).symm
def yR : Sp:=fun vs H Q _ => ∃ (m r g : Addr) (many wide b at_ : Nat) (rows : LL) (signs : LI),vs = [.ref m,.int b,.int at_] /\ MachAt H m r g wide rows signs /\ RowsOk many wide rows /\ signs.length = many /\ many <= 400 /\ (1 <= b /\ b <= 400) /\ at_ <= 1000 /\ (0 < (b : Int) ^ at_ /\ (b : Int) ^ at_ <= 100000) /\ (∀ f ∈ dP ((b : Int) ^ at_) b,0 <= f /\ f < (wide : Int)) /\
 ∀ (L : Addr) (H' : Hp) (al : List Bool),Same H H' -> H' L = some (.lst (al.map V.bl)) -> al.length = many -> (∀ q : Int,0 <= q -> q < (many : Int) -> (al.getD q.toNat false = true ↔ LeadsTo rows (dP ((b : Int) ^ at_) b) (bO signs 1 many) q)) -> Q (.ref L) H'
def yY : Sp:=fun vs H Q _ => ∃ (m r g p : Addr) (many wide b at_ fg : Nat) (ps : LI) (rows : LL) (signs : LI),vs = [.ref m,.int b,.int at_,.ref p,.int fg] /\ MachAt H m r g wide rows signs /\ RowsOk many wide rows /\ many <= 400 /\ (1 <= b /\ b <= 400) /\ at_ <= 1000 /\ (0 < (b : Int) ^ at_ /\ (b : Int) ^ at_ <= 100000) /\ fg <= 1000 /\
 H p = some (.tup (ps.map V.int)) /\ (∀ q ∈ ps,0 <= q /\ q < (many : Int)) /\ (∀ f ∈ cz (fg : Int) b ((b : Int) ^ at_),0 <= f /\ f < (wide : Int)) /\ ∀ (T : Addr) (H' : Hp),Same H H' -> H' T = some (.tup ((kd rows ps (cz (fg : Int) b ((b : Int) ^ at_)) many).map V.int)) -> Q (.ref T) H'
theorem Gi {lo : Int} {b j : Nat} (h : j < b) : (dP lo b)[j]? = some (lo * (j : Int)):=by
 unfold dP
 rw [List.getElem?_map,List.getElem?_range h]
 rfl
theorem J8 {g lo : Int} {b j : Nat} (h : j < b) : (cz g b lo)[j]? = some (hZ g b lo (j : Int)):=by
 unfold cz
 rw [List.getElem?_map,List.getElem?_range h]
 rfl
theorem HV {g lo : Int} {b : Nat} : (cz g b lo).length = b:=by
 unfold cz
 rw [lm_,List.length_range]
theorem Ih {lo : Int} {b : Nat} : (dP lo b).length = b:=by
 unfold dP
 rw [lm_,List.length_range]
section
variable {P : Program} {w : World} {K : PySem.W.Frag} {mg : Str -> Option Value} {base : Heap} {f : Addr} {fd : FuncData} {dV : Value}
theorem sc__law_alive : FnScope ["_law_one","_law_base","_law_at","_law_low","_law_alive_here","_law_turn","_law_q","_law_part"] ["_law_one","_law_base","_law_at"] (af cP):=⟨rfl,rfl,rfl,by decide +kernel,rfl,by decide +kernel,by decide +kernel⟩
theorem bk__law_alive_0 : BlkScope ["_law_one","_law_base","_law_at","_law_low","_law_alive_here","_law_turn","_law_q","_law_part"] (af cP) ["_law_sign_here"] [none] { kind:=ScopeKind.function,names:=[(".0",NameKind.local),("_law_sign_here",NameKind.local)],isGenerator:=false,isCoroutine:=false,more:=[] }:=⟨rfl,by decide +kernel,by decide +kernel,by decide +kernel,by decide +kernel,rfl,by decide +kernel⟩
theorem sc__law_rooms : FnScope ["_law_one","_law_base","_law_at","_law_place","_law_figure","_law_low","_law_there","_law_here","_law_part","_law_high"] ["_law_one","_law_base","_law_at","_law_place","_law_figure"] (af cQ):=⟨rfl,rfl,rfl,by decide +kernel,rfl,by decide +kernel,by decide +kernel⟩
theorem bk__law_rooms_0 : BlkScope ["_law_one","_law_base","_law_at","_law_place","_law_figure","_law_low","_law_there","_law_here","_law_part","_law_high"] (af cQ) ["_law_q","_law_there"] [none,some 6] { kind:=ScopeKind.function,names:=[(".0",NameKind.local),("_law_q",NameKind.local),("_law_there",NameKind.free)],isGenerator:=false,isCoroutine:=false,more:=[] }:=⟨rfl,by decide +kernel,by decide +kernel,by decide +kernel,by decide +kernel,rfl,by decide +kernel⟩
theorem Hu (F : FunD K "_law_alive" "_law_alive" cP dV f fd) (bq : DefOk P w K mg base "_law_wide" 1 ["_law_base","_law_many"] [] pK) (aF : mg "range" = none) (aZ : mg "len" = none) : FnOk P w K mg base CX0 2 f fd ["_law_one","_law_base","_law_at"] yR:=by
 refine F.ok sc__law_alive (fun vs H Q E h => ?_) (fun cdv A outer s H vs Q E hr h => ?_)
 ·obtain ⟨m,r,g,many,wide,b,at_,rows,signs,rfl,_⟩:=h
  rfl
 obtain ⟨m,r,g,many,wide,b,at_,rows,signs,rfl,M,R,lsg,n1,⟨b0,b1⟩,a1,⟨l0,l1⟩,hfs,k⟩:=h
 obtain ⟨hm,⟨ras,hr',hA⟩,hg⟩:=M
 obtain ⟨gs,egs⟩ : ∃ gs,bO signs 1 many = gs:=⟨_,rfl⟩
 refine ⟨_,(ak (aC (i:=3) sc__law_alive.nd rfl (Or.inl rfl) (aV bq hr (aa (pv 1) (aa (pv 2) ag))))
   (ak (rJ (i:=4) rfl sc__law_alive.nd rfl (Or.inl rfl) bk__law_alive_0 (pd (aH az (pv 0) ah (fun _ _ => rfl))) (fun _ _ _ _ => (aL (i:=0) bk__law_alive_0.nd rfl (Or.inl rfl))) (fun _ _ _ _ => (mn cK (pv 0) ah (aQ _))))
   (ak (cD PassesOwn.never rfl (ba rfl aF (aa (aK aN (by rfl) aZ cA (aa (pv 4) ag)) ag)) (aL (i:=5) sc__law_alive.nd rfl (Or.inl rfl)) (ai (cD PassesOwn.never rfl (ba rfl aF (aa (aK aN (by rfl) aZ cA (aa (pv 4) ag)) ag)) (aL (i:=6) sc__law_alive.nd rfl (Or.inl rfl)) (ai (cD PassesOwn.never rfl (ba rfl aF (aa (pv 1) ag)) (aL (i:=7) sc__law_alive.nd rfl (Or.inl rfl)) (ai (br (gj (aH iO (pv 4) (aH az (aH az (aH az (pv 0) ah (fun _ _ => rfl)) (pv 6) (fun _ _ => rfl)) (ay bK (pv 3) (pv 7)) (fun _ _ => rfl)) (fun _ _ => rfl))) (ai (FI g9 (Ms (pv 4) (pv 6) set_list))) aP)))))))
   (ai (ax (pv 4)))))),?_⟩
 refine ⟨_,rfl,_,rfl,(b : Int),at_,rfl,⟨by omega,by omega⟩,a1,?_⟩
 try dsimp only [a7,cy,List.set]
 obtain ⟨lo,el⟩ : ∃ lo,(b : Int) ^ at_ = lo:=⟨_,rfl⟩
 rw [el] at l0 l1 hfs k ⊢
 obtain ⟨fs,efs⟩ : ∃ fs,dP lo b = fs:=⟨_,rfl⟩
 rw [efs] at hfs k
 refine ⟨_,rfl,m,_,_,_,rfl,rfl,qT_ hm,rfl,g,rfl,⟨_,qT_ hg⟩,?_⟩
 refine xQ (K:=K) (xs:=signs.map V.int) (fun D i ys H' => Same H H' /\ ys = ((signs.take i).map fun s => decide (V.int s = V.int 1)).map V.bl) (fun D hD => ⟨ao hD _,rfl⟩) (fun D i ys H' _ ⟨e,_⟩ => qT_ (e _ _ hg)) ?_ ?_
 ·rintro D j y ys H2 Q' hD hj hy ⟨s2,rfl⟩ k'
  obtain ⟨z,rfl,hz⟩:=fS hj
  have lj:=(gi_ hz).1
  refine ⟨_,rfl,rfl,k' _ _ hy (aR (by rw [lm_,lm_,List.length_take]; omega)) ⟨aM s2 hD,?_⟩⟩
  rw [List.take_add_one,hz,List.map_append,List.map_append]
  rfl
 rintro L ys H1 hL hL1 ⟨s1,rfl⟩
 rw [lm_,List.take_length] at hL1
 obtain ⟨al0,ea⟩ : ∃ al0,(signs.map fun s => decide (V.int s = V.int 1)) = al0:=⟨_,rfl⟩
 rw [ea] at hL1
 have ok0 : AlOk rows fs gs many al0:=by
  have lal : al0.length = many:=by rw [<- ea,lm_]; exact lsg
  have ev : ∀ q : Nat,q < many -> (alG al0 q = true ↔ signs.getD q 0 = 1):=fun q hq => by
   have hq' : q < signs.length:=by omega
   unfold alG
   rw [<- ea,List.getD_eq_getElem?_getD,List.getElem?_map,List.getElem?_eq_getElem hq',List.getD_eq_getElem?_getD,List.getElem?_eq_getElem hq']
   show decide (V.int signs[q] = V.int 1) = true ↔ signs[q] = 1
   rw [decide_eq_true_iff]
   exact ⟨fun h => V.int.inj h,fun h => by rw [h]⟩
  refine ⟨lal,fun q hq => ?_,fun q hq hg => ?_⟩
  ·have hq' : q < many:=by
    rcases Nat.lt_or_ge q many with z | z
    ·exact z
    ·unfold alG at hq
     rw [List.getD_eq_getElem?_getD,List.getElem?_eq_none (by omega)] at hq
     cases hq
   refine LeadsTo.goal ?_
   rw [<- egs]
   exact roomsI_mem.mpr ⟨by omega,by omega,by rw [Int.toNat_natCast]; exact (ev q hq').mp hq⟩
  ·rw [<- egs] at hg
   have:=(roomsI_mem.mp hg).2.2
   rw [Int.toNat_natCast] at this
   exact (ev q hq).mpr this
 rw [egs] at k
 clear ea
 try dsimp only [a7]
 refine gn (t:=FV _ _ _) (fun σ' H' => ∃ (al : List Bool) (v1 v2 v3 : OV),σ' = [some (.ref m),some (.int b),some (.int at_),some (.int lo),some (.ref L),v1,v2,v3] /\ Same H H' /\ H' L = some (.lst (al.map V.bl)) /\ AlOk rows fs gs many al /\ (mY rows fs many al \/ many <= Bn al)) ?_ (fun D' nxt => ?_)
 rotate_left
 ·refine ⟨_,rfl,L,_,rfl,.inl (qL_ hL1),_,rfl,by omega,by rw [lm_,ok0.len]; omega,?_⟩
  refine cC (fun i σ' H' => ∃ (al : List Bool) (v1 v2 v3 : OV),σ' = [some (.ref m),some (.int b),some (.int at_),some (.int lo),some (.ref L),v1,v2,v3] /\ Same H H' /\ H' L = some (.lst (al.map V.bl)) /\ AlOk rows fs gs many al /\ (mY rows fs many al \/ i <= Bn al)) ⟨al0,none,none,none,rfl,s1,hL1,ok0,.inr (Nat.zero_le _)⟩ ?_ ?_
  ·rintro i σ' H2 hi ⟨al,v1,v2,v3,rfl,s2,hL2,o2,h2⟩
   refine ⟨_,rfl,L,_,rfl,.inl (qL_ hL2),_,rfl,by omega,by rw [lm_,o2.len]; omega,?_⟩
   refine cC (fun z σ' H' => ∃ (al : List Bool) (v2 v3 : OV),σ' = [some (.ref m),some (.int b),some (.int at_),some (.int lo),some (.ref L),some (.int (0 + (i : Int))),v2,v3] /\ Same H H' /\ H' L = some (.lst (al.map V.bl)) /\ AlOk rows fs gs many al /\ Tri rows fs many i z 0 al)
    ⟨al,v2,v3,rfl,s2,hL2,o2,by
     rcases h2 with h | h
     ·exact .inl h
     ·exact .inr (.inr ⟨h,fun q hq => absurd hq (Nat.not_lt_zero _),fun f hf => by cases hf⟩)⟩ ?_ ?_
   ·rintro z σ' H3 hz ⟨al,v2,v3,rfl,s3,hL3,o3,t3⟩
    rw [lm_,o2.len,Int.toNat_natCast] at hz
    refine ⟨_,rfl,(b : Int),rfl,by omega,by omega,?_⟩
    refine cC (fun j σ' H' => ∃ (al : List Bool) (v3 : OV),σ' = [some (.ref m),some (.int b),some (.int at_),some (.int lo),some (.ref L),some (.int (0 + (i : Int))),some (.int (0 + (z : Int))),v3] /\ Same H H' /\ H' L = some (.lst (al.map V.bl)) /\ AlOk rows fs gs many al /\ Tri rows fs many i z j al)
     ⟨al,v3,rfl,s3,hL3,o3,t3⟩ ?_ ?_
    ·rintro j σ' H4 hj ⟨al,v3,rfl,s4,hL4,o4,t4⟩
     rw [Int.toNat_natCast] at hj
     have hfg : fs[j]? = some (lo * (j : Int)):=by rw [<- efs]; exact Gi hj
     have hf:=hfs _ (mq_ hfg)
     have ez : (0 : Int) + (z : Int) = (z : Int):=Int.zero_add _
     have ej : (0 : Int) + (j : Int) = (j : Int):=Int.zero_add _
     obtain ⟨ra,rr,e1,e2,e3⟩:=hJ (hA.same fun a ys e => s4 _ _ e) R (show (0 : Int) <= (z : Int) by omega) (by omega) hf.1 hf.2
     have st:=kR R (show (0 : Int) <= (z : Int) by omega) (by omega) hf.1 hf.2
     rw [<- ez] at e1
     rw [ej]
     refine ⟨_,rfl,_,rfl,m,_,_,_,rfl,rfl,qT_ (s4 _ _ hm),rfl,_,rfl,r,_,_,_,rfl,rfl,qT_ (s4 _ _ hr'),e1,_,rfl,_,rfl,_,_,rfl,rfl,.inr ⟨by omega,by omega⟩,ra,_,_,_,rfl,rfl,qT_ e2,e3,L,_,_,_,rfl,rfl,qL_ hL4,Gf st.1 (by rw [o4.len]; exact st.2),_,rfl,?_⟩
     cases c : al.getD (stepI rows (z : Int) (lo * (j : Int))).toNat false with
     | true =>
      refine lY ⟨_,rfl,_,rfl,L,_,_,z,rfl,rfl,hL4,?_,?_⟩
      ·rw [lm_,o4.len,ez]
       exact Kv hz
      ·obtain ⟨o5,t5⟩:=LR o4 R hz hfg hf t4 c
       exact ⟨al.set z true,_,rfl,aM s4 hL,by rw [ae,IY],o5,t5⟩
     | false =>
      exact kD ⟨al,_,rfl,s4,hL4,o4,E1 t4 hfg fun h => by rw [show alG al (stepI rows (z : Int) (lo * (j : Int))).toNat = false from c] at h; cases h⟩
    ·rintro σ' H4 ⟨al,v3,rfl,s4,hL4,o4,t4⟩
     have eb : (b : Int).toNat = fs.length:=by rw [Int.toNat_natCast,<- efs,Ih]
     rw [eb] at t4
     exact ⟨al,_,_,rfl,s4,hL4,o4,Ll t4⟩
   ·rintro σ' H3 ⟨al,v2,v3,rfl,s3,hL3,o3,t3⟩
    rw [lm_,o2.len,Int.toNat_natCast] at t3
    exact ⟨al,_,_,_,rfl,s3,hL3,o3,J2 t3⟩
  ·rintro σ' H2 ⟨al,v1,v2,v3,rfl,s2,hL2,o2,h2⟩
   rw [lm_,ok0.len,Int.toNat_natCast] at h2
   exact nxt _ _ ⟨al,v1,v2,v3,rfl,s2,hL2,o2,h2⟩
 rintro σ' H2 ⟨al,v1,v2,v3,rfl,s2,hL2,o2,h2⟩
 have cl:=LP o2 h2
 exact ⟨_,rfl,k L _ al s2 hL2 o2.len (LQ o2 R hfs cl)⟩
theorem HE (F : FunD K "_law_rooms" "_law_rooms" cQ dV f fd) (bq : DefOk P w K mg base "_law_wide" 1 ["_law_base","_law_many"] [] pK) (aF : mg "range" = none) (aZ : mg "len" = none) (aS : mg "tuple" = none) : FnOk P w K mg base CX0 2 f fd ["_law_one","_law_base","_law_at","_law_place","_law_figure"] yY:=by
 refine F.ok sc__law_rooms (fun vs H Q E h => ?_) (fun cdv A outer s H vs Q E hr h => ?_)
 ·obtain ⟨m,r,g,p,many,wide,b,at_,fg,ps,rows,signs,rfl,_⟩:=h
  rfl
 obtain ⟨m,r,g,p,many,wide,b,at_,fg,ps,rows,signs,rfl,M,R,n1,⟨b0,b1⟩,a1,⟨l0,l1⟩,g1,hp,hps,hfs,k⟩:=h
 obtain ⟨hm,⟨ras,hr',hA⟩,hg⟩:=M
 have hu:=Eg hr
 refine ⟨_,(ak (aC (i:=5) sc__law_rooms.nd rfl (Or.inl rfl) (aV bq hr (aa (pv 1) (aa (pv 2) ag))))
   (ak (aC (i:=6) sc__law_rooms.nd rfl (Or.inr rfl) EL)
   (ak (cD PassesOwn.never rfl (pd (pv 3)) (aL (i:=7) sc__law_rooms.nd rfl (Or.inl rfl)) (ai (cD PassesOwn.never rfl (ba rfl aF (aa (pv 1) ag)) (aL (i:=8) sc__law_rooms.nd rfl (Or.inl rfl)) (ak (aC (i:=9) sc__law_rooms.nd rfl (Or.inl rfl) (ay bK (pv 1) (ay mj (pv 4) (pv 5))))
   (ai (xt hu (pv 6) (aH az (aH az (aH az (pv 0) ah (fun _ _ => rfl)) (pv 7) (fun _ _ => rfl)) (ay bD (ay bu (pv 4) (pv 5)) (ay bK (pv 5) (ay bD (pv 8) (pv 9)))) (fun _ _ => rfl)) g9 rfl))))))
   (ai (ax (bS bf (by rfl) aS cq (aa (EJ rfl bk__law_rooms_0 (ba rfl aF (aa (aK aN (by rfl) aZ cA (aa (aH az (pv 0) ah (fun _ _ => rfl)) ag)) ag)) (fun _ _ _ _ => (aL (i:=0) bk__law_rooms_0.nd rfl (Or.inl rfl))) (fun _ _ _ _ => (FJ (JA hu (pv 0) (pv 1)) (by with_unfolding_all rfl))) (fun _ _ _ _ => (pv 0))) ag))))))),?_⟩
 refine ⟨_,rfl,_,rfl,(b : Int),at_,rfl,⟨by omega,by omega⟩,a1,?_⟩
 try dsimp only [a7,cy,List.set]
 obtain ⟨lo,el⟩ : ∃ lo,(b : Int) ^ at_ = lo:=⟨_,rfl⟩
 rw [el] at l0 l1 hfs k ⊢
 obtain ⟨fs,efs⟩ : ∃ fs,cz (fg : Int) b lo = fs:=⟨_,rfl⟩
 rw [efs] at hfs k
 refine fun D hD => ?_
 have sD:=ao hD (HO.dK [])
 try dsimp only [a7]
 refine gn (t:=FV _ _ _) (fun σ' H' => ∃ (ks : LI) (v1 v2 v3 : OV),σ' = [some (.ref m),some (.int b),some (.int at_),some (.ref p),some (.int fg),some (.int lo),some (.ref D),v1,v2,v3] /\ Same H H' /\ H' D = some (.dK (kvT ks)) /\ ks.Nodup /\ ∀ q,q ∈ ks ↔ ∃ p ∈ ps,∃ f ∈ fs,stepI rows p f = q) ?_ (fun D' nxt => ?_)
 rotate_left
 ·refine ⟨_,rfl,p,rfl,⟨_,qT_ (sD _ _ hp)⟩,?_⟩
  refine pH (K:=K) (xs:=ps.map V.int) (fun i σ' H' => ∃ (ks : LI) (v1 v2 v3 : OV),σ' = [some (.ref m),some (.int b),some (.int at_),some (.ref p),some (.int fg),some (.int lo),some (.ref D),v1,v2,v3] /\ Same H H' /\ H' D = some (.dK (kvT ks)) /\ ks.Nodup /\ ∀ q,q ∈ ks ↔ ∃ p ∈ ps.take i,∃ f ∈ fs,stepI rows p f = q)
   ⟨[],none,none,none,rfl,sD,ae,List.Pairwise.nil,fun q => ⟨fun h => (by cases h),fun ⟨_,h,_⟩ => (by cases h)⟩⟩ (fun i σ' H' _ ⟨_,_,_,_,_,e,_⟩ => qT_ (e _ _ hp)) ?_ ?_
  ·rintro i y σ' H2 hi ⟨ks,v1,v2,v3,rfl,s2,hD2,nd2,hk2⟩
   obtain ⟨z,rfl,hz⟩:=fS hi
   obtain ⟨z0,z1⟩:=hps z (mq_ hz)
   refine ⟨_,rfl,(b : Int),rfl,by omega,by omega,?_⟩
   refine cC (fun j σ' H' => ∃ (ks : LI) (v2 v3 : OV),σ' = [some (.ref m),some (.int b),some (.int at_),some (.ref p),some (.int fg),some (.int lo),some (.ref D),some (.int z),v2,v3] /\ Same H H' /\ H' D = some (.dK (kvT ks)) /\ ks.Nodup /\ ∀ q,q ∈ ks ↔ (∃ p ∈ ps.take i,∃ f ∈ fs,stepI rows p f = q) \/ ∃ f ∈ fs.take j,stepI rows z f = q)
    ⟨ks,v2,v3,rfl,s2,hD2,nd2,fun q => ⟨fun h => .inl ((hk2 q).mp h),fun h => by
     rcases h with h | ⟨_,h,_⟩
     ·exact (hk2 q).mpr h
     ·cases h⟩⟩ ?_ ?_
   ·rintro j σ' H3 hj ⟨ks,v2,v3,rfl,s3,hD3,nd3,hk3⟩
    rw [Int.toNat_natCast] at hj
    have hfg : fs[j]? = some (hZ (fg : Int) b lo (j : Int)):=by rw [<- efs]; exact J8 hj
    obtain ⟨f0,f1⟩:=hfs _ (mq_ hfg)
    obtain ⟨ra,rr,e1,e2,e3⟩:=hJ (hA.same fun a ys e => s3 _ _ e) R z0 z1 f0 f1
    have kl:=eN many nd3 fun q hq => by
     rcases (hk3 q).mp hq with ⟨p',hp',f',hf',e⟩ | ⟨f',hf',e⟩
     ·rw [<- e]
      exact kR R (hps p' (List.mem_of_mem_take hp')).1 (hps p' (List.mem_of_mem_take hp')).2 (hfs f' hf').1 (hfs f' hf').2
     ·rw [<- e]
      exact kR R z0 z1 (hfs f' (List.mem_of_mem_take hf')).1 (hfs f' (List.mem_of_mem_take hf')).2
    have ej : (0 : Int) + (j : Int) = (j : Int):=Int.zero_add _
    have ew : (fg : Int) % lo + lo * ((j : Int) + (b : Int) * ((fg : Int) / lo)) = hZ (fg : Int) b lo (j : Int):=by
     unfold hZ
     rw [Int.mul_add,<- Int.mul_assoc,Int.add_assoc]
    have dv : 0 <= (fg : Int) / lo /\ (fg : Int) / lo <= 1000:=⟨Int.ediv_nonneg (by omega) (by omega),Int.le_trans (Int.ediv_le_self _ (by omega)) (by omega)⟩
    have bd:=rb (a:=(b : Int)) (b:=(fg : Int) / lo) (m:=400) (n:=1000) (by omega) (by omega) dv.1 dv.2
    rw [ej]
    rw [<- ew] at e3 f0 f1 hfg
    refine ⟨_,rfl,_,rfl,_,rfl,_,_,rfl,rfl,⟨l0,by omega⟩,_,_,rfl,rfl,.inl ⟨by omega,by omega⟩,?_⟩
    refine ⟨_,rfl,_,rfl,m,_,_,_,rfl,rfl,qT_ (s3 _ _ hm),rfl,_,rfl,r,_,_,_,rfl,rfl,qT_ (s3 _ _ hr'),e1,_,rfl,_,rfl,_,_,rfl,rfl,l0,_,rfl,_,rfl,_,rfl,_,_,rfl,rfl,_,_,rfl,rfl,.inl ⟨by omega,by omega⟩,_,_,rfl,rfl,ra,_,_,_,rfl,rfl,qT_ e2,e3,D,_,rfl,DPut.k (k:=Sum.inl _) hD3 (aR (by unfold kvT; rw [lm_]; omega)),?_⟩
    rw [Ib nd3]
    refine ⟨_,_,_,rfl,aM s3 hD,ae,Kn nd3,fun q => ?_⟩
    rw [Ia,hk3]
    constructor
    ·rintro ((h | ⟨f',hf',e⟩) | h)
     ·exact .inl h
     ·exact .inr ⟨f',(di hfg).mpr (.inl hf'),e⟩
     ·exact .inr ⟨_,(di hfg).mpr (.inr rfl),h.symm⟩
    ·rintro (h | ⟨f',hf',e⟩)
     ·exact .inl (.inl h)
     ·rcases (di hfg).mp hf' with h | h
      ·exact .inl (.inr ⟨f',h,e⟩)
      ·rw [h] at e
       exact .inr e.symm
   ·rintro σ' H3 ⟨ks,v2,v3,rfl,s3,hD3,nd3,hk3⟩
    have eb : (b : Int).toNat = fs.length:=by rw [Int.toNat_natCast,<- efs,HV]
    rw [eb,List.take_length] at hk3
    refine ⟨ks,_,_,_,rfl,s3,hD3,nd3,fun q => ?_⟩
    rw [hk3]
    constructor
    ·rintro (⟨p',hp',h⟩ | h)
     ·exact ⟨p',(di hz).mpr (.inl hp'),h⟩
     ·exact ⟨z,(di hz).mpr (.inr rfl),h⟩
    ·rintro ⟨p',hp',h⟩
     rcases (di hz).mp hp' with h' | h'
     ·exact .inl ⟨p',h',h⟩
     ·rw [h'] at h
      exact .inr h
  ·rintro σ' H2 ⟨ks,v1,v2,v3,rfl,s2,hD2,nd2,hk2⟩
   rw [lm_,List.take_length] at hk2
   exact nxt _ _ ⟨ks,v1,v2,v3,rfl,s2,hD2,nd2,hk2⟩
 rintro σ' H1 ⟨ks,v1,v2,v3,rfl,s1,hD1,nd,hks⟩
 have lr : ras.length = many:=by rw [hA.length,R.len]
 refine ⟨_,rfl,m,_,_,_,rfl,rfl,qT_ (s1 _ _ hm),rfl,r,_,rfl,.inr (qT_ (s1 _ _ hr')),_,rfl,by omega,by rw [lm_,lr]; omega,?_⟩
 refine DY (fun D i ys H' => Same H1 H' /\ ys = (kd rows ps fs i).map V.int) (fun D hD => ⟨ao hD _,rfl⟩) ?_ ?_
 ·rintro L i ys H2 Qy Qn hL hi hy ⟨s2,rfl⟩ ky kn
  rw [lm_,lr,Int.toNat_natCast] at hi
  have ln:=AN rows ps fs i
  refine ⟨_,rfl,_,rfl,D,_,rfl,DGet.k (k:=Sum.inl (0 + (i : Int))) (s2 _ _ hD1),_,rfl,?_⟩
  rw [B8]
  refine zH (fun c => ?_) (fun c => ?_)
  ·rw [hks,Int.zero_add] at c
   refine ⟨_,rfl,ky _ _ hy (aR (by rw [lm_]; omega)) ⟨aM s2 hL,?_⟩⟩
   rw [yw,if_pos c,List.map_append,Int.zero_add]
   rfl
  ·rw [hks,Int.zero_add] at c
   refine kn _ hy ⟨s2,?_⟩
   rw [yw,if_neg c,List.append_nil]
 ·rintro L ys H2 hL hy ⟨s2,rfl⟩
  rw [lm_,lr,Int.toNat_natCast] at hy
  refine ⟨L,_,rfl,.inl ⟨qL_ hy,fun T hT => k T _ (s1.trans (s2.trans (ao hT _))) ae⟩⟩
end
open Classical in
noncomputable def J7 (rows : LL) (signs : LI) (lo : Int) (b many : Nat) (u : LI) : Int:=if ∃ q ∈ u,LeadsTo rows (dP lo b) (bO signs 1 many) q then 1 else 0
def GB (many : Nat) (u : LI) : Prop := ∃ q : Int,u = [q] /\ 0 <= q /\ q < (many : Int)
def wlk0 : Wlk:=⟨.n,fun _ _ => [],[],fun _ => 0,1000,fun u => u = []⟩
def Ln (rows : LL) (signs : LI) (many wide : Nat) : Wlk:=⟨.i,fun u f => [stepI rows (u.headD 0) (f : Int)],[0],fun u => signs.getD (u.headD 0).toNat 0,wide,GB many⟩
def MP (rows1 rows2 : LL) (signs1 signs2 : LI) (many1 many2 wide : Nat) : Wlk:=⟨.t,fun u f => [stepI rows1 (u.getD 0 0) (f : Int),stepI rows2 (u.getD 1 0) (f : Int)],[0,0],fun u => JQ (signs1.getD (u.getD 0 0).toNat 0) (signs2.getD (u.getD 1 0).toNat 0),wide,fun u => ∃ p q : Int,u = [p,q] /\ (0 <= p /\ p < (many1 : Int)) /\ 0 <= q /\ q < (many2 : Int)⟩
def MN (rows : LL) (signs : LI) (many : Nat) (b lo : Int) (wide : Nat) : Wlk:=⟨.i,fun u f => [stepI rows (u.headD 0) (aY (f : Int) b lo)],[0],fun u => signs.getD (u.headD 0).toNat 0,wide,GB many⟩
noncomputable def MM (rows : LL) (signs : LI) (many b : Nat) (lo : Int) (wide : Nat) : Wlk:=⟨.t,fun u f => kd rows u (cz (f : Int) b lo) many,[0],J7 rows signs lo b many,wide,fun u => (u.length <= many /\ u.Pairwise (· < ·)) /\ ∀ q ∈ u,0 <= q /\ q < (many : Int)⟩
structure MO (H : Hp) (m r g : Addr) (many wide : Nat) (rows : LL) (signs : LI) : Prop where
 M : MachAt H m r g wide rows signs
 R : RowsOk many wide rows
 ls : signs.length = many
 po : 1 <= many
theorem MO.same {H H' : Hp} {m r g : Addr} {many wide : Nat} {rows : LL} {signs : LI} (h : MO H m r g many wide rows signs) (s : Same H H') : MO H' m r g many wide rows signs:=⟨h.M.same fun b xs e => s _ _ e,h.R,h.ls,h.po⟩
def OW (C : Addr) : WO:=fun H x W => (∃ dx,H x = some (.ins C dx [])) /\ W = wlk0
def OR (C : Addr) : WO:=fun H x W => ∃ (m r g : Addr) (many wide : Nat) (rows : LL) (signs : LI),RdAt H C x r g /\ MO H m r g many wide rows signs /\ W = Ln rows signs many wide
def OP (C CR fn : Addr) : WO:=fun H x W => ∃ (m1 r1 g1 m2 r2 g2 : Addr) (many1 many2 wide : Nat) (rows1 rows2 : LL) (signs1 signs2 : LI),PrAt H C CR x r1 g1 r2 g2 fn /\ MO H m1 r1 g1 many1 wide rows1 signs1 /\ MO H m2 r2 g2 many2 wide rows2 signs2 /\ W = MP rows1 rows2 signs1 signs2 many1 many2 wide
def ON (C CR : Addr) : WO:=fun H x W => ∃ (wk m r g : Addr) (many wide wd : Nat) (b lo : Int) (rows : LL) (signs : LI),NwAt H C x wk b lo /\ RdAt H CR wk r g /\ MO H m r g many wide rows signs /\ (0 < b /\ b <= 1000) /\ (0 < lo /\ lo <= 100000) /\ (∀ f : Nat,f < wd -> 0 <= aY (f : Int) b lo /\ aY (f : Int) b lo < (wide : Int)) /\ W = MN rows signs many b lo wd
def OC (C : Addr) : WO:=fun H x W => ∃ (m r g : Addr) (many wide wd b : Nat) (lo : Int) (ks : LI) (rows : LL) (signs : LI),ChAt H C x r (b : Int) lo ks /\ MO H m r g many wide rows signs /\ LO rows signs lo b many ks /\ many <= 20 /\ (1 <= b /\ b <= 20) /\ (0 < lo /\ lo <= 100000) /\ (∀ y : Nat,y < wd -> ∀ f ∈ cz (y : Int) b lo,0 <= f /\ f < (wide : Int)) /\ W = MM rows signs many b lo wd
theorem Ju {many : Nat} (h : 1 <= many) : GB many [0]:=⟨0,rfl,by decide,by omega⟩
theorem Lm : wlk0.Ok:=⟨rfl,fun _ _ _ _ => rfl⟩
section
variable {H H' : Hp} {C CR fn x : Addr} {W : Wlk}
theorem wok_W : WOk C (OW C) where
 ok:=fun h => by rw [h.2]; exact Lm
 same:=fun ⟨⟨dx,h⟩,e⟩ s => ⟨⟨dx,s _ _ h⟩,e⟩
 ins:=fun ⟨⟨dx,h⟩,e⟩ => ⟨dx,_,h,rfl,rfl,rfl⟩
theorem wok_R : WOk C (OR C) where
 ok:=fun ⟨m,r,g,many,wide,rows,signs,h1,h2,e⟩ => by
  rw [e]
  refine ⟨Ju h2.po,fun u f ⟨q,eu,q0,q1⟩ hf => ?_⟩
  have hf' : f < wide:=hf
  have:=kW h2.R (f:=(f : Int)) q0 q1 (by omega) (by omega)
  rw [eu]
  exact ⟨_,rfl,this⟩
 same:=fun ⟨m,r,g,many,wide,rows,signs,h1,h2,e⟩ s => ⟨m,r,g,many,wide,rows,signs,h1.same s,h2.same s,e⟩
 ins:=fun ⟨m,r,g,many,wide,rows,signs,⟨dx,h⟩,h2,e⟩ => ⟨dx,_,h,rfl,rfl,rfl⟩
theorem wok_P : WOk C (OP C CR fn) where
 ok:=fun ⟨m1,r1,g1,m2,r2,g2,many1,many2,wide,rows1,rows2,signs1,signs2,h1,h2,h3,e⟩ => by
  rw [e]
  refine ⟨⟨0,0,rfl,⟨by decide,by have:=h2.po; omega⟩,by decide,by have:=h3.po; omega⟩,fun u f ⟨p,q,eu,⟨p0,p1⟩,q0,q1⟩ hf => ?_⟩
  have hf' : f < wide:=hf
  have a:=kW h2.R (f:=(f : Int)) p0 p1 (by omega) (by omega)
  have b:=kW h3.R (f:=(f : Int)) q0 q1 (by omega) (by omega)
  rw [eu]
  exact ⟨_,_,rfl,a,b⟩
 same:=fun ⟨m1,r1,g1,m2,r2,g2,many1,many2,wide,rows1,rows2,signs1,signs2,h1,h2,h3,e⟩ s => ⟨m1,r1,g1,m2,r2,g2,many1,many2,wide,rows1,rows2,signs1,signs2,h1.same s,h2.same s,h3.same s,e⟩
 ins:=fun ⟨m1,r1,g1,m2,r2,g2,many1,many2,wide,rows1,rows2,signs1,signs2,⟨dx,o1,o2,h,_⟩,h2,h3,e⟩ => ⟨dx,_,h,rfl,rfl,rfl⟩
theorem wok_N : WOk C (ON C CR) where
 ok:=fun ⟨wk,m,r,g,many,wide,wd,b,lo,rows,signs,h1,h2,h3,hb,hl,hf,e⟩ => by
  rw [e]
  refine ⟨Ju h3.po,fun u f ⟨q,eu,q0,q1⟩ hf' => ?_⟩
  have w:=hf f hf'
  have:=kW h3.R q0 q1 w.1 w.2
  rw [eu]
  exact ⟨_,rfl,this⟩
 same:=fun ⟨wk,m,r,g,many,wide,wd,b,lo,rows,signs,h1,h2,h3,hb,hl,hf,e⟩ s => ⟨wk,m,r,g,many,wide,wd,b,lo,rows,signs,h1.same s,h2.same s,h3.same s,hb,hl,hf,e⟩
 ins:=fun ⟨wk,m,r,g,many,wide,wd,b,lo,rows,signs,⟨dx,h⟩,h2,h3,hb,hl,hf,e⟩ => ⟨dx,_,h,rfl,rfl,rfl⟩
theorem wok_C : WOk C (OC C) where
 ok:=fun ⟨m,r,g,many,wide,wd,b,lo,ks,rows,signs,h1,h2,h3,hm,hb,hl,hf,e⟩ => by
  rw [e]
  exact ⟨⟨⟨h2.po,List.pairwise_singleton ..⟩,fun q hq => by rw [List.mem_singleton.mp hq]; have:=h2.po; omega⟩,fun u f _ _ => ⟨⟨AN _ _ _ _,sV _ _ _ _⟩,fun q hq => (nextI_mem.mp hq).1⟩⟩
 same:=fun ⟨m,r,g,many,wide,wd,b,lo,ks,rows,signs,h1,h2,h3,hm,hb,hl,hf,e⟩ s => ⟨m,r,g,many,wide,wd,b,lo,ks,rows,signs,h1.same s,h2.same s,h3,hm,hb,hl,hf,e⟩
 ins:=fun ⟨m,r,g,many,wide,wd,b,lo,ks,rows,signs,⟨dx,D,h,_⟩,h2,h3,hm,hb,hl,hf,e⟩ => ⟨dx,_,h,rfl,rfl,rfl⟩
end
section
variable {P : Program} {w : World} {K : PySem.W.Frag} {mg : Str -> Option Value} {base : Heap} {f : Addr} {fd : FuncData} {dV : Value} {C CW CR CP CN CC CT fn f0 : Addr}
theorem jG {m : Str} {j k : Nat} {ps : List Str} {sp : Sp} (G : DefMe P w K mg base C m j ps sp) (h : j <= k) : DefMe P w K mg base C m k ps sp:=by
 obtain ⟨cl,f,fd,h1,h2,F⟩:=G
 exact ⟨cl,f,fd,h1,h2,F.mono h⟩
theorem BN {CX : CXT} {k : Nat} {ps : List Str} {sp sp' : Sp} (F : FnOk P w K mg base CX k f fd ps sp) (F' : FnOk P w K mg base CX k f fd ps sp') : FnOk P w K mg base CX k f fd ps (fun vs H Q E => sp vs H Q E \/ sp' vs H Q E):=
 ⟨fun vs H Q E h => h.elim (F.len vs H Q E) (F'.len vs H Q E),fun A outer s H args us vs Q E hr he hb hv hs => hs.elim (F.run A outer s H args us vs Q E hr he hb hv) (F'.run A outer s H args us vs Q E hr he hb hv)⟩
def AnyW (CW CR CP CN CC fn : Addr) : WO:=fun H x W => OW CW H x W \/ OR CR H x W \/ OP CP CR fn H x W \/ ON CN CR H x W \/ OC CC H x W
theorem AnyW.same {H H' : Hp} {x : Addr} {W : Wlk} (h : AnyW CW CR CP CN CC fn H x W) (s : Same H H') : AnyW CW CR CP CN CC fn H' x W:=by
 rcases h with h | h | h | h | h
 ·exact .inl (wok_W.same h s)
 ·exact .inr (.inl (wok_R.same h s))
 ·exact .inr (.inr (.inl (wok_P.same h s)))
 ·exact .inr (.inr (.inr (.inl (wok_N.same h s))))
 ·exact .inr (.inr (.inr (.inr (wok_C.same h s))))
theorem AnyW.ok {H : Hp} {x : Addr} {W : Wlk} (h : AnyW CW CR CP CN CC fn H x W) : W.Ok:=by
 rcases h with h | h | h | h | h
 ·exact wok_W.ok h
 ·exact wok_R.ok h
 ·exact wok_P.ok h
 ·exact wok_N.ok h
 ·exact wok_C.ok h
theorem MK {rows : LL} {signs : LI} {lo : Int} {b many : Nat} {ks u : LI} (h : LO rows signs lo b many ks) (hu : ∀ q ∈ u,0 <= q /\ q < (many : Int)) : (if (u.map fun p => decide (p ∈ ks)).any id = true then (1 : Int) else 0) = J7 rows signs lo b many u:=by
 unfold J7
 have e : (u.map fun p => decide (p ∈ ks)).any id = true ↔ ∃ q ∈ u,LeadsTo rows (dP lo b) (bO signs 1 many) q:=by
  rw [List.any_map,List.any_eq_true]
  constructor
  ·rintro ⟨q,hq,z⟩
   exact ⟨q,hq,(h.2.1 q (of_decide_eq_true z)).2⟩
  ·rintro ⟨q,hq,z⟩
   exact ⟨q,hq,decide_eq_true (h.2.2 q (hu q hq).1 (hu q hq).2 z)⟩
 by_cases c : ∃ q ∈ u,LeadsTo rows (dP lo b) (bO signs 1 many) q
 ·rw [if_pos (e.mpr c),if_pos c]
 ·rw [if_neg fun z => c (e.mp z),if_neg c]
theorem vk (F : FunD K "grown" "grown" ke dV f fd) (GEK_begin : DefMe P w K mg base CW "begin" 1 ["self"] yU) (GEK_step : DefMe P w K mg base CW "step" 1 ["self","place","figure"] Dr) (GEK_sign : DefMe P w K mg base CW "sign" 1 ["self","place"] Dq)
  (GER_begin : DefMe P w K mg base CR "begin" 1 ["self"] pA) (GER_step : DefMe P w K mg base CR "step" 1 ["self","place","figure"] (tR CR)) (GER_sign : DefMe P w K mg base CR "sign" 1 ["self","place"] (tQ CR))
  (GEP_begin : DefMe P w K mg base CP "begin" 2 ["self"] (yX CP CR)) (GEP_step : DefMe P w K mg base CP "step" 2 ["self","place","figure"] (DB CP CR)) (GEP_sign : DefMe P w K mg base CP "sign" 2 ["self","place"] (DA CP CR fn))
  (GEN_begin : DefMe P w K mg base CN "begin" 2 ["self"] (uW CN CR)) (GEN_step : DefMe P w K mg base CN "step" 2 ["self","place","figure"] (yW CN CR)) (GEN_sign : DefMe P w K mg base CN "sign" 2 ["self","place"] (yV CN CR))
  (GEC_begin : DefMe P w K mg base CC "begin" 1 ["self"] uU) (GEC_step : DefMe P w K mg base CC "step" 2 ["self","place","figure"] (yT CC)) (GEC_sign : DefMe P w K mg base CC "sign" 1 ["self","place"] (yS CC))
  (bP : DefI P w K mg base "TooGreat" CT f0 1 ["self","most"] (Dx CT)) (aF : mg "range" = none) (aZ : mg "len" = none) (aS : mg "tuple" = none) : FnOk P w K mg base (CX2 P w) 4 f fd ["walk","wide","most"] (hU CT (AnyW CW CR CP CN CC fn)):=by
 have A1:=kS F (wok_W (C:=CW)) ((jG GEK_begin (by decide)).weak fun vs H Q E ⟨x,W,e,⟨_,eW⟩,k⟩ => ⟨x,e,k _ _ (Same.refl _) (by rw [eW]; exact ⟨rfl,rfl⟩)⟩)
  ((jG GEK_step (by decide)).weak fun vs H Q E ⟨x,W,v,u,f,e,⟨_,eW⟩,he,iu,hf,k⟩ => ⟨x,v,.int f,e,k _ _ (Same.refl _) (by rw [eW]; exact ⟨rfl,rfl⟩)⟩)
  ((jG GEK_sign (by decide)).weak fun vs H Q E ⟨x,W,v,u,e,⟨_,eW⟩,he,iu,k⟩ => ⟨x,v,e,by have:=k _ (Same.refl _); rw [eW] at this; exact this⟩) bP aF aZ aS
 have A2:=kS F (wok_R (C:=CR)) ((jG GER_begin (by decide)).weak fun vs H Q E ⟨x,W,e,o,k⟩ => by
   obtain ⟨m,r,g,many,wide,rows,signs,h1,h2,eW⟩:=o
   exact ⟨x,e,k _ _ (Same.refl _) (by rw [eW]; exact ⟨0,rfl,rfl⟩)⟩)
  ((jG GER_step (by decide)).weak fun vs H Q E ⟨x,W,v,u,f,e,o,he,iu,hf,k⟩ => by
   obtain ⟨m,r,g,many,wide,rows,signs,h1,h2,eW⟩:=o
   rw [eW] at he iu hf k
   obtain ⟨q,eu,ev⟩:=he
   obtain ⟨q',eu',q0,q1⟩:=iu
   rw [eu] at eu'
   cases eu'
   have hf' : f < wide:=hf
   exact ⟨x,m,r,g,q,f,many,wide,rows,signs,by rw [e,ev],h1,h2.M,h2.R,⟨q0,q1⟩,⟨by omega,by omega⟩,k _ _ (Same.refl _) ⟨_,by rw [eu]; rfl,rfl⟩⟩)
  ((jG GER_sign (by decide)).weak fun vs H Q E ⟨x,W,v,u,e,o,he,iu,k⟩ => by
   obtain ⟨m,r,g,many,wide,rows,signs,h1,h2,eW⟩:=o
   rw [eW] at he iu k
   obtain ⟨q,eu,ev⟩:=he
   obtain ⟨q',eu',q0,q1⟩:=iu
   rw [eu] at eu'
   cases eu'
   exact ⟨x,m,r,g,q,wide,rows,signs,by rw [e,ev],h1,h2.M,⟨q0,by rw [h2.ls]; exact q1⟩,by have:=k _ (Same.refl _); rw [eu] at this; exact this⟩) bP aF aZ aS
 have A3:=kS F (wok_P (C:=CP) (CR:=CR) (fn:=fn)) ((jG GEP_begin (by decide)).weak fun vs H Q E ⟨x,W,e,o,k⟩ => by
   obtain ⟨m1,r1,g1,m2,r2,g2,many1,many2,wide,rows1,rows2,signs1,signs2,h1,h2,h3,eW⟩:=o
   rw [eW] at k
   exact ⟨x,r1,g1,r2,g2,fn,e,h1,fun T H' s hT => k _ _ s ⟨T,rfl,hT⟩⟩)
  ((jG GEP_step (by decide)).weak fun vs H Q E ⟨x,W,v,u,f,e,o,he,iu,hf,k⟩ => by
   obtain ⟨m1,r1,g1,m2,r2,g2,many1,many2,wide,rows1,rows2,signs1,signs2,h1,h2,h3,eW⟩:=o
   rw [eW] at he iu hf k
   obtain ⟨t,ev,ht⟩:=he
   obtain ⟨p,q,eu,p0,q0⟩:=iu
   have hf' : f < wide:=hf
   rw [eu] at ht
   exact ⟨x,r1,g1,r2,g2,fn,m1,m2,t,p,q,f,many1,many2,wide,rows1,rows2,signs1,signs2,by rw [e,ev],h1,h2.M,h2.R,h3.M,h3.R,ht,p0,q0,⟨by omega,by omega⟩,fun T H' s hT => k _ _ s ⟨T,rfl,by rw [eu]; exact hT⟩⟩)
  ((jG GEP_sign (by decide)).weak fun vs H Q E ⟨x,W,v,u,e,o,he,iu,k⟩ => by
   obtain ⟨m1,r1,g1,m2,r2,g2,many1,many2,wide,rows1,rows2,signs1,signs2,h1,h2,h3,eW⟩:=o
   rw [eW] at he iu k
   obtain ⟨t,ev,ht⟩:=he
   obtain ⟨p,q,eu,p0,q0⟩:=iu
   rw [eu] at ht
   exact ⟨x,r1,g1,r2,g2,m1,m2,t,p,q,wide,rows1,rows2,signs1,signs2,by rw [e,ev],h1,h2.M,h3.M,ht,by rw [h2.ls]; exact p0,by rw [h3.ls]; exact q0,by have:=k _ (Same.refl _); rw [eu] at this; exact this⟩) bP aF aZ aS
 have A4:=kS F (wok_N (C:=CN) (CR:=CR)) ((jG GEN_begin (by decide)).weak fun vs H Q E ⟨x,W,e,o,k⟩ => by
   obtain ⟨wk,m,r,g,many,wide,wd,b,lo,rows,signs,h1,h2,h3,hb,hl,hf,eW⟩:=o
   exact ⟨x,wk,r,g,b,lo,e,h1,h2,k _ _ (Same.refl _) (by rw [eW]; exact ⟨0,rfl,rfl⟩)⟩)
  ((jG GEN_step (by decide)).weak fun vs H Q E ⟨x,W,v,u,f,e,o,he,iu,hf,k⟩ => by
   obtain ⟨wk,m,r,g,many,wide,wd,b,lo,rows,signs,h1,h2,h3,hb,hl,hff,eW⟩:=o
   rw [eW] at he iu hf k
   obtain ⟨q,eu,ev⟩:=he
   obtain ⟨q',eu',q0,q1⟩:=iu
   rw [eu] at eu'
   cases eu'
   exact ⟨x,wk,m,r,g,b,lo,q,f,many,wide,rows,signs,by rw [e,ev],h1,h2,h3.M,h3.R,⟨q0,q1⟩,hb,hl,hff f hf,k _ _ (Same.refl _) ⟨_,by rw [eu]; rfl,rfl⟩⟩)
  ((jG GEN_sign (by decide)).weak fun vs H Q E ⟨x,W,v,u,e,o,he,iu,k⟩ => by
   obtain ⟨wk,m,r,g,many,wide,wd,b,lo,rows,signs,h1,h2,h3,hb,hl,hff,eW⟩:=o
   rw [eW] at he iu k
   obtain ⟨q,eu,ev⟩:=he
   obtain ⟨q',eu',q0,q1⟩:=iu
   rw [eu] at eu'
   cases eu'
   exact ⟨x,wk,m,r,g,b,lo,q,wide,rows,signs,by rw [e,ev],h1,h2,h3.M,⟨q0,by rw [h3.ls]; exact q1⟩,by have:=k _ (Same.refl _); rw [eu] at this; exact this⟩) bP aF aZ aS
 have A5:=kS F (wok_C (C:=CC)) ((jG GEC_begin (by decide)).weak fun vs H Q E ⟨x,W,e,o,k⟩ => by
   obtain ⟨m,r,g,many,wide,wd,b,lo,ks,rows,signs,h1,h2,h3,hm,hb,hl,hf,eW⟩:=o
   rw [eW] at k
   exact ⟨x,e,fun T H' s hT => k _ _ s ⟨T,rfl,hT⟩⟩)
  ((jG GEC_step (by decide)).weak fun vs H Q E ⟨x,W,v,u,f,e,o,he,iu,hf,k⟩ => by
   obtain ⟨m,r,g,many,wide,wd,b,lo,ks,rows,signs,h1,h2,h3,hm,hb,hl,hff,eW⟩:=o
   rw [eW] at he iu hf k
   obtain ⟨t,ev,ht⟩:=he
   obtain ⟨⟨lu,_⟩,hu⟩:=iu
   exact ⟨x,t,m,r,g,b,many,wide,lo,f,ks,u,rows,signs,by rw [e,ev],h1,h2.M,h2.R,by omega,ht,by omega,hu,hb,hl,hff f hf,fun T H' s hT => k _ _ s ⟨T,rfl,hT⟩⟩)
  ((jG GEC_sign (by decide)).weak fun vs H Q E ⟨x,W,v,u,e,o,he,iu,k⟩ => by
   obtain ⟨m,r,g,many,wide,wd,b,lo,ks,rows,signs,h1,h2,h3,hm,hb,hl,hff,eW⟩:=o
   rw [eW] at he iu k
   obtain ⟨t,ev,ht⟩:=he
   obtain ⟨⟨lu,_⟩,hu⟩:=iu
   exact ⟨x,t,r,b,lo,ks,u,by rw [e,ev],h1,ht,by omega,fun H' s => by rw [MK h3 hu]; exact k _ s⟩) bP aF aZ aS
 refine (BN A1 (BN A2 (BN A3 (BN A4 A5)))).weak fun vs H Q E ⟨x,wide,most,W,e,o,r⟩ => ?_
 rcases o with o | o | o | o | o
 ·exact .inl ⟨x,wide,most,W,e,o,r⟩
 ·exact .inr (.inl ⟨x,wide,most,W,e,o,r⟩)
 ·exact .inr (.inr (.inl ⟨x,wide,most,W,e,o,r⟩))
 ·exact .inr (.inr (.inr (.inl ⟨x,wide,most,W,e,o,r⟩)))
 ·exact .inr (.inr (.inr (.inr ⟨x,wide,most,W,e,o,r⟩)))
end
section
open PySem.Spec PyProof.Rows
structure Mk0 (K : PySem.W.Frag) (C : Addr) : Prop where
 makes : PySem.W.makesIn K C = true
 init : PySem.W.findIn K (.ref C) "__init__" = some (some (.builtin "object.__init__"))
 kp : PySem.W.keepIn K (.ref C) = true
def N9 (C : Addr) : TE:=fun _ H Q => ∀ x dx,H x = none -> H dx = none -> dx ≠ x -> Q (.ref x) (upd (upd H dx (.own x)) x (.ins C dx []))
theorem Mo {X : Cx} {x : Str} {C : Addr} {p pos : Pos} (hm : X.mg x = some (.ref C)) (M : Mk0 X.K C) (hg : Gl X x:=by rfl) (hdb : (x == ("__debug__" : Str)) = false:=by decide) : PE X (.Call (.Name x p) [] [] pos) (N9 C):=by
 intro pins s σ H Q I h
 refine wpAny_Call_Name_kw (iV I hg hm ?_ hdb)
 refine PySem.W.callWith_K0 I.kIn M.kp (wpAny_call ?_)
 have I2:=Inv.made (C:=C) I
 have hq:=h (s.heap.objs.size + 1) s.heap.objs.size (I.hok.fresh (Nat.le_succ _)) (I.hok.fresh (Nat.le_refl _)) (Nat.ne_of_lt (Nat.lt_succ_self _))
 have KX:=I.kIn
 obtain ⟨hh,g,d,tk,os⟩:=s
 have Y:=PySem.W.makes_of (M:=model X.prog X.w) KX M.makes
 refine Hq KX M.makes M.init (fun self => PySem.W.Looks.of_pure (PySem.W.oi_bind self)) ?_
 have hx : ((hh.push PySem.W.emptyDict).push (PySem.W.instObj C hh.objs.size)).get? (hh.objs.size + 1) = some (PySem.W.instObj C hh.objs.size):=by
  have:=Heap.get?_push_size (o:=PySem.W.instObj C hh.objs.size) (hh.push PySem.W.emptyDict) rfl
  rw [Heap.size_push] at this
  exact this
 have t1 : PySem.W.Looks (model X.prog X.w) ((hh.push PySem.W.emptyDict).push (PySem.W.instObj C hh.objs.size)) (typeOf (.ref (hh.objs.size + 1))) (.ref C):=(PySem.W.Looks.ld hx).andThen .now
 have t2 : PySem.W.Looks (model X.prog X.w) ((hh.push PySem.W.emptyDict).push (PySem.W.instObj C hh.objs.size)) (isInstance (.ref (hh.objs.size + 1)) (.type "object")) true:=t1.andThen (Y.top.keeps fun b o e => Heap.get?_push_of_some _ (Heap.get?_push_of_some _ e))
 refine codeAny_call_builtin PySem.W.oi_plain PySem.W.entry_oi (@PySem.W.check_slot (model X.prog X.w) _ _ _ "object.__init__" "object" "__init__" (.ref (hh.objs.size + 1)) [] [] _ PySem.W.oi_kind PySem.W.oi_split t2 (PySem.W.oi_args (.ref (hh.objs.size + 1))) ?_)
 rw [PySem.W.oi_run]
 exact wpAny_pure (And.intro rfl ⟨.ref _,_,I2,rfl,hq⟩)
end
theorem E7 {te : TE} {t : TA} {σ : St} {H : Hp} {R : List V -> Hp -> Prop} (h : te σ H fun x H1 => t σ H1 fun xs H2 => R (x :: xs) H2) : AU te t σ H R:=h
theorem pI {H H' : Hp} {C x dx : Addr} (hx : H x = none) (hd : H dx = none) (k : ∀ c u,c ≠ x -> (upd (upd H dx (HO.own x)) x (HO.ins C dx [])) c = some u -> H' c = some u) : Same H H' := fun c u e =>
 k c u (aq e hx) (by rw [aj (aq e hx),aj (aq e hd)]; exact e)
theorem Cf {H : Hp} {C x dx : Addr} (hx : H x = none) (hd : H dx = none) : Same H (upd (upd H dx (HO.own x)) x (HO.ins C dx [])):=aM (ao hd _) hx
@[irreducible] def MkP (C : Addr) (sp : Sp) (vs : List V) (Q : VK) (H : Hp) : Prop := ∀ x dx,H x = none -> H dx = none -> dx ≠ x -> sp (.ref x :: (vs ++ [])) (upd (upd H dx (.own x)) x (.ins C dx [])) (fun v H2 => v = .non /\ Q (.ref x) H2) E0
theorem mi {C : Addr} {sp : Sp} {t : TA} {σ : St} {H : Hp} {Q : VK} (h : t σ H fun vs H1 => MkP C sp vs Q H1) : GN C sp [] E0 t σ H Q:=by
 unfold MkP at h
 exact h
theorem xq {C : Addr} {H : Hp} {Q : VK} {m r g : Addr} {many wide : Nat} {rows : LL} {signs : LI} (M : MO H m r g many wide rows signs) (k : ∀ x H',Same H H' -> RdAt H' C x r g -> Q (.ref x) H') : MkP C (xx C) [.ref m] Q H:=by
 unfold MkP
 intro x dx hx hd ne
 refine ⟨x,dx,m,r,g,wide,rows,signs,rfl,ae,(M.same (Cf hx hd)).M,fun H' kp rd => ⟨rfl,k x H' (pI hx hd kp) rd⟩⟩
def WayAt (H : Hp) (way : Int) (one other : Addr) (b at_ : Nat) (W : Wlk) : Prop := ∃ (r1 g1 r2 g2 : Addr) (many1 wide1 many2 wide2 : Nat) (rows1 rows2 : LL) (signs1 signs2 : LI),MO H one r1 g1 many1 wide1 rows1 signs1 /\ MO H other r2 g2 many2 wide2 rows2 signs2 /\ ((2 <= b /\ b <= 9) /\ at_ <= 3 /\ b ^ at_ <= 9) /\ (wide1 <= 400 /\ many1 <= 300) /\ W.wide <= 1000 /\
 ((way = 0 /\ W = wlk0) \/ (way = 1 /\ W = Ln rows1 signs1 many1 wide1) \/ (way = 2 /\ (wide2 = wide1 /\ many1 <= 5 /\ many2 <= 5) /\ W = MP rows1 rows2 signs1 signs2 many1 many2 wide1) \/
  (way = 3 /\ ∃ wd : Nat,(∀ f : Nat,f < wd -> 0 <= aY (f : Int) (b : Int) ((b : Int) ^ at_) /\ aY (f : Int) (b : Int) ((b : Int) ^ at_) < (wide1 : Int)) /\ W = MN rows1 signs1 many1 b ((b : Int) ^ at_) wd) \/
  (way = 4 /\ ∃ wd : Nat,1 <= wd /\ many1 <= 5 /\ (∀ y : Nat,y < wd -> ∀ f ∈ cz (y : Int) b ((b : Int) ^ at_),0 <= f /\ f < (wide1 : Int)) /\ W = MM rows1 signs1 many1 b ((b : Int) ^ at_) wd))
theorem WayAt.same {H H' : Hp} {way : Int} {one other : Addr} {b at_ : Nat} {W : Wlk} (h : WayAt H way one other b at_ W) (s : Same H H') : WayAt H' way one other b at_ W:=by
 obtain ⟨r1,g1,r2,g2,many1,wide1,many2,wide2,rows1,rows2,signs1,signs2,M1,M2,r⟩:=h
 exact ⟨r1,g1,r2,g2,many1,wide1,many2,wide2,rows1,rows2,signs1,signs2,M1.same s,M2.same s,r⟩
def Du (O : WO) : Sp:=fun vs H Q _ => ∃ (way : Int) (one other : Addr) (b at_ : Nat) (W : Wlk),vs = [.int way,.ref one,.ref other,.int b,.int at_] /\ WayAt H way one other b at_ W /\ ∀ (x : Addr) (H' : Hp),Same H H' -> O H' x W -> Q (.ref x) H'
def Dt : Sp:=fun vs H Q _ => ∃ (mk : Addr) (way : Int) (one other : Addr) (b at_ : Nat) (W : Wlk) (v : V) (u : LI) (f : Nat),vs = [.ref mk,v,.int f] /\ H mk = some (.tup [.int way,.ref one,.ref other,.int b,.int at_]) /\ WayAt H way one other b at_ W /\ encP W.κ H v u /\ W.inn u /\ f < W.wide /\ ∀ (v' : V) (H' : Hp),Same H H' -> encP W.κ H' v' (W.st u f) -> Q v' H'
def MR (way : Int) (W : Wlk) (xs : List V) : Prop:=way = 4 -> ∃ al : List Bool,xs = al.map V.bl /\ ∀ u,W.inn u -> (∀ q ∈ u,0 <= q /\ q < (al.length : Int)) /\ fy al u = W.sg u
def Ds : Sp:=fun vs H Q _ => ∃ (way : Int) (one other L : Addr) (b at_ : Nat) (W : Wlk) (v : V) (u : LI) (xs : List V),vs = [.int way,.ref one,.ref other,.ref L,v] /\ WayAt H way one other b at_ W /\ H L = some (.lst xs) /\ MR way W xs /\ encP W.κ H v u /\ W.inn u /\ Q (.int (W.sg u)) H
theorem GV {rows : LL} {signs : LI} {lo : Int} {b many : Nat} {al : List Bool} (h : ∀ q : Int,0 <= q -> q < (many : Int) -> (al.getD q.toNat false = true ↔ LeadsTo rows (dP lo b) (bO signs 1 many) q)) {u : LI} (hu : ∀ q ∈ u,0 <= q /\ q < (many : Int)) : fy al u = J7 rows signs lo b many u:=by
 have e : ∀ u : LI,(∀ q ∈ u,0 <= q /\ q < (many : Int)) -> ((∃ q ∈ u,LeadsTo rows (dP lo b) (bO signs 1 many) q) -> fy al u = 1) /\ ((¬ ∃ q ∈ u,LeadsTo rows (dP lo b) (bO signs 1 many) q) -> fy al u = 0):=by
  intro u
  induction u with
  | nil => exact fun _ => ⟨fun ⟨q,hq,_⟩ => (by cases hq),fun _ => rfl⟩
  | cons p r ih =>
   intro hu
   have ih' := ih fun q hq => hu q (List.mem_cons_of_mem _ hq)
   have hp:=h p (hu p List.mem_cons_self).1 (hu p List.mem_cons_self).2
   cases c : al.getD p.toNat false with
   | true =>
    have e1 : fy al (p :: r) = 1:=if_pos c
    exact ⟨fun _ => e1,fun z => absurd ⟨p,List.mem_cons_self,hp.mp c⟩ z⟩
   | false =>
    rw [vc c]
    have hn : ¬ LeadsTo rows (dP lo b) (bO signs 1 many) p:=fun z => by rw [hp.mpr z] at c; cases c
    refine ⟨fun ⟨q,hq,z⟩ => ih'.1 ?_,fun z => ih'.2 fun ⟨q,hq,y⟩ => z ⟨q,List.mem_cons_of_mem _ hq,y⟩⟩
    rcases List.mem_cons.mp hq with rfl | hq
    ·exact absurd z hn
    ·exact ⟨q,hq,z⟩
 have e' := e u hu
 unfold J7
 by_cases c : ∃ q ∈ u,LeadsTo rows (dP lo b) (bO signs 1 many) q
 ·rw [if_pos c]; exact e'.1 c
 ·rw [if_neg c]; exact e'.2 c
section
variable {P : Program} {w : World} {K : PySem.W.Frag} {mg : Str -> Option Value} {base : Heap} {f : Addr} {fd : FuncData} {dV : Value} {CW CR CP CN CC fn : Addr}
theorem Dc : FnScope ["_law_way","_law_one","_law_other","_law_base","_law_at"] ["_law_way","_law_one","_law_other","_law_base","_law_at"] (af eY):=⟨rfl,rfl,rfl,by decide +kernel,rfl,by decide +kernel,by decide +kernel⟩
theorem sc__law_step : FnScope ["_law_made","_law_place","_law_figure","_law_way","_law_one","_law_other","_law_base","_law_at"] ["_law_made","_law_place","_law_figure"] (af eX):=⟨rfl,rfl,rfl,by decide +kernel,rfl,by decide +kernel,by decide +kernel⟩
theorem sc__law_sign_there : FnScope ["_law_way","_law_one","_law_other","_law_alive_here","_law_place","_law_q"] ["_law_way","_law_one","_law_other","_law_alive_here","_law_place"] (af bI):=⟨rfl,rfl,rfl,by decide +kernel,rfl,by decide +kernel,by decide +kernel⟩
theorem Ji (F : FunD K "_law_walk" "_law_walk" eY dV f fd) (Fi : mg "Walk" = some (.ref CW)) (mkW : Mk0 K CW) (gp : DefMk P w K mg base "Reading" CR 1 ["self","machine"] (xx CR)) (qx : DefMk P w K mg base "Pairing" CP 1 ["self","one","other","rule"] (Dz CP))
  (kY : DefMk P w K mg base "Narrowing" CN 2 ["self","walk","base","at"] (Dy CN)) (mZ : DefMk P w K mg base "Choosing" CC 2 ["self","machine","base","at"] (tP CC)) (eO : mg "_law_rule" = some (.ref fn)) : FnOk P w K mg base CX0 4 f fd ["_law_way","_law_one","_law_other","_law_base","_law_at"] (Du (AnyW CW CR CP CN CC fn)):=by
 refine F.ok Dc (fun vs H Q E h => ?_) (fun cdv A outer s H vs Q E hr h => ?_)
 ·obtain ⟨way,one,other,b,at_,W,rfl,_⟩:=h
  rfl
 obtain ⟨way,one,other,b,at_,W,rfl,⟨r1,g1,r2,g2,many1,wide1,many2,wide2,rows1,rows2,signs1,signs2,M1,M2,⟨⟨b0,b1⟩,a1,p1⟩,⟨w400,m300⟩,w1000,cs⟩,k⟩:=h
 have pw0 : 0 < b ^ at_:=Nat.pow_pos (by omega)
 have pe : (b : Int) ^ at_ = ((b ^ at_ : Nat) : Int):=by push_cast; rfl
 refine ⟨_,(ak (br (aO cK (pv 0) ah (aQ _)) (ai (ax (Mo Fi mkW))) aP)
   (ak (br (aO cK (pv 0) ah (aQ _)) (ai (ax (rD gp hr (aa (pv 1) ag)))) aP)
   (ak (br (aO cK (pv 0) ah (aQ _)) (ai (ax (rD qx hr (aa (rD gp hr (aa (pv 1) ag)) (aa (rD gp hr (aa (pv 2) ag)) (aa (gP (v:=.ref _) rfl eO rfl) ag)))))) aP)
   (ak (br (aO cK (pv 0) ah (aQ _)) (ai (ax (rD kY hr (aa (rD gp hr (aa (pv 1) ag)) (aa (pv 3) (aa (pv 4) ag)))))) aP)
   (ai (ax (rD mZ hr (aa (pv 1) (aa (pv 3) (aa (pv 4) ag)))))))))),?_⟩
 refine ⟨_,rfl,rfl,_,rfl,kE (fun c => ?_) (fun c0 => ?_)⟩
 ·rcases cs with ⟨_,e⟩ | ⟨z,_⟩ | ⟨z,_⟩ | ⟨z,_⟩ | ⟨z,_⟩
  ·exact fun x dx hx hd _ => k x _ (Cf hx hd) (.inl ⟨⟨dx,ae⟩,e⟩)
  all_goals omega
 refine ⟨_,rfl,rfl,_,rfl,kE (fun c => ?_) (fun c1 => ?_)⟩
 ·rcases cs with ⟨z,_⟩ | ⟨_,e⟩ | ⟨z,_⟩ | ⟨z,_⟩ | ⟨z,_⟩
  ·omega
  ·exact mi ⟨_,rfl,xq M1 fun x H' s' rd => k x _ s' (.inr (.inl ⟨one,r1,g1,many1,wide1,rows1,signs1,rd,M1.same s',e⟩))⟩
  all_goals omega
 refine ⟨_,rfl,rfl,_,rfl,kE (fun c => ?_) (fun c2 => ?_)⟩
 ·rcases cs with ⟨z,_⟩ | ⟨z,_⟩ | ⟨_,⟨ew,_⟩,e⟩ | ⟨z,_⟩ | ⟨z,_⟩
  ·omega
  ·omega
  ·subst ew
   refine mi (E7 (mi ⟨_,rfl,xq M1 fun x1 H1 s1 rd1 => ?_⟩))
   refine E7 (mi ⟨_,rfl,xq (M2.same s1) fun x2 H2 s2 rd2 => ?_⟩)
   unfold MkP
   intro x dx hx hd _
   have s12:=s1.trans s2
   refine ⟨x,dx,x1,x2,fn,rfl,ae,fun H' kp hx' => ⟨rfl,?_⟩⟩
   have s3:=pI hx hd kp
   exact k x _ (s12.trans s3) (.inr (.inr (.inl ⟨one,r1,g1,other,r2,g2,many1,many2,wide2,rows1,rows2,signs1,signs2,⟨dx,x1,x2,hx',rd1.same (s2.trans s3),rd2.same s3⟩,M1.same (s12.trans s3),M2.same (s12.trans s3),e⟩)))
  all_goals omega
 refine ⟨_,rfl,rfl,_,rfl,kE (fun c => ?_) (fun c3 => ?_)⟩
 ·rcases cs with ⟨z,_⟩ | ⟨z,_⟩ | ⟨z,_⟩ | ⟨_,wd,hf,e⟩ | ⟨z,_⟩
  ·omega
  ·omega
  ·omega
  ·refine mi (E7 (mi ⟨_,rfl,xq M1 fun x1 H1 s1 rd1 => ?_⟩))
   refine ⟨_,rfl,_,rfl,?_⟩
   unfold MkP
   intro x dx hx hd _
   refine ⟨x,dx,x1,(b : Int),at_,rfl,ae,⟨by omega,by omega⟩,by omega,fun H' kp nw => ⟨rfl,?_⟩⟩
   have s3:=pI hx hd kp
   exact k x _ (s1.trans s3) (.inr (.inr (.inr (.inl ⟨x1,one,r1,g1,many1,wide1,wd,(b : Int),(b : Int) ^ at_,rows1,signs1,nw,rd1.same s3,M1.same (s1.trans s3),⟨by omega,by omega⟩,⟨by omega,by omega⟩,hf,e⟩))))
  ·omega
 ·rcases cs with ⟨z,_⟩ | ⟨z,_⟩ | ⟨z,_⟩ | ⟨z,_⟩ | ⟨_,wd,wd1,m20,hf,e⟩
  ·exact absurd z c0
  ·exact absurd z c1
  ·exact absurd z c2
  ·exact absurd z c3
  ·have hb : ∀ i : Nat,i < b -> (b : Int) ^ at_ * (i : Int) < (wide1 : Int):=fun i hi => by
    have:=hf 0 wd1 ((b : Int) ^ at_ * (i : Int)) (by
     rw [show ((0 : Nat) : Int) = 0 from rfl,<- Ar]
     exact mq_ (Gi hi))
    exact this.2
   have w1 : 1 <= wide1:=by
    have:=hb 0 (by omega)
    rw [show ((0 : Nat) : Int) = 0 from rfl,Int.mul_zero] at this
    omega
   show GN CC (tP CC) [] E0 (AU (J0 1) (AU (J0 3) (AU (J0 4) JZ))) _ H Q
   refine mi ⟨_,rfl,_,rfl,_,rfl,?_⟩
   unfold MkP
   intro x dx hx hd _
   refine ⟨x,dx,one,r1,g1,b,at_,many1,wide1,rows1,signs1,rfl,ae,(M1.same (Cf hx hd)).M,M1.R,M1.ls,⟨M1.po,by omega⟩,⟨w1,w400⟩,⟨by omega,by omega⟩,by omega,⟨by omega,by omega⟩,hb,fun H' ks kp ch wi => ⟨rfl,?_⟩⟩
   have s3:=pI hx hd kp
   exact k x _ s3 (.inr (.inr (.inr (.inr ⟨one,r1,g1,many1,wide1,wd,b,(b : Int) ^ at_,ks,rows1,signs1,ch,M1.same s3,wi,by omega,⟨by omega,by omega⟩,⟨by omega,by omega⟩,hf,e⟩))))
theorem Jh (F : FunD K "_law_step" "_law_step" eX dV f fd) (iY : DefOk P w K mg base "_law_without" 2 ["_law_figure","_law_base","_law_at"] [] rT) (k9 : DefOk P w K mg base "_law_rooms" 2 ["_law_one","_law_base","_law_at","_law_place","_law_figure"] [] yY) : FnOk P w K mg base CX0 3 f fd ["_law_made","_law_place","_law_figure"] Dt:=by
 refine F.ok sc__law_step (fun vs H Q E h => ?_) (fun cdv A outer s H vs Q E hr h => ?_)
 ·obtain ⟨mk,way,one,other,b,at_,W,v,u,fg,rfl,_⟩:=h
  rfl
 obtain ⟨mk,way,one,other,b,at_,W,v,u,fg,rfl,hmk,⟨r1,g1,r2,g2,many1,wide1,many2,wide2,rows1,rows2,signs1,signs2,M1,M2,⟨⟨b0,b1⟩,a1,p1⟩,⟨w400,m300⟩,w1000,cs⟩,he,iu,hf,k⟩:=h
 have pw0 : 0 < b ^ at_:=Nat.pow_pos (by omega)
 have pe : (b : Int) ^ at_ = ((b ^ at_ : Nat) : Int):=by push_cast; rfl
 obtain ⟨t1,⟨ras,hr1,hA1⟩,gg1⟩:=M1.M
 refine ⟨_,(ak (FI (pv 0) (CJ rfl (dh (aL (i:=3) sc__law_step.nd rfl (Or.inl rfl)) (dh (aL (i:=4) sc__law_step.nd rfl (Or.inl rfl)) (dh (aL (i:=5) sc__law_step.nd rfl (Or.inl rfl)) (dh (aL (i:=6) sc__law_step.nd rfl (Or.inl rfl)) (dh (aL (i:=7) sc__law_step.nd rfl (Or.inl rfl)) xr)))))))
   (ak (br (aO cK (pv 3) ah (aQ _)) (ai (ax uE)) aP)
   (ak (br (aO cK (pv 3) ah (aQ _)) (ai (ax (aH az (aH az (aH az (pv 4) ah (fun _ _ => rfl)) (pv 1) (fun _ _ => rfl)) (pv 2) (fun _ _ => rfl)))) aP)
   (ak (br (aO cK (pv 3) ah (aQ _)) (ai (ax (cw (aa (aH az (aH az (aH az (pv 4) ah (fun _ _ => rfl)) (aH az (pv 1) ah (fun _ _ => rfl)) (fun _ _ => rfl)) (pv 2) (fun _ _ => rfl)) (aa (aH az (aH az (aH az (pv 5) ah (fun _ _ => rfl)) (aH az (pv 1) ah (fun _ _ => rfl)) (fun _ _ => rfl)) (pv 2) (fun _ _ => rfl)) ag))))) aP)
   (ak (br (aO cK (pv 3) ah (aQ _)) (ai (ax (aH az (aH az (aH az (pv 4) ah (fun _ _ => rfl)) (pv 1) (fun _ _ => rfl)) (aV iY hr (aa (pv 2) (aa (pv 6) (aa (pv 7) ag)))) (fun _ _ => rfl)))) aP)
   (ai (ax (aV k9 hr (aa (pv 4) (aa (pv 6) (aa (pv 7) (aa (pv 1) (aa (pv 2) ag))))))))))))),?_⟩
 refine ⟨_,rfl,mk,_,rfl,qT_ hmk,rfl,_,_,rfl,_,_,rfl,_,_,rfl,_,_,rfl,_,_,rfl,rfl,?_⟩
 try dsimp only [a7,cy,List.set]
 refine ⟨_,rfl,rfl,_,rfl,kE (fun c => ?_) (fun c0 => ?_)⟩
 ·rcases cs with ⟨_,e⟩ | ⟨z,_⟩ | ⟨z,_⟩ | ⟨z,_⟩ | ⟨z,_⟩
  ·exact k _ _ (Same.refl _) (by rw [e]; exact ⟨rfl,rfl⟩)
  all_goals omega
 refine ⟨_,rfl,rfl,_,rfl,kE (fun c => ?_) (fun c1 => ?_)⟩
 ·rcases cs with ⟨z,_⟩ | ⟨_,e⟩ | ⟨z,_⟩ | ⟨z,_⟩ | ⟨z,_⟩
  ·omega
  ·rw [e] at he iu hf k
   obtain ⟨q,eu,ev⟩:=he
   obtain ⟨q',eu',q0,q1⟩:=iu
   rw [eu] at eu'
   cases eu'
   subst ev
   have hf' : fg < wide1:=hf
   obtain ⟨ra,rr,e1,e2,e3⟩:=hJ (f:=(fg : Int)) hA1 M1.R q0 q1 (by omega) (by omega)
   exact ⟨_,rfl,one,_,_,_,rfl,rfl,qT_ t1,rfl,_,rfl,r1,_,_,_,rfl,rfl,qT_ hr1,e1,_,rfl,ra,_,_,_,rfl,rfl,qT_ e2,e3,k _ _ (Same.refl _) ⟨_,by rw [eu]; rfl,rfl⟩⟩
  all_goals omega
 refine ⟨_,rfl,rfl,_,rfl,kE (fun c => ?_) (fun c2 => ?_)⟩
 ·rcases cs with ⟨z,_⟩ | ⟨z,_⟩ | ⟨_,⟨ew,_⟩,e⟩ | ⟨z,_⟩ | ⟨z,_⟩
  ·omega
  ·omega
  ·subst ew
   rw [e] at he iu hf k
   obtain ⟨t,ev,ht⟩:=he
   obtain ⟨p,q,eu,⟨p0,p1'⟩,q0,q1⟩:=iu
   rw [eu] at ht
   subst ev
   have hf' : fg < wide2:=hf
   obtain ⟨t2,⟨ras2,hr2,hA2⟩,gg2⟩:=M2.M
   obtain ⟨ra,rr,e1,e2,e3⟩:=hJ (f:=(fg : Int)) hA1 M1.R p0 p1' (by omega) (by omega)
   obtain ⟨ra',rr',x1,x2,x3⟩:=hJ (f:=(fg : Int)) hA2 M2.R q0 q1 (by omega) (by omega)
   refine ⟨_,rfl,one,_,_,_,rfl,rfl,qT_ t1,rfl,_,rfl,t,_,_,_,rfl,rfl,qT_ ht,rfl,r1,_,_,_,rfl,rfl,qT_ hr1,e1,_,rfl,ra,_,_,_,rfl,rfl,qT_ e2,e3,?_⟩
   refine ⟨_,rfl,other,_,_,_,rfl,rfl,qT_ t2,rfl,_,rfl,t,_,_,_,rfl,rfl,qT_ ht,rfl,r2,_,_,_,rfl,rfl,qT_ hr2,x1,_,rfl,ra',_,_,_,rfl,rfl,qT_ x2,x3,?_⟩
   exact ⟨(by show 2 <= sizeLine; decide),fun T hT => k _ _ (ao hT _) ⟨T,rfl,by rw [ae,eu]; rfl⟩⟩
  all_goals omega
 refine ⟨_,rfl,rfl,_,rfl,kE (fun c => ?_) (fun c3 => ?_)⟩
 ·rcases cs with ⟨z,_⟩ | ⟨z,_⟩ | ⟨z,_⟩ | ⟨_,wd,hff,e⟩ | ⟨z,_⟩
  ·omega
  ·omega
  ·omega
  ·rw [e] at he iu hf k w1000
   obtain ⟨q,eu,ev⟩:=he
   obtain ⟨q',eu',q0,q1⟩:=iu
   rw [eu] at eu'
   cases eu'
   subst ev
   have wi:=hff fg hf
   have hf' : fg < wd:=hf
   have w1000' : wd <= 1000:=w1000
   obtain ⟨ra,rr,e1,e2,e3⟩:=hJ hA1 M1.R q0 q1 wi.1 wi.2
   exact ⟨_,rfl,one,_,_,_,rfl,rfl,qT_ t1,rfl,_,rfl,r1,_,_,_,rfl,rfl,qT_ hr1,e1,_,rfl,_,rfl,_,rfl,fg,b,at_,rfl,⟨by omega,by omega⟩,by omega,by omega,by omega,ra,_,_,_,rfl,rfl,qT_ e2,e3,k _ _ (Same.refl _) ⟨_,by rw [eu]; rfl,rfl⟩⟩
  ·omega
 ·rcases cs with ⟨z,_⟩ | ⟨z,_⟩ | ⟨z,_⟩ | ⟨z,_⟩ | ⟨_,wd,wd1,m20,hff,e⟩
  ·exact absurd z c0
  ·exact absurd z c1
  ·exact absurd z c2
  ·exact absurd z c3
  ·rw [e] at he iu hf k w1000
   obtain ⟨t,ev,ht⟩:=he
   obtain ⟨⟨lu,so⟩,hu'⟩:=iu
   subst ev
   have hf' : fg < wd:=hf
   have w1000' : wd <= 1000:=w1000
   exact ⟨_,rfl,_,rfl,_,rfl,_,rfl,_,rfl,one,r1,g1,t,many1,wide1,b,at_,fg,u,rows1,signs1,rfl,M1.M,M1.R,by omega,⟨by omega,by omega⟩,by omega,⟨by omega,by omega⟩,by omega,ht,hu',hff fg hf',fun T H' s' hT => k _ _ s' ⟨T,rfl,hT⟩⟩
theorem Jg (F : FunD K "_law_sign_there" "_law_sign_there" bI dV f fd) (eM : DefOk P w K mg base "_law_rule" 1 ["_law_here","_law_there"] [] DD) : FnOk P w K mg base CX0 2 f fd ["_law_way","_law_one","_law_other","_law_alive_here","_law_place"] Ds:=by
 refine F.ok sc__law_sign_there (fun vs H Q E h => ?_) (fun cdv A outer s H vs Q E hr h => ?_)
 ·obtain ⟨way,one,other,L,b,at_,W,v,u,xs,rfl,_⟩:=h
  rfl
 obtain ⟨way,one,other,L,b,at_,W,v,u,xs,rfl,⟨r1,g1,r2,g2,many1,wide1,many2,wide2,rows1,rows2,signs1,signs2,M1,M2,⟨⟨b0,b1⟩,a1,p1⟩,⟨w400,m300⟩,w1000,cs⟩,hL,al0,he,iu,k⟩:=h
 obtain ⟨t1,_,gg1⟩:=M1.M
 refine ⟨_,(ak (br (aO cK (pv 0) ah (aQ _)) (ai (ax ah)) aP)
   (ak (br (PW.pt (qv (aO cK (pv 0) ah (aQ _)) (uK (aO cK (pv 0) ah (aQ _))))) (ai (ax (aH az (aH az (pv 1) ah (fun _ _ => rfl)) (pv 4) (fun _ _ => rfl)))) aP)
   (ak (br (aO cK (pv 0) ah (aQ _)) (ai (ax (aV eM hr (aa (aH az (aH az (pv 1) ah (fun _ _ => rfl)) (aH az (pv 4) ah (fun _ _ => rfl)) (fun _ _ => rfl)) (aa (aH az (aH az (pv 2) ah (fun _ _ => rfl)) (aH az (pv 4) ah (fun _ _ => rfl)) (fun _ _ => rfl)) ag))))) aP)
   (ak (cD PassesOwn.never rfl (pd (pv 4)) (aL (i:=5) sc__law_sign_there.nd rfl (Or.inl rfl)) (ai (br (gj (aH iO (pv 3) (pv 5) (fun _ _ => rfl))) (ai (ax ah)) aP)))
   (ai (ax ah)))))),?_⟩
 refine ⟨_,rfl,rfl,_,rfl,kE (fun c => ?_) (fun c0 => ?_)⟩
 ·rcases cs with ⟨_,e⟩ | ⟨z,_⟩ | ⟨z,_⟩ | ⟨z,_⟩ | ⟨z,_⟩
  ·rw [e] at k
   exact k
  all_goals omega
 have rd1 : (way = 1 \/ way = 3) -> ∃ q : Int,v = .int q /\ (0 <= q /\ q < (signs1.length : Int)) /\ signs1.getD q.toNat 0 = W.sg u:=fun c => by
  rw [M1.ls]
  rcases cs with ⟨z,_⟩ | ⟨z,e⟩ | ⟨z,_⟩ | ⟨z,wd,hff,e⟩ | ⟨z,_⟩
  ·omega
  ·rw [e] at he iu ⊢
   obtain ⟨q,eu,ev⟩:=he
   obtain ⟨q',eu',q0,q1⟩:=iu
   rw [eu] at eu'
   cases eu'
   exact ⟨q,ev,⟨q0,q1⟩,by rw [eu]; rfl⟩
  ·omega
  ·rw [e] at he iu ⊢
   obtain ⟨q,eu,ev⟩:=he
   obtain ⟨q',eu',q0,q1⟩:=iu
   rw [eu] at eu'
   cases eu'
   exact ⟨q,ev,⟨q0,q1⟩,by rw [eu]; rfl⟩
  ·omega
 refine ⟨_,rfl,rfl,_,rfl,kE (fun c => lY ?_) (fun c1 => ⟨_,rfl,rfl,_,rfl,kE (fun c => ?_) (fun c3 => ?_)⟩)⟩
 ·obtain ⟨q,rfl,hq,es⟩:=rd1 (.inl c)
  rw [<- es] at k
  exact ⟨_,rfl,one,_,_,_,rfl,rfl,qT_ t1,rfl,_,rfl,g1,_,_,_,rfl,rfl,qT_ gg1,c7 hq.1 hq.2,k⟩
 ·obtain ⟨q,rfl,hq,es⟩:=rd1 (.inr c)
  rw [<- es] at k
  exact ⟨_,rfl,one,_,_,_,rfl,rfl,qT_ t1,rfl,_,rfl,g1,_,_,_,rfl,rfl,qT_ gg1,c7 hq.1 hq.2,k⟩
 refine ⟨_,rfl,rfl,_,rfl,kE (fun c => ?_) (fun c2 => ?_)⟩
 ·rcases cs with ⟨z,_⟩ | ⟨z,_⟩ | ⟨_,⟨ew,_⟩,e⟩ | ⟨z,_⟩ | ⟨z,_⟩
  ·omega
  ·omega
  ·subst ew
   rw [e] at he iu k
   obtain ⟨t,ev,ht⟩:=he
   obtain ⟨p,q,eu,p0,q0⟩:=iu
   rw [eu] at ht k
   subst ev
   obtain ⟨t2,_,gg2⟩:=M2.M
   refine ⟨_,rfl,one,_,_,_,rfl,rfl,qT_ t1,rfl,_,rfl,t,_,_,_,rfl,rfl,qT_ ht,rfl,g1,_,_,_,rfl,rfl,qT_ gg1,c7 p0.1 (by rw [M1.ls]; exact p0.2),?_⟩
   refine ⟨_,rfl,other,_,_,_,rfl,rfl,qT_ t2,rfl,_,rfl,t,_,_,_,rfl,rfl,qT_ ht,rfl,g2,_,_,_,rfl,rfl,qT_ gg2,c7 q0.1 (by rw [M2.ls]; exact q0.2),?_⟩
   exact ⟨_,_,rfl,k⟩
  all_goals omega
 ·rcases cs with ⟨z,_⟩ | ⟨z,_⟩ | ⟨z,_⟩ | ⟨z,_⟩ | ⟨c4,wd,wd1,m20,hff,e⟩
  ·exact absurd z c0
  ·exact absurd z c1
  ·exact absurd z c2
  ·exact absurd z c3
  ·rw [e] at he iu k
   obtain ⟨t,ev,ht⟩:=he
   obtain ⟨⟨lu,so⟩,hu'⟩:=iu
   subst ev
   obtain ⟨al,ea,hal⟩:=al0 c4
   rw [ea] at hL
   rw [e] at hal
   obtain ⟨hin,ew⟩:=hal u ⟨⟨lu,so⟩,hu'⟩
   have k' : Q (.int (fy al u)) H:=by rw [ew]; exact k
   refine ⟨_,rfl,t,rfl,⟨_,qT_ ht⟩,pH (K:=K) (xs:=u.map V.int) (fun i σ' H' => ∃ v,σ' = [some (.int way),some (.ref one),some (.ref other),some (.ref L),some (.ref t),v] /\ H' = H /\ fy al u = fy al (u.drop i)) ⟨none,rfl,rfl,by rw [List.drop_zero]⟩ (fun i σ' H' _ ⟨_,_,e,_⟩ => by rw [e]; exact qT_ ht) ?_ ?_⟩
   ·rintro i y σ' H' hi ⟨v,rfl,rfl,e⟩
    obtain ⟨z,rfl,hz⟩:=fS hi
    have hz' := hin z (mq_ hz)
    have li:=(gi_ hz).1
    have ed : u.drop i = z :: u.drop (i + 1):=by rw [List.drop_eq_getElem_cons li,(gi_ hz).2]
    refine ⟨_,rfl,_,rfl,L,_,_,_,rfl,rfl,qL_ hL,Gf hz'.1 hz'.2,_,rfl,?_⟩
    cases c : al.getD z.toNat false with
    | true =>
     refine lY ?_
     have e1 : fy al u = 1:=by rw [e,ed]; exact if_pos c
     rw [e1] at k'
     exact k'
    | false =>
     exact kD ⟨_,rfl,rfl,by rw [e,ed,vc c]⟩
   ·rintro σ' H' ⟨v,rfl,rfl,e⟩
    rw [lm_,List.drop_length] at e
    have e1 : fy al u = 0:=e
    rw [e1] at k'
    exact k'
end
section
variable {α : Type} [DecidableEq α] {st : α -> Nat -> α} {b : α} {wide i j : Nat} {ps : List α} {rows : LL}
theorem GrA.at_ (G : GrA st b wide ps rows) (el : rows.length = ps.length) (hi : i < ps.length) : (cj st b wide i)[i]? = some ps[i]:=by
 have lt : i < (cj st b wide i).length:=by
  rcases Nat.lt_or_ge i (cj st b wide i).length with z | z
  ·exact z
  ·exfalso
   have e:=tS z (rows.length - i)
   rw [show i + (rows.length - i) = rows.length by omega,<- G.pl] at e
   have:=congrArg List.length e
   omega
 have p : cj st b wide i <+: ps:=by
  have:=pD (st:=st) (b:=b) (wide:=wide) (show i <= rows.length by omega)
  rw [<- G.pl] at this
  exact this
 have q:=yK p (List.getElem?_eq_getElem lt)
 rw [List.getElem?_eq_getElem hi] at q
 rw [List.getElem?_eq_getElem lt]
 exact q.symm
theorem GrA.pre (G : GrA st b wide ps rows) (el : rows.length = ps.length) (hi : i < ps.length) (hj : j <= wide) : rM st ps[i] (cj st b wide i) j <+: ps:=by
 have p : cj st b wide (i + 1) <+: ps:=by
  have:=pD (st:=st) (b:=b) (wide:=wide) (show i + 1 <= rows.length by omega)
  rw [<- G.pl] at this
  exact this
 rw [gx (G.at_ el hi)] at p
 exact (uL hj).trans p
end
structure WdI (P : Program) (w : World) (H0 : Hp) (W : Wlk) (e : Nat) (L Lp Mk D : Addr) (xsL mkv : List V) (pl : LL) (H' : Hp) : Prop where
 s : Same H0 H'
 d : H' D = some (dctP P w W.κ e D pl)
 po : PsOk W.κ pl
 l : ∃ lv,H' Lp = some (.lst lv) /\ EncL W.κ H' lv pl
 a : H' L = some (.lst xsL)
 md : H' Mk = some (.tup mkv)
section
variable {P : Program} {w : World} {H0 H1 H2 : Hp} {W : Wlk} {e : Nat} {L Lp Mk D : Addr} {xsL mkv lv : List V} {pl : LL} {v : V} {u : LI}
theorem WdI.same (h : WdI P w H0 W e L Lp Mk D xsL mkv pl H1) (s : Same H1 H2) : WdI P w H0 W e L Lp Mk D xsL mkv pl H2:=by
 obtain ⟨lv,h1,h2⟩:=h.l
 exact ⟨h.s.trans s,s _ _ h.d,h.po,⟨lv,s _ _ h1,h2.same fun b xs e => s _ _ e⟩,s _ _ h.a,s _ _ h.md⟩
theorem WdI.add (h : WdI P w H0 W e L Lp Mk D xsL mkv pl H1) (fL : H0 Lp = none) (fD : H0 D = none) (nL : L ≠ Lp) (hl : H1 Lp = some (.lst lv)) (hv : encP W.κ H1 v u) (hn : u ∉ pl) :
  WdI P w H0 W e L Lp Mk D xsL mkv (pl ++ [u]) (upd (upd H1 D (dctP P w W.κ e D (pl ++ [u]))) Lp (.lst (lv ++ [v]))):=by
 obtain ⟨lv',h1,h2⟩:=h.l
 rw [hl] at h1
 cases h1
 have nDL : D ≠ Lp:=cb h.d hl dctP.ne_lst
 have up : ∀ b xs,H1 b = some (.tup xs) -> (upd (upd H1 D (dctP P w W.κ e D (pl ++ [u]))) Lp (.lst (lv ++ [v]))) b = some (.tup xs):=fun b xs q => by
  rw [aj (cb q hl (by intro z; cases z)),aj (cb q h.d (fun z => dctP.ne_tup z.symm))]
  exact q
 refine ⟨aM (aM h.s fD) fL,by rw [aj nDL,ae],(h.po.snoc hv hn).1,⟨_,ae,EncL.snoc (h2.same up) (hv.same up)⟩,?_,up _ _ h.md⟩
 rw [aj nL,aj (cb h.a h.d (fun z => dctP.ne_lst z.symm))]
 exact h.a
end
def uV : Sp:=fun vs H Q _ => ∃ (m r g : Addr) (way : Int) (one other : Addr) (b at_ wide : Nat) (W : Wlk) (rows ps : LL),vs = [.ref m,.int way,.ref one,.ref other,.int b,.int at_] /\ WayAt H way one other b at_ W /\ W.Ok /\ MachAt H m r g wide rows (ps.map W.sg) /\ GrA W.st W.b wide ps rows /\ rows.length = ps.length /\ ps.length <= 1000 /\ wide <= W.wide /\ wide <= 1000 /\ (∀ u ∈ ps,W.inn u) /\ ∀ H',Same H H' -> Q (.bl true) H'
section
variable {P : Program} {w : World} {K : PySem.W.Frag} {mg : Str -> Option Value} {base : Heap} {f : Addr} {fd : FuncData} {dV : Value}
theorem sc__law_walked : FnScope ["_law_found","_law_way","_law_one","_law_other","_law_base","_law_at","_law_alive_here","_law_places","_law_made","_law_numbers","_law_q","_law_figure","_law_there"] ["_law_found","_law_way","_law_one","_law_other","_law_base","_law_at"] (af cU):=⟨rfl,rfl,rfl,by decide +kernel,rfl,by decide +kernel,by decide +kernel⟩
theorem FC (F : FunD K "_law_walked" "_law_walked" cU dV f fd) (kZ : DefOk P w K mg base "_law_alive" 2 ["_law_one","_law_base","_law_at"] [] yR) (ni : DefOk P w K mg base "_law_step" 3 ["_law_made","_law_place","_law_figure"] [] Dt) (fq : DefOk P w K mg base "_law_sign_there" 2 ["_law_way","_law_one","_law_other","_law_alive_here","_law_place"] [] Ds)
  (aF : mg "range" = none) (aZ : mg "len" = none) : FnOk P w K mg base CX0 4 f fd ["_law_found","_law_way","_law_one","_law_other","_law_base","_law_at"] uV:=by
 refine F.ok sc__law_walked (fun vs H Q E h => ?_) (fun cdv A outer s H vs Q E hr h => ?_)
 ·obtain ⟨m,r,g,way,one,other,b,at_,wide,W,rows,ps,rfl,_⟩:=h
  rfl
 obtain ⟨m,r,g,way,one,other,b,at_,wide,W,rows,ps,rfl,wa,wok,M,G,el,p1,ww,w1,inn,k⟩:=h
 have hu:=Eg hr
 refine xJ (aU (PSW.mk (aC (i:=6) sc__law_walked.nd rfl (Or.inl rfl) (mv ag)))
   (aU (PSW.mk (br (aO cK (pv 1) ah (aQ _)) (ai (aC (i:=6) sc__law_walked.nd rfl (Or.inl rfl) (aV kZ hr (aa (pv 2) (aa (pv 4) (aa (pv 5) ag)))))) aP))
   (aU (Ly (i:=7) sc__law_walked.nd rfl (Or.inl rfl) (J5 (bA (NC iO (J5 (bA (PEW.mk uE) (bA (PEW.mk ah) (bA (PEW.mk (cw (aa ah (aa ah ag)))) (bA (PEW.mk ah) (bA (PEW.mk (cw (aa ah ag))) ze)))))) (PEW.mk (pv 1)) (fun _ _ => rfl)) ze)))
   (aU (Ly (i:=8) sc__law_walked.nd rfl (Or.inl rfl) (Lz (bA (PEW.mk (pv 1)) (bA (PEW.mk (pv 2)) (bA (PEW.mk (pv 3)) (bA (PEW.mk (pv 4)) (bA (PEW.mk (pv 5)) ze)))))))
   (aU (PSW.mk (aC (i:=9) sc__law_walked.nd rfl (Or.inl rfl) (EK hu (ER (aH iO (pv 7) ah (fun _ _ => rfl)) ah GG))))
   (aU (PSW.mk (cD PassesOwn.never rfl (ba rfl aF (aa (aK aN (by rfl) aZ cA (aa (aH az (pv 0) ah (fun _ _ => rfl)) ag)) ag)) (aL (i:=10) sc__law_walked.nd rfl (Or.inl rfl)) (ak (br (aO Jw (pv 10) (aK aN (by rfl) aZ cA (aa (pv 7) ag)) (aQ _)) (ai (ax g9)) aP)
   (ak (br (aO AO (aH az (aH az (pv 0) ah (fun _ _ => rfl)) (pv 10) (fun _ _ => rfl)) (aV fq hr (aa (pv 1) (aa (pv 2) (aa (pv 3) (aa (pv 6) (aa (aH iO (pv 7) (pv 10) (fun _ _ => rfl)) ag)))))) (aQ _)) (ai (ax g9)) aP)
   (ai (cD PassesOwn.never rfl (ba rfl aF (aa (aH az (pv 0) ah (fun _ _ => rfl)) ag)) (aL (i:=11) sc__law_walked.nd rfl (Or.inl rfl)) (ak (aC (i:=12) sc__law_walked.nd rfl (Or.inl rfl) (aV ni hr (aa (pv 8) (aa (aH iO (pv 7) (pv 10) (fun _ _ => rfl)) (aa (pv 11) ag)))))
   (ak (br (FJ (KJ hu (pv 12) (pv 9)) (by with_unfolding_all rfl)) (ak (xt hu (pv 9) (pv 12) (aK aN (by rfl) aZ cA (aa (pv 7) ag)) rfl)
   (ai (iX (vo PySem.F.plainAttrs_list PySem.F.slot_list_append PySem.F.type_list_append dA (pv 7) (aa (pv 12) ag))))) aP)
   (ai (br (aO AO (aH az (aH az (aH az (pv 0) ah (fun _ _ => rfl)) (pv 10) (fun _ _ => rfl)) (pv 11) (fun _ _ => rfl)) (KW hu (pv 9) (pv 12) (fun _ _ => rfl)) (aQ _)) (ai (ax g9)) aP))))))))))
   (u9 (PSW.mk (ax (mn cK (aK aN (by rfl) aZ cA (aa (pv 7) ag)) (aK aN (by rfl) aZ cA (aa (aH az (pv 0) ah (fun _ _ => rfl)) ag)) (aQ _))))))))))) ?_
 refine ⟨(by show 0 <= sizeLine; decide),fun L0 hL0 => ?_⟩
 have sL0:=ao hL0 (HO.lst [])
 try dsimp only [a7,cy,List.set]
 refine gn (fun σ' H' => ∃ (L : Addr) (xsL : List V),σ' = [some (.ref m),some (.int way),some (.ref one),some (.ref other),some (.int b),some (.int at_),some (.ref L),none,none,none,none,none,none] /\ Same H H' /\ H' L = some (.lst xsL) /\ MR way W xsL) ?_ (fun D' nxt => ?_)
 rotate_left
 ·refine ⟨_,rfl,rfl,_,rfl,kE (fun c => ?_) (fun c => ?_)⟩
  ·obtain ⟨r1,g1,r2,g2,many1,wide1,many2,wide2,rows1,rows2,signs1,signs2,M1,M2,⟨⟨b0,b1⟩,a1,pw1⟩,⟨w400,m300⟩,w1000,cs⟩:=wa.same sL0
   have pw0 : 0 < b ^ at_:=Nat.pow_pos (by omega)
   have pe : (b : Int) ^ at_ = ((b ^ at_ : Nat) : Int):=by push_cast; rfl
   rcases cs with ⟨z,_⟩ | ⟨z,_⟩ | ⟨z,_⟩ | ⟨z,_⟩ | ⟨_,wd,wd1,m20,hff,e⟩
   ·omega
   ·omega
   ·omega
   ·omega
   refine ⟨_,rfl,_,rfl,_,rfl,one,r1,g1,many1,wide1,b,at_,rows1,signs1,rfl,M1.M,M1.R,M1.ls,by omega,⟨by omega,by omega⟩,by omega,⟨by omega,by omega⟩,fun f hf => ?_,fun L H' al s' hL la hal => ?_⟩
   ·have:=hff 0 wd1 f (by rw [show ((0 : Nat) : Int) = 0 from rfl,<- Ar]; exact hf)
    exact this
   ·refine nxt _ _ ⟨L,_,rfl,sL0.trans s',hL,fun _ => ⟨al,rfl,fun u iu => ?_⟩⟩
    rw [e] at iu ⊢
    obtain ⟨⟨lu,so⟩,hu'⟩:=iu
    exact ⟨fun q hq => by rw [la]; exact hu' q hq,GV hal hu'⟩
  ·exact nxt _ _ ⟨L0,[],rfl,sL0,ae,fun z => absurd z c⟩
 rintro σ' H1 ⟨L,xsL,rfl,s1,hL1,hAl⟩
 refine ⟨(by show 2 <= sizeLine; decide),fun t1 ht1 => ?_⟩
 have u1:=ao ht1 (HO.tup [V.int 0,V.int 0])
 refine ⟨(by show 1 <= sizeLine; decide),fun t2 ht2 => ?_⟩
 have u2:=ao ht2 (HO.tup [V.int 0])
 refine ⟨(by show 5 <= sizeLine; decide),fun l5 hl5 => ?_⟩
 have u3:=ao hl5 (HO.lst [V.non,V.int 0,V.ref t1,V.int 0,V.ref t2])
 obtain ⟨H2,eH2⟩ : ∃ H2,upd (upd (upd H1 t1 (HO.tup [V.int 0,V.int 0])) t2 (HO.tup [V.int 0])) l5 (HO.lst [V.non,V.int 0,V.ref t1,V.int 0,V.ref t2]) = H2:=⟨_,rfl⟩
 have u13:=u1.trans (u2.trans u3)
 have h2t1 : H2 t1 = some (.tup [V.int 0,V.int 0]):=by rw [<- eH2]; exact (u2.trans u3) _ _ ae
 have h2t2 : H2 t2 = some (.tup [V.int 0]):=by rw [<- eH2]; exact u3 _ _ ae
 have h2l5 : H2 l5 = some (.lst [V.non,V.int 0,V.ref t1,V.int 0,V.ref t2]):=by rw [<- eH2,ae]
 rw [eH2] at u13 ⊢
 obtain ⟨v0,ev0,he0⟩ : ∃ v0,atI [V.non,V.int 0,V.ref t1,V.int 0,V.ref t2] way = some v0 /\ encP W.κ H2 v0 W.b:=by
  obtain ⟨r1,g1,r2,g2,many1,wide1,many2,wide2,rows1,rows2,signs1,signs2,M1,M2,_,⟨w400,m300⟩,w1000,cs⟩:=wa
  rcases cs with ⟨z,e⟩ | ⟨z,e⟩ | ⟨z,_,e⟩ | ⟨z,wd,_,e⟩ | ⟨z,wd,_,_,_,e⟩
  ·exact ⟨_,by rw [z]; rfl,by rw [e]; exact ⟨rfl,rfl⟩⟩
  ·exact ⟨_,by rw [z]; rfl,by rw [e]; exact ⟨0,rfl,rfl⟩⟩
  ·exact ⟨_,by rw [z]; rfl,by rw [e]; exact ⟨t1,rfl,h2t1⟩⟩
  ·exact ⟨_,by rw [z]; rfl,by rw [e]; exact ⟨0,rfl,rfl⟩⟩
  ·exact ⟨_,by rw [z]; rfl,by rw [e]; exact ⟨t2,rfl,h2t2⟩⟩
 refine ⟨_,rfl,l5,_,_,_,rfl,rfl,qL_ h2l5,ev0,(by show 1 <= sizeLine; decide),fun Lp hLp => ?_⟩
 have u4:=ao hLp (HO.lst [v0])
 have nLp : L ≠ Lp:=aq (u13 _ _ hL1) hLp
 try dsimp only [a7,cy,List.set]
 refine ⟨_,rfl,_,rfl,_,rfl,_,rfl,_,rfl,(by show 5 <= sizeLine; decide),fun Mk hMk => ?_⟩
 have u5:=ao hMk (HO.tup [V.int way,V.ref one,V.ref other,V.int b,V.int at_])
 obtain ⟨H3,eH3⟩ : ∃ H3,upd (upd H2 Lp (HO.lst [v0])) Mk (HO.tup [V.int way,V.ref one,V.ref other,V.int b,V.int at_]) = H3:=⟨_,rfl⟩
 have u45:=u4.trans u5
 have h3L : H3 Lp = some (.lst [v0]):=by rw [<- eH3]; exact u5 _ _ ae
 have h3M : H3 Mk = some (.tup [V.int way,V.ref one,V.ref other,V.int b,V.int at_]):=by rw [<- eH3,ae]
 rw [eH3] at u45
 try dsimp only [a7,cy,List.set]
 rw [eH3]
 have s3:=s1.trans (u13.trans u45)
 have fLp : H Lp = none:=(s1.trans u13).free hLp
 refine Ee (P:=P) (w:=w) (κ:=W.κ) (y:=v0) (u:=W.b) (fun H' Q sm q => ⟨_,rfl,Lp,_,_,_,rfl,rfl,qL_ (sm _ _ h3L),rfl,q⟩) (fun H' Q q => q) (he0.same fun b xs q => u45 _ _ q) fun D e H4 hD t4 hD4 => ?_
 have fD : H D = none:=s3.free hD
 obtain ⟨mkv,emk⟩ : ∃ mkv,[V.int way,V.ref one,V.ref other,V.int b,V.int at_] = mkv:=⟨_,rfl⟩
 rw [emk] at h3M
 have I0 : WdI P w H W e L Lp Mk D xsL mkv [W.b] H4:=⟨s3.trans t4,hD4,PsOk.one he0,⟨_,t4 _ _ h3L,.cons (he0.same fun b xs q => t4 _ _ (u45 _ _ q)) .nil⟩,t4 _ _ (u45 _ _ (u13 _ _ hL1)),t4 _ _ h3M⟩
 have lr : rows.length = ps.length:=el
 try dsimp only [a7,cy,List.set]
 refine gn (fun σ' H' => ∃ (v10 v11 v12 : OV),σ' = [some (.ref m),some (.int way),some (.ref one),some (.ref other),some (.int b),some (.int at_),some (.ref L),some (.ref Lp),some (.ref Mk),some (.ref D),v10,v11,v12] /\ WdI P w H W e L Lp Mk D xsL mkv ps H') ?_ (fun D' nxt => ?_)
 rotate_left
 ·obtain ⟨ras,hr4,hA4⟩:=(M.same fun b xs q => I0.s _ _ q).rows
  have lra:=hA4.length
  refine ⟨_,rfl,m,_,_,_,rfl,rfl,qT_ (I0.s _ _ M.tup),rfl,r,_,rfl,.inr (qT_ hr4),_,rfl,by omega,by rw [lm_]; omega,?_⟩
  refine cC (fun i σ' H' => ∃ (v10 v11 v12 : OV),σ' = [some (.ref m),some (.int way),some (.ref one),some (.ref other),some (.int b),some (.int at_),some (.ref L),some (.ref Lp),some (.ref Mk),some (.ref D),v10,v11,v12] /\ WdI P w H W e L Lp Mk D xsL mkv (cj W.st W.b wide i) H') ⟨none,none,none,rfl,I0⟩ ?_ ?_
  ·rintro i σ' H5 hi ⟨v10,v11,v12,rfl,I5⟩
   rw [lm_,Int.toNat_natCast] at hi
   have hi' : i < ps.length:=by omega
   have ei : (0 : Int) + (i : Int) = (i : Int):=Int.zero_add _
   rw [ei]
   have pat:=G.at_ el hi'
   have llt:=(gi_ pat).1
   obtain ⟨lv5,hl5',E5⟩:=I5.l
   have lv5l : lv5.length = (cj W.st W.b wide i).length:=Paired.length E5
   obtain ⟨pv,epv,hpv⟩:=E5.get llt
   rw [(gi_ pat).2] at hpv
   obtain ⟨p,ep⟩ : ∃ p,ps[i] = p:=⟨_,rfl⟩
   have ip : W.inn p:=by rw [<- ep]; exact inn _ (List.getElem_mem hi')
   have M5:=M.same fun b xs q => I5.s _ _ q
   obtain ⟨ras5,hr5,hA5⟩:=M5.rows
   refine ⟨_,rfl,_,rfl,Lp,_,rfl,.inl (qL_ hl5'),_,_,rfl,rfl,_,rfl,Hl (fun z => ?_) (fun _ => ?_)⟩
   ·have:=of_decide_eq_true z
    omega
   have sgi : atI ((ps.map W.sg).map V.int) (i : Int) = some (.int (W.sg p)):=by
    rw [c7 (by omega) (by rw [lm_]; omega),Int.toNat_natCast,getD_at (by rw [lm_]; omega),List.getElem_map,ep]
   rw [ep] at hpv
   refine ⟨_,rfl,m,_,_,_,rfl,rfl,qT_ M5.tup,rfl,_,rfl,g,_,_,_,rfl,rfl,qT_ M5.sgn,sgi,_,rfl,_,rfl,_,rfl,_,rfl,_,rfl,_,rfl,Lp,_,_,_,rfl,rfl,qL_ hl5',rZ epv,way,one,other,L,b,at_,W,pv,p,xsL,rfl,wa.same I5.s,I5.a,hAl,hpv,ip,rfl,_,rfl,ye (fun z => absurd rfl z) (fun _ => ?_)⟩
   refine ⟨_,rfl,m,_,_,_,rfl,rfl,qT_ M5.tup,rfl,(wide : Int),rfl,by omega,by omega,?_⟩
   refine cC (fun j σ' H' => ∃ (v11 v12 : OV),σ' = [some (.ref m),some (.int way),some (.ref one),some (.ref other),some (.int b),some (.int at_),some (.ref L),some (.ref Lp),some (.ref Mk),some (.ref D),some (.int (i : Int)),v11,v12] /\ WdI P w H W e L Lp Mk D xsL mkv (rM W.st p (cj W.st W.b wide i) j) H') ⟨v11,v12,rfl,I5⟩ ?_ ?_
   ·rintro j σ' H6 hj ⟨v11,v12,rfl,I6⟩
    rw [Int.toNat_natCast] at hj
    have ej : (0 : Int) + (j : Int) = (j : Int):=Int.zero_add _
    rw [ej]
    obtain ⟨lv6,hl6,E6⟩:=I6.l
    obtain ⟨R6,eR6⟩ : ∃ R6,rM W.st p (cj W.st W.b wide i) j = R6:=⟨_,rfl⟩
    have pre6 : R6 <+: ps:=by rw [<- eR6,<- ep]; exact G.pre el hi' (by omega)
    have pre7 : pN R6 (W.st p j) <+: ps:=by rw [<- eR6,<- eP,<- ep]; exact G.pre el hi' (by omega)
    have at6 : R6[i]? = some p:=by rw [<- eR6,<- ep]; exact yK tG pat
    have lt6:=(gi_ at6).1
    rw [eR6] at I6 E6
    have lv6l : lv6.length = R6.length:=Paired.length E6
    have nd6 : R6.Nodup:=by rw [<- eR6]; exact C4 (pE i)
    obtain ⟨pv6,epv6,hpv6⟩:=E6.get lt6
    rw [(gi_ at6).2] at hpv6
    have l6:=pre6.length_le
    refine ⟨_,rfl,_,rfl,_,rfl,Lp,_,_,_,rfl,rfl,qL_ hl6,rZ epv6,_,rfl,Mk,way,one,other,b,at_,W,pv6,p,j,rfl,by rw [I6.md,<- emk],wa.same I6.s,hpv6,ip,by omega,fun th H7 s7 hth => ?_⟩
    have I7:=I6.same s7
    have hl7:=s7 _ _ hl6
    try dsimp only [a7,cy,List.set]
    have fin : ∀ (H8 : Hp) (v11 : OV),WdI P w H W e L Lp Mk D xsL mkv (pN R6 (W.st p j)) H8 -> encP W.κ H8 th (W.st p j) -> ∃ (n : Nat) (ra : Addr) (rr : LI),(pN R6 (W.st p j))[n]? = some (W.st p j) /\ (∃ ras8 : List Addr,H8 r = some (.tup (ras8.map V.ref)) /\ atI (ras8.map V.ref) (i : Int) = some (.ref ra)) /\ H8 ra = some (.tup (rr.map V.int)) /\ atI (rr.map V.int) (j : Int) = some (.int (n : Int)):=fun H8 v11 I8 he8 => by
     obtain ⟨n,nl,en⟩:=List.getElem_of_mem (HY (ps:=R6) (t:=W.st p j))
     have hn : (pN R6 (W.st p j))[n]? = some (W.st p j):=by rw [List.getElem?_eq_getElem nl,en]
     obtain ⟨ras8,hr8,hA8⟩:=(M.same fun b xs q => I8.s _ _ q).rows
     obtain ⟨ra,e1,e2⟩:=hA8.get (i:=i) (by omega)
     have rl:=G.row i _ (List.getElem?_eq_getElem (by omega))
     obtain ⟨n',p',f1,f2,f3⟩:=G.to i _ j _ (List.getElem?_eq_getElem (by omega)) (List.getElem?_eq_getElem (by rw [rl]; exact hj))
     rw [List.getElem?_eq_getElem hi',ep] at f2
     cases f2
     have nn:=IZ G.nd f3 (yK pre7 hn)
     refine ⟨n,ra,_,hn,⟨ras8,hr8,xG (by omega) (by rw [Int.toNat_natCast]; exact e1)⟩,e2,?_⟩
     rw [c7 (by omega) (by rw [rl]; omega),Int.toNat_natCast,getD_at (by rw [rl]; exact hj),f1,nn]
    refine gn (fun σ' H' => σ' = [some (.ref m),some (.int way),some (.ref one),some (.ref other),some (.int b),some (.int at_),some (.ref L),some (.ref Lp),some (.ref Mk),some (.ref D),some (.int (i : Int)),some (.int (j : Int)),some th] /\ WdI P w H W e L Lp Mk D xsL mkv (pN R6 (W.st p j)) H' /\ encP W.κ H' th (W.st p j)) ?_ (fun D1 nxt1 => ?_)
    rotate_left
    ·refine KA (P:=P) (w:=w) (fun Q q => ⟨_,rfl,q⟩) (fun Q q => ⟨_,rfl,q⟩) I7.d I7.po hth nd6 ⟨_,rfl,zH (fun c => ?_) (fun c => ?_)⟩
     ·refine ⟨_,rfl,Lp,_,rfl,.inl (qL_ hl7),_,rfl,_,rfl,D,_,rfl,(show DPut H7 D th (.int (lv6.length : Int)) (upd H7 D (dctP P w W.κ e D (R6 ++ [W.st p j]))) from by rw [lv6l]; exact DPut.num I7.d I7.po hth c (aR (by omega))),?_⟩
      have hl9 : (upd H7 D (dctP P w W.κ e D (R6 ++ [W.st p j]))) Lp = some (.lst lv6):=by rw [aj (cb hl7 I7.d (fun z => dctP.ne_lst z.symm))]; exact hl7
      refine ⟨_,rfl,.inl ⟨rfl,_,qL_ hl9⟩,_,rfl,Lp,_,_,rfl,rfl,hl9,aR (by omega),nxt1 _ _ ⟨rfl,by rw [xC c]; exact I7.add fLp fD nLp hl7 hth c,hth.same fun b xs q => ?_⟩⟩
      rw [aj (cb q hl7 (by intro z; cases z)),aj (cb q I7.d (fun z => dctP.ne_tup z.symm))]
      exact q
     ·have c' : W.st p j ∈ R6:=Classical.not_not.mp c
      exact nxt1 _ _ ⟨rfl,by rw [DP c']; exact I7,hth⟩
    ·rintro σ' H8 ⟨rfl,I8,he8⟩
     obtain ⟨n,ra,rr,hn,⟨ras8,hr8,e1⟩,e2,e3⟩:=fin H8 none I8 he8
     have M8:=M.same fun b xs q => I8.s _ _ q
     refine ⟨_,rfl,m,_,_,_,rfl,rfl,qT_ M8.tup,rfl,_,rfl,r,_,_,_,rfl,rfl,qT_ hr8,e1,_,rfl,ra,_,_,_,rfl,rfl,qT_ e2,e3,?_⟩
     refine Lh (P:=P) (w:=w) (fun Q q => ⟨_,rfl,q⟩) (fun Q q => ⟨_,rfl,q⟩) I8.d I8.po he8 (Gb nd6) hn ?_
     refine ⟨rfl,_,rfl,ye (fun z => absurd rfl z) (fun _ => ?_)⟩
     exact ⟨_,_,rfl,by rw [eP,eR6]; exact I8⟩
   ·rintro σ' H6 ⟨v11,v12,rfl,I6⟩
    rw [Int.toNat_natCast,<- ep,<- gx pat] at I6
    exact ⟨_,_,_,rfl,I6⟩
  ·rintro σ' H5 ⟨v10,v11,v12,rfl,I5⟩
   rw [lm_,Int.toNat_natCast,lra,<- G.pl] at I5
   exact nxt _ _ ⟨v10,v11,v12,rfl,I5⟩
 rintro σ' H5 ⟨v10,v11,v12,rfl,I5⟩
 obtain ⟨lv5,hl5',E5⟩:=I5.l
 have lv5l : lv5.length = ps.length:=Paired.length E5
 have M5:=M.same fun b xs q => I5.s _ _ q
 obtain ⟨ras5,hr5,hA5⟩:=M5.rows
 have la5:=hA5.length
 refine ⟨_,rfl,Lp,_,rfl,.inl (qL_ hl5'),_,rfl,m,_,_,_,rfl,rfl,qT_ M5.tup,rfl,r,_,rfl,.inr (qT_ hr5),rfl,?_⟩
 rw [decide_eq_true (by rw [lv5l,lm_,la5,lr])]
 exact k _ I5.s
end
theorem y6 {α : Type} [DecidableEq α] : ∀ {ps vs : List α},ps.Nodup -> (∀ p ∈ ps,p ∈ vs) -> ps.length <= vs.length
 | [],_,_,_ => Nat.zero_le _
 | p :: ps,vs,nd,h => by
  have nd' := List.nodup_cons.mp nd
  have hp:=h p List.mem_cons_self
  have:=y6 (vs:=vs.erase p) nd'.2 fun q hq => (List.mem_erase_of_ne (show q ≠ p from fun z => nd'.1 (by rw [<- z]; exact hq))).mpr (h q (List.mem_cons_of_mem _ hq))
  rw [List.length_erase_of_mem hp] at this
  have:=List.length_pos_of_mem hp
  rw [List.length_cons]
  omega
theorem Ka {lo M g : Int} {b wide : Nat} (l0 : 0 < lo) (b0 : 0 < b) (ew : (wide : Int) = lo * b * M) (g0 : 0 <= g) (g1 : g < lo * M) : ∀ f ∈ cz g b lo,0 <= f /\ f < (wide : Int):=fun f hf => by
 rw [ew]
 exact ((HW (M:=M) l0 b0 g0 g1).mp hf).1
theorem AH {K : PySem.W.Frag} {H : Hp} : ∀ r : LI,Paired (EqD K H 0) (r.map V.int) (r.map V.int)
 | [] => .nil
 | i :: r => .cons ⟨i,rfl,rfl⟩ (AH r)
theorem EV {K : PySem.W.Frag} {H : Hp} : ∀ {rows : LL} {as bs : List Addr},RowsAt H as rows -> RowsAt H bs rows -> Paired (EqD K H 1) (as.map V.ref) (bs.map V.ref)
 | [],as,bs,h,h' => by
  cases h
  cases h'
  exact .nil
 | r :: rows,as,bs,h,h' => by
  cases h with
  | cons h t =>
   cases h' with
   | cons h' t' => exact .cons (.inr ⟨_,_,_,_,rfl,rfl,qT_ h,qT_ h',AH r⟩) (EV t t')
theorem AG {K : PySem.W.Frag} {H : Hp} : ∀ r : LI,Paired (EqD K H 1) (r.map V.int) (r.map V.int)
 | [] => .nil
 | i :: r => .cons (.inl ⟨i,rfl,rfl⟩) (AG r)
theorem MachAt.eqD {K : PySem.W.Frag} {H : Hp} {m r g m' r' g' : Addr} {wide : Nat} {rows : LL} {signs : LI} (M : MachAt H m r g wide rows signs) (M' : MachAt H m' r' g' wide rows signs) : Paired (EqD K H 2) [.int wide,.ref r,.ref g] [.int wide,.ref r',.ref g']:=by
 obtain ⟨ras,h1,h2⟩:=M.rows
 obtain ⟨ras',h1',h2'⟩:=M'.rows
 exact .cons (.inl ⟨_,rfl,rfl⟩) (.cons (.inr ⟨_,_,_,_,rfl,rfl,qT_ h1,qT_ h1',EV h2 h2'⟩) (.cons (.inr ⟨_,_,_,_,rfl,rfl,qT_ M.sgn,qT_ M'.sgn,AG signs⟩) .nil))
def DT (n : Nat) : LL:=(List.range n).map fun q : Nat => [(q : Int)]
def Il (n m : Nat) : LL:=(List.range n).flatMap fun p : Nat => (List.range m).map fun q : Nat => [(p : Int),(q : Int)]
def subs : LI -> LL
 | [] => [[]]
 | a :: r => subs r ++ (subs r).map fun u => a :: u
theorem EY : ∀ r : LI,(subs r).length = 2 ^ r.length
 | [] => rfl
 | a :: r => by
  show (subs r ++ (subs r).map fun u => a :: u).length = _
  rw [List.length_append,lm_,EY r,List.length_cons,Nat.pow_succ]
  omega
theorem y7 (φ : Int -> Bool) : ∀ r : LI,r.filter φ ∈ subs r
 | [] => List.mem_cons_self
 | a :: r => by
  show _ ∈ subs r ++ (subs r).map fun u => a :: u
  cases c : φ a with
  | true => rw [List.filter_cons_of_pos c]; exact List.mem_append_right _ (List.mem_map.mpr ⟨_,y7 φ r,rfl⟩)
  | false => rw [List.filter_cons_of_neg (by rw [c]; decide)]; exact List.mem_append_left _ (y7 φ r)
theorem Ei (n : Nat) : ((List.range n).map fun q : Nat => (q : Int)).Pairwise (· < ·):=by
 rw [List.pairwise_map]
 exact List.Pairwise.imp (fun h => Int.ofNat_lt.mpr h) List.pairwise_lt_range
theorem MB {n : Nat} {u : LI} (so : u.Pairwise (· < ·)) (h : ∀ q ∈ u,0 <= q /\ q < (n : Int)) : u ∈ subs ((List.range n).map fun q : Nat => (q : Int)):=by
 have e : u = ((List.range n).map fun q : Nat => (q : Int)).filter fun q => decide (q ∈ u):=by
  refine uT so (List.Pairwise.filter _ (Ei n)) fun q => ?_
  rw [List.mem_filter,decide_eq_true_iff]
  refine ⟨fun hq => ⟨?_,hq⟩,fun hq => hq.2⟩
  obtain ⟨q0,q1⟩:=h q hq
  exact List.mem_map.mpr ⟨q.toNat,List.mem_range.mpr (by omega),by omega⟩
 rw [e]
 exact y7 _ _
theorem Ay {n : Nat} {u : LI} (h : GB n u) : u ∈ DT n:=by
 obtain ⟨q,rfl,q0,q1⟩:=h
 exact List.mem_map.mpr ⟨q.toNat,List.mem_range.mpr (by omega),by rw [Int.toNat_of_nonneg q0]⟩
theorem Az (m : Nat) : ∀ n,(Il n m).length = n * m
 | 0 => by rw [Nat.zero_mul]; rfl
 | n + 1 => by
  have ih:=Az m n
  unfold Il at ih ⊢
  rw [List.range_succ,List.flatMap_append,List.length_append,ih,List.flatMap_cons,List.flatMap_nil,List.append_nil,lm_,List.length_range,Nat.succ_mul]
theorem jx {W : Wlk} (ok : W.Ok) {wide : Nat} (hw : wide <= W.wide) {cs : LL} (h : ∀ u,W.inn u -> u ∈ cs) (n : Nat) : (cj W.st W.b wide n).length <= cs.length:=
 y6 (pE n) fun u hu => h u (rV (φ:=W.inn) ok.hb (fun v f hv hf => ok.hs v f hv (by omega)) n u hu)
theorem WayAt.few {H : Hp} {way : Int} {one other : Addr} {b at_ : Nat} {W : Wlk} (h : WayAt H way one other b at_ W) (ok : W.Ok) {wide : Nat} (hw : wide <= W.wide) (n : Nat) : (cj W.st W.b wide n).length <= 300:=by
 obtain ⟨r1,g1,r2,g2,many1,wide1,many2,wide2,rows1,rows2,signs1,signs2,M1,M2,_,⟨w400,m300⟩,w1000,cs⟩:=h
 have c1 : (DT many1).length = many1:=by unfold DT; rw [lm_,List.length_range]
 rcases cs with ⟨z,e⟩ | ⟨z,e⟩ | ⟨z,⟨_,m1,m2⟩,e⟩ | ⟨z,wd,_,e⟩ | ⟨z,wd,_,m5,_,e⟩
 ·have:=jx ok hw (cs:=[[]]) (fun u hu => by rw [e] at hu; rw [show u = [] from hu]; exact List.mem_cons_self) n
  exact Nat.le_trans this (by decide)
 ·have:=jx ok hw (cs:=DT many1) (fun u hu => by rw [e] at hu; exact Ay hu) n
  omega
 ·have:=jx ok hw (cs:=Il many1 many2) (fun u hu => by
   rw [e] at hu
   obtain ⟨p,q,rfl,p0,q0⟩:=hu
   exact List.mem_flatMap.mpr ⟨p.toNat,List.mem_range.mpr (by omega),List.mem_map.mpr ⟨q.toNat,List.mem_range.mpr (by omega),by rw [Int.toNat_of_nonneg p0.1,Int.toNat_of_nonneg q0.1]⟩⟩) n
  rw [Az] at this
  have:=Nat.mul_le_mul m1 m2
  omega
 ·have:=jx ok hw (cs:=DT many1) (fun u hu => by rw [e] at hu; exact Ay hu) n
  omega
 ·have:=jx ok hw (cs:=subs ((List.range many1).map fun q : Nat => (q : Int))) (fun u hu => by
   rw [e] at hu
   obtain ⟨⟨_,so⟩,hu'⟩:=hu
   exact MB so hu') n
  rw [EY,lm_,List.length_range] at this
  have : 2 ^ many1 <= 2 ^ 5:=Nat.pow_le_pow_right (by decide) m5
  omega
theorem B4 {K : PySem.W.Frag} {t : Value} : ∀ {cs : List Value},(∀ c ∈ cs,PySem.W.kitOne K t c = some false) -> PySem.W.kitAny K t cs = some false
 | [],_ => rfl
 | c :: cs,h => by
  have h1:=h c List.mem_cons_self
  have h2:=B4 (cs:=cs) fun x hx => h x (List.mem_cons_of_mem _ hx)
  unfold PySem.W.kitAny
  rw [h1]
  exact h2
theorem zr : bootBuiltins "ValueError" = some (.type "ValueError"):=by decide +kernel
def hV : Sp:=fun vs H Q _ => ∃ z : Int,vs = [.int z] /\ Q (.bl true) H
def pJ : Sp:=fun vs H Q _ => ∃ (m r g : Addr) (wide : Nat) (rows : LL) (signs : LI),vs = [.ref m,.int wide] /\ MachAt H m r g wide rows signs /\ RowsOk rows.length wide rows /\ signs.length = rows.length /\ Q (.bl true) H
def my (O : WO) : Sp:=fun vs H Q _ => ∃ (x : Addr) (wide most n : Nat) (W : Wlk),vs = [.ref x,.int wide,.int most] /\ O H x W /\ wide <= W.wide /\ wide <= 1000 /\ (1 <= most /\ most <= 1000) /\ most < (cj W.st W.b wide n).length /\ ∀ H',Same H H' -> Q (.bl true) H'
def rS (O : WO) : Sp:=fun vs H Q _ => ∃ (x m r g : Addr) (wide : Nat) (W : Wlk) (rows ps : LL),vs = [.ref x,.int wide,.ref m] /\ O H x W /\ wide <= W.wide /\ wide <= 1000 /\ MachAt H m r g wide rows (ps.map W.sg) /\ GrA W.st W.b wide ps rows /\ rows.length = ps.length /\ ∀ H',Same H H' -> Q (.bl true) H'
section
variable {P : Program} {w : World} {K : PySem.W.Frag} {mg : Str -> Option Value} {base : Heap} {f : Addr} {fd : FuncData} {dV : Value} {C F0 f0 D1 D2 D3 D4 D5 D6 D7 D8 : Addr} {O : WO}
theorem qw : FnScope ["_law_found"] ["_law_found"] (af cR):=⟨rfl,rfl,rfl,by decide +kernel,rfl,by decide +kernel,by decide +kernel⟩
theorem sc__law_is_machine : FnScope ["_law_found","_law_wide_here","_law_row","_law_there","_law_sign_here"] ["_law_found","_law_wide_here"] (af bH):=⟨rfl,rfl,rfl,by decide +kernel,rfl,by decide +kernel,by decide +kernel⟩
theorem sc__law_refused : FnScope ["_law_walk_here","_law_wide_here","_law_most","_law_refused_here","error"] ["_law_walk_here","_law_wide_here","_law_most"] (af b8):=⟨rfl,rfl,rfl,by decide +kernel,rfl,by decide +kernel,by decide +kernel⟩
theorem sc__law_by_default : FnScope ["_law_walk_here","_law_wide_here","_law_due","_law_kept","_law_found","error"] ["_law_walk_here","_law_wide_here","_law_due"] (af bG):=⟨rfl,rfl,rfl,by decide +kernel,rfl,by decide +kernel,by decide +kernel⟩
theorem HI (F : FunD K "_law_whole" "_law_whole" cR dV f fd) (aE : mg "isinstance" = none) (AX : mg "int" = none) (va : mg "bool" = none) : FnOk P w K mg base CX0 1 f fd ["_law_found"] hV:=by
 refine F.ok qw (fun vs H Q E h => ?_) (fun cdv A outer s H vs Q E hr h => ?_)
 ·obtain ⟨z,rfl,_⟩:=h
  rfl
 obtain ⟨z,rfl,q⟩:=h
 refine ⟨_,(ai (ax (iB (aK gS (by rfl) aE aW (aa (pv 0) (aa (iW (v:=.ty "int") rfl AX Ii rfl) ag))) (mw (CI (aK gS (by rfl) aE aW (aa (pv 0) (aa (iW (v:=.ty "bool") rfl va Gj rfl) ag)))))))),?_⟩
 refine ⟨_,rfl,_,_,_,_,rfl,TyOf.int z,vg K,_,rfl,lY ?_⟩
 exact ⟨_,rfl,_,_,_,_,rfl,TyOf.int z,sI K,_,rfl,q⟩
theorem HH (F : FunD K "_law_whole" "_law_whole" cR dV f fd) (aE : mg "isinstance" = none) (AX : mg "int" = none) (va : mg "bool" = none) : FnOkH P w K mg base CX0 1 f fd ["_law_found"] hV:=by
 refine F.okH qw (fun vs H Q E h => ?_) (fun cdv A outer s H vs Q E hr h => ?_)
 ·obtain ⟨z,rfl,_⟩:=h
  rfl
 obtain ⟨z,rfl,q⟩:=h
 refine ⟨_,(ai (ax (iB (aK gS (by rfl) aE aW (aa (pv 0) (aa (iW (v:=.ty "int") rfl AX Ii rfl) ag))) (mw (CI (aK gS (by rfl) aE aW (aa (pv 0) (aa (iW (v:=.ty "bool") rfl va Gj rfl) ag)))))))),?_⟩
 refine ⟨_,rfl,_,_,_,_,rfl,TyOf.int z,vg K,_,rfl,lY ?_⟩
 exact ⟨_,rfl,_,_,_,_,rfl,TyOf.int z,sI K,_,rfl,q⟩
theorem FA (F : FunD K "_law_is_machine" "_law_is_machine" bH dV f fd) (cn : DefOk P w K mg base "_law_whole" 1 ["_law_found"] [] hV) (aE : mg "isinstance" = none) (aS : mg "tuple" = none) (aZ : mg "len" = none) : FnOk P w K mg base CX0 2 f fd ["_law_found","_law_wide_here"] pJ:=by
 refine F.ok sc__law_is_machine (fun vs H Q E h => ?_) (fun cdv A outer s H vs Q E hr h => ?_)
 ·obtain ⟨m,r,g,wide,rows,signs,rfl,_⟩:=h
  rfl
 obtain ⟨m,r,g,wide,rows,signs,rfl,M,R,ls,k⟩:=h
 obtain ⟨ras,hr',hA⟩:=M.rows
 have lras : ras.length = rows.length:=hA.length
 have lsg : (signs.map V.int).length = rows.length:=by rw [lm_]; exact ls
 have lrs : (ras.map V.ref).length = rows.length:=by rw [lm_]; exact lras
 refine xJ (aU (PSW.mk (br (PW.pt (qv (jI (gj (aK gS (by rfl) aE aW (aa (pv 0) (aa (iW (v:=.ty "tuple") rfl aS cq rfl) ag))))) (qv (aO AO (aK aN (by rfl) aZ cA (aa (pv 0) ag)) ah (aQ _)) (qv (jI (gj (aV cn hr (aa (aH az (pv 0) ah (fun _ _ => rfl)) ag)))) (uK (aO AO (aH az (pv 0) ah (fun _ _ => rfl)) (pv 1) (aQ _))))))) (ai (ax g9)) aP))
   (aU (PSW.mk (br (PW.pt (qv (jI (gj (aK gS (by rfl) aE aW (aa (aH az (pv 0) ah (fun _ _ => rfl)) (aa (iW (v:=.ty "tuple") rfl aS cq rfl) ag))))) (qv (jI (gj (aK gS (by rfl) aE aW (aa (aH az (pv 0) ah (fun _ _ => rfl)) (aa (iW (v:=.ty "tuple") rfl aS cq rfl) ag))))) (uK (aO AO (aK aN (by rfl) aZ cA (aa (aH az (pv 0) ah (fun _ _ => rfl)) ag)) (aK aN (by rfl) aZ cA (aa (aH az (pv 0) ah (fun _ _ => rfl)) ag)) (aQ _)))))) (ai (ax g9)) aP))
   (aU (PSW.mk (cD PassesOwn.never rfl (pd (aH az (pv 0) ah (fun _ _ => rfl))) (aL (i:=2) sc__law_is_machine.nd rfl (Or.inl rfl)) (ak (br (PW.pt (qv (jI (gj (aK gS (by rfl) aE aW (aa (pv 2) (aa (iW (v:=.ty "tuple") rfl aS cq rfl) ag))))) (uK (aO AO (aK aN (by rfl) aZ cA (aa (pv 2) ag)) (pv 1) (aQ _))))) (ai (ax g9)) aP)
   (ai (cD PassesOwn.never rfl (pd (pv 2)) (aL (i:=3) sc__law_is_machine.nd rfl (Or.inl rfl)) (ai (br (PW.pt (qv (jI (gj (aV cn hr (aa (pv 3) ag)))) (qv (aO Jx (pv 3) ah (aQ _)) (uK (aO Jw (pv 3) (aK aN (by rfl) aZ cA (aa (aH az (pv 0) ah (fun _ _ => rfl)) ag)) (aQ _)))))) (ai (ax g9)) aP)))))))
   (aU (PSW.mk (cD PassesOwn.never rfl (pd (aH az (pv 0) ah (fun _ _ => rfl))) (aL (i:=4) sc__law_is_machine.nd rfl (Or.inl rfl)) (ai (br (jI (gj (aV cn hr (aa (pv 4) ag)))) (ai (ax g9)) aP))))
   (u9 (PSW.mk (ax g9))))))) ?_
 refine ⟨_,rfl,_,_,_,_,rfl,TyOf.tup M.tup,d7 K,_,rfl,kD ?_⟩
 refine ⟨_,rfl,m,_,rfl,.inr (qT_ M.tup),rfl,_,rfl,ye (fun z => absurd rfl z) (fun _ => ?_)⟩
 refine ⟨_,rfl,m,_,_,_,rfl,rfl,qT_ M.tup,rfl,_,rfl,_,rfl,kD ?_⟩
 refine ⟨_,rfl,m,_,_,_,rfl,rfl,qT_ M.tup,rfl,_,rfl,rfl,_,rfl,ye (fun z => absurd rfl z) (fun _ => ?_)⟩
 refine ⟨_,rfl,m,_,_,_,rfl,rfl,qT_ M.tup,rfl,_,_,_,_,rfl,TyOf.tup hr',d7 K,_,rfl,kD ?_⟩
 refine ⟨_,rfl,m,_,_,_,rfl,rfl,qT_ M.tup,rfl,_,_,_,_,rfl,TyOf.tup M.sgn,d7 K,_,rfl,kD ?_⟩
 refine ⟨_,rfl,m,_,_,_,rfl,rfl,qT_ M.tup,rfl,r,_,rfl,.inr (qT_ hr'),_,rfl,m,_,_,_,rfl,rfl,qT_ M.tup,rfl,g,_,rfl,.inr (qT_ M.sgn),rfl,_,rfl,ye (fun z => absurd (by rw [lsg,lrs]) z) (fun _ => ?_)⟩
 try dsimp only [a7,cy,List.set]
 refine gn (t:=FV _ _ _) (fun σ' H' => ∃ v2 v3 : OV,σ' = [some (.ref m),some (.int wide),v2,v3,none] /\ H' = H) ?_ (fun D' nxt => ?_)
 rotate_left
 ·refine ⟨_,rfl,m,_,_,_,rfl,rfl,qT_ M.tup,rfl,r,rfl,⟨_,qT_ hr'⟩,pH (K:=K) (xs:=ras.map V.ref) (fun i σ' H' => ∃ v2 v3 : OV,σ' = [some (.ref m),some (.int wide),v2,v3,none] /\ H' = H) ⟨none,none,rfl,rfl⟩ (fun i σ' H' _ ⟨_,_,_,e⟩ => by rw [e]; exact qT_ hr') ?_ (fun σ' H' h => nxt _ _ h)⟩
  rintro i y σ' H' hi ⟨v2,v3,rfl,rfl⟩
  have jl : i < rows.length:=by
   have:=(gi_ hi).1
   omega
  obtain ⟨ra,e1,e2⟩:=hA.get jl
  have ey : y = .ref ra:=by rw [List.getElem?_map,e1] at hi; exact (Option.some.inj hi).symm
  subst ey
  have lr:=R.row _ (List.getElem_mem jl)
  refine ⟨_,rfl,_,_,_,_,rfl,TyOf.tup e2,d7 K,_,rfl,kD ?_⟩
  refine ⟨_,rfl,ra,_,rfl,.inr (qT_ e2),_,rfl,rfl,_,rfl,ye (fun z => absurd (by rw [lm_,lr]) z) (fun _ => ?_)⟩
  refine ⟨_,rfl,ra,rfl,⟨_,qT_ e2⟩,pH (K:=K) (xs:=rows[i].map V.int) (fun j σ' H'' => ∃ v3 : OV,σ' = [some (.ref m),some (.int wide),some (.ref ra),v3,none] /\ H'' = H') ⟨v3,rfl,rfl⟩ (fun j σ' H'' _ ⟨_,_,e⟩ => by rw [e]; exact qT_ e2) ?_ (fun σ' H'' ⟨v3,e1,e2⟩ => ⟨_,v3,e1,e2⟩)⟩
  rintro j y σ' H'' hj ⟨v3,rfl,rfl⟩
  obtain ⟨z,rfl,hz⟩:=fS hj
  have zi:=R.val _ (List.getElem_mem jl) z (mq_ hz)
  refine ⟨_,rfl,_,rfl,_,rfl,kD ?_⟩
  refine ⟨_,rfl,_,_,rfl,rfl,_,rfl,zH (fun c => by omega) (fun _ => ?_)⟩
  refine ⟨_,rfl,_,rfl,m,_,_,_,rfl,rfl,qT_ M.tup,rfl,r,_,rfl,.inr (qT_ hr'),_,_,rfl,rfl,_,rfl,zH (fun c => by omega) (fun _ => ?_)⟩
  exact ⟨_,rfl,rfl⟩
 rintro σ' H' ⟨v2,v3,rfl,rfl⟩
 refine ⟨_,rfl,m,_,_,_,rfl,rfl,qT_ M.tup,rfl,g,rfl,⟨_,qT_ M.sgn⟩,pH (K:=K) (xs:=signs.map V.int) (fun i σ' H'' => ∃ v4 : OV,σ' = [some (.ref m),some (.int wide),v2,v3,v4] /\ H'' = H') ⟨none,rfl,rfl⟩ (fun i σ' H'' _ ⟨_,_,e⟩ => by rw [e]; exact qT_ M.sgn) ?_ (fun σ' H'' ⟨_,_,e⟩ => by rw [e]; exact k)⟩
 rintro i y σ' H'' hi ⟨v4,rfl,rfl⟩
 obtain ⟨z,rfl,hz⟩:=fS hi
 exact ⟨_,rfl,_,rfl,_,rfl,kD ⟨_,rfl,rfl⟩⟩
theorem EF (F : FunD K "_law_refused" "_law_refused" b8 dV f fd) (c : XCls K C) (xi : XInit K C f0) (na : PySem.W.findIn K (.ref C) "most" = some none) (bQ : mg "FigureError" = some (.ref F0)) (cM : mg "TooGreat" = some (.ref C)) (xm : PySem.W.exmOne K (.ref C) (.ref C) = some true) (kf : PySem.W.kitOne K (.ref C) (.ref F0) = some true)
  (kv : PySem.W.kitOne K (.ref C) (.type "ValueError") = some true) (oz : mg "NoFigures" = some (.ref D1)) (oA : mg "NoMachine" = some (.ref D2)) (xZ : mg "NoName" = some (.ref D3)) (ui : mg "NoPower" = some (.ref D4))
  (BO : mg "NoRow" = some (.ref D5)) (ya : mg "NoSome" = some (.ref D6)) (yb : mg "NoText" = some (.ref D7)) (uj : mg "TooWide" = some (.ref D8))
  (n1 : PySem.W.kitAny K (.ref C) ([D1,D2,D3,D4].map Value.ref) = some false) (n2 : PySem.W.kitAny K (.ref C) ([D5,D6,D7,D8].map Value.ref) = some false)
  (kL : DefX2 P w K mg base "grown" 4 ["walk","wide","most"] [] (hU C O)) (dN : DefH P w K mg base "_law_whole" 1 ["_law_found"] [] hV) (aE : mg "isinstance" = none) (gk : mg "ValueError" = none) : FnOk P w K mg base CX0 5 f fd ["_law_walk_here","_law_wide_here","_law_most"] (my O):=by
 refine F.ok sc__law_refused (fun vs H Q E h => ?_) (fun cdv A outer s H vs Q E hr h => ?_)
 ·obtain ⟨x,wide,most,n,W,rfl,_⟩:=h
  rfl
 obtain ⟨x,wide,most,n,W,rfl,o,hw,w1,mm,big,k⟩:=h
 refine ⟨_,(ak (aC (i:=3) sc__law_refused.nd rfl (Or.inl rfl) g9)
   (ak (GH (i:=4) sc__law_refused.nd rfl rfl cM xm (GI (JN (AR kL hr (aa (pv 0) (aa (pv 1) (aa (pv 2) ag)))))) (fun _ => (ak (aC (i:=3) sc__law_refused.nd rfl (Or.inl rfl) (iB (Nb dN hr.held (aa (CF K (pv 4)) ag)) (iB (mn cK (CF K (pv 4)) (pv 2) (aQ _)) (mw (aK (DS K) (by rfl) aE aW (aa (pv 4) (aa (gP (v:=.ref _) rfl bQ rfl) ag)))))))
   (ak (aC (i:=3) sc__law_refused.nd rfl (Or.inl rfl) (iB (pv 3) (mw (aK (DS K) (by rfl) aE aW (aa (pv 4) (aa (iW (v:=.ty "ValueError") rfl gk zr rfl) ag))))))
   (ak (aC (i:=3) sc__law_refused.nd rfl (Or.inl rfl) (iB (pv 3) (mw (CI (aK ((Ax K)) (by rfl) aE aW (aa (pv 4) (aa (cw (aa (gP (v:=.ref _) rfl oz rfl) (aa (gP (v:=.ref _) rfl oA rfl) (aa (gP (v:=.ref _) rfl xZ rfl) (aa (gP (v:=.ref _) rfl ui rfl) ag))))) ag)))))))
   (ai (aC (i:=3) sc__law_refused.nd rfl (Or.inl rfl) (iB (pv 3) (mw (CI (aK ((Ax K)) (by rfl) aE aW (aa (pv 4) (aa (cw (aa (gP (v:=.ref _) rfl BO rfl) (aa (gP (v:=.ref _) rfl ya rfl) (aa (gP (v:=.ref _) rfl yb rfl) (aa (gP (v:=.ref _) rfl uj rfl) ag))))) ag)))))))))))))
   (ai (ax (pv 3))))),?_⟩
 refine ⟨_,rfl,_,rfl,_,rfl,x,wide,most,W,rfl,o,hw,w1,mm,fun m' r' g' rows' ps H' s' M' G' el le inn => ?_,fun d H' n' s' hd hn => ⟨rfl,d,rfl,fun ea hea => ?_⟩⟩
 ·exfalso
  have:=G'.all el n
  omega
 have s1:=s'.trans (ao hea (HO.ext (ExIn ea C d)))
 have hd1 : (upd H' ea (HO.ext (ExIn ea C d))) d = some (.xd [("most",.int most)]):=by rw [aj (aq hd hea)]; exact hd
 refine ⟨_,rfl,ea,C,d,f0,_,_,rfl,ae,hd1,xi,na,rfl,_,rfl,_,rfl,lY ?_⟩
 refine ⟨_,rfl,ea,C,d,f0,_,_,rfl,ae,hd1,xi,na,rfl,_,rfl,rfl,_,rfl,?_⟩
 rw [decide_eq_true rfl]
 refine lY ⟨_,rfl,ea,C,d,_,_,_,rfl,ae,c,rfl,kf,?_⟩
 refine ⟨_,rfl,_,rfl,lY ⟨_,rfl,ea,C,d,_,_,_,rfl,ae,c,rfl,kv,?_⟩⟩
 refine ⟨_,rfl,_,rfl,lY ⟨_,rfl,(by show 4 <= sizeLine; decide),fun T1 hT1 => ?_⟩⟩
 have s2:=ao hT1 (HO.tup [V.ref D1,V.ref D2,V.ref D3,V.ref D4])
 refine ⟨ea,C,d,T1,[D1,D2,D3,D4],_,rfl,s2 _ _ ae,c,ae,n1,_,rfl,?_⟩
 refine ⟨_,rfl,_,rfl,lY ⟨_,rfl,(by show 4 <= sizeLine; decide),fun T2 hT2 => ?_⟩⟩
 have s3:=ao hT2 (HO.tup [V.ref D5,V.ref D6,V.ref D7,V.ref D8])
 refine ⟨ea,C,d,T2,[D5,D6,D7,D8],_,rfl,s3 _ _ (s2 _ _ ae),c,ae,n2,_,rfl,?_⟩
 exact ⟨_,rfl,k _ (s1.trans (s2.trans s3))⟩
theorem ED (F : FunD K "_law_by_default" "_law_by_default" bG dV f fd) (xi : XInit K C f0) (na : PySem.W.findIn K (.ref C) "most" = some none) (cM : mg "TooGreat" = some (.ref C)) (xm : PySem.W.exmOne K (.ref C) (.ref C) = some true)
  (qy : DefX2 P w K mg base "grown" 4 ["walk","wide","most"] [.int 200] (hU C O)) (cn : DefOk P w K mg base "_law_whole" 1 ["_law_found"] [] hV) (bg : DefOk P w K mg base "_law_is_machine" 2 ["_law_found","_law_wide_here"] [] pJ) (aZ : mg "len" = none) : FnOk P w K mg base CX0 5 f fd ["_law_walk_here","_law_wide_here","_law_due"] (rS O):=by
 refine F.ok sc__law_by_default (fun vs H Q E h => ?_) (fun cdv A outer s H vs Q E hr h => ?_)
 ·obtain ⟨x,m,r,g,wide,W,rows,ps,rfl,_⟩:=h
  rfl
 obtain ⟨x,m,r,g,wide,W,rows,ps,rfl,o,hw,w1,M,G,el,k⟩:=h
 have hu3:=IH hr
 refine ⟨_,(ak (aC (i:=3) sc__law_by_default.nd rfl (Or.inl rfl) ah)
   (ak (aC (i:=4) sc__law_by_default.nd rfl (Or.inl rfl) uE)
   (ak (GH (i:=5) sc__law_by_default.nd rfl rfl cM xm (GI (K4 (i:=4) sc__law_by_default.nd rfl (Or.inl rfl) (AR qy hr (aa (pv 0) (aa (pv 1) ag))))) (fun _ => (ai (aC (i:=3) sc__law_by_default.nd rfl (Or.inl rfl) (CF K (pv 5))))))
   (ak (br (aO GC (aK aN (by rfl) aZ cA (aa (aH az (pv 2) ah (fun _ _ => rfl)) ag)) ah (aQ _)) (ai (ax (iB (aV cn hr (aa (pv 3) ag)) (mw (mn cK (pv 3) ah (aQ _)))))) aP)
   (ai (ax (iB (mn cK (pv 3) ah (aQ _)) (iB (aV bg hr (aa (pv 4) (aa (pv 1) ag))) (mw (mn ((Jv 2 hu3)) (pv 4) (pv 2) (aQ _))))))))))),?_⟩
 refine ⟨_,rfl,_,rfl,x,wide,200,W,rfl,o,hw,w1,⟨by decide,by decide⟩,fun m' r' g' rows' ps' H' s' M' G' el' le inn => ?_,fun d H' n' s' hd hn => ⟨rfl,d,rfl,fun ea hea => ?_⟩⟩
 ·obtain ⟨e1,e2⟩:=G.one el G' el'
  subst e1 e2
  have M1:=M.same fun b xs e => s' _ _ e
  obtain ⟨ras,hr1,hA1⟩:=M1.rows
  have lra:=hA1.length
  refine ⟨_,rfl,m,_,_,_,rfl,rfl,qT_ M1.tup,rfl,r,_,rfl,.inr (qT_ hr1),_,_,rfl,rfl,_,rfl,Hl (fun z => ?_) (fun _ => ?_)⟩
  ·have:=of_decide_eq_true z
   rw [lm_] at this
   omega
  refine ⟨_,rfl,rfl,_,rfl,?_⟩
  rw [decide_eq_true rfl]
  refine lY ⟨_,rfl,_,rfl,m',r',g',wide,rows,ps.map W.sg,rfl,M',G.ok el,by rw [lm_,el],_,rfl,lY ⟨_,rfl,_,rfl,m',m,_,_,rfl,rfl,qT_ M'.tup,qT_ M1.tup,MachAt.eqD M' M1,k _ s'⟩⟩
 ·have s1:=s'.trans (ao hea (HO.ext (ExIn ea C d)))
  have hd1 : (upd H' ea (HO.ext (ExIn ea C d))) d = some (.xd [("most",.int (200 : Nat))]):=by rw [aj (aq hd hea)]; exact hd
  refine ⟨_,rfl,ea,C,d,f0,_,_,rfl,ae,hd1,xi,na,rfl,?_⟩
  try dsimp only [a7,cy,List.set]
  have M1:=M.same fun b xs e => s1 _ _ e
  obtain ⟨ras,hr1,hA1⟩:=M1.rows
  have lra:=hA1.length
  have all:=G.all el n'
  refine ⟨_,rfl,m,_,_,_,rfl,rfl,qT_ M1.tup,rfl,r,_,rfl,.inr (qT_ hr1),_,_,rfl,rfl,_,rfl,Hl (fun _ => ?_) (fun z => ?_)⟩
  ·refine ⟨_,rfl,_,rfl,_,rfl,lY ⟨_,rfl,rfl,?_⟩⟩
   exact k _ s1
  ·exfalso
   refine z (decide_eq_true ?_)
   rw [lm_]
   omega
end
def GJ (K : PySem.W.Frag) : Sp:=fun vs H Q _ => ∃ (a : Addr) (ns : LI),vs = [.ref a] /\ SqL K H a (ns.map V.int) /\ ns.length <= 63 /\ ∀ H',Q (.bl true) H'
theorem NG {H : Hp} {one other r1 g1 r2 g2 : Addr} {many1 many2 b n at_ : Nat} {rows1 rows2 : LL} {signs1 signs2 : LI} (M1 : MO H one r1 g1 many1 (b ^ n) rows1 signs1) (M2 : MO H other r2 g2 many2 (b ^ n) rows2 signs2) (hb : 2 <= b /\ b <= 9) (hn : n <= 3) (bn : b ^ n <= 9) (ha : at_ <= n) (m5 : many1 <= 5) : ∃ W,WayAt H 3 one other b at_ W /\ W.wide = b ^ n * b:=by
 have b0 : 0 < b:=by omega
 have pa : b ^ at_ <= 9:=Nat.le_trans (Nat.pow_le_pow_right b0 ha) bn
 have bb:=Nat.mul_le_mul bn hb.2
 have l0 : (0 : Int) < (b : Int) ^ at_:=Int.pow_pos (by omega)
 have e1 : ((b ^ n : Nat) : Int) * (b : Int) = (b : Int) ^ at_ * (b : Int) * (b : Int) ^ (n - at_):=by
  push_cast
  rw [Int.mul_assoc,Int.mul_comm (b : Int) ((b : Int) ^ (n - at_)),<- Int.mul_assoc,<- Int.pow_add]
  congr 2
  omega
 have e2 : ((b ^ n : Nat) : Int) = (b : Int) ^ at_ * (b : Int) ^ (n - at_):=by
  push_cast
  rw [<- Int.pow_add]
  congr 1
  omega
 refine ⟨MN rows1 signs1 many1 b ((b : Int) ^ at_) (b ^ n * b),⟨r1,g1,r2,g2,many1,_,many2,_,rows1,rows2,signs1,signs2,M1,M2,⟨hb,by omega,pa⟩,⟨by omega,by omega⟩,(show b ^ n * b <= 1000 by omega),.inr (.inr (.inr (.inl ⟨rfl,b ^ n * b,fun f hf => ?_,rfl⟩)))⟩,rfl⟩
 rw [e2]
 refine F3 l0 (by omega) (by omega) ?_
 rw [<- e1]
 have : ((f : Nat) : Int) < ((b ^ n * b : Nat) : Int):=Int.ofNat_lt.mpr hf
 rw [Int.natCast_mul] at this
 exact this
theorem NF {H : Hp} {one other r1 g1 r2 g2 : Addr} {many1 many2 b n at_ : Nat} {rows1 rows2 : LL} {signs1 signs2 : LI} (M1 : MO H one r1 g1 many1 (b ^ n) rows1 signs1) (M2 : MO H other r2 g2 many2 (b ^ n) rows2 signs2) (hb : 2 <= b /\ b <= 9) (hn : n <= 3) (bn : b ^ n <= 9) (ha : at_ < n) (m5 : many1 <= 5) : ∃ W,WayAt H 4 one other b at_ W /\ W.wide = b ^ (n - 1):=by
 have b0 : 0 < b:=by omega
 have pa : b ^ at_ <= 9:=Nat.le_trans (Nat.pow_le_pow_right b0 (by omega)) bn
 have pn : b ^ (n - 1) <= 9:=Nat.le_trans (Nat.pow_le_pow_right b0 (by omega)) bn
 have l0 : (0 : Int) < (b : Int) ^ at_:=Int.pow_pos (by omega)
 have e1 : ((b ^ n : Nat) : Int) = (b : Int) ^ at_ * (b : Int) * (b : Int) ^ (n - 1 - at_):=by
  push_cast
  rw [<- Int.pow_succ,<- Int.pow_add]
  congr 1
  omega
 have e2 : ((b ^ (n - 1) : Nat) : Int) = (b : Int) ^ at_ * (b : Int) ^ (n - 1 - at_):=by
  push_cast
  rw [<- Int.pow_add]
  congr 1
  omega
 refine ⟨MM rows1 signs1 many1 b ((b : Int) ^ at_) (b ^ (n - 1)),⟨r1,g1,r2,g2,many1,_,many2,_,rows1,rows2,signs1,signs2,M1,M2,⟨hb,by omega,pa⟩,⟨by omega,by omega⟩,(show b ^ (n - 1) <= 1000 by omega),.inr (.inr (.inr (.inr ⟨rfl,b ^ (n - 1),Nat.pow_pos b0,m5,fun y hy => ?_,rfl⟩)))⟩,rfl⟩
 refine Ka l0 b0 e1 (by omega) ?_
 rw [<- e2]
 exact Int.ofNat_lt.mpr hy
section
variable {P : Program} {w : World} {K : PySem.W.Frag} {mg : Str -> Option Value} {base : Heap} {f : Addr} {fd : FuncData} {dV : Value} {C : Addr} {O : WO}
theorem sc_law : FnScope ["_law_script","_law_base","_law_many","_law_wide_here","_law_way","_law_one","_law_other","_law_at","_law_walk_here","_law_found","_law_count","_law_again"] ["_law_script"] (af tH):=⟨rfl,rfl,rfl,by decide +kernel,rfl,by decide +kernel,by decide +kernel⟩
theorem Mh (F : FunD K "law" "law" tH dV f fd) (osame : ∀ {H H' : Hp} {x : Addr} {W : Wlk},O H x W -> Same H H' -> O H' x W) (ook : ∀ {H : Hp} {x : Addr} {W : Wlk},O H x W -> W.Ok) (aI : DefOk P w K mg base "_law_number" 1 ["_law_script","_law_k"] [] (GK K)) (lh : DefOk P w K mg base "_law_sides" 1 ["_law_number_here"] [] y3) (bq : DefOk P w K mg base "_law_wide" 1 ["_law_base","_law_many"] [] pK) (fj : DefOk P w K mg base "_law_machine" 2 ["_law_script","_law_start","_law_wide_here","_law_many"] [] (Dw K))
  (m8 : DefOk P w K mg base "_law_long" 1 ["_law_wide_here","_law_many","_law_number_here"] [] FR) (nj : DefOk P w K mg base "_law_walk" 4 ["_law_way","_law_one","_law_other","_law_base","_law_at"] [] (Du O)) (xo : DefOk P w K mg base "grown" 4 ["walk","wide","most"] [] (fun vs H Q _ => hU C O vs H Q fun _ _ _ => False))
  (bg : DefOk P w K mg base "_law_is_machine" 2 ["_law_found","_law_wide_here"] [] pJ) (kg : DefOk P w K mg base "_law_walked" 4 ["_law_found","_law_way","_law_one","_law_other","_law_base","_law_at"] [] uV) (fk : DefOk P w K mg base "_law_refused" 5 ["_law_walk_here","_law_wide_here","_law_most"] [] (my O)) (fh : DefOk P w K mg base "_law_by_default" 5 ["_law_walk_here","_law_wide_here","_law_due"] [] (rS O))
  (aZ : mg "len" = none) (Ki : mg "max" = none) : FnOk P w K mg base CX0 6 f fd ["_law_script"] (GJ K):=by
 refine F.ok sc_law (fun vs H Q E h => ?_) (fun cdv A outer s H vs Q E hr h => ?_)
 ·obtain ⟨a,ns,rfl,_⟩:=h
  rfl
 obtain ⟨a,ns,rfl,hS,h63,k⟩:=h
 have hu3:=IH hr
 refine xJ (aU (PSW.mk (FI (aV lh hr (aa (aV aI hr (aa (pv 0) (aa ah ag))) ag)) (CJ rfl (dh (aL (i:=1) sc_law.nd rfl (Or.inl rfl)) (dh (aL (i:=2) sc_law.nd rfl (Or.inl rfl)) xr)))))
   (aU (PSW.mk (aC (i:=3) sc_law.nd rfl (Or.inl rfl) (aV bq hr (aa (pv 1) (aa (pv 2) ag)))))
   (aU (PSW.mk (aC (i:=4) sc_law.nd rfl (Or.inl rfl) (ay bu (aV aI hr (aa (pv 0) (aa ah ag))) ah)))
   (aU (PSW.mk (br (PW.pt (C1 (aO cK (pv 4) ah (aQ _)) (xu (aO cK (pv 2) ah (aQ _))))) (ai (aC (i:=4) sc_law.nd rfl (Or.inl rfl) ah)) aP))
   (aU (PSW.mk (aC (i:=5) sc_law.nd rfl (Or.inl rfl) (aV fj hr (aa (pv 0) (aa ah (aa (pv 3) (aa (ay bD ah (ay bu (aV aI hr (aa (pv 0) (aa ah ag))) ah)) ag)))))))
   (aU (PSW.mk (aC (i:=6) sc_law.nd rfl (Or.inl rfl) (aV fj hr (aa (pv 0) (aa (ay bD ah (ay bK (aK aN (by rfl) aZ cA (aa (aH az (pv 5) ah (fun _ _ => rfl)) ag)) (ay bD (pv 3) ah))) (aa (pv 3) (aa (ay bD ah (ay bu (aV aI hr (aa (pv 0) (aa ah ag))) ah)) ag)))))))
   (aU (PSW.mk (aC (i:=7) sc_law.nd rfl (Or.inl rfl) (ay bu (aV aI hr (aa (pv 0) (aa ah ag))) (aK (G0 rfl) (by rfl) Ki LV (aa ah (aa (pv 2) ag))))))
   (aU (PSW.mk (br (aO cK (pv 4) ah (aQ _)) (ak (aC (i:=7) sc_law.nd rfl (Or.inl rfl) (ay bu (aV aI hr (aa (pv 0) (aa ah ag))) (ay bD (pv 2) ah)))
   (ai (aC (i:=3) sc_law.nd rfl (Or.inl rfl) (ay bK (pv 3) (pv 1))))) aP))
   (aU (PSW.mk (br (aO cK (pv 4) ah (aQ _)) (ai (aC (i:=3) sc_law.nd rfl (Or.inl rfl) (ay mj (pv 3) (pv 1)))) aP))
   (aU (PSW.mk (br (aO cK (ay bu (aV aI hr (aa (pv 0) (aa ah ag))) ah) ah (aQ _)) (ak (aC (i:=4) sc_law.nd rfl (Or.inl rfl) ah)
   (ak (aC (i:=3) sc_law.nd rfl (Or.inl rfl) (ay bD ah (ay bu (aV aI hr (aa (pv 0) (aa ah ag))) ah)))
   (ai (aC (i:=5) sc_law.nd rfl (Or.inl rfl) (aV m8 hr (aa (pv 3) (aa (ay bD ah (ay bu (aV aI hr (aa (pv 0) (aa ah ag))) ah)) (aa (aV aI hr (aa (pv 0) (aa ah ag))) ag)))))))) (ai (br (PW.pt (C1 (aO Jx (pv 4) ah (aQ _)) (xu (aO cK (ay bu (aV aI hr (aa (pv 0) (aa ah ag))) ah) ah (aQ _))))) (ai (aC (i:=3) sc_law.nd rfl (Or.inl rfl) (ay bD ah (ay bu (aV aI hr (aa (pv 0) (aa ah ag))) (pv 3))))) aP))))
   (aU (PSW.mk (aC (i:=8) sc_law.nd rfl (Or.inl rfl) (aV nj hr (aa (pv 4) (aa (pv 5) (aa (pv 6) (aa (pv 1) (aa (pv 7) ag))))))))
   (aU (PSW.mk (aC (i:=9) sc_law.nd rfl (Or.inl rfl) (aV xo hr (aa (pv 8) (aa (pv 3) (aa ah ag))))))
   (aU (Ob (PTW.mk (PW.pt (qv (jI (gj (aV bg hr (aa (pv 9) (aa (pv 3) ag))))) (uK (jI (gj (aV kg hr (aa (pv 9) (aa (pv 4) (aa (pv 5) (aa (pv 6) (aa (pv 1) (aa (pv 7) ag))))))))))))) (u9 (PSW.mk (ax g9))) MQ)
   (aU (PSW.mk (aC (i:=10) sc_law.nd rfl (Or.inl rfl) (aK aN (by rfl) aZ cA (aa (aH az (pv 9) ah (fun _ _ => rfl)) ag))))
   (aU (PSW.mk (br (PW.pt (C1 (aO GC (pv 10) ah (aQ _)) (xu (jI (gj (aV fk hr (aa (pv 8) (aa (pv 3) (aa (ay Jy (pv 10) ah) ag))))))))) (ai (ax g9)) aP))
   (aU (PSW.mk (br (PW.pt (C1 (aO GC (pv 10) ah (aQ _)) (xu (jI (gj (aV fk hr (aa (pv 8) (aa (pv 3) (aa (ay bD ah (ay bu (aV aI hr (aa (pv 0) (aa ah ag))) (ay Jy (pv 10) ah))) ag))))))))) (ai (ax g9)) aP))
   (aU (PSW.mk (aC (i:=11) sc_law.nd rfl (Or.inl rfl) (aV xo hr (aa (pv 8) (aa (pv 3) (aa (pv 10) ag))))))
   (u9 (PSW.mk (ax (iB (aV bg hr (aa (pv 11) (aa (pv 3) ag))) (iB (mn ((Jv 2 hu3)) (pv 11) (pv 9) (aQ _)) (mw (aV fh hr (aa (pv 8) (aa (pv 3) (aa (pv 9) ag))))))))))))))))))))))))))) ?_
 refine ⟨_,rfl,a,0,ns,rfl,hS,h63,by decide,by decide,fun v0 z0 z1 => ⟨v0,rfl,fun t H1 b n s1 ht ok => ⟨t,_,rfl,qT_ ht,rfl,_,_,rfl,_,_,rfl,rfl,?_⟩⟩⟩
 obtain ⟨⟨b2,b9⟩,n3,bn⟩:=ok
 have hS1:=s1.seq hS
 have pe : ∀ t : Nat,((b : Nat) : Int) ^ t = ((b ^ t : Nat) : Int):=fun t => by push_cast; rfl
 have wp : 1 <= b ^ n:=Nat.pow_pos (by omega)
 try dsimp only [a7,cy,List.set]
 refine ⟨_,rfl,_,rfl,(b : Int),n,rfl,⟨by omega,by omega⟩,by omega,?_⟩
 try dsimp only [a7,cy,List.set]
 rw [pe n]
 refine ⟨_,rfl,a,1,ns,rfl,hS1,h63,by decide,by decide,fun v1 y0 y1 => ⟨_,_,rfl,rfl,(by show (0 : Int) < 5; decide),?_⟩⟩
 try dsimp only [a7,cy,List.set]
 have y5:=dg (a:=v1) (b:=5) (by decide)
 refine gn (fun σ' H' => ∃ way : Int,(0 <= way /\ way <= 4) /\ (way = 4 -> 1 <= n) /\ σ' = [some (.ref a),some (.int b),some (.int n),some (.int ((b ^ n : Nat) : Int)),some (.int way),none,none,none,none,none,none,none] /\ H' = H1) ?_ (fun D' nxt => ?_)
 rotate_left
 ·refine ⟨_,rfl,rfl,_,rfl,kE (fun c => ⟨_,rfl,rfl,_,rfl,kE (fun c2 => ?_) (fun c2 => ?_)⟩) (fun c => kD ?_)⟩
  ·exact nxt _ _ ⟨1,by decide,fun z => absurd z (by decide),rfl,rfl⟩
  ·exact nxt _ _ ⟨_,⟨y5.1,by omega⟩,fun _ => by omega,rfl,rfl⟩
  ·exact nxt _ _ ⟨_,⟨y5.1,by omega⟩,fun z => absurd z c,rfl,rfl⟩
 rintro σ' H' ⟨way,wy,w4,rfl,rfl⟩
 refine ⟨_,rfl,_,rfl,_,rfl,a,2,ns,rfl,hS1,h63,by decide,by decide,fun v2 p0 p1 => ⟨_,_,rfl,rfl,(by show (0 : Int) < 5; decide),_,_,rfl,rfl,?_⟩⟩
 have m2:=dg (a:=v2) (b:=5) (by decide)
 obtain ⟨rooms,er⟩:=gI (x:=1 + v2 % 5) (by omega)
 refine ⟨a,6,rooms,b ^ n,ns,by show [V.ref a,V.int 6,V.int ((b ^ n : Nat) : Int),V.int (1 + v2 % 5)] = _; rw [er],hS1,h63,⟨by decide,by decide⟩,⟨by omega,by omega⟩,⟨wp,by omega⟩,fun one r1 g1 H2 rows1 signs1 s2 M1 R1 l1 => ?_⟩
 try dsimp only [a7,cy,List.set]
 have hS2:=s2.seq hS1
 obtain ⟨ras1,hr1,hA1⟩:=M1.rows
 have la1 : (ras1.map V.ref).length = rooms:=by rw [lm_,hA1.length,R1.len]
 have pr:=rb (a:=(rooms : Int)) (b:=((b ^ n : Nat) : Int) + 1) (m:=5) (n:=10) (by omega) (by omega) (by omega) (by omega)
 refine ⟨_,rfl,_,rfl,one,_,_,_,rfl,rfl,qT_ M1.tup,rfl,r1,_,rfl,.inr (qT_ hr1),_,rfl,_,_,rfl,rfl,_,_,rfl,rfl,.inl ⟨by omega,by omega⟩,_,_,rfl,rfl,?_⟩
 refine ⟨_,rfl,_,rfl,a,3,ns,rfl,hS2,h63,by decide,by decide,fun v3 q0 q1 => ⟨_,_,rfl,rfl,(by show (0 : Int) < 5; decide),_,_,rfl,rfl,?_⟩⟩
 have m3:=dg (a:=v3) (b:=5) (by decide)
 obtain ⟨rooms2,er2⟩:=gI (x:=1 + v3 % 5) (by omega)
 refine ⟨a,6 + (rooms : Int) * (((b ^ n : Nat) : Int) + 1),rooms2,b ^ n,ns,by show [V.ref a,V.int (6 + ((ras1.map V.ref).length : Int) * (((b ^ n : Nat) : Int) + 1)),V.int ((b ^ n : Nat) : Int),V.int (1 + v3 % 5)] = _; rw [er2,la1],hS2,h63,⟨by omega,by omega⟩,⟨by omega,by omega⟩,⟨wp,by omega⟩,fun other r2 g2 H3 rows2 signs2 s3 M2 R2 l2 => ?_⟩
 try dsimp only [a7,cy,List.set]
 have hS3:=s3.seq hS2
 have O1 : MO H3 one r1 g1 rooms (b ^ n) rows1 signs1:=⟨M1.same fun b xs e => s3 _ _ e,R1,l1,by omega⟩
 have O2 : MO H3 other r2 g2 rooms2 (b ^ n) rows2 signs2:=⟨M2,R2,l2,by omega⟩
 have s03:=s1.trans (s2.trans s3)
 refine ⟨_,rfl,a,4,ns,rfl,hS3,h63,by decide,by decide,fun v4 j0 j1 => ⟨_,rfl,_,_,rfl,_,_,rfl,rfl,?_,?_⟩⟩
 ·show (0 : Int) < if (n : Int) > 1 then (n : Int) else 1
  split <;> omega
 have a4:=dg (a:=v4) (b:=if (n : Int) > 1 then (n : Int) else 1) (by split <;> omega)
 obtain ⟨at0,ea⟩:=gI a4.1
 rw [ea] at a4
 have at1 : at0 <= n /\ (1 <= n -> at0 < n):=by
  have:=a4.2
  split at this <;> omega
 try dsimp only [a7,cy,List.set]
 rw [ea]
 refine gn (fun σ' H' => ∃ at_ wide : Nat,σ' = [some (.ref a),some (.int b),some (.int n),some (.int wide),some (.int way),some (.ref one),some (.ref other),some (.int at_),none,none,none,none] /\ H' = H3 /\ ((way = 3 /\ at_ <= n /\ wide = b ^ n * b) \/ (way ≠ 3 /\ at_ = at0 /\ wide = b ^ n))) ?_ (fun D' nxt => ?_)
 rotate_left
 ·refine ⟨_,rfl,rfl,_,rfl,kE (fun c => ?_) (fun c => ?_)⟩
  ·refine ⟨_,rfl,a,4,ns,rfl,hS3,h63,by decide,by decide,fun v5 j2 j3 => ⟨_,rfl,_,_,rfl,rfl,_,_,rfl,rfl,by omega,?_⟩⟩
   have a5:=dg (a:=v5) (b:=(n : Int) + 1) (by omega)
   obtain ⟨at_,ea5⟩:=gI a5.1
   try dsimp only [a7,cy,List.set]
   rw [ea5]
   refine ⟨_,rfl,_,rfl,_,_,rfl,rfl,.inl ⟨by omega,by omega⟩,nxt _ _ ⟨at_,b ^ n * b,?_,rfl,.inl ⟨c,by omega,rfl⟩⟩⟩
   rw [Int.natCast_mul (b ^ n) b]
   rfl
  ·exact nxt _ _ ⟨at0,b ^ n,rfl,rfl,.inr ⟨c,rfl,rfl⟩⟩
 rintro σ' H' ⟨at_,wide,rfl,eH,cs⟩
 have eH:=eH.symm
 subst eH
 refine gn (fun σ' H' => ∃ (wide : Nat) (W : Wlk),σ' = [some (.ref a),some (.int b),some (.int n),some (.int wide),some (.int way),some (.ref one),some (.ref other),some (.int at_),none,none,none,none] /\ H' = H3 /\ WayAt H3 way one other b at_ W /\ wide <= W.wide /\ 1 <= wide) ?_ (fun D' nxt => ?_)
 rotate_left
 ·refine ⟨_,rfl,rfl,_,rfl,kE (fun c => ?_) (fun c => ?_)⟩
  ·rcases cs with ⟨z,_⟩ | ⟨_,e1,e2⟩
   ·omega
   subst e1 e2
   obtain ⟨W,wa,eW⟩:=NF O1 O2 ⟨b2,b9⟩ n3 bn (at1.2 (w4 c)) (by omega)
   refine ⟨_,rfl,_,rfl,_,_,rfl,rfl,⟨by omega,by omega⟩,nxt _ _ ⟨b ^ (n - 1),W,?_,rfl,by rw [c]; exact wa,by rw [eW]; exact Nat.le_refl _,Nat.pow_pos (by omega)⟩⟩
   have : ((b ^ n : Nat) : Int) / (b : Int) = ((b ^ (n - 1) : Nat) : Int):=by
    have e : b ^ n = b ^ (n - 1) * b:=by
     have:=w4 c
     rw [<- Nat.pow_succ]
     congr 1
     omega
    rw [e,Int.natCast_mul]
    exact Int.mul_ediv_cancel _ (by omega)
   show [some (V.ref a),some (V.int b),some (V.int n),some (V.int (((b ^ n : Nat) : Int) / (b : Int))),some (V.int way),some (V.ref one),some (V.ref other),some (V.int at_),none,none,none,none] = _
   rw [this]
  ·rcases cs with ⟨z,ha,e2⟩ | ⟨c3,e1,e2⟩
   ·subst e2
    obtain ⟨W,wa,eW⟩:=NG O1 O2 ⟨b2,b9⟩ n3 bn ha (by omega)
    exact nxt _ _ ⟨_,W,rfl,rfl,by rw [z]; exact wa,by rw [eW]; exact Nat.le_refl _,Nat.mul_pos wp (by omega)⟩
   ·subst e1 e2
    have pa : b ^ at_ <= 9:=Nat.le_trans (Nat.pow_le_pow_right (by omega) at1.1) bn
    have sz : (2 <= b /\ b <= 9) /\ at_ <= 3 /\ b ^ at_ <= 9:=⟨⟨b2,b9⟩,by omega,pa⟩
    have hw : way = 0 \/ way = 1 \/ way = 2:=by omega
    rcases hw with z | z | z
    ·exact nxt _ _ ⟨_,wlk0,rfl,rfl,⟨r1,g1,r2,g2,rooms,b ^ n,rooms2,b ^ n,rows1,rows2,signs1,signs2,O1,O2,sz,⟨by omega,by omega⟩,Nat.le_refl _,.inl ⟨z,rfl⟩⟩,(show b ^ n <= 1000 by omega),wp⟩
    ·exact nxt _ _ ⟨_,Ln rows1 signs1 rooms (b ^ n),rfl,rfl,⟨r1,g1,r2,g2,rooms,b ^ n,rooms2,b ^ n,rows1,rows2,signs1,signs2,O1,O2,sz,⟨by omega,by omega⟩,(show b ^ n <= 1000 by omega),.inr (.inl ⟨z,rfl⟩)⟩,Nat.le_refl _,wp⟩
    ·exact nxt _ _ ⟨_,MP rows1 rows2 signs1 signs2 rooms rooms2 (b ^ n),rfl,rfl,⟨r1,g1,r2,g2,rooms,b ^ n,rooms2,b ^ n,rows1,rows2,signs1,signs2,O1,O2,sz,⟨by omega,by omega⟩,(show b ^ n <= 1000 by omega),.inr (.inr (.inl ⟨z,⟨rfl,by omega,by omega⟩,rfl⟩))⟩,Nat.le_refl _,wp⟩
 clear cs
 rintro σ' H' ⟨wide,W,rfl,eH,wa,ww,wd1⟩
 have eH:=eH.symm
 subst eH
 refine gn (fun σ' H' => ∃ (way : Int) (one : Addr) (wide : Nat) (W : Wlk),σ' = [some (.ref a),some (.int b),some (.int n),some (.int wide),some (.int way),some (.ref one),some (.ref other),some (.int at_),none,none,none,none] /\ Same H H' /\ WayAt H' way one other b at_ W /\ wide <= W.wide /\ 1 <= wide) ?_ (fun D' nxt => ?_)
 rotate_left
 ·refine ⟨_,rfl,a,5,ns,rfl,hS3,h63,by decide,by decide,fun v5 j2 j3 => ⟨_,_,rfl,rfl,(by show (0 : Int) < 6; decide),rfl,_,rfl,kE (fun c => ?_) (fun c => ?_)⟩⟩
  ·refine ⟨_,rfl,a,2,ns,rfl,hS3,h63,by decide,by decide,fun v6 j4 j5 => ⟨_,_,rfl,rfl,(by show (0 : Int) < 2; decide),_,_,rfl,rfl,?_⟩⟩
   have m6:=dg (a:=v6) (b:=2) (by decide)
   obtain ⟨wl,ewl⟩:=gI (x:=1 + v6 % 2) (by omega)
   try dsimp only [a7,cy,List.set]
   rw [ewl]
   refine ⟨_,rfl,_,rfl,a,4,ns,rfl,hS3,h63,by decide,by decide,fun v7 j6 j7 => ⟨_,_,rfl,rfl,(by show (0 : Int) < 20; decide),_,_,rfl,rfl,?_⟩⟩
   have m7:=dg (a:=v7) (b:=20) (by decide)
   obtain ⟨ml,eml⟩:=gI (x:=190 + v7 % 20) (by omega)
   refine ⟨_,rfl,a,3,ns,rfl,hS3,h63,by decide,by decide,fun v8 j8 j9 => ?_⟩
   refine ⟨wl,ml,v8,by show [V.int (wl : Int),V.int (190 + v7 % 20),V.int v8] = _; rw [eml],⟨by omega,by omega⟩,⟨by omega,by omega⟩,fun oneL rL gL H4 rowsL signsL s4 ML RL lL => ?_⟩
   obtain ⟨q1',q2',q3',q4',q5',q6',q7',q8',q9',q10',q11',q12',_,_,sz,_⟩:=wa
   exact nxt _ _ ⟨1,oneL,wl,Ln rowsL signsL ml wl,rfl,s03.trans s4,⟨rL,gL,r2,g2,ml,wl,rooms2,_,rowsL,rows2,signsL,signs2,⟨ML,RL,lL,by omega⟩,O2.same s4,sz,⟨by omega,by omega⟩,(show wl <= 1000 by omega),.inr (.inl ⟨rfl,rfl⟩)⟩,Nat.le_refl _,by omega⟩
  ·refine ⟨_,rfl,_,_,rfl,rfl,_,rfl,zH (fun c3 => ?_) (fun c3 => kD ?_)⟩
   ·refine ⟨_,rfl,a,5,ns,rfl,hS3,h63,by decide,by decide,fun v6 j4 j5 => ⟨_,_,rfl,rfl,(by show (0 : Int) < 6; decide),rfl,_,rfl,kE (fun c4 => ?_) (fun c4 => ?_)⟩⟩
    ·refine ⟨_,rfl,a,4,ns,rfl,hS3,h63,by decide,by decide,fun v7 j6 j7 => ⟨_,rfl,_,_,rfl,rfl,by omega,_,_,rfl,rfl,?_⟩⟩
     have m7:=dg (a:=v7) (b:=(wide : Int)) (by omega)
     obtain ⟨w7,e7⟩:=gI (x:=1 + v7 % (wide : Int)) (by omega)
     refine nxt _ _ ⟨way,one,w7,W,?_,s03,wa,by omega,by omega⟩
     show [some (V.ref a),some (V.int b),some (V.int n),some (V.int (1 + v7 % (wide : Int))),some (V.int way),some (V.ref one),some (V.ref other),some (V.int at_),none,none,none,none] = _
     rw [e7]
    ·exact nxt _ _ ⟨way,one,wide,W,rfl,s03,wa,ww,wd1⟩
   ·exact nxt _ _ ⟨way,one,wide,W,rfl,s03,wa,ww,wd1⟩
 clear wa ww wd1
 rintro σ' H4 ⟨way,one,wide,W,rfl,s4,wa,ww,wd1⟩
 have w1000 : wide <= 1000:=by
  obtain ⟨_,_,_,_,_,_,_,_,_,_,_,_,_,_,_,_,q,_⟩:=wa
  omega
 have hS4:=s4.seq hS
 refine ⟨_,rfl,_,rfl,_,rfl,_,rfl,_,rfl,way,one,other,b,at_,W,rfl,wa,fun x H5 s5 ox => ?_⟩
 have ok:=ook ox
 have wa5:=wa.same s5
 have few:=fun n => wa.few ok ww n
 try dsimp only [a7,cy,List.set]
 refine ⟨_,rfl,_,rfl,x,wide,1000,W,rfl,ox,ww,w1000,⟨by decide,by decide⟩,fun m r g rows ps H6 s6 M G el le inn => ?_,fun d H' n' _ _ hn => ?_⟩
 rotate_left
 ·have:=few n'
  omega
 try dsimp only [a7,cy,List.set]
 have lps : ps.length <= 300:=by
  have:=few rows.length
  rw [<- G.pl] at this
  exact this
 have lsg : (ps.map W.sg).length = rows.length:=by rw [lm_,el]
 refine ⟨_,rfl,_,rfl,m,r,g,wide,rows,ps.map W.sg,rfl,M,G.ok el,lsg,_,rfl,kD ?_⟩
 refine ⟨_,rfl,_,rfl,_,rfl,_,rfl,_,rfl,_,rfl,m,r,g,way,one,other,b,at_,wide,W,rows,ps,rfl,wa5.same s6,ok,M,G,el,le,ww,w1000,inn,fun H7 s7 => ⟨_,rfl,kD ?_⟩⟩
 have s47:=s5.trans (s6.trans s7)
 have o7:=osame ox (s6.trans s7)
 have M7:=M.same fun b xs e => s7 _ _ e
 have hS7:=s47.seq hS4
 obtain ⟨ras,hr7,hA7⟩:=M7.rows
 have lra : (ras.map V.ref).length = ps.length:=by rw [lm_,hA7.length,el]
 refine ⟨_,rfl,m,_,_,_,rfl,rfl,qT_ M7.tup,rfl,r,_,rfl,.inr (qT_ hr7),?_⟩
 try dsimp only [a7,cy,List.set]
 rw [lra]
 have lall : (cj W.st W.b wide rows.length).length = ps.length:=by rw [<- G.pl]
 refine gn (fun σ' H' => σ' = [some (.ref a),some (.int b),some (.int n),some (.int wide),some (.int way),some (.ref one),some (.ref other),some (.int at_),some (.ref x),some (.ref m),some (.int (ps.length : Int)),none] /\ Same H7 H') ?_ (fun D' nxt => ?_)
 rotate_left
 ·refine ⟨_,rfl,_,_,rfl,rfl,_,rfl,zH (fun c => ?_) (fun c => kD (nxt _ _ ⟨rfl,Same.refl _⟩))⟩
  obtain ⟨c1,ec1⟩:=gI (x:=(ps.length : Int) - 1) (by omega)
  refine ⟨_,rfl,_,rfl,_,rfl,_,_,rfl,rfl,x,wide,c1,rows.length,W,by show [V.ref x,V.int (wide : Int),V.int ((ps.length : Int) - 1)] = _; rw [ec1],o7,ww,w1000,⟨by omega,by omega⟩,by omega,fun H8 s8 => ⟨_,rfl,kD (nxt _ _ ⟨rfl,s8⟩)⟩⟩
 rintro σ' H8 ⟨rfl,s8⟩
 have o8:=osame o7 s8
 have hS8:=s8.seq hS7
 refine gn (fun σ' H' => σ' = [some (.ref a),some (.int b),some (.int n),some (.int wide),some (.int way),some (.ref one),some (.ref other),some (.int at_),some (.ref x),some (.ref m),some (.int (ps.length : Int)),none] /\ Same H8 H') ?_ (fun D' nxt => ?_)
 rotate_left
 ·refine ⟨_,rfl,_,_,rfl,rfl,_,rfl,zH (fun c => ?_) (fun c => kD (nxt _ _ ⟨rfl,Same.refl _⟩))⟩
  refine ⟨_,rfl,_,rfl,_,rfl,a,0,ns,rfl,hS8,h63,by decide,by decide,fun v9 j2 j3 => ⟨_,rfl,_,_,rfl,rfl,_,_,rfl,rfl,by omega,_,_,rfl,rfl,?_⟩⟩
  have m9:=dg (a:=v9) (b:=(ps.length : Int) - 1) (by omega)
  obtain ⟨c1,ec1⟩:=gI (x:=1 + v9 % ((ps.length : Int) - 1)) (by omega)
  refine ⟨x,wide,c1,rows.length,W,by show [V.ref x,V.int (wide : Int),V.int (1 + v9 % ((ps.length : Int) - 1))] = _; rw [ec1],o8,ww,w1000,⟨by omega,by omega⟩,by omega,fun H9 s9 => ⟨_,rfl,kD (nxt _ _ ⟨rfl,s9⟩)⟩⟩
 rintro σ' H9 ⟨rfl,s9⟩
 have o9:=osame o8 s9
 have s79:=s8.trans s9
 have p0 : 1 <= ps.length:=by
  have:=(pD (st:=W.st) (b:=W.b) (wide:=wide) (Nat.zero_le rows.length)).length_le
  rw [<- G.pl] at this
  exact this
 refine ⟨_,rfl,_,rfl,_,rfl,x,wide,ps.length,W,rfl,o9,ww,w1000,⟨p0,by omega⟩,fun m' r' g' rows' ps' H10 s10 M' G' el' le' inn' => ?_,fun d H' n' _ _ hn => ?_⟩
 rotate_left
 ·have:=G.all el n'
  omega
 obtain ⟨e1,e2⟩:=G.one el G' el'
 subst e1 e2
 try dsimp only [a7,cy,List.set]
 have M10:=M7.same fun b xs e => s10 _ _ (s79 _ _ e)
 refine ⟨_,rfl,_,rfl,m',r',g',wide,rows,ps.map W.sg,rfl,M',G.ok el,lsg,_,rfl,lY ?_⟩
 refine ⟨_,rfl,_,rfl,m',m,_,_,rfl,rfl,qT_ M'.tup,qT_ M10.tup,MachAt.eqD M' M10,_,rfl,lY ?_⟩
 exact ⟨_,rfl,_,rfl,_,rfl,x,m,r,g,wide,W,rows,ps,rfl,osame o9 s10,ww,w1000,M10,G,el,fun H' _ => k H'⟩
end
theorem xP {K : PySem.W.Frag} {C : Addr} {v : Value} {b : Bool} (h : PySem.W.mroIn K C v = some b) : (PySem.W.clsIn K C).isSome = true:=by
 unfold PySem.W.mroIn at h
 obtain ⟨cd,e,_⟩:=Option.bind_eq_some_iff.mp h
 rw [e]
 rfl
theorem M9 {K : PySem.W.Frag} {t : Value} {D : Addr} {b : Bool} (h1 : PySem.W.mroIn K D (.type "object") = some true) (h2 : PySem.W.typeIn K (.ref D) = some (.type "type")) (h3 : PySem.W.subIn K t (.ref D) = some b) : PySem.W.kitCls K t (.ref D) = some b:=by
 unfold PySem.W.kitCls
 dsimp only
 rw [if_pos (by rw [xP h1,h2]; decide)]
 exact h3
theorem B5 {K : PySem.W.Frag} {C D : Addr} {b : Bool} (h1 : PySem.W.mroIn K D (.type "object") = some true) (h2 : PySem.W.typeIn K (.ref D) = some (.type "type")) (h3 : PySem.W.subIn K (.ref C) (.ref D) = some b) (ne : (Value.ref C == Value.ref D) = false) :
  PySem.W.kitOne K (.ref C) (.ref D) = some b:=by
 unfold PySem.W.kitOne
 rw [if_neg (by rw [ne]; decide)]
 exact M9 h1 h2 h3
theorem Mb {K : PySem.W.Frag} {C : Addr} (h : PySem.W.subIn K (.ref C) (.type "ValueError") = some true) : PySem.W.kitOne K (.ref C) (.type "ValueError") = some true:=by
 unfold PySem.W.kitOne
 rw [if_neg (by intro z; cases beq_iff_eq.mp z)]
 unfold PySem.W.kitCls
 dsimp only
 rw [if_pos (by decide +kernel)]
 exact h
theorem L4 {K : PySem.W.Frag} {C F : Addr} (h0 : PySem.W.subIn K (.ref F) (.type "BaseException") = some true) (h1 : PySem.W.mroIn K F (.type "object") = some true) (h2 : PySem.W.typeIn K (.ref F) = some (.type "type")) (h3 : PySem.W.subIn K (.ref C) (.ref F) = some true) :
  PySem.W.exmOne K (.ref C) (.ref F) = some true:=by
 unfold PySem.W.exmOne
 rw [if_pos (by rw [h0]; decide)]
 exact M9 h1 h2 h3
section
variable {P : Program} {w : World} {K : PySem.W.Frag} {mg : Str -> Option Value} {base : Heap} {f : Addr} {fd : FuncData} {dV : Value} {C F0 D1 D2 D3 D4 D5 D6 D7 D8 : Addr}
theorem GS (ga : PySem.W.findIn K (.ref C) "__getattribute__" = some (some (.builtin "BaseException.__getattribute__"))) (gt : PySem.W.findIn K (.ref C) "__getattr__" = some none) (cl : PySem.W.findIn K (.ref C) "__class__" = some (some (.builtin "object.__class__")))
  (gg : PySem.W.specialIn K (.builtin "object.__class__") "__get__" = some (some (.builtin "getset_descriptor.__get__"))) (tk : PySem.W.takesIn K (.builtin "object.__class__") = some true) (ob : PySem.W.mroIn K C (.type "object") = some true) (be : PySem.W.mroIn K C (.type "BaseException") = some true) : XCls K C:=
 ⟨ga,gt,cl,gg,tk,ob,be,xP ob⟩
theorem Kb {f0 F1 : Addr} (ex : oj K C f0 = true) (fn : PySem.W.isFn K (.ref f0) = true) (kp : PySem.W.keepIn K (.ref C) = true) (sa : PySem.W.findIn K (.ref C) "__setattr__" = some (some (.builtin "object.__setattr__"))) (hd : PySem.W.hasDictIn K C = true) (mr : mroIs K C [C,F1] = true)
  (ga : PySem.W.findIn K (.ref C) "__getattribute__" = some (some (.builtin "BaseException.__getattribute__"))) (gt : PySem.W.findIn K (.ref C) "__getattr__" = some none) (cl : PySem.W.findIn K (.ref C) "__class__" = some (some (.builtin "object.__class__")))
  (gg : PySem.W.specialIn K (.builtin "object.__class__") "__get__" = some (some (.builtin "getset_descriptor.__get__"))) (tk : PySem.W.takesIn K (.builtin "object.__class__") = some true) (ob : PySem.W.mroIn K C (.type "object") = some true) (be : PySem.W.mroIn K C (.type "BaseException") = some true) : XInit K C f0:=
 ⟨ex,fn,kp,sa,hd,⟨_,mr⟩,GS ga gt cl gg tk ob be⟩
theorem EG {f0 : Addr} {O : WO} (F : FunD K "_law_refused" "_law_refused" b8 dV f fd) (c : XCls K C) (xi : XInit K C f0) (na : PySem.W.findIn K (.ref C) "most" = some none)
  (bQ : mg "FigureError" = some (.ref F0)) (cM : mg "TooGreat" = some (.ref C)) (xm : PySem.W.exmOne K (.ref C) (.ref C) = some true)
  (f1 : PySem.W.mroIn K F0 (.type "object") = some true) (f2 : PySem.W.typeIn K (.ref F0) = some (.type "type")) (f3 : PySem.W.subIn K (.ref C) (.ref F0) = some true) (f4 : (Value.ref C == Value.ref F0) = false)
  (kv : PySem.W.subIn K (.ref C) (.type "ValueError") = some true)
  (g1 : mg "NoFigures" = some (.ref D1)) (o1 : PySem.W.mroIn K D1 (.type "object") = some true) (t1 : PySem.W.typeIn K (.ref D1) = some (.type "type")) (u1 : PySem.W.subIn K (.ref C) (.ref D1) = some false) (e1 : (Value.ref C == Value.ref D1) = false)
  (g2 : mg "NoMachine" = some (.ref D2)) (o2 : PySem.W.mroIn K D2 (.type "object") = some true) (t2 : PySem.W.typeIn K (.ref D2) = some (.type "type")) (u2 : PySem.W.subIn K (.ref C) (.ref D2) = some false) (e2 : (Value.ref C == Value.ref D2) = false)
  (g3 : mg "NoName" = some (.ref D3)) (o3 : PySem.W.mroIn K D3 (.type "object") = some true) (t3 : PySem.W.typeIn K (.ref D3) = some (.type "type")) (u3 : PySem.W.subIn K (.ref C) (.ref D3) = some false) (e3 : (Value.ref C == Value.ref D3) = false)
  (g4 : mg "NoPower" = some (.ref D4)) (o4 : PySem.W.mroIn K D4 (.type "object") = some true) (t4 : PySem.W.typeIn K (.ref D4) = some (.type "type")) (u4 : PySem.W.subIn K (.ref C) (.ref D4) = some false) (e4 : (Value.ref C == Value.ref D4) = false)
  (g5 : mg "NoRow" = some (.ref D5)) (o5 : PySem.W.mroIn K D5 (.type "object") = some true) (t5 : PySem.W.typeIn K (.ref D5) = some (.type "type")) (u5 : PySem.W.subIn K (.ref C) (.ref D5) = some false) (e5 : (Value.ref C == Value.ref D5) = false)
  (g6 : mg "NoSome" = some (.ref D6)) (o6 : PySem.W.mroIn K D6 (.type "object") = some true) (t6 : PySem.W.typeIn K (.ref D6) = some (.type "type")) (u6 : PySem.W.subIn K (.ref C) (.ref D6) = some false) (e6 : (Value.ref C == Value.ref D6) = false)
  (g7 : mg "NoText" = some (.ref D7)) (o7 : PySem.W.mroIn K D7 (.type "object") = some true) (t7 : PySem.W.typeIn K (.ref D7) = some (.type "type")) (u7 : PySem.W.subIn K (.ref C) (.ref D7) = some false) (e7 : (Value.ref C == Value.ref D7) = false)
  (g8 : mg "TooWide" = some (.ref D8)) (o8 : PySem.W.mroIn K D8 (.type "object") = some true) (t8 : PySem.W.typeIn K (.ref D8) = some (.type "type")) (u8 : PySem.W.subIn K (.ref C) (.ref D8) = some false) (e8 : (Value.ref C == Value.ref D8) = false)
  (kL : DefX2 P w K mg base "grown" 4 ["walk","wide","most"] [] (hU C O)) (dN : DefH P w K mg base "_law_whole" 1 ["_law_found"] [] hV) (aE : mg "isinstance" = none) (gk : mg "ValueError" = none) : FnOk P w K mg base CX0 5 f fd ["_law_walk_here","_law_wide_here","_law_most"] (my O):=by
 have k1:=B5 o1 t1 u1 e1
 have k2:=B5 o2 t2 u2 e2
 have k3:=B5 o3 t3 u3 e3
 have k4:=B5 o4 t4 u4 e4
 have k5:=B5 o5 t5 u5 e5
 have k6:=B5 o6 t6 u6 e6
 have k7:=B5 o7 t7 u7 e7
 have k8:=B5 o8 t8 u8 e8
 refine EF F c xi na bQ cM xm (B5 f1 f2 f3 f4) (Mb kv) g1 g2 g3 g4 g5 g6 g7 g8 (B4 fun c hc => ?_) (B4 fun c hc => ?_) kL dN aE gk
 ·simp only [List.map_cons,List.map_nil,List.mem_cons,List.not_mem_nil,or_false] at hc
  rcases hc with rfl | rfl | rfl | rfl
  ·exact k1
  ·exact k2
  ·exact k3
  ·exact k4
 ·simp only [List.map_cons,List.map_nil,List.mem_cons,List.not_mem_nil,or_false] at hc
  rcases hc with rfl | rfl | rfl | rfl
  ·exact k5
  ·exact k6
  ·exact k7
  ·exact k8
end
@[elab_as_elim] theorem Ca {motive : List Value -> Prop} {us : List Value} (hl : us.length = 1) (h : ∀ a0,motive [a0]) : motive us:=match us,hl with | [a0],_ => h _
@[elab_as_elim] theorem q5 {motive : List Value -> Prop} {us : List Value} (hl : us.length = 2) (h : ∀ a0 a1,motive [a0,a1]) : motive us:=match us,hl with | [a0,a1],_ => h _ _
@[elab_as_elim] theorem sM {motive : List Value -> Prop} {us : List Value} (hl : us.length = 3) (h : ∀ a0 a1 a2,motive [a0,a1,a2]) : motive us:=match us,hl with | [a0,a1,a2],_ => h _ _ _
@[elab_as_elim] theorem IW {motive : List Value -> Prop} {us : List Value} (hl : us.length = 4) (h : ∀ a0 a1 a2 a3,motive [a0,a1,a2,a3]) : motive us:=match us,hl with | [a0,a1,a2,a3],_ => h _ _ _ _
@[elab_as_elim] theorem Mc {motive : List Value -> Prop} {us : List Value} (hl : us.length = 5) (h : ∀ a0 a1 a2 a3 a4,motive [a0,a1,a2,a3,a4]) : motive us:=match us,hl with | [a0,a1,a2,a3,a4],_ => h _ _ _ _ _
@[elab_as_elim] theorem NR {motive : List Value -> Prop} {us : List Value} (hl : us.length = 6) (h : ∀ a0 a1 a2 a3 a4 a5,motive [a0,a1,a2,a3,a4,a5]) : motive us:=match us,hl with | [a0,a1,a2,a3,a4,a5],_ => h _ _ _ _ _ _
@[elab_as_elim] theorem Od {motive : List Value -> Prop} {us : List Value} (hl : us.length = 7) (h : ∀ a0 a1 a2 a3 a4 a5 a6,motive [a0,a1,a2,a3,a4,a5,a6]) : motive us:=match us,hl with | [a0,a1,a2,a3,a4,a5,a6],_ => h _ _ _ _ _ _ _
theorem all_mk {l : PySem.W.OpenLaw} {w : World} {K : PySem.W.Frag} {h : Heap} {mg : Str -> Option Value} {fa : Addr} (X : K.In h) (G : h.Ns mainGlobals mg) (hfa : mg "law" = some (.ref fa))
  {iM jR jQ dW fK fJ dU fH fG cV dn dk dj dS dR bh qU jw oy kB lV eD bZ bC bN bX cu BM kz lU oo jt om lS ow jv ou lR oq lQ fO kA fN ju fM IB : Addr} {zZ zj Ct Ba Cs A9 uC tW wG vy wF vx uB tV wD vw wC vv rq qA tu rY tq rX tm rW uA tU uz tT pb nJ EC DQ wK vC CB Bh yE xF z9 zq p9 pQ p8 pP mQ mK oZ nH p7 pO Cv Bc Jc Ie yC xD z8 zp Cw Bd wH vz Cu Bb z7 zo CA Bg wJ vB Cz Bf z5 zm Cy Be z4 zk rC qE yD xE rB qD wI vA rA qB Mg Ig : Option Addr} {Aj Df De uS xg xf uR xb w9 rO tN tM tL uQ uP pz EW xl Dn yP Ao qj qi mT pw qh Dh JU yN An Di xh Dg Am Dm xk Dk Al Dj Ak rR yO rQ xj rP Mx : Array (Option Value)} {zT zI zA Aa qk zu Cj BR BC CO r8 Bq Ci BQ BB CM r6 Bp uy ur uh uJ kP uc wu vY vP wO mF vH wt vX vO wN mE vG ux uq ug uI kO ub wq vW vN wM mD vF wm vV vM wL mC vE rh qV qO rE jm qK tj sG sy tE jN su sZ sE sx tD jM sr sY sC sv tw jL sq uw um uf uH kN ua uv uk ue uG kM t9 oY oC oh ph gU oa EB Ej Ea EO vd D0 wB we vT wV mJ vL Cr B2 BJ C0 sk Bx yB yh xW yJ n5 xT zY zN zF Af qq zz p6 pZ pW qd iK pT p5 pY pV qc iJ pS mP mO mM mR gm mL oX oB og pf gT n9 p3 pX pU qb iI pR Cm BU BE CS sd Bs Jb IL Iu JK DU Iq yz yf xU yH nZ xR zX zM zE Ae qp zy Cn BV BF CU se Bt wx vZ vQ wQ mG vI Ck BS BD CQ r9 Br zW zL zD Ad qo zx Cq BZ BI CZ sj Bw wA wc vS wU mI vK Cp BX BH CY si Bv zV zK zC Ac qm zw Co BW BG CV sh Bu zU zJ zB Ab ql zv rn qY qR rH jq qN yA yg xV yI n4 xS rm qX qQ rG jo qM wz wb vR wR mH vJ rj qW qP rF jn qL Mf IM Iv JL Fc Ir : Value}
  (qz : PySem.W.nsIn K mainGlobals "power_of" = some (some (.ref qU))) (qZ : K.lookup qU = some ⟨EB,EC,.func (PySem.W.fnOf "power_of" "power_of" (aw gJ) (au gJ) (af gJ) .none Ej Ea EO DQ vd D0),EW⟩) (qF : PySem.W.codeIn K vd "power_of" = true) (lZ : PySem.W.keepIn K (.ref qU) = true)
  (jb : PySem.W.nsIn K mainGlobals "without_part" = some (some (.ref jw))) (jF : K.lookup jw = some ⟨wB,wK,.func (PySem.W.fnOf "without_part" "without_part" (aw cJ) (au cJ) (af cJ) .none we vT wV vC mJ vL),xl⟩) (jk : PySem.W.codeIn K mJ "without_part" = true) (gc : PySem.W.keepIn K (.ref jw) = true)
  (nG : PySem.W.nsIn K mainGlobals "with_part" = some (some (.ref oy))) (oV : K.lookup oy = some ⟨Cr,CB,.func (PySem.W.fnOf "with_part" "with_part" (aw fb) (au fb) (af fb) .none B2 BJ C0 Bh sk Bx),Dn⟩) (nX : PySem.W.codeIn K sk "with_part" = true) (ka : PySem.W.keepIn K (.ref oy) = true)
  (km : PySem.W.nsIn K mainGlobals "parts_alone" = some (some (.ref kB))) (kH : K.lookup kB = some ⟨yB,yE,.func (PySem.W.fnOf "parts_alone" "parts_alone" (aw cx) (au cx) (af cx) .none yh xW yJ xF n5 xT),yP⟩) (kr : PySem.W.codeIn K n5 "parts_alone" = true) (gO : PySem.W.keepIn K (.ref kB) = true)
  (lD : PySem.W.nsIn K mainGlobals "rooms_with" = some (some (.ref lV))) (mh : K.lookup lV = some ⟨zY,z9,.func (PySem.W.fnOf "rooms_with" "rooms_with" (aw cS) (au cS) (af cS) .none zN zF Af zq qq zz),Ao⟩) (lK : PySem.W.codeIn K qq "rooms_with" = true) (iU : PySem.W.keepIn K (.ref lV) = true)
  (et : PySem.W.nsIn K mainGlobals "rooms_leading_to" = some (some (.ref eD))) (eK : K.lookup eD = some ⟨p6,p9,.func (PySem.W.fnOf "rooms_leading_to" "rooms_leading_to" (aw a9) (au a9) (af a9) .none pZ pW qd pQ iK pT),qj⟩) (eC : PySem.W.codeIn K iK "rooms_leading_to" = true) (cN : PySem.W.keepIn K (.ref eD) = true)
  (nz : PySem.W.nsIn K mainGlobals "_law_rule" = some (some (.ref cu))) (oM : K.lookup cu = some ⟨Cm,Cv,.func (PySem.W.fnOf "_law_rule" "_law_rule" (aw eU) (au eU) (af eU) .none BU BE CS Bc sd Bs),Dh⟩) (nO : PySem.W.codeIn K sd "_law_rule" = true) (jV : PySem.W.keepIn K (.ref cu) = true)
  {T_grown tn_grown : Nat} {tc_grown : Value} {td_grown : Option Addr} {tsl_grown : Array (Option Value)} {tk0_grown : Tok}
  (A8 : PySem.W.nsIn K mainGlobals "grown" = some (some (.ref BM))) (B9 : K.lookup BM = some ⟨Jb,Jc,.func (PySem.W.fnOf "grown" "grown" (aw ke) (au ke) (af ke) (.ref T_grown) IL Iu JK Ie DU Iq),JU⟩) (Bj : PySem.W.codeIn K DU "grown" = true) (sH : PySem.W.keepIn K (.ref BM) = true)
  (xA : K.lookup T_grown = some ⟨tc_grown,td_grown,.seq #[Value.int 200 tk0_grown] tn_grown,tsl_grown⟩)
  (ki : PySem.W.nsIn K mainGlobals "_law_number" = some (some (.ref kz))) (kF : K.lookup kz = some ⟨yz,yC,.func (PySem.W.fnOf "_law_number" "_law_number" (aw cT) (au cT) (af cT) .none yf xU yH xD nZ xR),yN⟩) (ko : PySem.W.codeIn K nZ "_law_number" = true) (gM : PySem.W.keepIn K (.ref kz) = true)
  (lC : PySem.W.nsIn K mainGlobals "_law_whole" = some (some (.ref lU))) (mf : K.lookup lU = some ⟨zX,z8,.func (PySem.W.fnOf "_law_whole" "_law_whole" (aw cR) (au cR) (af cR) .none zM zE Ae zp qp zy),An⟩) (lJ : PySem.W.codeIn K qp "_law_whole" = true) (f9 : PySem.W.keepIn K (.ref lU) = true)
  (nA : PySem.W.nsIn K mainGlobals "_law_sign" = some (some (.ref oo))) (oO : K.lookup oo = some ⟨Cn,Cw,.func (PySem.W.fnOf "_law_sign" "_law_sign" (aw eV) (au eV) (af eV) .none BV BF CU Bd se Bt),Di⟩) (nP : PySem.W.codeIn K se "_law_sign" = true) (jW : PySem.W.keepIn K (.ref oo) = true)
  (i8 : PySem.W.nsIn K mainGlobals "_law_machine" = some (some (.ref jt))) (jC : K.lookup jt = some ⟨wx,wH,.func (PySem.W.fnOf "_law_machine" "_law_machine" (aw bE) (au bE) (af bE) .none vZ vQ wQ vz mG vI),xh⟩) (jg : PySem.W.codeIn K mG "_law_machine" = true) (fZ : PySem.W.keepIn K (.ref jt) = true)
  (ny : PySem.W.nsIn K mainGlobals "_law_long" = some (some (.ref om))) (oK : K.lookup om = some ⟨Ck,Cu,.func (PySem.W.fnOf "_law_long" "_law_long" (aw cL) (au cL) (af cL) .none BS BD CQ Bb r9 Br),Dg⟩) (nN : PySem.W.codeIn K r9 "_law_long" = true) (jU : PySem.W.keepIn K (.ref om) = true)
  (lB : PySem.W.nsIn K mainGlobals "_law_sides" = some (some (.ref lS))) (me : K.lookup lS = some ⟨zW,z7,.func (PySem.W.fnOf "_law_sides" "_law_sides" (aw dC) (au dC) (af dC) .none zL zD Ad zo qo zx),Am⟩) (lI : PySem.W.codeIn K qo "_law_sides" = true) (iT : PySem.W.keepIn K (.ref lS) = true)
  (nF : PySem.W.nsIn K mainGlobals "_law_wide" = some (some (.ref ow))) (oU : K.lookup ow = some ⟨Cq,CA,.func (PySem.W.fnOf "_law_wide" "_law_wide" (aw eZ) (au eZ) (af eZ) .none BZ BI CZ Bg sj Bw),Dm⟩) (nV : PySem.W.codeIn K sj "_law_wide" = true) (jZ : PySem.W.keepIn K (.ref ow) = true)
  (ja : PySem.W.nsIn K mainGlobals "_law_without" = some (some (.ref jv))) (jE : K.lookup jv = some ⟨wA,wJ,.func (PySem.W.fnOf "_law_without" "_law_without" (aw cI) (au cI) (af cI) .none wc vS wU vB mI vK),xk⟩) (ji : PySem.W.codeIn K mI "_law_without" = true) (gb : PySem.W.keepIn K (.ref jv) = true)
  (nC : PySem.W.nsIn K mainGlobals "_law_walk" = some (some (.ref ou))) (oQ : K.lookup ou = some ⟨Cp,Cz,.func (PySem.W.fnOf "_law_walk" "_law_walk" (aw eY) (au eY) (af eY) .none BX BH CY Bf si Bv),Dk⟩) (nU : PySem.W.codeIn K si "_law_walk" = true) (jY : PySem.W.keepIn K (.ref ou) = true)
  (lA : PySem.W.nsIn K mainGlobals "_law_rooms" = some (some (.ref lR))) (ma : K.lookup lR = some ⟨zV,z5,.func (PySem.W.fnOf "_law_rooms" "_law_rooms" (aw cQ) (au cQ) (af cQ) .none zK zC Ac zm qm zw),Al⟩) (lH : PySem.W.codeIn K qm "_law_rooms" = true) (iR : PySem.W.keepIn K (.ref lR) = true)
  (nB : PySem.W.nsIn K mainGlobals "_law_step" = some (some (.ref oq))) (oP : K.lookup oq = some ⟨Co,Cy,.func (PySem.W.fnOf "_law_step" "_law_step" (aw eX) (au eX) (af eX) .none BW BG CV Be sh Bu),Dj⟩) (nQ : PySem.W.codeIn K sh "_law_step" = true) (jX : PySem.W.keepIn K (.ref oq) = true)
  (ly : PySem.W.nsIn K mainGlobals "_law_alive" = some (some (.ref lQ))) (l9 : K.lookup lQ = some ⟨zU,z4,.func (PySem.W.fnOf "_law_alive" "_law_alive" (aw cP) (au cP) (af cP) .none zJ zB Ab zk ql zv),Ak⟩) (lG : PySem.W.codeIn K ql "_law_alive" = true) (iQ : PySem.W.keepIn K (.ref lQ) = true)
  (fx : PySem.W.nsIn K mainGlobals "_law_sign_there" = some (some (.ref fO))) (gi : K.lookup fO = some ⟨rn,rC,.func (PySem.W.fnOf "_law_sign_there" "_law_sign_there" (aw bI) (au bI) (af bI) .none qY qR rH qE jq qN),rR⟩) (fE : PySem.W.codeIn K jq "_law_sign_there" = true) (cZ : PySem.W.keepIn K (.ref fO) = true)
  (kj : PySem.W.nsIn K mainGlobals "_law_walked" = some (some (.ref kA))) (kG : K.lookup kA = some ⟨yA,yD,.func (PySem.W.fnOf "_law_walked" "_law_walked" (aw cU) (au cU) (af cU) .none yg xV yI xE n4 xS),yO⟩) (kq : PySem.W.codeIn K n4 "_law_walked" = true) (gN : PySem.W.keepIn K (.ref kA) = true)
  (fw : PySem.W.nsIn K mainGlobals "_law_is_machine" = some (some (.ref fN))) (gh : K.lookup fN = some ⟨rm,rB,.func (PySem.W.fnOf "_law_is_machine" "_law_is_machine" (aw bH) (au bH) (af bH) .none qX qQ rG qD jo qM),rQ⟩) (fB : PySem.W.codeIn K jo "_law_is_machine" = true) (cY : PySem.W.keepIn K (.ref fN) = true)
  (i9 : PySem.W.nsIn K mainGlobals "_law_refused" = some (some (.ref ju))) (jD : K.lookup ju = some ⟨wz,wI,.func (PySem.W.fnOf "_law_refused" "_law_refused" (aw b8) (au b8) (af b8) .none wb vR wR vA mH vJ),xj⟩) (jh : PySem.W.codeIn K mH "_law_refused" = true) (f7 : PySem.W.keepIn K (.ref ju) = true)
  (fu : PySem.W.nsIn K mainGlobals "_law_by_default" = some (some (.ref fM))) (gf : K.lookup fM = some ⟨rj,rA,.func (PySem.W.fnOf "_law_by_default" "_law_by_default" (aw bG) (au bG) (af bG) .none qW qP rF qB jn qL),rP⟩) (fA : PySem.W.codeIn K jn "_law_by_default" = true) (cX : PySem.W.keepIn K (.ref fM) = true)
  (Ga : PySem.W.nsIn K mainGlobals "law" = some (some (.ref IB))) (IT : K.lookup IB = some ⟨Mf,Mg,.func (PySem.W.fnOf "law" "law" (aw tH) (au tH) (af tH) .none IM Iv JL Ig Fc Ir),Mx⟩) (Ij : PySem.W.codeIn K Fc "law" = true) (IP : PySem.W.keepIn K (.ref IB) = true)
  (Ke : PySem.W.nsIn K mainGlobals "len" = some none)
  (DM : PySem.W.nsIn K mainGlobals "range" = some none)
  (DN : PySem.W.nsIn K mainGlobals "tuple" = some none)
  (F5 : PySem.W.nsIn K mainGlobals "list" = some none)
  (mB : PySem.W.nsIn K mainGlobals "isinstance" = some none)
  (Kd : PySem.W.nsIn K mainGlobals "int" = some none)
  (y_bool : PySem.W.nsIn K mainGlobals "bool" = some none)
  (zg : PySem.W.nsIn K mainGlobals "sorted" = some none)
  (Kg : PySem.W.nsIn K mainGlobals "set" = some none)
  (Kc : PySem.W.nsIn K mainGlobals "any" = some none)
  (pC : PySem.W.nsIn K mainGlobals "enumerate" = some none)
  (F4 : PySem.W.nsIn K mainGlobals "dict" = some none)
  (Kf : PySem.W.nsIn K mainGlobals "max" = some none)
  (mz : PySem.W.nsIn K mainGlobals "ValueError" = some none)
  {cf : Addr} (Bm : PySem.W.nsIn K mainGlobals "Walk" = some (some (.ref cf)))
  {aB : Addr} (qI : PySem.W.nsIn K mainGlobals "Reading" = some (some (.ref aB)))
  {aG : Addr} (qH : PySem.W.nsIn K mainGlobals "Pairing" = some (some (.ref aG)))
  {av : Addr} (lM : PySem.W.nsIn K mainGlobals "Narrowing" = some (some (.ref av)))
  {aA : Addr} (n6 : PySem.W.nsIn K mainGlobals "Choosing" = some (some (.ref aA)))
  {ar : Addr} (n8 : PySem.W.nsIn K mainGlobals "TooGreat" = some (some (.ref ar)))
  {bz : Addr} (jr : PySem.W.nsIn K mainGlobals "FigureError" = some (some (.ref bz)))
  {gQ : Addr} (lN : PySem.W.nsIn K mainGlobals "NoFigures" = some (some (.ref gQ)))
  {gR : Addr} (lO : PySem.W.nsIn K mainGlobals "NoMachine" = some (some (.ref gR)))
  {mU : Addr} (tX : PySem.W.nsIn K mainGlobals "NoName" = some (some (.ref mU)))
  {kJ : Addr} (qG : PySem.W.nsIn K mainGlobals "NoPower" = some (some (.ref kJ)))
  {rU : Addr} (xN : PySem.W.nsIn K mainGlobals "NoRow" = some (some (.ref rU)))
  {mV : Addr} (tY : PySem.W.nsIn K mainGlobals "NoSome" = some (some (.ref mV)))
  {mW : Addr} (tZ : PySem.W.nsIn K mainGlobals "NoText" = some (some (.ref mW)))
  {kK : Addr} (qJ : PySem.W.nsIn K mainGlobals "TooWide" = some (some (.ref kK)))
  (lx : PySem.W.findIn K (.ref cf) "begin" = some (some (.ref iM))) (l7 : K.lookup iM = some ⟨zT,zZ,.func (PySem.W.fnOf "begin" "Walk.begin" (aw dB) (au dB) (af dB) .none zI zA Aa zj qk zu),Aj⟩) (lF : PySem.W.codeIn K qk "Walk.begin" = true) (iP : PySem.W.keepIn K (.ref iM) = true)
  (nv : PySem.W.findIn K (.ref cf) "step" = some (some (.ref jR))) (oJ : K.lookup jR = some ⟨Cj,Ct,.func (PySem.W.fnOf "step" "Walk.step" (aw eS) (au eS) (af eS) .none BR BC CO Ba r8 Bq),Df⟩) (nM : PySem.W.codeIn K r8 "Walk.step" = true) (jT : PySem.W.keepIn K (.ref jR) = true)
  (nq : PySem.W.findIn K (.ref cf) "sign" = some (some (.ref jQ))) (oH : K.lookup jQ = some ⟨Ci,Cs,.func (PySem.W.fnOf "sign" "Walk.sign" (aw eR) (au eR) (af eR) .none BQ BB CM A9 r6 Bp),De⟩) (nK : PySem.W.codeIn K r6 "Walk.sign" = true) (jS : PySem.W.keepIn K (.ref jQ) = true)
  (ia : PySem.W.findIn K (.ref aB) "begin" = some (some (.ref dW))) (iA : K.lookup dW = some ⟨uy,uC,.func (PySem.W.fnOf "begin" "Reading.begin" (aw cm) (au cm) (af cm) .none ur uh uJ tW kP uc),uS⟩) (ig : PySem.W.codeIn K kP "Reading.begin" = true) (d0 : PySem.W.keepIn K (.ref dW) = true)
  (i7 : PySem.W.findIn K (.ref aB) "step" = some (some (.ref fK))) (jB : K.lookup fK = some ⟨wu,wG,.func (PySem.W.fnOf "step" "Reading.step" (aw cH) (au cH) (af cH) .none vY vP wO vy mF vH),xg⟩) (jf : PySem.W.codeIn K mF "Reading.step" = true) (fY : PySem.W.keepIn K (.ref fK) = true)
  (i6 : PySem.W.findIn K (.ref aB) "sign" = some (some (.ref fJ))) (jA : K.lookup fJ = some ⟨wt,wF,.func (PySem.W.fnOf "sign" "Reading.sign" (aw cG) (au cG) (af cG) .none vX vO wN vx mE vG),xf⟩) (je : PySem.W.codeIn K mE "Reading.sign" = true) (fX : PySem.W.keepIn K (.ref fJ) = true)
  (h9 : PySem.W.findIn K (.ref aG) "begin" = some (some (.ref dU))) (iz : K.lookup dU = some ⟨ux,uB,.func (PySem.W.fnOf "begin" "Pairing.begin" (aw ck) (au ck) (af ck) .none uq ug uI tV kO ub),uR⟩) (ie : PySem.W.codeIn K kO "Pairing.begin" = true) (dZ : PySem.W.keepIn K (.ref dU) = true)
  (i5 : PySem.W.findIn K (.ref aG) "step" = some (some (.ref fH))) (jz : K.lookup fH = some ⟨wq,wD,.func (PySem.W.fnOf "step" "Pairing.step" (aw cF) (au cF) (af cF) .none vW vN wM vw mD vF),xb⟩) (jd : PySem.W.codeIn K mD "Pairing.step" = true) (fV : PySem.W.keepIn K (.ref fH) = true)
  (i4 : PySem.W.findIn K (.ref aG) "sign" = some (some (.ref fG))) (jy : K.lookup fG = some ⟨wm,wC,.func (PySem.W.fnOf "sign" "Pairing.sign" (aw cE) (au cE) (af cE) .none vV vM wL vv mC vE),w9⟩) (jc : PySem.W.codeIn K mC "Pairing.sign" = true) (fU : PySem.W.keepIn K (.ref fG) = true)
  (ft : PySem.W.findIn K (.ref av) "begin" = some (some (.ref cV))) (gd : K.lookup cV = some ⟨rh,rq,.func (PySem.W.fnOf "begin" "Narrowing.begin" (aw bF) (au bF) (af bF) .none qV qO rE qA jm qK),rO⟩) (fz : PySem.W.codeIn K jm "Narrowing.begin" = true) (cW : PySem.W.keepIn K (.ref cV) = true)
  (gv : PySem.W.findIn K (.ref av) "step" = some (some (.ref dn))) (gH : K.lookup dn = some ⟨tj,tu,.func (PySem.W.fnOf "step" "Narrowing.step" (aw bW) (au bW) (af bW) .none sG sy tE rY jN su),tN⟩) (gA : PySem.W.codeIn K jN "Narrowing.step" = true) (dz : PySem.W.keepIn K (.ref dn) = true)
  (gu : PySem.W.findIn K (.ref av) "sign" = some (some (.ref dk))) (gG : K.lookup dk = some ⟨sZ,tq,.func (PySem.W.fnOf "sign" "Narrowing.sign" (aw bV) (au bV) (af bV) .none sE sx tD rX jM sr),tM⟩) (gz : PySem.W.codeIn K jM "Narrowing.sign" = true) (dy : PySem.W.keepIn K (.ref dk) = true)
  (gr : PySem.W.findIn K (.ref aA) "begin" = some (some (.ref dj))) (gF : K.lookup dj = some ⟨sY,tm,.func (PySem.W.fnOf "begin" "Choosing.begin" (aw bU) (au bU) (af bU) .none sC sv tw rW jL sq),tL⟩) (gy : PySem.W.codeIn K jL "Choosing.begin" = true) (dq : PySem.W.keepIn K (.ref dj) = true)
  (h8 : PySem.W.findIn K (.ref aA) "step" = some (some (.ref dS))) (iy : K.lookup dS = some ⟨uw,uA,.func (PySem.W.fnOf "step" "Choosing.step" (aw bM) (au bM) (af bM) .none um uf uH tU kN ua),uQ⟩) (ic : PySem.W.codeIn K kN "Choosing.step" = true) (dY : PySem.W.keepIn K (.ref dS) = true)
  (h7 : PySem.W.findIn K (.ref aA) "sign" = some (some (.ref dR))) (iw : K.lookup dR = some ⟨uv,uz,.func (PySem.W.fnOf "sign" "Choosing.sign" (aw bL) (au bL) (af bL) .none uk ue uG tT kM t9),uP⟩) (ib : PySem.W.codeIn K kM "Choosing.sign" = true) (dX : PySem.W.keepIn K (.ref dR) = true)
  (iH : PySem.W.findIn K (.ref ar) "__init__" = some (some (.ref bh))) (dM : K.lookup bh = some ⟨oY,pb,.func (PySem.W.fnOf "__init__" "TooGreat.__init__" (aw bo) (au bo) (af bo) .none oC oh ph nJ gU oa),pz⟩) (dF : PySem.W.codeIn K gU "TooGreat.__init__" = true) (dI : PySem.W.keepIn K (.ref bh) = true)
  (eh : PySem.W.findIn K (.ref aB) "__init__" = some (some (.ref bZ))) (eJ : K.lookup bZ = some ⟨p5,p8,.func (PySem.W.fnOf "__init__" "Reading.__init__" (aw bx) (au bx) (af bx) .none pY pV qc pP iJ pS),qi⟩) (eB : PySem.W.codeIn K iJ "Reading.__init__" = true) (eG : PySem.W.keepIn K (.ref bZ) = true)
  (c6 : PySem.W.findIn K (.ref av) "__init__" = some (some (.ref bC))) (de : K.lookup bC = some ⟨mP,mQ,.func (PySem.W.fnOf "__init__" "Narrowing.__init__" (aw bc) (au bc) (af bc) .none mO mM mR mK gm mL),mT⟩) (c8 : PySem.W.codeIn K gm "Narrowing.__init__" = true) (dc : PySem.W.keepIn K (.ref bC) = true)
  (dD : PySem.W.findIn K (.ref aA) "__init__" = some (some (.ref bN))) (dJ : K.lookup bN = some ⟨oX,oZ,.func (PySem.W.fnOf "__init__" "Choosing.__init__" (aw bj) (au bj) (af bj) .none oB og pf nH gT n9),pw⟩) (dE : PySem.W.codeIn K gT "Choosing.__init__" = true) (dH : PySem.W.keepIn K (.ref bN) = true)
  (d9 : PySem.W.findIn K (.ref aG) "__init__" = some (some (.ref bX))) (eI : K.lookup bX = some ⟨p3,p7,.func (PySem.W.fnOf "__init__" "Pairing.__init__" (aw bw) (au bw) (af bw) .none pX pU qb pO iI pR),qh⟩) (eA : PySem.W.codeIn K iI "Pairing.__init__" = true) (eF : PySem.W.keepIn K (.ref bX) = true)
  (cW_pg : PySem.W.plainGet K cf Str.empty = true)
  (cW_hd : PySem.W.hasDictIn K cf = true)
  (cW_po : PySem.W.plainOver K cf = true)
  (cW_sa : PySem.W.findIn K (.ref cf) "__setattr__" = some (some (.builtin "object.__setattr__")))
  (cW_mk : PySem.W.makesIn K cf = true)
  (cW_in : PySem.W.findIn K (.ref cf) "__init__" = some (some (.builtin "object.__init__")))
  (cW_kp : PySem.W.keepIn K (.ref cf) = true)
  (cP_pg : PySem.W.plainGet K aG Str.empty = true)
  (cP_hd : PySem.W.hasDictIn K aG = true)
  (cP_po : PySem.W.plainOver K aG = true)
  (cP_sa : PySem.W.findIn K (.ref aG) "__setattr__" = some (some (.builtin "object.__setattr__")))
  (cP_n_one : PySem.W.findIn K (.ref aG) "one" = some none)
  (cP_n_other : PySem.W.findIn K (.ref aG) "other" = some none)
  (cP_n_rule : PySem.W.findIn K (.ref aG) "rule" = some none)
  (cP_mk : PySem.W.makesIn K aG = true)
  (cP_fi : PySem.W.isFn K (.ref bX) = true)
  (cP_kp : PySem.W.keepIn K (.ref aG) = true)
  (cR_pg : PySem.W.plainGet K aB Str.empty = true)
  (cR_hd : PySem.W.hasDictIn K aB = true)
  (cR_po : PySem.W.plainOver K aB = true)
  (cR_sa : PySem.W.findIn K (.ref aB) "__setattr__" = some (some (.builtin "object.__setattr__")))
  (cR_n_rows : PySem.W.findIn K (.ref aB) "rows" = some none)
  (cR_n_signs : PySem.W.findIn K (.ref aB) "signs" = some none)
  (cR_mk : PySem.W.makesIn K aB = true)
  (cR_fi : PySem.W.isFn K (.ref bZ) = true)
  (cR_kp : PySem.W.keepIn K (.ref aB) = true)
  (cN_pg : PySem.W.plainGet K av Str.empty = true)
  (cN_hd : PySem.W.hasDictIn K av = true)
  (cN_po : PySem.W.plainOver K av = true)
  (cN_sa : PySem.W.findIn K (.ref av) "__setattr__" = some (some (.builtin "object.__setattr__")))
  (cN_n_walk : PySem.W.findIn K (.ref av) "walk" = some none)
  (cN_n_base : PySem.W.findIn K (.ref av) "base" = some none)
  (cN_n_below : PySem.W.findIn K (.ref av) "below" = some none)
  (cN_mk : PySem.W.makesIn K av = true)
  (cN_fi : PySem.W.isFn K (.ref bC) = true)
  (cN_kp : PySem.W.keepIn K (.ref av) = true)
  (cC_pg : PySem.W.plainGet K aA Str.empty = true)
  (cC_hd : PySem.W.hasDictIn K aA = true)
  (cC_po : PySem.W.plainOver K aA = true)
  (cC_sa : PySem.W.findIn K (.ref aA) "__setattr__" = some (some (.builtin "object.__setattr__")))
  (cC_n_rows : PySem.W.findIn K (.ref aA) "rows" = some none)
  (cC_n_base : PySem.W.findIn K (.ref aA) "base" = some none)
  (cC_n_below : PySem.W.findIn K (.ref aA) "below" = some none)
  (cC_n_winning : PySem.W.findIn K (.ref aA) "winning" = some none)
  (cC_mk : PySem.W.makesIn K aA = true)
  (cC_fi : PySem.W.isFn K (.ref bN) = true)
  (cC_kp : PySem.W.keepIn K (.ref aA) = true)
  (kC : PySem.W.isFn K (.ref iM) = true)
  (lX : PySem.W.isFn K (.ref jR) = true)
  (lW : PySem.W.isFn K (.ref jQ) = true)
  (gE : PySem.W.isFn K (.ref dW) = true)
  (ir : PySem.W.isFn K (.ref fK) = true)
  (iq : PySem.W.isFn K (.ref fJ) = true)
  (gD : PySem.W.isFn K (.ref dU) = true)
  (ik : PySem.W.isFn K (.ref fH) = true)
  (ij : PySem.W.isFn K (.ref fG) = true)
  (eE : PySem.W.isFn K (.ref cV) = true)
  (fR : PySem.W.isFn K (.ref dn) = true)
  (fQ : PySem.W.isFn K (.ref dk) = true)
  (fP : PySem.W.isFn K (.ref dj) = true)
  (gC : PySem.W.isFn K (.ref dS) = true)
  (gB : PySem.W.isFn K (.ref dR) = true)
  (xgg : PySem.W.specialIn K (.builtin "object.__class__") "__get__" = some (some (.builtin "getset_descriptor.__get__")))
  (xtk : PySem.W.takesIn K (.builtin "object.__class__") = some true)
  (ob_TooGreat : PySem.W.mroIn K ar (.type "object") = some true)
  (i_ex : oj K ar bh = true)
  (i_fn : PySem.W.isFn K (.ref bh) = true)
  (i_kp : PySem.W.keepIn K (.ref ar) = true)
  (i_sa : PySem.W.findIn K (.ref ar) "__setattr__" = some (some (.builtin "object.__setattr__")))
  (i_hd : PySem.W.hasDictIn K ar = true)
  (i_mr : mroIs K ar [ar,bz] = true)
  (i_ga : PySem.W.findIn K (.ref ar) "__getattribute__" = some (some (.builtin "BaseException.__getattribute__")))
  (i_gt : PySem.W.findIn K (.ref ar) "__getattr__" = some none)
  (i_cl : PySem.W.findIn K (.ref ar) "__class__" = some (some (.builtin "object.__class__")))
  (i_be : PySem.W.mroIn K ar (.type "BaseException") = some true)
  (i_na : PySem.W.findIn K (.ref ar) "most" = some none)
  (f_ga : PySem.W.specialIn K (.ref bz) "__getattribute__" = some (some (.builtin "type.__getattribute__")))
  (f_rd : PySem.W.readsIn K bz (.type "type") = true)
  (f_fc : PySem.W.findCls K (.ref bz) (.type "type") "__init__" = some (.val (.builtin "ValueError.__init__")))
  (tw0 : PySem.W.subIn K (.ref ar) (.type "BaseException") = some true)
  (tw2 : PySem.W.typeIn K (.ref ar) = some (.type "type"))
  (tw3 : PySem.W.subIn K (.ref ar) (.ref ar) = some true)
  (fe1 : PySem.W.mroIn K bz (.type "object") = some true)
  (fe2 : PySem.W.typeIn K (.ref bz) = some (.type "type"))
  (fe3 : PySem.W.subIn K (.ref ar) (.ref bz) = some true)
  (fe4 : (Value.ref ar == Value.ref bz) = false)
  (kve : PySem.W.subIn K (.ref ar) (.type "ValueError") = some true)
  (ob_NoFigures : PySem.W.mroIn K gQ (.type "object") = some true)
  (ty_NoFigures : PySem.W.typeIn K (.ref gQ) = some (.type "type"))
  (su_NoFigures : PySem.W.subIn K (.ref ar) (.ref gQ) = some false)
  (ne_NoFigures : (Value.ref ar == Value.ref gQ) = false)
  (ob_NoMachine : PySem.W.mroIn K gR (.type "object") = some true)
  (ty_NoMachine : PySem.W.typeIn K (.ref gR) = some (.type "type"))
  (su_NoMachine : PySem.W.subIn K (.ref ar) (.ref gR) = some false)
  (ne_NoMachine : (Value.ref ar == Value.ref gR) = false)
  (ob_NoName : PySem.W.mroIn K mU (.type "object") = some true)
  (ty_NoName : PySem.W.typeIn K (.ref mU) = some (.type "type"))
  (su_NoName : PySem.W.subIn K (.ref ar) (.ref mU) = some false)
  (ne_NoName : (Value.ref ar == Value.ref mU) = false)
  (ob_NoPower : PySem.W.mroIn K kJ (.type "object") = some true)
  (ty_NoPower : PySem.W.typeIn K (.ref kJ) = some (.type "type"))
  (su_NoPower : PySem.W.subIn K (.ref ar) (.ref kJ) = some false)
  (ne_NoPower : (Value.ref ar == Value.ref kJ) = false)
  (ob_NoRow : PySem.W.mroIn K rU (.type "object") = some true)
  (ty_NoRow : PySem.W.typeIn K (.ref rU) = some (.type "type"))
  (su_NoRow : PySem.W.subIn K (.ref ar) (.ref rU) = some false)
  (ne_NoRow : (Value.ref ar == Value.ref rU) = false)
  (ob_NoSome : PySem.W.mroIn K mV (.type "object") = some true)
  (ty_NoSome : PySem.W.typeIn K (.ref mV) = some (.type "type"))
  (su_NoSome : PySem.W.subIn K (.ref ar) (.ref mV) = some false)
  (ne_NoSome : (Value.ref ar == Value.ref mV) = false)
  (ob_NoText : PySem.W.mroIn K mW (.type "object") = some true)
  (ty_NoText : PySem.W.typeIn K (.ref mW) = some (.type "type"))
  (su_NoText : PySem.W.subIn K (.ref ar) (.ref mW) = some false)
  (ne_NoText : (Value.ref ar == Value.ref mW) = false)
  (ob_TooWide : PySem.W.mroIn K kK (.type "object") = some true)
  (ty_TooWide : PySem.W.typeIn K (.ref kK) = some (.type "type"))
  (su_TooWide : PySem.W.subIn K (.ref ar) (.ref kK) = some false)
  (ne_TooWide : (Value.ref ar == Value.ref kK) = false) :
  ∃ fd : FuncData,(∀ (s : Shared) (v : Value),BindsTo s fd ⟨[v],[]⟩ [("_law_script",v)]) /\ ∀ base : Heap,K.In base -> base.Ns mainGlobals mg -> FnOk l.prog w K mg base CX0 6 fa fd ["_law_script"] (GJ K):=by
 have e:=hfa.symm.trans (PySem.W.mg_of X G Ga)
 cases e
 have F_Walk_begin:=aD (st:=dB) l7 lF iP
 have b_Walk_begin:=F_Walk_begin.binds (ps:=["self"]) fun _ _ _ _ _ _ us hl => Ca hl fun _ => rfl
 have F_Walk_step:=aD (st:=eS) oJ nM jT
 have b_Walk_step:=F_Walk_step.binds (ps:=["self","place","figure"]) fun _ _ _ _ _ _ us hl => sM hl fun _ _ _ => rfl
 have F_Walk_sign:=aD (st:=eR) oH nK jS
 have b_Walk_sign:=F_Walk_sign.binds (ps:=["self","place"]) fun _ _ _ _ _ _ us hl => q5 hl fun _ _ => rfl
 have F_Reading_begin:=aD (st:=cm) iA ig d0
 have b_Reading_begin:=F_Reading_begin.binds (ps:=["self"]) fun _ _ _ _ _ _ us hl => Ca hl fun _ => rfl
 have F_Reading_step:=aD (st:=cH) jB jf fY
 have b_Reading_step:=F_Reading_step.binds (ps:=["self","place","figure"]) fun _ _ _ _ _ _ us hl => sM hl fun _ _ _ => rfl
 have F_Reading_sign:=aD (st:=cG) jA je fX
 have b_Reading_sign:=F_Reading_sign.binds (ps:=["self","place"]) fun _ _ _ _ _ _ us hl => q5 hl fun _ _ => rfl
 have F_Pairing_begin:=aD (st:=ck) iz ie dZ
 have b_Pairing_begin:=F_Pairing_begin.binds (ps:=["self"]) fun _ _ _ _ _ _ us hl => Ca hl fun _ => rfl
 have F_Pairing_step:=aD (st:=cF) jz jd fV
 have b_Pairing_step:=F_Pairing_step.binds (ps:=["self","place","figure"]) fun _ _ _ _ _ _ us hl => sM hl fun _ _ _ => rfl
 have F_Pairing_sign:=aD (st:=cE) jy jc fU
 have b_Pairing_sign:=F_Pairing_sign.binds (ps:=["self","place"]) fun _ _ _ _ _ _ us hl => q5 hl fun _ _ => rfl
 have F_Narrowing_begin:=aD (st:=bF) gd fz cW
 have b_Narrowing_begin:=F_Narrowing_begin.binds (ps:=["self"]) fun _ _ _ _ _ _ us hl => Ca hl fun _ => rfl
 have F_Narrowing_step:=aD (st:=bW) gH gA dz
 have b_Narrowing_step:=F_Narrowing_step.binds (ps:=["self","place","figure"]) fun _ _ _ _ _ _ us hl => sM hl fun _ _ _ => rfl
 have F_Narrowing_sign:=aD (st:=bV) gG gz dy
 have b_Narrowing_sign:=F_Narrowing_sign.binds (ps:=["self","place"]) fun _ _ _ _ _ _ us hl => q5 hl fun _ _ => rfl
 have F_Choosing_begin:=aD (st:=bU) gF gy dq
 have b_Choosing_begin:=F_Choosing_begin.binds (ps:=["self"]) fun _ _ _ _ _ _ us hl => Ca hl fun _ => rfl
 have F_Choosing_step:=aD (st:=bM) iy ic dY
 have b_Choosing_step:=F_Choosing_step.binds (ps:=["self","place","figure"]) fun _ _ _ _ _ _ us hl => sM hl fun _ _ _ => rfl
 have F_Choosing_sign:=aD (st:=bL) iw ib dX
 have b_Choosing_sign:=F_Choosing_sign.binds (ps:=["self","place"]) fun _ _ _ _ _ _ us hl => q5 hl fun _ _ => rfl
 have F_TooGreat___init__:=aD (st:=bo) dM dF dI
 have b_TooGreat___init__:=F_TooGreat___init__.binds (ps:=["self","most"]) fun _ _ _ _ _ _ us hl => q5 hl fun _ _ => rfl
 have F_power_of:=aD (st:=gJ) qZ qF lZ
 have b_power_of:=F_power_of.binds (ps:=["base","times"]) fun _ _ _ _ _ _ us hl => q5 hl fun _ _ => rfl
 have Fs:=PySem.W.mg_of X G qz
 have F_without_part:=aD (st:=cJ) jF jk gc
 have b_without_part:=F_without_part.binds (ps:=["figure","base","below"]) fun _ _ _ _ _ _ us hl => sM hl fun _ _ _ => rfl
 have yt:=PySem.W.mg_of X G jb
 have F_with_part:=aD (st:=fb) oV nX ka
 have b_with_part:=F_with_part.binds (ps:=["figure","base","below","part"]) fun _ _ _ _ _ _ us hl => IW hl fun _ _ _ _ => rfl
 have Es:=PySem.W.mg_of X G nG
 have F_parts_alone:=aD (st:=cx) kH kr gO
 have b_parts_alone:=F_parts_alone.binds (ps:=["base","below"]) fun _ _ _ _ _ _ us hl => q5 hl fun _ _ => rfl
 have zR:=PySem.W.mg_of X G km
 have F_rooms_with:=aD (st:=cS) mh lK iU
 have b_rooms_with:=F_rooms_with.binds (ps:=["machine","sign"]) fun _ _ _ _ _ _ us hl => q5 hl fun _ _ => rfl
 have Ce:=PySem.W.mg_of X G lD
 have F_rooms_leading_to:=aD (st:=a9) eK eC cN
 have b_rooms_leading_to:=F_rooms_leading_to.binds (ps:=["machine","goals","taken"]) fun _ _ _ _ _ _ us hl => sM hl fun _ _ _ => rfl
 have q9:=PySem.W.mg_of X G et
 have F_Reading___init__:=aD (st:=bx) eJ eB eG
 have b_Reading___init__:=F_Reading___init__.binds (ps:=["self","machine"]) fun _ _ _ _ _ _ us hl => q5 hl fun _ _ => rfl
 have F_Narrowing___init__:=aD (st:=bc) de c8 dc
 have b_Narrowing___init__:=F_Narrowing___init__.binds (ps:=["self","walk","base","at"]) fun _ _ _ _ _ _ us hl => IW hl fun _ _ _ _ => rfl
 have F_Choosing___init__:=aD (st:=bj) dJ dE dH
 have b_Choosing___init__:=F_Choosing___init__.binds (ps:=["self","machine","base","at"]) fun _ _ _ _ _ _ us hl => IW hl fun _ _ _ _ => rfl
 have F_Pairing___init__:=aD (st:=bw) eI eA eF
 have b_Pairing___init__:=F_Pairing___init__.binds (ps:=["self","one","other","rule"]) fun _ _ _ _ _ _ us hl => IW hl fun _ _ _ _ => rfl
 have F__law_rule:=aD (st:=eU) oM nO jV
 have b__law_rule:=F__law_rule.binds (ps:=["_law_here","_law_there"]) fun _ _ _ _ _ _ us hl => q5 hl fun _ _ => rfl
 have vj:=PySem.W.mg_of X G nz
 have F_grown:=aD (st:=ke) B9 Bj sH
 have b_grown : Binds K _ ["walk","wide","most"] []:=F_grown.bindsD xA rfl 3 rfl fun _ _ _ _ _ _ us hl => sM hl fun _ _ _ => ⟨_,rfl,rfl⟩
 have b_grown_d : Binds K _ ["walk","wide","most"] [Value.int 200 tk0_grown]:=F_grown.bindsD xA rfl 2 rfl fun _ _ _ _ _ _ us hl => q5 hl fun _ _ => ⟨_,rfl,rfl⟩
 have GA:=PySem.W.mg_of X G A8
 have F__law_number:=aD (st:=cT) kF ko gM
 have b__law_number:=F__law_number.binds (ps:=["_law_script","_law_k"]) fun _ _ _ _ _ _ us hl => q5 hl fun _ _ => rfl
 have zP:=PySem.W.mg_of X G ki
 have F__law_whole:=aD (st:=cR) mf lJ f9
 have b__law_whole:=F__law_whole.binds (ps:=["_law_found"]) fun _ _ _ _ _ _ us hl => Ca hl fun _ => rfl
 have sS:=PySem.W.mg_of X G lC
 have F__law_sign:=aD (st:=eV) oO nP jW
 have b__law_sign:=F__law_sign.binds (ps:=["_law_number_here"]) fun _ _ _ _ _ _ us hl => Ca hl fun _ => rfl
 have En:=PySem.W.mg_of X G nA
 have F__law_machine:=aD (st:=bE) jC jg fZ
 have b__law_machine:=F__law_machine.binds (ps:=["_law_script","_law_start","_law_wide_here","_law_many"]) fun _ _ _ _ _ _ us hl => IW hl fun _ _ _ _ => rfl
 have yp:=PySem.W.mg_of X G i8
 have F__law_long:=aD (st:=cL) oK nN jU
 have b__law_long:=F__law_long.binds (ps:=["_law_wide_here","_law_many","_law_number_here"]) fun _ _ _ _ _ _ us hl => sM hl fun _ _ _ => rfl
 have Em:=PySem.W.mg_of X G ny
 have F__law_sides:=aD (st:=dC) me lI iT
 have b__law_sides:=F__law_sides.binds (ps:=["_law_number_here"]) fun _ _ _ _ _ _ us hl => Ca hl fun _ => rfl
 have Cd:=PySem.W.mg_of X G lB
 have F__law_wide:=aD (st:=eZ) oU nV jZ
 have b__law_wide:=F__law_wide.binds (ps:=["_law_base","_law_many"]) fun _ _ _ _ _ _ us hl => q5 hl fun _ _ => rfl
 have Er:=PySem.W.mg_of X G nF
 have F__law_without:=aD (st:=cI) jE ji gb
 have b__law_without:=F__law_without.binds (ps:=["_law_figure","_law_base","_law_at"]) fun _ _ _ _ _ _ us hl => sM hl fun _ _ _ => rfl
 have yr:=PySem.W.mg_of X G ja
 have F__law_walk:=aD (st:=eY) oQ nU jY
 have b__law_walk:=F__law_walk.binds (ps:=["_law_way","_law_one","_law_other","_law_base","_law_at"]) fun _ _ _ _ _ _ us hl => Mc hl fun _ _ _ _ _ => rfl
 have Ep:=PySem.W.mg_of X G nC
 have F__law_rooms:=aD (st:=cQ) ma lH iR
 have b__law_rooms:=F__law_rooms.binds (ps:=["_law_one","_law_base","_law_at","_law_place","_law_figure"]) fun _ _ _ _ _ _ us hl => Mc hl fun _ _ _ _ _ => rfl
 have Cc:=PySem.W.mg_of X G lA
 have F__law_step:=aD (st:=eX) oP nQ jX
 have b__law_step:=F__law_step.binds (ps:=["_law_made","_law_place","_law_figure"]) fun _ _ _ _ _ _ us hl => sM hl fun _ _ _ => rfl
 have Eo:=PySem.W.mg_of X G nB
 have F__law_alive:=aD (st:=cP) l9 lG iQ
 have b__law_alive:=F__law_alive.binds (ps:=["_law_one","_law_base","_law_at"]) fun _ _ _ _ _ _ us hl => sM hl fun _ _ _ => rfl
 have Cb:=PySem.W.mg_of X G ly
 have F__law_sign_there:=aD (st:=bI) gi fE cZ
 have b__law_sign_there:=F__law_sign_there.binds (ps:=["_law_way","_law_one","_law_other","_law_alive_here","_law_place"]) fun _ _ _ _ _ _ us hl => Mc hl fun _ _ _ _ _ => rfl
 have sQ:=PySem.W.mg_of X G fx
 have F__law_walked:=aD (st:=cU) kG kq gN
 have b__law_walked:=F__law_walked.binds (ps:=["_law_found","_law_way","_law_one","_law_other","_law_base","_law_at"]) fun _ _ _ _ _ _ us hl => NR hl fun _ _ _ _ _ _ => rfl
 have zQ:=PySem.W.mg_of X G kj
 have F__law_is_machine:=aD (st:=bH) gh fB cY
 have b__law_is_machine:=F__law_is_machine.binds (ps:=["_law_found","_law_wide_here"]) fun _ _ _ _ _ _ us hl => q5 hl fun _ _ => rfl
 have sP:=PySem.W.mg_of X G fw
 have F__law_refused:=aD (st:=b8) jD jh f7
 have b__law_refused:=F__law_refused.binds (ps:=["_law_walk_here","_law_wide_here","_law_most"]) fun _ _ _ _ _ _ us hl => sM hl fun _ _ _ => rfl
 have yq:=PySem.W.mg_of X G i9
 have F__law_by_default:=aD (st:=bG) gf fA cX
 have b__law_by_default:=F__law_by_default.binds (ps:=["_law_walk_here","_law_wide_here","_law_due"]) fun _ _ _ _ _ _ us hl => sM hl fun _ _ _ => rfl
 have sN:=PySem.W.mg_of X G fu
 have F_law:=aD (st:=tH) IT Ij IP
 have b_law:=F_law.binds (ps:=["_law_script"]) fun _ _ _ _ _ _ us hl => Ca hl fun _ => rfl
 have Oc:=PySem.W.mg_of X G Ga
 have aZ:=PySem.W.mg_none_of X G Ke
 have aF:=PySem.W.mg_none_of X G DM
 have aS:=PySem.W.mg_none_of X G DN
 have F7:=PySem.W.mg_none_of X G F5
 have aE:=PySem.W.mg_none_of X G mB
 have AX:=PySem.W.mg_none_of X G Kd
 have va:=PySem.W.mg_none_of X G y_bool
 have zh:=PySem.W.mg_none_of X G zg
 have Kj:=PySem.W.mg_none_of X G Kg
 have Kh:=PySem.W.mg_none_of X G Kc
 have fc:=PySem.W.mg_none_of X G pC
 have F6:=PySem.W.mg_none_of X G F4
 have Ki:=PySem.W.mg_none_of X G Kf
 have gk:=PySem.W.mg_none_of X G mz
 have Fi:=PySem.W.mg_of X G Bm
 have Hi:=PySem.W.mg_of X G qI
 have Hh:=PySem.W.mg_of X G qH
 have Ef:=PySem.W.mg_of X G lM
 have Fh:=PySem.W.mg_of X G n6
 have cM:=PySem.W.mg_of X G n8
 have bQ:=PySem.W.mg_of X G jr
 have oz:=PySem.W.mg_of X G lN
 have oA:=PySem.W.mg_of X G lO
 have xZ:=PySem.W.mg_of X G tX
 have ui:=PySem.W.mg_of X G qG
 have BO:=PySem.W.mg_of X G xN
 have ya:=PySem.W.mg_of X G tY
 have yb:=PySem.W.mg_of X G tZ
 have uj:=PySem.W.mg_of X G qJ
 refine ⟨PySem.W.fnOf "law" "law" (aw tH) (au tH) (af tH) .none IM Iv JL Ig Fc Ir,fun s v => .of_eq rfl,fun base _ _ => ?_⟩
 have xO:=(show Cls K cf from ⟨cW_pg,cW_hd,cW_po,cW_sa⟩)
 have gX:=(show Cls K aB from ⟨cR_pg,cR_hd,cR_po,cR_sa⟩)
 have Fx:=(show Mk K aB bZ from ⟨cR_mk,eh,cR_fi,cR_kp⟩)
 have gW:=(show Cls K aG from ⟨cP_pg,cP_hd,cP_po,cP_sa⟩)
 have Fw:=(show Mk K aG bX from ⟨cP_mk,d9,cP_fi,cP_kp⟩)
 have dQ:=(show Cls K av from ⟨cN_pg,cN_hd,cN_po,cN_sa⟩)
 have Cg:=(show Mk K av bC from ⟨cN_mk,c6,cN_fi,cN_kp⟩)
 have fF:=(show Cls K aA from ⟨cC_pg,cC_hd,cC_po,cC_sa⟩)
 have Ey:=(show Mk K aA bN from ⟨cC_mk,dD,cC_fi,cC_kp⟩)
 have mkW:=(show Mk0 K cf from ⟨cW_mk,cW_in,cW_kp⟩)
 have rc:=(show RCls K aB from ⟨gX,cR_n_rows,cR_n_signs⟩)
 have pc:=(show PCls K aG from ⟨gW,cP_n_one,cP_n_other,cP_n_rule⟩)
 have nc:=(show NCls K av from ⟨dQ,cN_n_walk,cN_n_base,cN_n_below⟩)
 have ch:=(show CCls K aA from ⟨fF,cC_n_rows,cC_n_base,cC_n_below,cC_n_winning⟩)
 have xi_TooGreat:=Kb i_ex i_fn i_kp i_sa i_hd i_mr i_ga i_gt i_cl xgg xtk ob_TooGreat i_be
 have xc:=(GS i_ga i_gt i_cl xgg xtk ob_TooGreat i_be)
 have xm:=(L4 tw0 ob_TooGreat tw2 tw3)
 have bP : DefI l.prog w K mg base "TooGreat" ar bh 1 ["self","most"] (Dx ar):=⟨cM,xi_TooGreat,_,b_TooGreat___init__,KG F_TooGreat___init__ xi_TooGreat i_na bQ f_ga f_rd f_fc⟩
 have gq : DefOk l.prog w K mg base "power_of" 1 ["base","times"] [] (xw):=⟨_,_,[],Fs,lZ,.nil,b_power_of,Jn F_power_of aF⟩
 have iZ : DefOk l.prog w K mg base "without_part" 1 ["figure","base","below"] [] (uX):=⟨_,_,[],yt,gc,.nil,b_without_part,FF F_without_part ⟩
 have nk : DefOk l.prog w K mg base "with_part" 1 ["figure","base","below","part"] [] (DF):=⟨_,_,[],Es,ka,.nil,b_with_part,Jt F_with_part ⟩
 have kh : DefOk l.prog w K mg base "parts_alone" 1 ["base","below"] [] (DC):=⟨_,_,[],zR,gO,.nil,b_parts_alone,Jl F_parts_alone aF⟩
 have lq : DefOk l.prog w K mg base "rooms_with" 1 ["machine","sign"] [] (yZ):=⟨_,_,[],Ce,iU,.nil,b_rooms_with,HF F_rooms_with fc⟩
 have d8 : DefOk l.prog w K mg base "rooms_leading_to" 1 ["machine","goals","taken"] [] (Dv K):=⟨_,_,[],q9,cN,.nil,b_rooms_leading_to,Jf F_rooms_leading_to fc F7 F6⟩
 have gp : DefMk l.prog w K mg base "Reading" aB 1 ["self","machine"] (xx aB):=⟨Hi,gX,_,_,Fx,b_Reading___init__,Jo F_Reading___init__ rc⟩
 have kY : DefMk l.prog w K mg base "Narrowing" av 2 ["self","walk","base","at"] (Dy av):=⟨Ef,dQ,_,_,Cg,b_Narrowing___init__,Jk F_Narrowing___init__ nc gq⟩
 have mZ : DefMk l.prog w K mg base "Choosing" aA 2 ["self","machine","base","at"] (tP aA):=⟨Fh,fF,_,_,Ey,b_Choosing___init__,Hv F_Choosing___init__ ch gq lq kh d8⟩
 have qx : DefMk l.prog w K mg base "Pairing" aG 1 ["self","one","other","rule"] (Dz aG):=⟨Hh,gW,_,_,Fw,b_Pairing___init__,Jm F_Pairing___init__ pc⟩
 have eM : DefOk l.prog w K mg base "_law_rule" 1 ["_law_here","_law_there"] [] (DD):=⟨_,_,[],vj,jV,.nil,b__law_rule,KH F__law_rule ⟩
 have eO:=vj
 have GEK_begin:=(show DefMe l.prog w K mg base cf "begin" 1 ["self"] (yU) from ⟨xO,_,_,⟨lx,kC,iP⟩,b_Walk_begin,Hy F_Walk_begin⟩)
 have GEK_step:=(show DefMe l.prog w K mg base cf "step" 1 ["self","place","figure"] (Dr) from ⟨xO,_,_,⟨nv,lX,jT⟩,b_Walk_step,Je F_Walk_step⟩)
 have GEK_sign:=(show DefMe l.prog w K mg base cf "sign" 1 ["self","place"] (Dq) from ⟨xO,_,_,⟨nq,lW,jS⟩,b_Walk_sign,Jd F_Walk_sign⟩)
 have GER_begin:=(show DefMe l.prog w K mg base aB "begin" 1 ["self"] (pA) from ⟨gX,_,_,⟨ia,gE,d0⟩,b_Reading_begin,HD F_Reading_begin⟩)
 have GER_step:=(show DefMe l.prog w K mg base aB "step" 1 ["self","place","figure"] (tR aB) from ⟨gX,_,_,⟨i7,ir,fY⟩,b_Reading_step,Jq F_Reading_step rc⟩)
 have GER_sign:=(show DefMe l.prog w K mg base aB "sign" 1 ["self","place"] (tQ aB) from ⟨gX,_,_,⟨i6,iq,fX⟩,b_Reading_sign,Jp F_Reading_sign rc⟩)
 have GEP_begin:=(show DefMe l.prog w K mg base aG "begin" 2 ["self"] (yX aG aB) from ⟨gW,_,_,⟨h9,gD,dZ⟩,b_Pairing_begin,FE F_Pairing_begin pc GER_begin⟩)
 have GEP_step:=(show DefMe l.prog w K mg base aG "step" 2 ["self","place","figure"] (DB aG aB) from ⟨gW,_,_,⟨i5,ik,fV⟩,b_Pairing_step,HC F_Pairing_step pc GER_step⟩)
 have GEP_sign:=(show DefMe l.prog w K mg base aG "sign" 2 ["self","place"] (DA aG aB _) from ⟨gW,_,_,⟨i4,ij,fU⟩,b_Pairing_sign,HB F_Pairing_sign pc GER_sign eM eO⟩)
 have GEN_begin:=(show DefMe l.prog w K mg base av "begin" 2 ["self"] (uW av aB) from ⟨dQ,_,_,⟨ft,eE,cW⟩,b_Narrowing_begin,FD F_Narrowing_begin nc GER_begin⟩)
 have GEN_step:=(show DefMe l.prog w K mg base av "step" 2 ["self","place","figure"] (yW av aB) from ⟨dQ,_,_,⟨gv,fR,dz⟩,b_Narrowing_step,HA F_Narrowing_step nc GER_step iZ⟩)
 have GEN_sign:=(show DefMe l.prog w K mg base av "sign" 2 ["self","place"] (yV av aB) from ⟨dQ,_,_,⟨gu,fQ,dy⟩,b_Narrowing_sign,Hz F_Narrowing_sign nc GER_sign⟩)
 have GEC_begin:=(show DefMe l.prog w K mg base aA "begin" 1 ["self"] (uU) from ⟨fF,_,_,⟨gr,fP,dq⟩,b_Choosing_begin,Fz F_Choosing_begin⟩)
 have GEC_step:=(show DefMe l.prog w K mg base aA "step" 2 ["self","place","figure"] (yT aA) from ⟨fF,_,_,⟨h8,gC,dY⟩,b_Choosing_step,Hx F_Choosing_step ch nk aF aS zh Kj⟩)
 have GEC_sign:=(show DefMe l.prog w K mg base aA "sign" 1 ["self","place"] (yS aA) from ⟨fF,_,_,⟨h7,gB,dX⟩,b_Choosing_sign,Hw F_Choosing_sign ch Kh⟩)
 have kL : DefX2 l.prog w K mg base "grown" 4 ["walk","wide","most"] [] (hU ar (AnyW cf aB aG av aA cu)):=⟨_,_,[],GA,sH,.nil,b_grown,vk F_grown GEK_begin GEK_step GEK_sign GER_begin GER_step GER_sign GEP_begin GEP_step GEP_sign GEN_begin GEN_step GEN_sign GEC_begin GEC_step GEC_sign bP aF aZ aS⟩
 have qy : DefX2 l.prog w K mg base "grown" 4 ["walk","wide","most"] [.int 200] (hU ar (AnyW cf aB aG av aA cu)):=⟨_,_,_,GA,sH,.cons ⟨_,rfl⟩ (.nil),b_grown_d,vk F_grown GEK_begin GEK_step GEK_sign GER_begin GER_step GER_sign GEP_begin GEP_step GEP_sign GEN_begin GEN_step GEN_sign GEC_begin GEC_step GEC_sign bP aF aZ aS⟩
 have xo:=(DefX2.calm kL)
 have aI : DefOk l.prog w K mg base "_law_number" 1 ["_law_script","_law_k"] [] (GK K):=⟨_,_,[],zP,gM,.nil,b__law_number,Mi F__law_number aZ⟩
 have cn : DefOk l.prog w K mg base "_law_whole" 1 ["_law_found"] [] (hV):=⟨_,_,[],sS,f9,.nil,b__law_whole,HI F__law_whole aE AX va⟩
 have dN : DefH l.prog w K mg base "_law_whole" 1 ["_law_found"] [] (hV):=⟨_,_,[],sS,f9,.nil,b__law_whole,HH F__law_whole aE AX va⟩
 have ng : DefOk l.prog w K mg base "_law_sign" 1 ["_law_number_here"] [] (DE):=⟨_,_,[],En,jW,.nil,b__law_sign,Jr F__law_sign ⟩
 have fj : DefOk l.prog w K mg base "_law_machine" 2 ["_law_script","_law_start","_law_wide_here","_law_many"] [] (Dw K):=⟨_,_,[],yp,fZ,.nil,b__law_machine,Jj F__law_machine aI ng aF aS⟩
 have m8 : DefOk l.prog w K mg base "_law_long" 1 ["_law_wide_here","_law_many","_law_number_here"] [] (FR):=⟨_,_,[],Em,jU,.nil,b__law_long,KD F__law_long aF aS⟩
 have lh : DefOk l.prog w K mg base "_law_sides" 1 ["_law_number_here"] [] (y3):=⟨_,_,[],Cd,iT,.nil,b__law_sides,HG F__law_sides ⟩
 have bq : DefOk l.prog w K mg base "_law_wide" 1 ["_law_base","_law_many"] [] (pK):=⟨_,_,[],Er,jZ,.nil,b__law_wide,Js F__law_wide aF⟩
 have iY : DefOk l.prog w K mg base "_law_without" 2 ["_law_figure","_law_base","_law_at"] [] (rT):=⟨_,_,[],yr,gb,.nil,b__law_without,EH F__law_without bq⟩
 have nj : DefOk l.prog w K mg base "_law_walk" 4 ["_law_way","_law_one","_law_other","_law_base","_law_at"] [] (Du (AnyW cf aB aG av aA cu)):=⟨_,_,[],Ep,jY,.nil,b__law_walk,Ji F__law_walk Fi mkW gp qx kY mZ eO⟩
 have k9 : DefOk l.prog w K mg base "_law_rooms" 2 ["_law_one","_law_base","_law_at","_law_place","_law_figure"] [] (yY):=⟨_,_,[],Cc,iR,.nil,b__law_rooms,HE F__law_rooms bq aF aZ aS⟩
 have ni : DefOk l.prog w K mg base "_law_step" 3 ["_law_made","_law_place","_law_figure"] [] (Dt):=⟨_,_,[],Eo,jX,.nil,b__law_step,Jh F__law_step iY k9⟩
 have kZ : DefOk l.prog w K mg base "_law_alive" 2 ["_law_one","_law_base","_law_at"] [] (yR):=⟨_,_,[],Cb,iQ,.nil,b__law_alive,Hu F__law_alive bq aF aZ⟩
 have fq : DefOk l.prog w K mg base "_law_sign_there" 2 ["_law_way","_law_one","_law_other","_law_alive_here","_law_place"] [] (Ds):=⟨_,_,[],sQ,cZ,.nil,b__law_sign_there,Jg F__law_sign_there eM⟩
 have kg : DefOk l.prog w K mg base "_law_walked" 4 ["_law_found","_law_way","_law_one","_law_other","_law_base","_law_at"] [] (uV):=⟨_,_,[],zQ,gN,.nil,b__law_walked,FC F__law_walked kZ ni fq aF aZ⟩
 have bg : DefOk l.prog w K mg base "_law_is_machine" 2 ["_law_found","_law_wide_here"] [] (pJ):=⟨_,_,[],sP,cY,.nil,b__law_is_machine,FA F__law_is_machine cn aE aS aZ⟩
 have fk : DefOk l.prog w K mg base "_law_refused" 5 ["_law_walk_here","_law_wide_here","_law_most"] [] (my (AnyW cf aB aG av aA cu)):=⟨_,_,[],yq,f7,.nil,b__law_refused,EG F__law_refused xc xi_TooGreat i_na bQ cM xm fe1 fe2 fe3 fe4 kve oz ob_NoFigures ty_NoFigures su_NoFigures ne_NoFigures oA ob_NoMachine ty_NoMachine su_NoMachine ne_NoMachine xZ ob_NoName ty_NoName su_NoName ne_NoName ui ob_NoPower ty_NoPower su_NoPower ne_NoPower BO ob_NoRow ty_NoRow su_NoRow ne_NoRow ya ob_NoSome ty_NoSome su_NoSome ne_NoSome yb ob_NoText ty_NoText su_NoText ne_NoText uj ob_TooWide ty_TooWide su_TooWide ne_TooWide kL dN aE gk⟩
 have fh : DefOk l.prog w K mg base "_law_by_default" 5 ["_law_walk_here","_law_wide_here","_law_due"] [] (rS (AnyW cf aB aG av aA cu)):=⟨_,_,[],sN,cX,.nil,b__law_by_default,ED F__law_by_default xi_TooGreat i_na cM xm qy cn bg aZ⟩
 exact Mh F_law (O:=AnyW cf aB aG av aA cu) (fun h s => AnyW.same h s) (fun h => AnyW.ok h) aI lh bq fj m8 nj xo bg kg fk fh aZ Ki
theorem walk {l : PySem.W.OpenLaw} {q : Program} {loose : List Str} {XP : (Str -> Option Value) -> Heap -> Prop} {YP : World -> Heap -> Prop} {d : DefRec} {K : Params -> PySem.W.Frag} (hn : l.most = some 63) (hdf : d.params.defaults = [])
  (hY : ∀ (w : World) (h : Heap),YP w h -> (K w.params).In h)
  (F : ∀ (w : World) (mg : Str -> Option Value) (fa : Addr) (h : Heap),(K w.params).In h -> h.Ns mainGlobals mg -> mg d.name = some (.ref fa) ->
   ∃ fd : FuncData,(∀ (s : Shared) (u : Value),BindsTo s fd ⟨[u],[]⟩ [("_law_script",u)]) /\ ∀ base : Heap,(K w.params).In base -> base.Ns mainGlobals mg -> FnOk l.prog w (K w.params) mg base CX0 6 fa fd ["_law_script"] (GJ (K w.params))) :
  PySem.W.WalkO q loose XP YP l.row.toRowW d [] (fun f vs => PySem.call f vs):=
 L2.walk_of (n:=63) (k:=6) (x := "_law_script") (CX:=fun _ => CX0) (sp:=fun w => GJ (K w.params)) hn (by decide) hdf ⟨rfl,by decide,by decide⟩ hY F (fun _ _ a ns hl _ hS => ⟨a,ns,rfl,hS,hl,fun _ => rfl⟩) fun _ _ _ _ _ z => z
end My
def PySem.W.Fast.tw3863150848830643062:=0
def PySem.W.Fast.tw14818524414548966964:=0
def PySem.W.Fast.tw3141811481129084646:=0
def PySem.W.Fast.tw7683124565686116717:=0
def PySem.W.Fast.tw15466053630269688187:=0
def PySem.W.Fast.tw17895746783301372510:=0
def PySem.W.Fast.tw951522211174121849:=0
def PySem.W.Fast.tw14993418593614764455:=0
def PySem.W.Fast.tw12005246541226889886:=0
def PySem.W.Fast.tw15774912640489646365:=0
def PySem.W.Fast.tw2766291707574805758:=0
def PySem.W.Fast.tw2384522779301435918:=0
def PySem.W.Fast.tw16111734259775599938:=0
def PySem.W.Fast.tw11801284606803750100:=0
def PySem.W.Fast.tw367683884891828440:=0
def PySem.W.Fast.tw7863361744514928722:=0
def PySem.W.Fast.tw16589277007001526981:=0
def PySem.W.Fast.tw4259635667629659058:=0
def PySem.W.Fast.tw12342449296618248203:=0
def PySem.W.Fast.tw14969928035823548270:=0
def PySem.W.Fast.tw8517933700571563145:=0
def PySem.W.Fast.tw582245778643714960:=0
def PySem.W.Fast.tw11416247375421776201:=0
def PySem.W.Fast.tw15349543149745185748:=0
def PySem.W.Fast.tw6831570525502763434:=0
def PySem.W.Fast.tw5519830974192497146:=0
def PySem.W.Fast.tw841160410025714946:=0
def PySem.W.Fast.tw2743314726020115640:=0
def PySem.W.Fast.tw2169534669379021760:=0
def PySem.W.Fast.tw9498154231469175635:=0
def PySem.W.Fast.tw5989309724506695096:=0
def PySem.W.Fast.tw11877826207922464701:=0
def PySem.W.Fast.tw17572268002778654225:=0
def PySem.W.Fast.tw9878600287129646704:=0
def PySem.W.Fast.tw2084474428055240529:=0
def PySem.W.Fast.tw7724986832058115722:=0
def PySem.W.Fast.tw1923299119662081195:=0
def PySem.W.Fast.tw97022050368743596:=0
def PySem.W.Fast.tw152452457528276726:=0
def PySem.W.Fast.tw16240952306305027905:=0
def PySem.W.Fast.tw15962896159276066800:=0
def PySem.W.Fast.tw6650646284917336880:=0
def PySem.W.Fast.tw11281386121202718903:=0
def PySem.W.Fast.tw2542963966881771839:=0
def PySem.W.Fast.tw16209556312011799605:=0
def PySem.W.Fast.tw16320799881712267372:=0
def PySem.W.Fast.tw12413434121950883160:=0
def PySem.W.Fast.tw10834283801532260298:=0
def PySem.W.Fast.tw13950066298296568875:=0
def PySem.W.Fast.tw2144780498606247681:=0
def PySem.W.Fast.tw13612595740378165900:=0
def PySem.W.Fast.tw15542878518785415342:=0
def PySem.W.Fast.tw6240496017978721994:=0
def PySem.W.Fast.tw18291737057744465909:=0
def PySem.W.Fast.tw12472691223015770767:=0
def PySem.W.Fast.tw9935722873786735281:=0
def PySem.W.Fast.tw9461343886788944335:=0
def PySem.W.Fast.tw3721854390410231522:=0
def PySem.W.Fast.tw12047837973646367105:=0
def PySem.W.Fast.tw11959755311289508905:=0
def PySem.W.Fast.tw16307214217864474719:=0
def PySem.W.Fast.tw8212237109862762212:=0
def PySem.W.Fast.tw18238138181580602501:=0
def PySem.W.Fast.tw5490208130668118585:=0
def PySem.W.Fast.tw5262573268329659080:=0
def PySem.W.Fast.tw16456869790330677195:=0
def PySem.W.Fast.tw175804069259762251:=0
def PySem.W.Fast.tw17383099514925921340:=0
def PySem.W.Fast.tw14170785202061505730:=0
def PySem.W.Fast.tw6128997026777782465:=0
def PySem.W.Fast.tw5194835365466576599:=0
def PySem.W.Fast.tw7062616260603188203:=0
def PySem.W.Fast.tw5944450784478368309:=0
def PySem.W.Fast.tw8229941151584194545:=0
def PySem.W.Fast.tw2996255755857592257:=0
def PySem.W.Fast.tw4716637538902123335:=0
def PySem.W.Fast.tw6800771745966791125:=0
def PySem.W.Fast.tw8366554617568058031:=0
def PySem.W.Fast.tw10405732808993279208:=0
def PySem.W.Fast.tw11585071206941846871:=0
def PySem.W.Fast.tw13196433482282999168:=0
def PySem.W.Fast.tw8288496186905016860:=0
def PySem.W.Fast.tw2979697233898266671:=0
def PySem.W.Fast.tw576833027297322009:=0
def PySem.W.Fast.tw8010066884211255510:=0
def PySem.W.Fast.tw6762559975993452128:=0
def PySem.W.Fast.tw2985510860275691572:=0
def PySem.W.Fast.tw9053460515829593264:=0
def PySem.W.Fast.tw9111982115565554470:=0
def PySem.W.Fast.tw14940956060715553860:=0
def PySem.W.Fast.tw15953379002829029173:=0
def PySem.W.Fast.tw7427399146163868720:=0
def PySem.W.Fast.tw536830421367803217:=0
def PySem.W.Fast.tw11017448098134374673:=0
def PySem.W.Fast.tw8288046147417194484:=0
def PySem.W.Fast.tw6489968464299519469:=0
def PySem.W.Fast.tw1562061418796297272:=0
def PySem.W.Fast.tw10989861081144746315:=0
def PySem.W.Fast.tw16609171108148152368:=0
def PySem.W.Fast.tw17752844115502233402:=0
def PySem.W.Fast.tw16418594862177311923:=0
def PySem.W.Fast.tw10492817811175992784:=0
def PySem.W.Fast.tw5555516434672431710:=0
def PySem.W.Fast.tw10381695689269256755:=0
def PySem.W.Fast.tw12075518892263797308:=0
def PySem.W.Fast.tw15433355240314181819:=0
def PySem.W.Fast.tw8302328560531613238:=0
def PySem.W.Fast.tw17286171660741462656:=0
def PySem.W.Fast.tw17909130284753187119:=0
def PySem.W.Fast.tw15853431410221901361:=0
def PySem.W.Fast.tw9409735852735728201:=0
def PySem.W.Fast.tw12387522661087057736:=0
def PySem.W.Fast.tw6869191419346253626:=0
def PySem.W.Fast.tw3367536273085429905:=0
def PySem.W.Fast.tw1586175641785828038:=0
def PySem.W.Fast.tw14173789985716282448:=0
def PySem.W.Fast.tw2586698240277756880:=0
def PySem.W.Fast.tw8405279333691745140:=0
def PySem.W.Fast.tw15879828388919675465:=0
def PySem.W.Fast.tw7821462792772707449:=0
def PySem.W.Fast.tw17192046427817180299:=0
def PySem.W.Fast.tw4721525482230786649:=0
def PySem.W.Fast.tw907830947805041424:=0
def PySem.W.Fast.tw6468754499915698307:=0
def PySem.W.Fast.tw17827698097685526812:=0
def PySem.W.Fast.tw11394493880826491179:=0
def PySem.W.Fast.tw18342204003667459040:=0
def PySem.W.Fast.tw17186467432016437299:=0
def PySem.W.Fast.tw696796116217991186:=0
def PySem.W.Fast.tw9105376671965060086:=0
def PySem.W.Fast.tw8897056122243989684:=0
def PySem.W.Fast.tw14851538432168251288:=0
def PySem.W.Fast.tw4662934840912832056:=0
def PySem.W.Fast.tw16066280827931394671:=0
def PySem.W.Fast.tw13304473125842339914:=0
def PySem.W.Fast.tw10805788746054372193:=0
def PySem.W.Fast.tw10955586073826361375:=0
def PySem.W.Fast.tw5937740585213490598:=0
def PySem.W.Fast.tw14155163320009757107:=0
def PySem.W.Fast.tw1322965112449415707:=0
def PySem.W.Fast.tw2680720567579453698:=0
def PySem.W.Fast.tw12505127939289313907:=0
def PySem.W.Fast.tw7982821659795256497:=0
def PySem.W.Fast.tw9210354430719364448:=0
def PySem.W.Fast.tw8688307296868486428:=0
def PySem.W.Fast.tw17946910664562384036:=0
def PySem.W.Fast.tw15769254310067076473:=0
def PySem.W.Fast.tw8711408561269933250:=0
def PySem.W.Fast.tw13529488574197598684:=0
def PySem.W.Fast.tw4986758397856183440:=0
def PySem.W.Fast.tw7811257489458154425:=0
def PySem.W.Fast.tw4514897889405810687:=0
def PySem.W.Fast.tw16443142407096770418:=0
def PySem.W.Fast.tw7034641282126841627:=0
def PySem.W.Fast.tw7026824468388373411:=0
def PySem.W.Fast.tw5914752496450247706:=0
def PySem.W.Fast.tw15566472528988903943:=0
open PySem PySem.W PyProof.Rows
set_option maxRecDepth 100000 in
set_option maxHeartbeats 0 in
theorem PySem.Challenge.cw_figuretell_k23_grown_holds : PySem.Challenge.rw_figuretell_k23_grown.Holds := by
 w_on; o_law; k_head; (case hw => w_witness2)
 k_fill
 refine My.walk (l:=PySem.Challenge.rw_figuretell_k23_grown) rfl rfl (fun w h Y => PySem.W.kIn_of Y) ?F
 case F =>
  intro w mg fa h KX G hmg
  refine' My.all_mk KX G hmg ?qz ?qZ ?qF ?lZ ?jb ?jF ?jk ?gc ?nG ?oV ?nX ?ka ?km ?kH ?kr ?gO ?lD ?mh ?lK ?iU ?et ?eK ?eC ?cN ?nz ?oM ?nO ?jV ?A8 ?B9 ?Bj ?sH ?xA ?ki ?kF ?ko ?gM ?lC ?mf ?lJ ?f9 ?nA ?oO ?nP ?jW ?i8 ?jC ?jg ?fZ ?ny ?oK ?nN ?jU ?lB ?me ?lI ?iT ?nF ?oU ?nV ?jZ ?ja ?jE ?ji ?gb ?nC ?oQ ?nU ?jY ?lA ?ma ?lH ?iR ?nB ?oP ?nQ ?jX ?ly ?l9 ?lG ?iQ ?fx ?gi ?fE ?cZ ?kj ?kG ?kq ?gN ?fw ?gh ?fB ?cY ?i9 ?jD ?jh ?f7 ?fu ?gf ?fA ?cX ?Ga ?IT ?Ij ?IP ?Ke ?DM ?DN ?F5 ?mB ?Kd ?y_bool ?zg ?Kg ?Kc ?pC ?F4 ?Kf ?mz ?Bm ?qI ?qH ?lM ?n6 ?n8 ?jr ?lN ?lO ?tX ?qG ?xN ?tY ?tZ ?qJ ?lx ?l7 ?lF ?iP ?nv ?oJ ?nM ?jT ?nq ?oH ?nK ?jS ?ia ?iA ?ig ?d0 ?i7 ?jB ?jf ?fY ?i6 ?jA ?je ?fX ?h9 ?iz ?ie ?dZ ?i5 ?jz ?jd ?fV ?i4 ?jy ?jc ?fU ?ft ?gd ?fz ?cW ?gv ?gH ?gA ?dz ?gu ?gG ?gz ?dy ?gr ?gF ?gy ?dq ?h8 ?iy ?ic ?dY ?h7 ?iw ?ib ?dX ?iH ?dM ?dF ?dI ?eh ?eJ ?eB ?eG ?c6 ?de ?c8 ?dc ?dD ?dJ ?dE ?dH ?d9 ?eI ?eA ?eF ?cW_pg ?cW_hd ?cW_po ?cW_sa ?cW_mk ?cW_in ?cW_kp ?cP_pg ?cP_hd ?cP_po ?cP_sa ?cP_n_one ?cP_n_other ?cP_n_rule ?cP_mk ?cP_fi ?cP_kp ?cR_pg ?cR_hd ?cR_po ?cR_sa ?cR_n_rows ?cR_n_signs ?cR_mk ?cR_fi ?cR_kp ?cN_pg ?cN_hd ?cN_po ?cN_sa ?cN_n_walk ?cN_n_base ?cN_n_below ?cN_mk ?cN_fi ?cN_kp ?cC_pg ?cC_hd ?cC_po ?cC_sa ?cC_n_rows ?cC_n_base ?cC_n_below ?cC_n_winning ?cC_mk ?cC_fi ?cC_kp ?kC ?lX ?lW ?gE ?ir ?iq ?gD ?ik ?ij ?eE ?fR ?fQ ?fP ?gC ?gB ?xgg ?xtk ?ob_TooGreat ?i_ex ?i_fn ?i_kp ?i_sa ?i_hd ?i_mr ?i_ga ?i_gt ?i_cl ?i_be ?i_na ?f_ga ?f_rd ?f_fc ?tw0 ?tw2 ?tw3 ?fe1 ?fe2 ?fe3 ?fe4 ?kve ?ob_NoFigures ?ty_NoFigures ?su_NoFigures ?ne_NoFigures ?ob_NoMachine ?ty_NoMachine ?su_NoMachine ?ne_NoMachine ?ob_NoName ?ty_NoName ?su_NoName ?ne_NoName ?ob_NoPower ?ty_NoPower ?su_NoPower ?ne_NoPower ?ob_NoRow ?ty_NoRow ?su_NoRow ?ne_NoRow ?ob_NoSome ?ty_NoSome ?su_NoSome ?ne_NoSome ?ob_NoText ?ty_NoText ?su_NoText ?ne_NoText ?ob_TooWide ?ty_TooWide ?su_TooWide ?ne_TooWide
  (case qz => k_is); (case qZ => k_is); (case qF => k_is); (case lZ => k_is)
  (case jb => k_is); (case jF => k_is); (case jk => k_is); (case gc => k_is)
  (case nG => k_is); (case oV => k_is); (case nX => k_is); (case ka => k_is)
  (case km => k_is); (case kH => k_is); (case kr => k_is); (case gO => k_is)
  (case lD => k_is); (case mh => k_is); (case lK => k_is); (case iU => k_is)
  (case et => k_is); (case eK => k_is); (case eC => k_is); (case cN => k_is)
  (case nz => k_is); (case oM => k_is); (case nO => k_is); (case jV => k_is)
  (case A8 => k_is); (case B9 => k_is); (case Bj => k_is); (case sH => k_is); (case xA => k_is)
  (case ki => k_is); (case kF => k_is); (case ko => k_is); (case gM => k_is)
  (case lC => k_is); (case mf => k_is); (case lJ => k_is); (case f9 => k_is)
  (case nA => k_is); (case oO => k_is); (case nP => k_is); (case jW => k_is)
  (case i8 => k_is); (case jC => k_is); (case jg => k_is); (case fZ => k_is)
  (case ny => k_is); (case oK => k_is); (case nN => k_is); (case jU => k_is)
  (case lB => k_is); (case me => k_is); (case lI => k_is); (case iT => k_is)
  (case nF => k_is); (case oU => k_is); (case nV => k_is); (case jZ => k_is)
  (case ja => k_is); (case jE => k_is); (case ji => k_is); (case gb => k_is)
  (case nC => k_is); (case oQ => k_is); (case nU => k_is); (case jY => k_is)
  (case lA => k_is); (case ma => k_is); (case lH => k_is); (case iR => k_is)
  (case nB => k_is); (case oP => k_is); (case nQ => k_is); (case jX => k_is)
  (case ly => k_is); (case l9 => k_is); (case lG => k_is); (case iQ => k_is)
  (case fx => k_is); (case gi => k_is); (case fE => k_is); (case cZ => k_is)
  (case kj => k_is); (case kG => k_is); (case kq => k_is); (case gN => k_is)
  (case fw => k_is); (case gh => k_is); (case fB => k_is); (case cY => k_is)
  (case i9 => k_is); (case jD => k_is); (case jh => k_is); (case f7 => k_is)
  (case fu => k_is); (case gf => k_is); (case fA => k_is); (case cX => k_is)
  (case Ga => k_is); (case IT => k_is); (case Ij => k_is); (case IP => k_is)
  (case Ke => k_is); (case DM => k_is); (case DN => k_is); (case F5 => k_is); (case mB => k_is); (case Kd => k_is); (case y_bool => k_is); (case zg => k_is); (case Kg => k_is); (case Kc => k_is); (case pC => k_is); (case F4 => k_is); (case Kf => k_is); (case mz => k_is)
  (case Bm => k_is)
  (case qI => k_is)
  (case qH => k_is)
  (case lM => k_is)
  (case n6 => k_is)
  (case n8 => k_is)
  (case jr => k_is)
  (case lN => k_is)
  (case lO => k_is)
  (case tX => k_is)
  (case qG => k_is)
  (case xN => k_is)
  (case tY => k_is)
  (case tZ => k_is)
  (case qJ => k_is)
  (case lx => k_is); (case l7 => k_is); (case lF => k_is); (case iP => k_is)
  (case nv => k_is); (case oJ => k_is); (case nM => k_is); (case jT => k_is)
  (case nq => k_is); (case oH => k_is); (case nK => k_is); (case jS => k_is)
  (case ia => k_is); (case iA => k_is); (case ig => k_is); (case d0 => k_is)
  (case i7 => k_is); (case jB => k_is); (case jf => k_is); (case fY => k_is)
  (case i6 => k_is); (case jA => k_is); (case je => k_is); (case fX => k_is)
  (case h9 => k_is); (case iz => k_is); (case ie => k_is); (case dZ => k_is)
  (case i5 => k_is); (case jz => k_is); (case jd => k_is); (case fV => k_is)
  (case i4 => k_is); (case jy => k_is); (case jc => k_is); (case fU => k_is)
  (case ft => k_is); (case gd => k_is); (case fz => k_is); (case cW => k_is)
  (case gv => k_is); (case gH => k_is); (case gA => k_is); (case dz => k_is)
  (case gu => k_is); (case gG => k_is); (case gz => k_is); (case dy => k_is)
  (case gr => k_is); (case gF => k_is); (case gy => k_is); (case dq => k_is)
  (case h8 => k_is); (case iy => k_is); (case ic => k_is); (case dY => k_is)
  (case h7 => k_is); (case iw => k_is); (case ib => k_is); (case dX => k_is)
  (case iH => k_is); (case dM => k_is); (case dF => k_is); (case dI => k_is)
  (case eh => k_is); (case eJ => k_is); (case eB => k_is); (case eG => k_is)
  (case c6 => k_is); (case de => k_is); (case c8 => k_is); (case dc => k_is)
  (case dD => k_is); (case dJ => k_is); (case dE => k_is); (case dH => k_is)
  (case d9 => k_is); (case eI => k_is); (case eA => k_is); (case eF => k_is)
  (case cW_pg => first | k_is | k_exc | decide | kernel_rfl)
  (case cW_hd => first | k_is | k_exc | decide | kernel_rfl)
  (case cW_po => first | k_is | k_exc | decide | kernel_rfl)
  (case cW_sa => first | k_is | k_exc | decide | kernel_rfl)
  (case cW_mk => first | k_is | k_exc | decide | kernel_rfl)
  (case cW_in => first | k_is | k_exc | decide | kernel_rfl)
  (case cW_kp => first | k_is | k_exc | decide | kernel_rfl)
  (case cP_pg => first | k_is | k_exc | decide | kernel_rfl)
  (case cP_hd => first | k_is | k_exc | decide | kernel_rfl)
  (case cP_po => first | k_is | k_exc | decide | kernel_rfl)
  (case cP_sa => first | k_is | k_exc | decide | kernel_rfl)
  (case cP_n_one => first | k_is | k_exc | decide | kernel_rfl)
  (case cP_n_other => first | k_is | k_exc | decide | kernel_rfl)
  (case cP_n_rule => first | k_is | k_exc | decide | kernel_rfl)
  (case cP_mk => first | k_is | k_exc | decide | kernel_rfl)
  (case cP_fi => first | k_is | k_exc | decide | kernel_rfl)
  (case cP_kp => first | k_is | k_exc | decide | kernel_rfl)
  (case cR_pg => first | k_is | k_exc | decide | kernel_rfl)
  (case cR_hd => first | k_is | k_exc | decide | kernel_rfl)
  (case cR_po => first | k_is | k_exc | decide | kernel_rfl)
  (case cR_sa => first | k_is | k_exc | decide | kernel_rfl)
  (case cR_n_rows => first | k_is | k_exc | decide | kernel_rfl)
  (case cR_n_signs => first | k_is | k_exc | decide | kernel_rfl)
  (case cR_mk => first | k_is | k_exc | decide | kernel_rfl)
  (case cR_fi => first | k_is | k_exc | decide | kernel_rfl)
  (case cR_kp => first | k_is | k_exc | decide | kernel_rfl)
  (case cN_pg => first | k_is | k_exc | decide | kernel_rfl)
  (case cN_hd => first | k_is | k_exc | decide | kernel_rfl)
  (case cN_po => first | k_is | k_exc | decide | kernel_rfl)
  (case cN_sa => first | k_is | k_exc | decide | kernel_rfl)
  (case cN_n_walk => first | k_is | k_exc | decide | kernel_rfl)
  (case cN_n_base => first | k_is | k_exc | decide | kernel_rfl)
  (case cN_n_below => first | k_is | k_exc | decide | kernel_rfl)
  (case cN_mk => first | k_is | k_exc | decide | kernel_rfl)
  (case cN_fi => first | k_is | k_exc | decide | kernel_rfl)
  (case cN_kp => first | k_is | k_exc | decide | kernel_rfl)
  (case cC_pg => first | k_is | k_exc | decide | kernel_rfl)
  (case cC_hd => first | k_is | k_exc | decide | kernel_rfl)
  (case cC_po => first | k_is | k_exc | decide | kernel_rfl)
  (case cC_sa => first | k_is | k_exc | decide | kernel_rfl)
  (case cC_n_rows => first | k_is | k_exc | decide | kernel_rfl)
  (case cC_n_base => first | k_is | k_exc | decide | kernel_rfl)
  (case cC_n_below => first | k_is | k_exc | decide | kernel_rfl)
  (case cC_n_winning => first | k_is | k_exc | decide | kernel_rfl)
  (case cC_mk => first | k_is | k_exc | decide | kernel_rfl)
  (case cC_fi => first | k_is | k_exc | decide | kernel_rfl)
  (case cC_kp => first | k_is | k_exc | decide | kernel_rfl)
  (case kC => first | k_is | k_exc | decide | kernel_rfl)
  (case lX => first | k_is | k_exc | decide | kernel_rfl)
  (case lW => first | k_is | k_exc | decide | kernel_rfl)
  (case gE => first | k_is | k_exc | decide | kernel_rfl)
  (case ir => first | k_is | k_exc | decide | kernel_rfl)
  (case iq => first | k_is | k_exc | decide | kernel_rfl)
  (case gD => first | k_is | k_exc | decide | kernel_rfl)
  (case ik => first | k_is | k_exc | decide | kernel_rfl)
  (case ij => first | k_is | k_exc | decide | kernel_rfl)
  (case eE => first | k_is | k_exc | decide | kernel_rfl)
  (case fR => first | k_is | k_exc | decide | kernel_rfl)
  (case fQ => first | k_is | k_exc | decide | kernel_rfl)
  (case fP => first | k_is | k_exc | decide | kernel_rfl)
  (case gC => first | k_is | k_exc | decide | kernel_rfl)
  (case gB => first | k_is | k_exc | decide | kernel_rfl)
  (case xgg => first | k_is | k_exc | decide | kernel_rfl)
  (case xtk => first | k_is | k_exc | decide | kernel_rfl)
  (case ob_TooGreat => first | k_is | k_exc | decide | kernel_rfl)
  (case i_ex => first | k_is | k_exc | decide | kernel_rfl)
  (case i_fn => first | k_is | k_exc | decide | kernel_rfl)
  (case i_kp => first | k_is | k_exc | decide | kernel_rfl)
  (case i_sa => first | k_is | k_exc | decide | kernel_rfl)
  (case i_hd => first | k_is | k_exc | decide | kernel_rfl)
  (case i_mr => first | k_is | k_exc | decide | kernel_rfl)
  (case i_ga => first | k_is | k_exc | decide | kernel_rfl)
  (case i_gt => first | k_is | k_exc | decide | kernel_rfl)
  (case i_cl => first | k_is | k_exc | decide | kernel_rfl)
  (case i_be => first | k_is | k_exc | decide | kernel_rfl)
  (case i_na => first | k_is | k_exc | decide | kernel_rfl)
  (case f_ga => first | k_is | k_exc | decide | kernel_rfl)
  (case f_rd => first | k_is | k_exc | decide | kernel_rfl)
  (case f_fc => first | k_is | k_exc | decide | kernel_rfl)
  (case tw0 => first | k_is | k_exc | decide | kernel_rfl)
  (case tw2 => first | k_is | k_exc | decide | kernel_rfl)
  (case tw3 => first | k_is | k_exc | decide | kernel_rfl)
  (case fe1 => first | k_is | k_exc | decide | kernel_rfl)
  (case fe2 => first | k_is | k_exc | decide | kernel_rfl)
  (case fe3 => first | k_is | k_exc | decide | kernel_rfl)
  (case fe4 => first | k_is | k_exc | decide | kernel_rfl)
  (case kve => first | k_is | k_exc | decide | kernel_rfl)
  (case ob_NoFigures => first | k_is | k_exc | decide | kernel_rfl)
  (case ty_NoFigures => first | k_is | k_exc | decide | kernel_rfl)
  (case su_NoFigures => first | k_is | k_exc | decide | kernel_rfl)
  (case ne_NoFigures => first | k_is | k_exc | decide | kernel_rfl)
  (case ob_NoMachine => first | k_is | k_exc | decide | kernel_rfl)
  (case ty_NoMachine => first | k_is | k_exc | decide | kernel_rfl)
  (case su_NoMachine => first | k_is | k_exc | decide | kernel_rfl)
  (case ne_NoMachine => first | k_is | k_exc | decide | kernel_rfl)
  (case ob_NoName => first | k_is | k_exc | decide | kernel_rfl)
  (case ty_NoName => first | k_is | k_exc | decide | kernel_rfl)
  (case su_NoName => first | k_is | k_exc | decide | kernel_rfl)
  (case ne_NoName => first | k_is | k_exc | decide | kernel_rfl)
  (case ob_NoPower => first | k_is | k_exc | decide | kernel_rfl)
  (case ty_NoPower => first | k_is | k_exc | decide | kernel_rfl)
  (case su_NoPower => first | k_is | k_exc | decide | kernel_rfl)
  (case ne_NoPower => first | k_is | k_exc | decide | kernel_rfl)
  (case ob_NoRow => first | k_is | k_exc | decide | kernel_rfl)
  (case ty_NoRow => first | k_is | k_exc | decide | kernel_rfl)
  (case su_NoRow => first | k_is | k_exc | decide | kernel_rfl)
  (case ne_NoRow => first | k_is | k_exc | decide | kernel_rfl)
  (case ob_NoSome => first | k_is | k_exc | decide | kernel_rfl)
  (case ty_NoSome => first | k_is | k_exc | decide | kernel_rfl)
  (case su_NoSome => first | k_is | k_exc | decide | kernel_rfl)
  (case ne_NoSome => first | k_is | k_exc | decide | kernel_rfl)
  (case ob_NoText => first | k_is | k_exc | decide | kernel_rfl)
  (case ty_NoText => first | k_is | k_exc | decide | kernel_rfl)
  (case su_NoText => first | k_is | k_exc | decide | kernel_rfl)
  (case ne_NoText => first | k_is | k_exc | decide | kernel_rfl)
  (case ob_TooWide => first | k_is | k_exc | decide | kernel_rfl)
  (case ty_TooWide => first | k_is | k_exc | decide | kernel_rfl)
  (case su_TooWide => first | k_is | k_exc | decide | kernel_rfl)
  (case ne_TooWide => first | k_is | k_exc | decide | kernel_rfl)
