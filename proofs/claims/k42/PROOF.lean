import PyProof.Rows.All
import Wide.All
import OpenK.AllK
import Wide.FinOn
import Lean
import PyProof.EqAt
import PyProof.EqKinds
import PyProof.TupleCall
import PyProof.NeKinds
import PyProof.ExcBaseAll.ValueError
import PyProof.ExcClass3
import OpenK.KOwn
import PyProof.Rows.FStr
import KE.KTryMore
import PyProof.ExcAttrAll.ValueError
import KE.KDictList
import PyProof.CompMap
import PyProof.Draws
import PyProof.ListRange
import PyProof.ZipIter
import PyProof.EnumMake
import PyProof.CollectIter
import PyProof.SetRoads
import PyProof.Rows.SortShell
import PyProof.Rows.SortWalk
import PySem.Challenge.RW_figuretell_k42_first_number
set_option Elab.async false
set_option linter.all false
set_option maxRecDepth 100000
namespace L2
open PySem PySem.Spec PyProof.Rows
abbrev Key:=Sum Int Str
def mR : Key -> Value -> Bool
 | .inl k,v => Value.isInt k v
 | .inr x,v => Value.isStrOf x v
def AB (w : World) : Key -> Int
 | .inl k => hashInt k
 | .inr x => hashStr w x
theorem br : ∀ {k : Key} {v : Value},mR k v = true -> (∃ i t,k = Sum.inl i /\ v = Value.int i t) \/ (∃ x t,k = Sum.inr x /\ v = Value.str x t)
 | .inl i,v,h => by
  obtain ⟨t,e⟩:=Value.isInt_shape (k:=i) (v:=v) h
  exact .inl ⟨i,t,rfl,e⟩
 | .inr x,v,h => by
  obtain ⟨t,e⟩:=Value.isStrOf_shape (x:=x) (v:=v) h
  exact .inr ⟨x,t,rfl,e⟩
theorem vB (i : Int) (t : Tok) : mR (.inl i) (.int i t) = true:=by simp [mR,Value.isInt]
theorem vC (x : Str) (t : Tok) : mR (.inr x) (.str x t) = true:=by simp [mR,Value.isStrOf]
theorem y3 (a b : Int) : decide ((Sum.inl a : Key) = Sum.inl b) = (a == b):=by
 by_cases e : a = b
 ·subst e; simp
 ·have h : ¬ (Sum.inl a : Key) = Sum.inl b:=fun q => e (Sum.inl.inj q)
  rw [decide_eq_false h]
  exact (beq_eq_false_iff_ne.mpr e).symm
theorem y7 (a b : Str) : decide ((Sum.inr a : Key) = Sum.inr b) = decide (a = b):=by
 by_cases e : a = b
 ·subst e; simp
 ·have h : ¬ (Sum.inr a : Key) = Sum.inr b:=fun q => e (Sum.inr.inj q)
  rw [decide_eq_false h,decide_eq_false e]
theorem y4 (a : Int) (b : Str) : decide ((Sum.inl a : Key) = Sum.inr b) = false:=decide_eq_false (fun q => nomatch q)
theorem y6 (a : Str) (b : Int) : decide ((Sum.inr a : Key) = Sum.inl b) = false:=decide_eq_false (fun q => nomatch q)
def bc (prog : Program) (w : World) : PySem.KeyKind prog w Key where
 is:=mR
 hash:=AB w
 inj:=fun v a b ha hb => by
  rcases br ha with ⟨i,t,rfl,rfl⟩ | ⟨x,t,rfl,rfl⟩
  ·rcases br hb with ⟨j,u,rfl,e⟩ | ⟨y,u,rfl,e⟩
   ·injection e with e1 _; rw [e1]
   ·exact nomatch e
  ·rcases br hb with ⟨j,u,rfl,e⟩ | ⟨y,u,rfl,e⟩
   ·exact nomatch e
   ·injection e with e1 _; rw [e1]
 byValue:=fun k v h => by
  rcases br h with ⟨i,t,rfl,rfl⟩ | ⟨x,t,rfl,rfl⟩ <;> rfl
 pyHash:=fun hv h => by
  rcases br hv with ⟨i,t,rfl,rfl⟩ | ⟨x,t,rfl,rfl⟩
  ·exact wpAny_pyHash_int h
  ·exact wpAny_pyHash_str h
 eqBool:=fun hu hv h => by
  rcases br hu with ⟨i,t,rfl,rfl⟩ | ⟨x,t,rfl,rfl⟩
  ·rcases br hv with ⟨j,u,rfl,rfl⟩ | ⟨y,u,rfl,rfl⟩
   ·rw [y3] at h; exact wpAny_eqBool_int h
   ·rw [y4] at h; exact SeqAt.EqAt.int_str i t y u _ _ _ _ h
  ·rcases br hv with ⟨j,u,rfl,rfl⟩ | ⟨y,u,rfl,rfl⟩
   ·rw [y6] at h; exact SeqAt.EqAt.str_int x t j u _ _ _ _ h
   ·rw [y7] at h; exact wpAny_eqBool_str h
 «strs» := fun k x t v h => by
  rcases br h with ⟨i,u,rfl,e⟩ | ⟨y,u,rfl,e⟩
  ·exact nomatch e
  ·injection e with e1 _
   subst e1
   cases v <;> rfl
theorem sR (prog : Program) (w : World) (i : Int) (t : Tok) : (bc prog w).is (.inl i) (.int i t) = true:=vB i t
theorem sS (prog : Program) (w : World) (x : Str) (t : Tok) : (bc prog w).is (.inr x) (.str x t) = true:=vC x t
end L2
namespace L2
open PySem PySem.Spec PyProof.Rows
inductive V where
 | non | bl (b : Bool) | int (i : Int) | str (x : Str) | byt (b : Array UInt8) | flt (b : UInt64) | ref (a : Addr) | ty (n : String)
 deriving DecidableEq
def RelV : V -> Value -> Prop
 | .non,u => u = Value.none
 | .bl b,u => u = Value.bool b
 | .int i,u => ∃ t,u = Value.int i t
 | .str x,u => ∃ t,u = Value.str x t
 | .byt b,u => ∃ t,u = Value.bytes b t
 | .flt b,u => ∃ t,u = Value.float b t
 | .ref a,u => u = Value.ref a
 | .ty n,u => u = Value.type n
abbrev Vals : List V -> List Value -> Prop:=Paired RelV
theorem Vals.length {xs : List V} {us : List Value} (r : Vals xs us) : xs.length = us.length:=Paired.length r
theorem Vals.get : ∀ {xs : List V} {us : List Value} {i : Nat} {x : V},Vals xs us -> xs[i]? = some x -> ∃ u,us[i]? = some u /\ RelV x u
 | _,_,_,_,.nil,e => by simp at e
 | _,_,0,_,.cons r _,e => by simp at e; subst e; exact ⟨_,rfl,r⟩
 | _,_,i + 1,x,.cons _ t,e => by
  obtain ⟨u,h1,h2⟩:=Vals.get (i:=i) (x:=x) t (by simpa using e)
  exact ⟨u,by simpa using h1,h2⟩
theorem Vals.set {x : V} {u : Value} (r : RelV x u) : ∀ {xs : List V} {us : List Value} (i : Nat),Vals xs us -> Vals (xs.set i x) (us.set i u)
 | _,_,_,.nil => .nil
 | _,_,0,.cons _ t => .cons r t
 | _,_,i + 1,.cons q t => .cons q (Vals.set r i t)
theorem Vals.append : ∀ {xs ys : List V} {us ws : List Value},Vals xs us -> Vals ys ws -> Vals (xs ++ ys) (us ++ ws)
 | _,_,_,_,.nil,s => s
 | _,_,_,_,.cons r t,s => .cons r (Vals.append t s)
theorem Vals.take : ∀ {xs : List V} {us : List Value} (n : Nat),Vals xs us -> Vals (xs.take n) (us.take n)
 | _,_,0,_ => .nil
 | _,_,_ + 1,.nil => .nil
 | _,_,n + 1,.cons r t => .cons r (Vals.take n t)
theorem Vals.drop : ∀ {xs : List V} {us : List Value} (n : Nat),Vals xs us -> Vals (xs.drop n) (us.drop n)
 | _,_,0,r => r
 | _,_,_ + 1,.nil => .nil
 | _,_,n + 1,.cons _ t => Vals.drop n t
def RelO : Option V -> Option Value -> Prop
 | some v,some u => RelV v u
 | none,none => True
 | _,_ => False
def KV {κ : Type} : List (κ × V) -> List (κ × Value) -> Prop:=Paired fun (p : κ × V) (q : κ × Value) => p.1 = q.1 /\ RelV p.2 q.2
def kV : Key -> V
 | .inl i => .int i
 | .inr x => .str x
inductive HO where
  | lst (xs : List V)
  | tup (xs : List V)
  | dK (kvs : List (Key × V)) | dT (kvs : List (List Key × V))
  | set (S : Int -> Bool) (n : Nat)
  | ins (C dx : Addr) (fs : List (Str × V))
  | own (x : Addr)
  | xd (fs : List (Str × V))
  | met (f x : Addr)
  | rng (lo hi : Int)
  | frz (o : Obj) (u : HO)
  | tbl (ps : Array Value)
  | ext (φ : Heap -> Prop)
abbrev Hp:=Addr -> Option HO
def upd (H : Hp) (a : Addr) (o : HO) : Hp:=fun b => if b = a then some o else H b
theorem ae {H : Hp} {a : Addr} {o : HO} : upd H a o a = some o:=by unfold upd; rw [if_pos rfl]
theorem ao {H : Hp} {a b : Addr} {o : HO} (h : b ≠ a) : upd H a o b = H b:=by unfold upd; rw [if_neg h]
theorem cY {H : Hp} {a b : Addr} {o u : HO} (h : H a = some o) (h' : H b = some u) (d : o ≠ u) : a ≠ b:=by
 intro e; subst e; rw [h] at h'; exact d (Option.some.inj h')
theorem aq {H : Hp} {a b : Addr} {o : HO} (h : H a = some o) (h' : H b = none) : a ≠ b:=by
 intro e; subst e; rw [h] at h'; cases h'
section
variable (P : Program) (w : World)
def ObjOk (H : Hp) (h : Heap) (a : Addr) : HO -> Prop
 | .lst xs => xs.length <= sizeLine /\ ∃ (its : List Value) (n : Nat),Vals xs its /\ h.get? a = some { cls:=.type "list",data:=.seq its.toArray n }
 | .tup xs => xs.length <= sizeLine /\ ∃ its : List Value,Vals xs its /\ IsTup h a its.toArray
 | .dK kvs => kvs.length <= sizeLine /\ (a == sysModules) = false /\ ∃ vs,KV kvs vs /\ h.DictOf (bc P w) a vs
 | .dT kvs => kvs.length <= sizeLine /\ (a == sysModules) = false /\ ∃ xs : List (List Key × Addr × Value),
   Paired (fun (p : List Key × V) (q : List Key × Addr × Value) => p.1 = q.1 /\ H q.2.1 = some (.tup (p.1.map kV)) /\ RelV p.2 q.2.2) kvs xs /\
   ∃ o es ep,h.get? a = some o /\ o.ExactDict /\ o.data = .dict es ep /\ es.toList = xs.map (entryOfKey (tupleKind (bc P w))) /\ (xs.map (·.1)).Nodup
 | .set S n => h.SetOf (intKind P w) a S n
 | .ins C dx fs => H dx = some (.own a) /\ fs.length <= 1000 /\ dx ≠ a /\ h.get? a = some (PySem.W.instObj C dx) /\
   ∃ mA,h.Ns1 dx mA /\ (∀ f,RelO (fs.lookup f) (mA f)) /\ PySem.Within mA (fs.map (·.1))
 | .own _ => ∃ o,h.get? a = some o
 | .xd fs => ∃ mA,h.Ns1 a mA /\ ∀ f,RelO (fs.lookup f) (mA f)
 | .rng lo hi => ∃ t u v,h.get? a = some { cls:=.type "range",data:=.fields #[.int lo t,.int hi u,.int 1 v] }
 | .frz o u => h.get? a = some o /\ ObjOk H h a u
 | .tbl ps => h.get? a = some { cls:=.none,data:=.fields ps }
 | .met f x => h.get? a = some (PySem.W.methodObj (.ref f) (.ref x))
 | .ext φ => φ h /\ (∃ o,h.get? a = some o) /\ ∀ h1 h2 : Heap,φ h1 -> (∀ o,h1.get? a = some o -> h2.get? a = some o) -> φ h2
def HOk (H : Hp) (h : Heap) : Prop := ∀ a o,H a = some o -> ObjOk P w H h a o
end
section
variable {P : Program} {w : World} {H H' : Hp} {h h' : Heap} {a : Addr} {o : HO}
theorem ObjOk.lt (x : ObjOk P w H h a o) : a < h.objs.size:=by
 cases o with
 | lst xs => obtain ⟨_,_,_,_,e⟩:=x; exact Heap.lt_size e
 | tup xs => obtain ⟨_,_,_,p⟩:=x; exact p.lt
 | dK kvs => obtain ⟨_,_,_,_,o,_,_,e,_⟩:=x; exact Heap.lt_size e
 | dT kvs => obtain ⟨_,_,_,_,o,_,_,e,_⟩:=x; exact Heap.lt_size e
 | set S n => obtain ⟨o,_,_,_,e,_⟩:=x; exact Heap.lt_size e
 | ins C dx fs => obtain ⟨_,_,_,e,_⟩:=x; exact Heap.lt_size e
 | own y => obtain ⟨_,e⟩:=x; exact Heap.lt_size e
 | xd fs => obtain ⟨_,⟨_,_,_,e,_⟩,_⟩:=x; exact Heap.lt_size e
 | rng lo hi => obtain ⟨_,_,_,e⟩:=x; exact Heap.lt_size e
 | frz ob u => obtain ⟨e,_⟩:=x; exact Heap.lt_size e
 | tbl ps => exact Heap.lt_size (show h.get? a = some _ from x)
 | met f y => exact Heap.lt_size (show h.get? a = some _ from x)
 | ext φ => obtain ⟨_,⟨_,e⟩,_⟩:=x; exact Heap.lt_size e
theorem Paired.mapP {α β : Type} {F G : α -> β -> Prop} : ∀ {l₁ : List α} {l₂ : List β},Paired F l₁ l₂ -> (∀ a b,F a b -> G a b) -> Paired G l₁ l₂
 | _,_,.nil,_ => .nil
 | _,_,.cons r t,f => .cons (f _ _ r) (Paired.mapP t f)
theorem ObjOk.stay (x : ObjOk P w H h a o) (k : ∀ b u,(b = a \/ H b = some (.own a)) -> h.get? b = some u -> h'.get? b = some u)
  (ho : ∀ b,H b = some (.own a) -> H' b = some (.own a)) (ht : ∀ b xs,H b = some (.tup xs) -> H' b = some (.tup xs)) : ObjOk P w H' h' a o:=by
 induction o with
 | lst xs => obtain ⟨z,its,n,r,e⟩:=x; exact ⟨z,its,n,r,k _ _ (.inl rfl) e⟩
 | tup xs => obtain ⟨z,its,r,ob,e,c⟩:=x; exact ⟨z,its,r,ob,k _ _ (.inl rfl) e,c⟩
 | dK kvs => obtain ⟨z,y,vs,r,ob,es,ep,e,c⟩:=x; exact ⟨z,y,vs,r,ob,es,ep,k _ _ (.inl rfl) e,c⟩
 | dT kvs =>
  obtain ⟨z,y,xs,r,ob,es,ep,e,c⟩:=x
  exact ⟨z,y,xs,Paired.mapP r fun p q z => ⟨z.1,ht _ _ z.2.1,z.2.2⟩,ob,es,ep,k _ _ (.inl rfl) e,c⟩
 | set S n => obtain ⟨ob,es,ep,t,e,c⟩:=x; exact ⟨ob,es,ep,t,k _ _ (.inl rfl) e,c⟩
 | ins C dx fs =>
  obtain ⟨d,z,ne,e,mA,⟨od,es,ep,e2,c⟩,r⟩:=x
  exact ⟨ho _ d,z,ne,k _ _ (.inl rfl) e,mA,⟨od,es,ep,k _ _ (.inr d) e2,c⟩,r⟩
 | own y => obtain ⟨ob,e⟩:=x; exact ⟨ob,k _ _ (.inl rfl) e⟩
 | xd fs => obtain ⟨mA,⟨od,es,ep,e,c⟩,r⟩:=x; exact ⟨mA,⟨od,es,ep,k _ _ (.inl rfl) e,c⟩,r⟩
 | rng lo hi => obtain ⟨t,u,v,e⟩:=x; exact ⟨t,u,v,k _ _ (.inl rfl) e⟩
 | frz ob u ih => obtain ⟨e,q⟩:=x; exact ⟨k _ _ (.inl rfl) e,ih q⟩
 | tbl ps =>
  have e : h.get? a = some { cls:=.none,data:=.fields ps }:=x
  show h'.get? a = some { cls:=.none,data:=.fields ps }
  exact k a _ (.inl rfl) e
 | met f y =>
  have e : h.get? a = some (PySem.W.methodObj (.ref f) (.ref y)):=x
  show h'.get? a = some (PySem.W.methodObj (.ref f) (.ref y))
  exact k a _ (.inl rfl) e
 | ext φ => obtain ⟨p,⟨o,e⟩,st⟩:=x; exact ⟨st _ _ p fun o q => k _ _ (.inl rfl) q,⟨o,k _ _ (.inl rfl) e⟩,st⟩
theorem HOk.lt (x : HOk P w H h) (e : H a = some o) : a < h.objs.size:=(x a o e).lt
theorem HOk.fresh (x : HOk P w H h) (e : h.objs.size <= a) : H a = none:=by
 cases q : H a with
 | none => rfl
 | some u => exact absurd (Nat.lt_of_lt_of_le (x.lt q) e) (Nat.lt_irrefl _)
theorem HOk.kept (x : HOk P w H h) (k : ∀ b u,h.get? b = some u -> h'.get? b = some u) : HOk P w H h' := fun a o e =>
 (x a o e).stay (fun b u _ q => k b u q) (fun _ q => q) fun _ _ q => q
theorem HOk.laid (x : HOk P w H h) (k : ∀ b u,h.get? b = some u -> h'.get? b = some u) (hp : h.objs.size <= a) (new : ObjOk P w (upd H a o) h' a o) : HOk P w (upd H a o) h' := fun b u e => by
 have hn:=x.fresh hp
 by_cases hb : b = a
 ·subst hb; rw [ae] at e; cases e; exact new
 ·rw [ao hb] at e
  exact (x b u e).stay (fun c v _ q => k c v q) (fun c q => by rw [ao (aq q hn)]; exact q) fun c xs q => by rw [ao (aq q hn)]; exact q
end
def Rd (H : Hp) (a : Addr) (u : HO) : Prop:=H a = some u \/ ∃ o,H a = some (.frz o u)
theorem Rd.ok {P : Program} {w : World} {H : Hp} {h : Heap} {a : Addr} {u : HO} (r : Rd H a u) (x : HOk P w H h) : ObjOk P w H h a u:=by
 rcases r with r | ⟨o,r⟩
 ·exact x a u r
 ·obtain ⟨_,q⟩:=x a _ r
  exact q
def Mut : Option HO -> Prop
 | some (.lst _) => True
 | some (.dK _) => True
 | some (.dT _) => True
 | some (.set _ _) => True
 | some (.ins _ _ _) => True
 | some (.ext _) => True
 | _ => False
section
variable {P : Program} {w : World} {H : Hp} {h h' : Heap} {x e : Addr} {o' : HO}
theorem HOk.write (ok : HOk P w H h) (mu : Mut (H x)) (he : e = x \/ H e = some (.own x)) (k : ∀ b u,b ≠ e -> h.get? b = some u -> h'.get? b = some u) (heo : ∃ u,h'.get? e = some u)
  (new : ObjOk P w (upd H x o') h' x o') : HOk P w (upd H x o') h' := fun b u q => by
 have nown : ∀ c y,H c = some (.own y) -> c ≠ x:=fun c y r z => by subst z; rw [r] at mu; exact mu
 have ntup : ∀ c xs,H c = some (.tup xs) -> c ≠ x:=fun c xs r z => by subst z; rw [r] at mu; exact mu
 by_cases hb : b = x
 ·subst hb; rw [ae] at q; cases q; exact new
 ·rw [ao hb] at q
  by_cases hbe : b = e
  ·have q' : H b = some (.own x):=by
    rcases he with z | z
    ·exact absurd (hbe.trans z) hb
    ·rw [hbe]; exact z
   rw [q] at q'; cases q'
   obtain ⟨v,hv⟩:=heo
   exact ⟨v,by rw [hbe]; exact hv⟩
  ·refine (ok b u q).stay (fun c v hc r => k c v ?_ r) (fun c r => by rw [ao (nown c b r)]; exact r) fun c xs r => by rw [ao (ntup c xs r)]; exact r
   rcases hc with rfl | hc
   ·exact hbe
   ·rintro rfl
    rcases he with z | z
    ·exact nown c b hc z
    ·rw [hc] at z; cases z; exact hb rfl
end
structure Un (fs ex : List Addr) (H H' : Hp) (h h' : Heap) : Prop where
 keep : ∀ b o,h.get? b = some o -> H b = none -> b ∉ fs -> b ∉ ex -> h'.get? b = some o
 slot : ∀ b o,h.get? b = some o -> H b = none -> b ∈ fs -> b ∉ ex -> ∃ sl,h'.get? b = some { o with slots:=sl }
 free : ∀ b o,h.get? b = some o -> H b = none -> b ∉ ex -> H' b = none
 there : ∀ b o,h.get? b = some o -> b ∉ ex -> ∃ o',h'.get? b = some o'
 tups : ∀ b xs,H b = some (.tup xs) -> H' b = some (.tup xs)
 frzs : ∀ b o u,H b = some (.frz o u) -> H' b = some (.frz o u)
 tbls : ∀ b ps,H b = some (.tbl ps) -> ∃ more,H' b = some (.tbl (ps ++ more))
section
variable {fs fs' ex ex' : List Addr} {H H1 H2 : Hp} {h h1 h2 h' : Heap} {a x e : Addr} {o : HO}
theorem Un.any (u : Un fs ex H H1 h h1) {b : Addr} {ob : Obj} (q : h.get? b = some ob) (n : H b = none) (hx : b ∉ ex) : ∃ sl,h1.get? b = some { ob with slots:=sl }:=by
 by_cases hb : b ∈ fs
 ·exact u.slot b ob q n hb hx
 ·exact ⟨ob.slots,u.keep b ob q n hb hx⟩
theorem Un.kept (k : ∀ b u,h.get? b = some u -> h'.get? b = some u) : Un fs ex H H h h' :=
 ⟨fun b ob q _ _ _ => k b ob q,fun b ob q _ _ _ => ⟨ob.slots,k b ob q⟩,fun _ _ _ n _ => n,fun b ob q _ => ⟨ob,k b ob q⟩,fun _ _ q => q,fun _ _ _ q => q,fun _ ps q => ⟨#[],by rw [q]; simp⟩⟩
theorem Un.refl : Un fs ex H H h h:=Un.kept fun _ _ q => q
theorem Un.laid (k : ∀ b u,h.get? b = some u -> h'.get? b = some u) (hp : h.objs.size <= a) (hn : H a = none) : Un fs ex H (upd H a o) h h' where
 keep:=fun b u q _ _ _ => k b u q
 slot:=fun b u q _ _ _ => ⟨u.slots,k b u q⟩
 free:=fun b u q n _ => by rw [ao (Nat.ne_of_lt (Nat.lt_of_lt_of_le (Heap.lt_size q) hp))]; exact n
 there:=fun b u q _ => ⟨u,k b u q⟩
 tups:=fun b xs q => by rw [ao (aq q hn)]; exact q
 frzs:=fun b u xs q => by rw [ao (aq q hn)]; exact q
 tbls:=fun b ps q => ⟨#[],by rw [ao (aq q hn),q]; simp⟩
theorem Un.write (mu : Mut (H x)) (he : e = x \/ H e = some (.own x)) (k : ∀ b u,b ≠ e -> h.get? b = some u -> h'.get? b = some u) (heo : ∃ u,h'.get? e = some u) : Un fs ex H (upd H x o) h h' := by
 have hx : ∀ b,H b = none -> b ≠ x:=fun b n z => by subst z; rw [n] at mu; exact mu
 have hb : ∀ b,H b = none -> b ≠ e:=fun b n z => by
  subst z
  rcases he with r | r
  ·exact hx b n r
  ·rw [n] at r; cases r
 have hm : ∀ b u,H b = some u -> ¬ Mut (some u) -> b ≠ x:=fun b u q nm z => by subst z; rw [q] at mu; exact nm mu
 refine ⟨fun b u q n _ _ => k b u (hb b n) q,fun b u q n _ _ => ⟨u.slots,k b u (hb b n) q⟩,fun b u q n _ => by rw [ao (hx b n)]; exact n,fun b u q _ => ?_,
  fun b xs q => by rw [ao (hm b _ q fun z => z)]; exact q,fun b u xs q => by rw [ao (hm b _ q fun z => z)]; exact q,fun b ps q => ⟨#[],by rw [ao (hm b _ q fun z => z),q]; simp⟩⟩
 by_cases hbe : b = e
 ·subst hbe; exact heo
 ·exact ⟨u,k b u hbe q⟩
end
def trk (h : Heap) (H : Hp) : List Addr:=(List.range h.objs.size).filter fun a => (H a).isSome
def oE (h : Heap) (H : Hp) : Heap:=PySem.W.hideAll h (trk h H)
theorem vw (h : Heap) (H : Hp) : (oE h H).objs.size = h.objs.size:=PySem.W.hideAll_size _ _
theorem wW {h : Heap} {H : Hp} {b : Addr} {o : Obj} (e : h.get? b = some o) (n : H b = none) : (oE h H).get? b = some o:=
 PySem.W.hideAll_get _ e fun hm => by
  have q : (H b).isSome = true:=(List.mem_filter.mp hm).2
  rw [n] at q; simp at q
theorem yh {h : Heap} {H : Hp} {b : Addr} {o : Obj} (e : (oE h H).get? b = some o) : h.get? b = some o /\ H b = none:=by
 have e' : h.get? b = some o:=PySem.W.of_hideAll (trk h H) e
 refine ⟨e',?_⟩
 cases q : H b with
 | none => rfl
 | some x =>
  have hm : b ∈ trk h H:=List.mem_filter.mpr ⟨List.mem_range.mpr (Heap.lt_size e'),by simp [q]⟩
  have z : (oE h H).get? b = none:=PySem.W.hideAll_none (trk h H) hm
  rw [z] at e; cases e
def x3 (g h : Heap) (L : Addr) : List (Addr × Obj):=(List.range h.objs.size).filterMap fun a => if a = L \/ (g.get? a).isSome = true then none else (h.get? a).map fun o => (a,o)
def rest (g h : Heap) (L d : Addr) : List (Addr × Obj):=(x3 g h L).filter fun p => decide (p.1 ≠ d)
end L2
namespace L2
open PySem PySem.Spec PyProof.Rows
structure Mod (K : PySem.W.Frag) (mg : Str -> Option Value) (base : Heap) : Prop where
 kin : K.In base
 glob : base.Ns mainGlobals mg
 blt : ∃ mb,base.Ns builtinsNs mb /\ ∀ x : Str,x ≠ "__name__" -> mb x = bootBuiltins x
 nolimit : base.NoLimit
structure Cx where
 prog : Program
 w : World
 K : PySem.W.Frag
 mg : Str -> Option Value
 base : Heap
 A : Around
 N : List Str
 s₀ : Shared
 H₀ : Hp
 env : Env
 outer : List Env
 stack : List Env
 ex : List Addr
 fn : Str -> Bool
 calm : Bool
 pn : List (Addr × Obj)
 xe : Value -> Shared -> Prop
def frs (l : List Env) : List Addr:=l.filterMap (·.frame)
abbrev Cx.fs (X : Cx) : List Addr:=frs X.outer
def Vis (sc : Scope) (x : Str) : Prop:=sc.names.lookup x = some .local \/ sc.names.lookup x = some .cell \/ sc.names.lookup x = some .free
def Loc (sc : Scope) (x : Str) : Prop:=sc.names.lookup x = some .local \/ sc.names.lookup x = some .cell
def Look (env : Env) (h : Heap) (m : Str -> Option Value) (x : Str) (u : Value) : Prop:=
 (env.kindOf x = some .local /\ m x = some u) \/ ((env.kindOf x = some .cell \/ env.kindOf x = some .free) /\ ∃ c,env.cells.lookup x = some c /\ h.IsCell c (some u))
structure Cx.Ok (X : Cx) : Prop where
 mod : Mod X.K X.mg X.base
 kind : X.env.scope.kind = .function
 glob : X.env.globals = mainGlobals
 blt : X.env.builtins = builtinsNs
 above : X.s₀.heap.objs.size <= X.env.locals
 inj : ∀ x y c,X.env.cells.lookup x = some c -> X.env.cells.lookup y = some c -> x = y
 has : ∀ x,(X.env.kindOf x = some .cell \/ X.env.kindOf x = some .free) -> ∃ c,X.env.cells.lookup x = some c
 cab : ∀ x c,X.fn x = true -> X.env.cells.lookup x = some c -> X.s₀.heap.objs.size <= c
 hd : X.calm = true -> X.A.handled = none
 frames : X.A.frames = some X.stack
 stk : X.stack = X.outer \/ (X.stack = X.env :: X.outer /\ X.env.frame = some X.env.locals)
 exf : ∀ b ∈ X.ex,b ≠ X.env.locals /\ ∀ x c,X.env.cells.lookup x = some c -> c ≠ b
 bs : ∀ b o,X.base.get? b = some o -> X.s₀.heap.get? b = some o /\ X.H₀ b = none
 bsz : X.base.objs.size <= X.s₀.heap.objs.size
 noex : ∀ b o,X.base.get? b = some o -> b ∉ X.ex
 exfs : ∀ b ∈ X.ex,b ∉ X.fs
 funs : X.s₀.heap.FunFrames X.base X.outer
 frf : ∀ b ∈ X.fs,X.H₀ b = none
structure Inv (X : Cx) (pins : List (Addr × Obj)) (σ : List (Option V)) (H : Hp) (s : Shared) : Prop where
 ok : X.Ok
 os : s.os = X.s₀.os
 bare : AllBare s.gens
 base : Un X.fs X.ex X.H₀ H X.s₀.heap s.heap
 loc : ∃ m,s.heap.Ns X.env.locals m /\ ∀ (i : Nat) (x : Str) (v : V),X.N[i]? = some x -> σ[i]? = some (some v) -> Vis X.env.scope x -> ∃ u,RelV v u /\ Look X.env s.heap m x u
 cell : ∀ x c,X.env.cells.lookup x = some c -> ∃ v,s.heap.IsCell c v
 free : H X.env.locals = none
 freeC : ∀ x c,X.env.cells.lookup x = some c -> H c = none
 pin : ∀ p ∈ X.pn ++ pins,s.heap.get? p.1 = some p.2 /\ H p.1 = none /\ p.1 ≠ X.env.locals /\ p.1 ∉ X.fs /\ ∀ v,p.2.data ≠ .cell v
 hok : HOk X.prog X.w H s.heap
 len : σ.length = X.N.length
section
variable {X : Cx} {pins : List (Addr × Obj)} {σ : List (Option V)} {H H' : Hp} {s : Shared} {h' : Heap}
theorem Cx.Ok.nofr (ok : X.Ok) {b : Addr} {o : Obj} (e : X.base.get? b = some o) : b ∉ X.fs:=fun hb => by
 have:=(ok.funs.mem hb).1
 rw [e] at this; cases this
theorem Inv.bs (I : Inv X pins σ H s) : ∀ b o,X.base.get? b = some o -> s.heap.get? b = some o /\ H b = none:=fun b o e =>
 ⟨I.base.keep b o (I.ok.bs b o e).1 (I.ok.bs b o e).2 (I.ok.nofr e) (I.ok.noex b o e),I.base.free b o (I.ok.bs b o e).1 (I.ok.bs b o e).2 (I.ok.noex b o e)⟩
theorem Inv.bk (I : Inv X pins σ H s) : ∀ b o,X.base.get? b = some o -> s.heap.get? b = some o:=fun b o e => (I.bs b o e).1
theorem Inv.mod (I : Inv X pins σ H s) : Mod X.K X.mg X.base:=I.ok.mod
theorem Inv.kIn (I : Inv X pins σ H s) : X.K.In s.heap:=I.ok.mod.kin.keeps I.bk
theorem Inv.lt (I : Inv X pins σ H s) : X.env.locals < s.heap.objs.size:=let ⟨_,hn,_⟩:=I.loc; hn.lt
theorem Inv.sz (I : Inv X pins σ H s) : X.s₀.heap.objs.size <= s.heap.objs.size:=Nat.le_trans I.ok.above (Nat.le_of_lt I.lt)
theorem Inv.nofs (I : Inv X pins σ H s) {a : Addr} (h : s.heap.objs.size <= a) : a ∉ X.fs:=fun hb => by
 obtain ⟨_,o,ho,_⟩:=I.ok.funs.mem hb
 exact absurd (Nat.lt_of_lt_of_le (Heap.lt_size ho) (Nat.le_trans I.sz h)) (Nat.lt_irrefl _)
theorem Inv.cne (I : Inv X pins σ H s) : ∀ x c,X.env.cells.lookup x = some c -> c ≠ X.env.locals:=fun x c e z => by
 obtain ⟨v,o,ho,hd⟩:=I.cell x c e
 obtain ⟨m,⟨o',es,ep,ho',hd',_⟩,_⟩:=I.loc
 rw [z,ho'] at ho; cases ho; rw [hd'] at hd; cases hd
theorem Inv.funs (I : Inv X pins σ H s) : s.heap.FunFrames X.base X.outer:=by
 have all : ∀ (l : List Env),(∀ b ∈ frs l,b ∈ X.fs) -> X.s₀.heap.FunFrames X.base l -> s.heap.FunFrames X.base l:=by
  intro l
  induction l with
  | nil => intro _ _; trivial
  | cons env r ih =>
   intro hs hl
   obtain ⟨hk,⟨L,o,hf,hn,ho,hd⟩,hr⟩:=hl
   have hL : L ∈ X.fs:=hs L (by unfold frs; rw [List.filterMap_cons,hf]; exact List.mem_cons_self)
   obtain ⟨sl,e⟩:=I.base.slot L o ho (I.ok.frf L hL) hL fun z => I.ok.exfs L z hL
   exact ⟨hk,⟨L,_,hf,hn,e,hd⟩,ih (fun b hb => hs b (by unfold frs; rw [List.filterMap_cons,hf]; exact List.mem_cons_of_mem _ hb)) hr⟩
 exact all X.outer (fun _ hb => hb) I.ok.funs
theorem Inv.stack (I : Inv X pins σ H s) : s.heap.FunFrames X.base X.stack:=by
 rcases I.ok.stk with e | ⟨e,hf⟩
 ·rw [e]; exact I.funs
 ·rw [e]
  obtain ⟨m,hn,_⟩:=I.loc
  refine .cons (by rw [I.ok.kind]; decide) hf hn ?_ I.funs
  exact Heap.get?_none_of_le (Nat.le_trans I.ok.bsz I.ok.above)
theorem Inv.stkSub (I : Inv X pins σ H s) : ∀ b ∈ frs X.stack,b ∈ X.env.locals :: X.fs:=fun b hb => by
 rcases I.ok.stk with e | ⟨e,hf⟩
 ·rw [e] at hb; exact List.mem_cons_of_mem _ hb
 ·rw [e] at hb
  unfold frs at hb
  rw [List.filterMap_cons,hf] at hb
  exact hb
theorem Inv.stkFree (I : Inv X pins σ H s) : ∀ b ∈ frs X.stack,H b = none:=fun b hb => by
 rcases List.mem_cons.mp (I.stkSub b hb) with e | hb
 ·rw [e]; exact I.free
 ·obtain ⟨_,o,ho,_⟩:=I.ok.funs.mem hb
  exact I.base.free b o ho (I.ok.frf b hb) fun z => I.ok.exfs b z hb
theorem Inv.step {g' : Array GenState} {t' : Nat} {d' : Drawn} {ch : List Addr} (I : Inv X pins σ H s)
  (hch : ∀ b ∈ ch,(b ∈ X.ex \/ X.s₀.heap.objs.size <= b) /\ b ≠ X.env.locals /\ (∀ x c,X.env.cells.lookup x = some c -> c ≠ b) /\ ∀ p ∈ X.pn ++ pins,p.1 ≠ b)
  (keep : ∀ b o,b ≠ X.env.locals -> b ∉ X.fs -> b ∉ ch -> s.heap.get? b = some o -> H b = none -> h'.get? b = some o)
  (slot : ∀ b o,b ≠ X.env.locals -> b ∈ X.fs -> b ∉ ch -> s.heap.get? b = some o -> H b = none -> ∃ sl,h'.get? b = some { o with slots:=sl }) (free : ∀ b o,b ∉ ch -> s.heap.get? b = some o -> H b = none -> H' b = none)
  (there : ∀ b o,b ∉ ch -> s.heap.get? b = some o -> ∃ o',h'.get? b = some o')
  (tups : ∀ b xs,H b = some (.tup xs) -> H' b = some (.tup xs)) (frzs : ∀ b o u,H b = some (.frz o u) -> H' b = some (.frz o u)) (tbls : ∀ b ps,H b = some (.tbl ps) -> ∃ more,H' b = some (.tbl (ps ++ more)))
  (ns : ∀ m,s.heap.Ns X.env.locals m -> h'.Ns X.env.locals m) (hok : HOk X.prog X.w H' h') (hg : AllBare g') :
  Inv X pins σ H' { s with heap:=h',gens:=g',drawn:=d',toks:=t' }:=by
 have neL : ∀ b o,X.s₀.heap.get? b = some o -> b ≠ X.env.locals:=fun b o e => Nat.ne_of_lt (Nat.lt_of_lt_of_le (Heap.lt_size e) I.ok.above)
 have neC : ∀ b o,X.s₀.heap.get? b = some o -> b ∉ X.ex -> b ∉ ch:=fun b o e hx hb => by
  rcases (hch b hb).1 with z | z
  ·exact hx z
  ·exact absurd (Nat.lt_of_lt_of_le (Heap.lt_size e) z) (Nat.lt_irrefl _)
 have cellK : ∀ x c,X.env.cells.lookup x = some c -> ∀ v,s.heap.IsCell c v -> h'.IsCell c v:=fun x c e v ⟨o,ho,hd⟩ => by
  have nch : c ∉ ch:=fun z => (hch c z).2.2.1 x c e rfl
  by_cases hc : c ∈ X.fs
  ·obtain ⟨sl,q⟩:=slot c o (I.cne x c e) hc nch ho (I.freeC x c e)
   exact ⟨_,q,hd⟩
  ·exact ⟨o,keep c o (I.cne x c e) hc nch ho (I.freeC x c e),hd⟩
 refine ⟨I.ok,I.os,hg,⟨fun b o e n hb hx => ?_,fun b o e n hb hx => ?_,fun b o e n hx => ?_,fun b o e hx => ?_,fun b xs e => tups b xs (I.base.tups b xs e),fun b o xs e => frzs b o xs (I.base.frzs b o xs e),fun b ps e => ?_⟩,?_,fun x c e => ?_,?_,fun x c e => ?_,fun p hp => ?_,hok,I.len⟩
 ·exact keep b o (neL b o e) hb (neC b o e hx) (I.base.keep b o e n hb hx) (I.base.free b o e n hx)
 ·obtain ⟨sl,e1⟩:=I.base.slot b o e n hb hx
  obtain ⟨sl',e2⟩:=slot b _ (neL b o e) hb (neC b o e hx) e1 (I.base.free b o e n hx)
  exact ⟨sl',e2⟩
 ·obtain ⟨o',e1⟩:=I.base.there b o e hx
  exact free b o' (neC b o e hx) e1 (I.base.free b o e n hx)
 ·obtain ⟨o',e1⟩:=I.base.there b o e hx
  exact there b o' (neC b o e hx) e1
 ·obtain ⟨m1,e1⟩:=I.base.tbls b ps e
  obtain ⟨m2,e2⟩:=tbls b _ e1
  exact ⟨m1 ++ m2,by rw [e2,Array.append_assoc]⟩
 ·obtain ⟨m,hn,hl⟩:=I.loc
  refine ⟨m,ns m hn,fun i x v e1 e2 e3 => ?_⟩
  obtain ⟨u,r,l⟩:=hl i x v e1 e2 e3
  refine ⟨u,r,?_⟩
  rcases l with l | ⟨k,c,e,z⟩
  ·exact .inl l
  ·exact .inr ⟨k,c,e,cellK x c e _ z⟩
 ·obtain ⟨v,z⟩:=I.cell x c e
  exact ⟨v,cellK x c e v z⟩
 ·obtain ⟨m,⟨o,_,_,ho,_⟩,_⟩:=I.loc
  exact free _ o (fun z => (hch _ z).2.1 rfl) ho I.free
 ·obtain ⟨v,o,ho,hd⟩:=I.cell x c e
  exact free c o (fun z => (hch c z).2.2.1 x c e rfl) ho (I.freeC x c e)
 ·obtain ⟨e,n,ne,nf,d⟩:=I.pin p hp
  have nch : p.1 ∉ ch:=fun z => (hch p.1 z).2.2.2 p hp rfl
  exact ⟨keep p.1 p.2 ne nf nch e n,free p.1 p.2 nch e n,ne,nf,d⟩
theorem Inv.un {t' : Nat} (I : Inv X pins σ H s) (u : Un X.fs [] H H' s.heap h') (hok : HOk X.prog X.w H' h') : Inv X pins σ H' { s with heap:=h',toks:=t' }:=by
 obtain ⟨m,⟨o,es,ep,ho,r⟩,_⟩:=id I.loc
 obtain ⟨sl,hL⟩:=u.any ho I.free (by simp)
 exact I.step (g' := s.gens) (d' := s.drawn) (ch:=[]) (fun _ z => nomatch z) (fun b o _ hb _ e n => u.keep b o e n hb (by simp)) (fun b o _ hb _ e n => u.slot b o e n hb (by simp)) (fun b o _ e n => u.free b o e n (by simp)) (fun b o _ e => u.there b o e (by simp)) u.tups u.frzs u.tbls (fun m' hm => by
  obtain ⟨o',es',ep',ho',r'⟩:=hm
  rw [ho] at ho'; cases ho'
  exact ⟨_,es',ep',hL,r'⟩) hok I.bare
theorem Inv.call {g' : Array GenState} {t' : Nat} {d' : Drawn} {ch : List Addr} (I : Inv X pins σ H s) (u : Un (frs X.stack) ch H H' s.heap h') (hok : HOk X.prog X.w H' h') (hg : AllBare g')
  (hch : ∀ b ∈ ch,(b ∈ X.ex \/ X.s₀.heap.objs.size <= b) /\ b ≠ X.env.locals /\ (∀ x c,X.env.cells.lookup x = some c -> c ≠ b) /\ ∀ p ∈ X.pn ++ pins,p.1 ≠ b) :
  Inv X pins σ H' { s with heap:=h',gens:=g',drawn:=d',toks:=t' }:=by
 obtain ⟨m,⟨o,es,ep,ho,r⟩,_⟩:=id I.loc
 obtain ⟨sl,hL⟩:=u.any ho I.free fun z => (hch _ z).2.1 rfl
 exact I.step (ch:=ch) hch (fun b o hL hb hc e n => u.keep b o e n (fun z => (List.mem_cons.mp (I.stkSub b z)).elim hL hb) hc) (fun b o _ _ hc e n => u.any e n hc) (fun b o hc e n => u.free b o e n hc) (fun b o hc e => u.there b o e hc) u.tups u.frzs u.tbls (fun m' hm => by
  obtain ⟨o',es',ep',ho',r'⟩:=hm
  rw [ho] at ho'; cases ho'
  exact ⟨_,es',ep',hL,r'⟩) hok hg
theorem Inv.turned {t' : Nat} {it : Addr} (I : Inv X pins σ H s) (k : ∀ b o,b ≠ it -> s.heap.get? b = some o -> h'.get? b = some o) (hn : H it = none) (hL : it ≠ X.env.locals)
  (h1 : it ∈ X.ex \/ X.s₀.heap.objs.size <= it) (h2 : ∀ x c,X.env.cells.lookup x = some c -> c ≠ it) (h3 : ∀ p ∈ X.pn ++ pins,p.1 ≠ it) : Inv X pins σ H { s with heap:=h',toks:=t' }:=by
 have nit : ∀ b u,H b = some u -> b ≠ it:=fun b u e z => by rw [z,hn] at e; cases e
 refine I.step (g' := s.gens) (d' := s.drawn) (ch:=[it]) (fun b hb => ?_) (fun b o _ _ hc e _ => k b o (fun z => hc (by simp [z])) e) (fun b o _ _ hc e _ => ⟨o.slots,k b o (fun z => hc (by simp [z])) e⟩) (fun _ _ _ _ n => n)
  (fun b o hc e => ⟨o,k b o (fun z => hc (by simp [z])) e⟩) (fun _ _ e => e) (fun _ _ _ e => e) (fun b ps e => ⟨#[],by rw [e]; simp⟩) (fun m hm => ?_) (fun b u e => ?_) I.bare
 ·have e : b = it:=by simpa using hb
  subst e
  exact ⟨h1,hL,h2,h3⟩
 ·obtain ⟨o,es,ep,ho,r⟩:=hm
  exact ⟨o,es,ep,k _ o (Ne.symm hL) ho,r⟩
 ·refine (I.hok b u e).stay (fun c v hc q => k c v ?_ q) (fun _ q => q) fun _ _ q => q
  rcases hc with z | z
  ·rw [z]; exact nit b u e
  ·exact nit c _ z
theorem Inv.tok (I : Inv X pins σ H s) (t : Nat) : Inv X pins σ H { s with toks:=t }:=I.un (h' := s.heap) (t' := t) Un.refl I.hok
theorem Inv.kept {t' : Nat} (I : Inv X pins σ H s) (k : ∀ b u,s.heap.get? b = some u -> h'.get? b = some u) : Inv X pins σ H { s with heap:=h',toks:=t' }:=I.un (Un.kept k) (I.hok.kept k)
theorem Inv.laid {a : Addr} {o : HO} {t' : Nat} (I : Inv X pins σ H s) (k : ∀ b u,s.heap.get? b = some u -> h'.get? b = some u) (hp : s.heap.objs.size <= a) (new : ObjOk X.prog X.w (upd H a o) h' a o) :
  Inv X pins σ (upd H a o) { s with heap:=h',toks:=t' }:=I.un (Un.laid k hp (I.hok.fresh hp)) (I.hok.laid k hp new)
theorem Inv.write {x e : Addr} {o : HO} {t' : Nat} (I : Inv X pins σ H s) (mu : Mut (H x)) (he : e = x \/ H e = some (.own x)) (k : ∀ b u,b ≠ e -> s.heap.get? b = some u -> h'.get? b = some u) (heo : ∃ u,h'.get? e = some u)
  (new : ObjOk X.prog X.w (upd H x o) h' x o) : Inv X pins σ (upd H x o) { s with heap:=h',toks:=t' }:=I.un (Un.write mu he k heo) (I.hok.write mu he k heo new)
theorem Inv.pins_of {pins' : List (Addr × Obj)} (I : Inv X pins σ H s) (h : ∀ p ∈ pins',s.heap.get? p.1 = some p.2 /\ H p.1 = none /\ p.1 ≠ X.env.locals /\ p.1 ∉ X.fs /\ ∀ v,p.2.data ≠ .cell v) : Inv X pins' σ H s:=
 ⟨I.ok,I.os,I.bare,I.base,I.loc,I.cell,I.free,I.freeC,fun p hp => (List.mem_append.mp hp).elim (fun z => I.pin p (List.mem_append_left _ z)) (h p),I.hok,I.len⟩
theorem sU {N : List Str} (hN : N.Nodup) {i j : Nat} {x : Str} (a : N[i]? = some x) (b : N[j]? = some x) : i = j:=by
 obtain ⟨h1,e1⟩:=List.getElem?_eq_some_iff.mp a
 obtain ⟨h2,e2⟩:=List.getElem?_eq_some_iff.mp b
 exact (List.getElem_inj hN).mp (e1.trans e2.symm)
theorem qd {M : Model} {A : Around} {E : Value -> Shared -> Prop} {i : Nat} {x : Str} {v : V} {u : Value} {Q : Unit -> Shared -> Prop} (I : Inv X pins σ H s) (hN : X.N.Nodup) (hi : X.N[i]? = some x) (hx : Loc X.env.scope x) (r : RelV v u)
  (h : ∀ s',Inv X pins (σ.set i (some v)) H s' -> (∃ a,Heap.SameBut a s.heap s'.heap /\ (a = X.env.locals \/ X.env.cells.lookup x = some a)) -> Q () s') (hf : X.fn x = true \/ X.env.scope.names.lookup x = some .local:=by first | exact .inl rfl | exact .inr rfl | assumption) : wpAny M A (storeName X.env x u) Q E s:=by
 obtain ⟨m,hn,hl⟩:=id I.loc
 have hcls : (X.env.scope.kind == .class || (X.env.scope.kind == .module && X.env.locals != X.env.globals)) = false:=by rw [I.ok.kind]; rfl
 have hiσ : i < σ.length:=by rw [I.len]; exact (List.getElem?_eq_some_iff.mp hi).1
 have cne:=I.cne
 have tracked : ∀ {a : Addr} {h' : Heap},(∃ o,s.heap.get? a = some o /\ H a = none) -> Heap.SameBut a s.heap h' -> HOk X.prog X.w H h' := fun {a h'} ha hs b ob e => by
  obtain ⟨_,_,hfree⟩:=ha
  refine (I.hok b ob e).stay (fun c w' hc q => (hs.2 c ?_).trans q) (fun _ q => q) fun _ _ q => q
  rintro rfl
  rcases hc with rfl | hc
  ·rw [hfree] at e; cases e
  ·rw [hfree] at hc; cases hc
 rcases hx with hk | hk
 ·refine wpAny_storeName_local hk hn (fun h' hn' hs => ?_) hcls
  obtain ⟨oL,_,_,hoL,_⟩:=id hn
  refine h _ ⟨I.ok,I.os,I.bare,⟨fun b o e n hb hx => ?_,fun b o e n hb hx => ?_,I.base.free,fun b o e hx => ?_,I.base.tups,I.base.frzs,I.base.tbls⟩,⟨_,hn',fun j y v' e1 e2 e3 => ?_⟩,fun y c e => ?_,I.free,I.freeC,fun p hp => ?_,tracked ⟨oL,hoL,I.free⟩ hs,by simpa using I.len⟩ ⟨_,hs,.inl rfl⟩
  ·exact (hs.2 b (Nat.ne_of_lt (Nat.lt_of_lt_of_le (Heap.lt_size e) I.ok.above))).trans (I.base.keep b o e n hb hx)
  ·obtain ⟨sl,e1⟩:=I.base.slot b o e n hb hx
   exact ⟨sl,(hs.2 b (Nat.ne_of_lt (Nat.lt_of_lt_of_le (Heap.lt_size e) I.ok.above))).trans e1⟩
  ·obtain ⟨o',e1⟩:=I.base.there b o e hx
   exact ⟨o',(hs.2 b (Nat.ne_of_lt (Nat.lt_of_lt_of_le (Heap.lt_size e) I.ok.above))).trans e1⟩
  ·by_cases hj : j = i
   ·subst hj
    rw [hi] at e1; cases e1
    rw [List.getElem?_set_self hiσ] at e2
    cases e2
    exact ⟨u,r,.inl ⟨hk,by simp⟩⟩
   ·rw [List.getElem?_set_ne (Ne.symm hj)] at e2
    obtain ⟨u',r',q⟩:=hl j y v' e1 e2 e3
    refine ⟨u',r',?_⟩
    rcases q with ⟨k,e⟩ | ⟨k,c,e,z⟩
    ·refine .inl ⟨k,?_⟩
     have : y ≠ x:=fun e => hj (sU hN e1 (e ▸ hi))
     simp [this,e]
    ·exact .inr ⟨k,c,e,z.sameBut hs (cne y c e)⟩
  ·obtain ⟨w',z⟩:=I.cell y c e
   exact ⟨w',z.sameBut hs (cne y c e)⟩
  ·obtain ⟨e,n,ne,nf,d⟩:=I.pin p hp
   exact ⟨(hs.2 p.1 ne).trans e,n,ne,nf,d⟩
 ·have hfn : X.fn x = true:=by
   rcases hf with z | z
   ·exact z
   ·rw [z] at hk; cases hk
  obtain ⟨c,hc⟩:=I.ok.has x (.inl hk)
  obtain ⟨w',z⟩:=I.cell x c hc
  refine wpAny_storeName_cell I.ok.kind hk hc z (fun h' hc' hs => ?_)
  obtain ⟨oc,hoc,hocd⟩:=id z
  refine h { s with heap:=h' } ⟨I.ok,I.os,I.bare,⟨fun b o e n hb hx => ?_,fun b o e n hb hx => ?_,I.base.free,fun b o e hx => ?_,I.base.tups,I.base.frzs,I.base.tbls⟩,⟨m,hn.sameBut hs (Ne.symm (cne x c hc)),fun j y v' e1 e2 e3 => ?_⟩,fun y c' e => ?_,I.free,I.freeC,fun p hp => ?_,tracked ⟨oc,hoc,I.freeC x c hc⟩ hs,by simpa using I.len⟩ ⟨c,hs,.inr hc⟩
  ·exact (hs.2 b (Nat.ne_of_lt (Nat.lt_of_lt_of_le (Heap.lt_size e) (I.ok.cab x c hfn hc)))).trans (I.base.keep b o e n hb hx)
  ·obtain ⟨sl,e1⟩:=I.base.slot b o e n hb hx
   exact ⟨sl,(hs.2 b (Nat.ne_of_lt (Nat.lt_of_lt_of_le (Heap.lt_size e) (I.ok.cab x c hfn hc)))).trans e1⟩
  ·obtain ⟨o',e1⟩:=I.base.there b o e hx
   exact ⟨o',(hs.2 b (Nat.ne_of_lt (Nat.lt_of_lt_of_le (Heap.lt_size e) (I.ok.cab x c hfn hc)))).trans e1⟩
  ·by_cases hj : j = i
   ·subst hj
    rw [hi] at e1; cases e1
    rw [List.getElem?_set_self hiσ] at e2
    cases e2
    exact ⟨u,r,.inr ⟨.inl hk,c,hc,hc'⟩⟩
   ·rw [List.getElem?_set_ne (Ne.symm hj)] at e2
    obtain ⟨u',r',q⟩:=hl j y v' e1 e2 e3
    refine ⟨u',r',?_⟩
    rcases q with q | ⟨k,c',e,z'⟩
    ·exact .inl q
    ·refine .inr ⟨k,c',e,z'.sameBut hs ?_⟩
     rintro rfl
     exact hj (sU hN e1 (I.ok.inj _ _ _ e hc ▸ hi))
  ·by_cases hcc : c' = c
   ·subst hcc; exact ⟨_,hc'⟩
   ·obtain ⟨w2,z2⟩:=I.cell y c' e
    exact ⟨w2,z2.sameBut hs hcc⟩
  ·obtain ⟨e,n,ne,nf,d⟩:=I.pin p hp
   refine ⟨(hs.2 p.1 ?_).trans e,n,ne,nf,d⟩
   intro q
   rw [q,hoc] at e
   have q' : oc = p.2:=Option.some.inj e
   exact d w' (by rw [<- q']; exact hocd)
theorem tM {M : Model} {A : Around} {E : Value -> Shared -> Prop} {i : Nat} {x : Str} {v : V} {u : Value} {Q : Unit -> Shared -> Prop} (I : Inv X pins σ H s) (hN : X.N.Nodup) (hi : X.N[i]? = some x) (hx : Loc X.env.scope x) (r : RelV v u)
  (h : ∀ s',Inv X pins (σ.set i (some v)) H s' -> Q () s') (hf : X.fn x = true \/ X.env.scope.names.lookup x = some .local:=by first | exact .inl rfl | exact .inr rfl | assumption) : wpAny M A (storeName X.env x u) Q E s:=
 qd I hN hi hx r (fun s' I' _ => h s' I') hf
theorem Inv.call' {s' : Shared} {ch : List Addr} (I : Inv X pins σ H s) (ho : s'.os = s.os) (u : Un (frs X.stack) ch H H' s.heap s'.heap) (hok : HOk X.prog X.w H' s'.heap) (hg : AllBare s'.gens)
  (hch : ∀ b ∈ ch,(b ∈ X.ex \/ X.s₀.heap.objs.size <= b) /\ b ≠ X.env.locals /\ (∀ x c,X.env.cells.lookup x = some c -> c ≠ b) /\ ∀ p ∈ X.pn ++ pins,p.1 ≠ b) : Inv X pins σ H' s' := by
 obtain ⟨h',g',d',t',o'⟩:=s'
 have e : o' = s.os:=ho
 subst e
 exact I.call (g' := g') (t' := t') (d' := d') u hok hg hch
end
abbrev XK:=Value -> Option Addr -> Hp -> Prop
abbrev St:=List (Option V)
abbrev VK:=V -> Hp -> Prop
abbrev TE:=St -> Hp -> VK -> Prop
abbrev TT:=St -> Hp -> (Bool -> Hp -> Prop) -> Prop
abbrev TA:=St -> Hp -> (List V -> Hp -> Prop) -> Prop
structure Ends where
 nx : St -> Hp -> Prop
 rt : VK
 bk : St -> Hp -> Prop:=fun _ _ => False
 ct : St -> Hp -> Prop:=fun _ _ => False
abbrev TS:=Ends -> St -> Hp -> Prop
def EP (X : Cx) (pins : List (Addr × Obj)) (σ : St) (Q : VK) (u : Value) (s' : Shared) : Prop := ∃ v H',Inv X pins σ H' s' /\ RelV v u /\ Q v H'
def TP (X : Cx) (pins : List (Addr × Obj)) (σ : St) (Q : Bool -> Hp -> Prop) (b : Bool) (s' : Shared) : Prop := ∃ H',Inv X pins σ H' s' /\ Q b H'
def AP (X : Cx) (pins : List (Addr × Obj)) (σ : St) (Q : List V -> Hp -> Prop) (us : List Value) (s' : Shared) : Prop := ∃ vs H',Inv X pins σ H' s' /\ Vals vs us /\ Q vs H'
def SP (X : Cx) (pins : List (Addr × Obj)) (D : Ends) (f : Flow) (s' : Shared) : Prop:=
 match f with
 | .next => ∃ σ' H',Inv X pins σ' H' s' /\ D.nx σ' H'
 | .brk => ∃ σ' H',Inv X pins σ' H' s' /\ D.bk σ' H'
 | .cont => ∃ σ' H',Inv X pins σ' H' s' /\ D.ct σ' H'
 | .ret u => ∃ v σ' H',Inv X pins σ' H' s' /\ RelV v u /\ D.rt v H'
def PE (X : Cx) (e : Expr) (t : TE) : Prop:=
 ∀ (pins : List (Addr × Obj)) (s : Shared) (σ : St) (H : Hp) (Q : VK),Inv X pins σ H s -> t σ H Q -> wpAny (model X.prog X.w) X.A (eval e X.env) (EP X pins σ Q) X.xe s
def PT (X : Cx) (e : Expr) (t : TT) : Prop:=
 ∀ (pins : List (Addr × Obj)) (s : Shared) (σ : St) (H : Hp) (Q : Bool -> Hp -> Prop),Inv X pins σ H s -> t σ H Q -> wpAny (model X.prog X.w) X.A (isTrue e X.env (eval e X.env)) (TP X pins σ Q) X.xe s
def PW (X : Cx) (e : Expr) (t : TT) : Prop:=
 ∀ (whole : Sem Value) (pins : List (Addr × Obj)) (s : Shared) (σ : St) (H : Hp) (Q : Bool -> Hp -> Prop),Inv X pins σ H s -> t σ H Q -> wpAny (model X.prog X.w) X.A (isTrue e X.env whole) (TP X pins σ Q) X.xe s
theorem PW.pt {X : Cx} {e : Expr} {t : TT} (h : PW X e t) : PT X e t:=h _
def PA (X : Cx) (es : List Expr) (t : TA) : Prop:=
 ∀ (pos : Pos) (pins : List (Addr × Obj)) (s : Shared) (σ : St) (H : Hp) (Q : List V -> Hp -> Prop),Inv X pins σ H s -> t σ H Q -> wpAny (model X.prog X.w) X.A (spliced (backTo pos (starEach es X.env))) (AP X pins σ Q) X.xe s
def PS (X : Cx) (st : Stmt) (t : TS) : Prop:=
 ∀ (pins : List (Addr × Obj)) (s : Shared) (σ : St) (H : Hp) (D : Ends),Inv X pins σ H s -> t D σ H -> wpAny (model X.prog X.w) X.A (exec st X.env) (SP X pins D) X.xe s
def PSs (X : Cx) (st : List Stmt) (t : TS) : Prop:=
 ∀ (pins : List (Addr × Obj)) (s : Shared) (σ : St) (H : Hp) (D : Ends),Inv X pins σ H s -> t D σ H -> wpAny (model X.prog X.w) X.A (execs st X.env) (SP X pins D) X.xe s
theorem thn {α : Type} {t : Sem α} {Q Q' : α -> Shared -> Prop} {M : Model} {A : Around} {E : Value -> Shared -> Prop} {s : Shared} (h : wpAny M A t Q E s) (hQ : ∀ a s,Q a s -> Q' a s) : wpAny M A t Q' E s:=wpAny_mono h hQ fun _ _ x => x
end L2
namespace L2
open PySem PySem.Spec PyProof.Rows
section
variable {X : Cx}
def zH (i : Nat) : TE:=fun σ H Q => ∃ v,σ[i]? = some (some v) /\ Q v H
def tC (v : V) : TE:=fun _ H Q => Q v H
theorem xB {i : Nat} {x : Str} {pos : Pos} (hN : X.N[i]? = some x) (hv : Vis X.env.scope x) (hd : (x == ("__debug__" : Str)) = false:=by decide) (hcd : (x == ("__classdict__" : Str)) = false:=by decide) : PE X (.Name x pos) (zH i):=by
 intro pins s σ H Q I h
 obtain ⟨v,e,h⟩:=h
 obtain ⟨m,hn,hl⟩:=I.loc
 obtain ⟨u,r,l⟩:=hl i x v hN e hv
 have fin : EP X pins σ Q u s:=⟨v,H,I,r,h⟩
 rcases l with ⟨hk,hm⟩ | ⟨hk,c,hc,hcell⟩
 ·exact wpAny_Name (wpAny_loadName_local I.ok.kind hk hn hm fin) hd
 ·rcases hk with hk | hk
  ·exact wpAny_Name (wpAny_loadName_cell I.ok.kind hk hc hcell fin) hd
  ·exact wpAny_Name (wpAny_loadName_free I.ok.kind hk hc hcell fin hcd) hd
theorem ah {i j pos} : PE X (.Constant (.int i) j pos) (tC (.int i)):=fun _ _ _ H _ I h => wpAny_Constant_int ⟨.int i,H,I.tok _,⟨_,rfl⟩,h⟩
theorem jU {b j pos} : PE X (.Constant (.bool b) j pos) (tC (.bl b)):=fun _ _ _ H _ I h => Constant_bool ⟨.bl b,H,I,rfl,h⟩
theorem hZ {j pos} : PE X (.Constant .none j pos) (tC .non):=fun _ _ _ H _ I h => Constant_none ⟨.non,H,I,rfl,h⟩
theorem kA {x j pos} : PE X (.Constant (.str x) j pos) (tC (.str x)):=fun _ _ _ H _ I h => Calls.Constant_str ⟨.str x,H,I.tok _,⟨_,rfl⟩,h⟩
def Gl (X : Cx) (x : Str) : Prop:=X.env.kindOf x = some .globalImplicit
theorem u1 {E : Value -> Shared -> Prop} {pins : List (Addr × Obj)} {s : Shared} {σ : St} {H : Hp} {x : Str} {u : Value} {pos : Pos} {Q : Value -> Shared -> Prop} (I : Inv X pins σ H s) (hg : Gl X x) (hm : X.mg x = some u) (h : Q u s)
  (hd : (x == ("__debug__" : Str)) = false:=by decide) : wpAny (model X.prog X.w) X.A (eval (.Name x pos) X.env) Q E s:=
 Calls.Name_function_global I.ok.kind hg (Calls.loadGlobal_global (by rw [I.ok.glob]; exact I.mod.glob.keeps I.bk) hm h) hd
theorem eu {E : Value -> Shared -> Prop} {pins : List (Addr × Obj)} {s : Shared} {σ : St} {H : Hp} {x : Str} {u : Value} {pos : Pos} {Q : Value -> Shared -> Prop} (I : Inv X pins σ H s) (hg : Gl X x) (hm : X.mg x = none) (hv : bootBuiltins x = some u) (h : Q u s)
  (hn : x ≠ "__name__" := by decide) (hd : (x == ("__debug__" : Str)) = false:=by decide) : wpAny (model X.prog X.w) X.A (eval (.Name x pos) X.env) Q E s:=by
 obtain ⟨mb,h1,h2⟩:=I.mod.blt
 exact Calls.Name_function_global I.ok.kind hg (Calls.loadGlobal_builtin (by rw [I.ok.glob]; exact I.mod.glob.keeps I.bk) hm (by rw [I.ok.blt]; exact h1.keeps I.bk) ((h2 x hn).trans hv) h) hd
theorem ik {x : Str} {v : V} {u : Value} {pos : Pos} (hg : Gl X x) (hm : X.mg x = none) (hv : bootBuiltins x = some u) (r : RelV v u) (hn : x ≠ "__name__" := by decide) (hd : (x == ("__debug__" : Str)) = false:=by decide) : PE X (.Name x pos) (tC v):=
 fun _ _ _ H _ I h => eu I hg hm hv ⟨v,H,I,r,h⟩ hn hd
variable {a b : Expr} {ta tb : TE} {pos : Pos}
def PC (X : Cx) (op : CmpOp) (a b : Expr) (t : TE) : Prop:=
 ∀ (pins : List (Addr × Obj)) (s : Shared) (σ : St) (H : Hp) (Q : VK),Inv X pins σ H s -> t σ H Q ->
  wpAny (model X.prog X.w) X.A (eval a X.env) (fun v s₁ => wpAny (model X.prog X.w) X.A (eval b X.env) (fun u s₂ => wpAny (model X.prog X.w) X.A (compareOp op v u) (EP X pins σ Q) X.xe s₂) X.xe s₁) X.xe s
theorem xh (b : Expr) {op : CmpOp} (h : op ≠ .In) (h2 : op ≠ .NotIn) : behindInMarks op b = false:=by
 have e1 : (op == CmpOp.In) = false:=by cases op <;> first | rfl | exact absurd rfl h
 have e2 : (op == CmpOp.NotIn) = false:=by cases op <;> first | rfl | exact absurd rfl h2
 cases b <;> simp [behindInMarks,e1,e2]
def tB (t : TE) : TT:=fun σ H Q => t σ H fun x H1 => ∃ c,x = .bl c /\ Q c H1
theorem ur {op : CmpOp} {t : TE} (h : PC X op a b t) (h1 : behindInMarks op b = false:=by first | exact xh _ (by decide) (by decide) | rfl) : PT X (.Compare a [op] [b] pos) (tB t):=by
 intro pins s σ H Q I hw
 refine wpAny_isTrue_Compare1 (thn (h pins s σ H _ I hw) fun v s1 h1 => thn h1 fun u s2 h2 => thn h2 fun c s3 ⟨x,H1,I1,r1,q1⟩ => ?_) h1
 obtain ⟨d,rfl,q⟩:=q1
 cases r1
 exact wpAny_truthy_bool ⟨H1,I1,q⟩
theorem h7 {e : Expr} {t : TE} (h : PE X e t) (he : ∀ whole,isTrue e X.env whole = (do let v <- whole; standAt e.pos; holding [v] (truthy v)):=by intro _; rfl) : PT X e (tB t):=by
 intro pins s σ H Q I hw
 refine isTrue_plain (thn (h pins s σ H _ I hw) fun v s1 ⟨x,H1,I1,r1,q1⟩ => ?_) (he _)
 obtain ⟨d,rfl,q⟩:=q1
 cases r1
 exact wpAny_truthy_bool ⟨H1,I1,q⟩
variable {tA tB' : TT} {rest : List Expr}
def AK (t u : TT) : TT:=fun σ H Q => t σ H fun c H1 => if c = true then u σ H1 Q else Q false H1
def tOr (t u : TT) : TT:=fun σ H Q => t σ H fun c H1 => if c = true then Q true H1 else u σ H1 Q
def AO (t : TT) : TT:=fun σ H Q => t σ H fun c H1 => Q (!c) H1
theorem rh (ha : PT X a tA) : PW X (.BoolOp .And [a] pos) tA:=by
 intro wh pins s σ H Q I h
 refine isTrue_and (thn (ha pins s σ H Q I h) fun c s1 e => ?_)
 cases c with
 | true => exact isTrue_and_nil e
 | false => exact e
theorem xJ (ha : PT X a tA) : PW X (.BoolOp .Or [a] pos) tA:=by
 intro wh pins s σ H Q I h
 refine isTrue_or (thn (ha pins s σ H Q I h) fun c s1 e => ?_)
 cases c with
 | false => exact isTrue_or_nil e
 | true => exact e
theorem uu (ha : PT X a tA) (hb : PW X (.BoolOp .And (b :: rest) pos) tB') : PW X (.BoolOp .And (a :: b :: rest) pos) (AK tA tB'):=by
 intro wh pins s σ H Q I h
 refine isTrue_and (thn (ha pins s σ H _ I h) fun c s1 ⟨H1,I1,q1⟩ => ?_)
 cases c with
 | true => exact hb wh pins s1 σ H1 Q I1 q1
 | false => exact ⟨H1,I1,q1⟩
theorem yL (ha : PT X a tA) (hb : PW X (.BoolOp .Or (b :: rest) pos) tB') : PW X (.BoolOp .Or (a :: b :: rest) pos) (tOr tA tB'):=by
 intro wh pins s σ H Q I h
 refine isTrue_or (thn (ha pins s σ H _ I h) fun c s1 ⟨H1,I1,q1⟩ => ?_)
 cases c with
 | true => exact ⟨H1,I1,q1⟩
 | false => exact hb wh pins s1 σ H1 Q I1 q1
theorem kE (ha : PT X a tA) : PT X (.UnaryOp .Not a pos) (AO tA):=by
 intro pins s σ H Q I h
 exact isTrue_not (ha pins s σ H (fun c H1 => Q (!c) H1) I h)
def Ae (ta tb : TE) : TE:=fun σ H Q => ta σ H fun x H1 => ∃ c,x = .bl c /\ if c = true then tb σ H1 Q else Q (.bl false) H1
def Ak (ta : TE) : TE:=fun σ H Q => ta σ H fun x H1 => ∃ c,x = .bl c /\ Q (.bl (!c)) H1
theorem q5 {op} {t : TE} (h : PE X a t) : PE X (.BoolOp op [a] pos) t:=fun pins s σ H Q I hw => BoolOp_one (h pins s σ H Q I hw)
theorem qZ (ha : PE X a ta) (hb : PE X (.BoolOp .And (b :: rest) pos) tb) : PE X (.BoolOp .And (a :: b :: rest) pos) (Ae ta tb):=by
 intro pins s σ H Q I h
 refine BoolOp_and (thn (ha pins s σ H _ I h) fun v s1 ⟨x,H1,I1,r1,q1⟩ => ?_)
 obtain ⟨c,rfl,q1⟩:=q1
 cases r1
 refine wpAny_truthy_bool ?_
 cases c with
 | true => exact hb pins s1 σ H1 Q I1 q1
 | false => exact ⟨.bl false,H1,I1,rfl,q1⟩
theorem xA (ha : PE X a ta) : PE X (.UnaryOp .Not a pos) (Ak ta):=by
 intro pins s σ H Q I h
 refine UnaryOp_ (thn (ha pins s σ H _ I h) fun v s1 ⟨x,H1,I1,r1,q1⟩ => ?_)
 obtain ⟨c,rfl,q1⟩:=q1
 cases r1
 exact not_of (wpAny_truthy_bool ⟨.bl (!c),H1,I1,rfl,q1⟩)
def tIf (t : TT) (ta tb : TE) : TE:=fun σ H Q => t σ H fun c H1 => if c = true then ta σ H1 Q else tb σ H1 Q
theorem nq {c : Expr} (hc : PT X c tA) (ha : PE X a ta) (hb : PE X b tb) : PE X (.IfExp c a b pos) (tIf tA ta tb):=by
 intro pins s σ H Q I h
 refine wpAny_IfExp (thn (hc pins s σ H _ I h) fun d s1 ⟨H1,I1,q1⟩ => ?_)
 cases d with
 | true => exact ha pins s1 σ H1 Q I1 q1
 | false => exact hb pins s1 σ H1 Q I1 q1
end
end L2
namespace L2
open PySem PySem.Spec PyProof.Rows
def SqL (K : PySem.W.Frag) (H : Hp) (a : Addr) (xs : List V) : Prop:=
 Rd H a (.lst xs) \/
  ∃ (o : Obj) (its : Array Value) (n : Nat),K.lookup a = some o /\ o.cls = .type "list" /\ o.dict = none /\ o.data = .seq its n /\ its.size <= sizeLine /\ Vals xs its.toList
def SqT (K : PySem.W.Frag) (H : Hp) (a : Addr) (xs : List V) : Prop:=
 Rd H a (.tup xs) \/
  ∃ (o : Obj) (its : Array Value) (n : Nat),K.lookup a = some o /\ o.cls = .type "tuple" /\ o.data = .seq its n /\ its.size <= sizeLine /\ Vals xs its.toList
def As : Value -> Option V
 | .none => some .non
 | .bool b => some (.bl b)
 | .int i _ => some (.int i)
 | .str x _ => some (.str x)
 | .bytes b _ => some (.byt b)
 | .float b _ => some (.flt b)
 | .ref a => some (.ref a)
 | .type n => some (.ty n)
 | _ => none
theorem RelV.abs {x : V} {u : Value} (r : RelV x u) : As u = some x:=by
 cases x with
 | non => cases r; rfl
 | bl _ => cases r; rfl
 | int _ => obtain ⟨t,rfl⟩:=r; rfl
 | str _ => obtain ⟨t,rfl⟩:=r; rfl
 | byt _ => obtain ⟨t,rfl⟩:=r; rfl
 | flt _ => obtain ⟨t,rfl⟩:=r; rfl
 | ref _ => cases r; rfl
 | ty _ => cases r; rfl
theorem RelV.inj {x y : V} {u : Value} (r : RelV x u) (q : RelV y u) : x = y:=Option.some.inj (r.abs.symm.trans q.abs)
theorem Vals.inj : ∀ {xs ys : List V} {us : List Value},Vals xs us -> Vals ys us -> xs = ys
 | _,_,_,.nil,.nil => rfl
 | _,_,_,.cons r t,.cons r' t' => by rw [r.inj r',Vals.inj t t']
section
variable {X : Cx} {pins : List (Addr × Obj)} {σ : St} {H : Hp} {s : Shared} {a : Addr} {xs ys : List V}
theorem SqL.of {K : PySem.W.Frag} (h : H a = some (.lst xs)) : SqL K H a xs:=.inl (.inl h)
theorem SqT.of {K : PySem.W.Frag} (h : H a = some (.tup xs)) : SqT K H a xs:=.inl (.inl h)
theorem Inv.list (I : Inv X pins σ H s) (h : SqL X.K H a xs) : ∃ its : List Value,Vals xs its /\ PlainL s.heap a its.toArray /\ xs.length <= sizeLine:=by
 rcases h with h | ⟨o,its,n,hk,hc,hd,hs,hz,r⟩
 ·obtain ⟨z,its,n,r,e⟩:=h.ok I.hok
  exact ⟨its,r,⟨_,n,e,rfl,rfl,rfl⟩,z⟩
 ·refine ⟨its.toList,r,⟨o,n,I.kIn a o hk,hc,hd,by simpa using hs⟩,?_⟩
  have e:=r.length
  simp only [Array.length_toList] at e
  omega
theorem Inv.tuple (I : Inv X pins σ H s) (h : SqT X.K H a xs) : ∃ its : List Value,Vals xs its /\ IsTup s.heap a its.toArray /\ xs.length <= sizeLine:=by
 rcases h with h | ⟨o,its,n,hk,hc,hs,hz,r⟩
 ·obtain ⟨z,its,r,p⟩:=h.ok I.hok
  exact ⟨its,r,p,z⟩
 ·refine ⟨its.toList,r,⟨o,I.kIn a o hk,hc,n,by simpa using hs⟩,?_⟩
  have e:=r.length
  simp only [Array.length_toList] at e
  omega
theorem Inv.list_inj (I : Inv X pins σ H s) (h : SqL X.K H a xs) (h' : SqL X.K H a ys) : xs = ys:=by
 obtain ⟨its,r,⟨o,n,e,_,_,d⟩,_⟩:=I.list h
 obtain ⟨its',r',⟨o',n',e',_,_,d'⟩,_⟩:=I.list h'
 rw [e] at e'; cases e'
 rw [d] at d'
 injection d' with d1 _
 have : its = its' := by simpa using congrArg Array.toList d1
 subst this
 exact r.inj r'
theorem Inv.tuple_inj (I : Inv X pins σ H s) (h : SqT X.K H a xs) (h' : SqT X.K H a ys) : xs = ys:=by
 obtain ⟨its,r,⟨o,e,_,n,d⟩,_⟩:=I.tuple h
 obtain ⟨its',r',⟨o',e',_,n',d'⟩,_⟩:=I.tuple h'
 rw [e] at e'; cases e'
 rw [d] at d'
 injection d' with d1 _
 have : its = its' := by simpa using congrArg Array.toList d1
 subst this
 exact r.inj r'
end
abbrev Cx.wish (X : Cx) (E : Value -> Shared -> Prop) : Cx:={ X with xe:=E }
abbrev Cx.nox (X : Cx) : Cx:=X.wish fun _ _ => False
theorem Cx.Ok.wish {X : Cx} (ok : X.Ok) (E : Value -> Shared -> Prop) : (X.wish E).Ok:=
 ⟨ok.mod,ok.kind,ok.glob,ok.blt,ok.above,ok.inj,ok.has,ok.cab,ok.hd,ok.frames,ok.stk,ok.exf,ok.bs,ok.bsz,ok.noex,ok.exfs,ok.funs,ok.frf⟩
theorem Cx.Ok.unwish {X : Cx} {E : Value -> Shared -> Prop} (ok : (X.wish E).Ok) : X.Ok:=
 ⟨ok.mod,ok.kind,ok.glob,ok.blt,ok.above,ok.inj,ok.has,ok.cab,ok.hd,ok.frames,ok.stk,ok.exf,ok.bs,ok.bsz,ok.noex,ok.exfs,ok.funs,ok.frf⟩
section
variable {X : Cx} {pins : List (Addr × Obj)} {σ : St} {H : Hp} {s : Shared} {E : Value -> Shared -> Prop}
theorem Inv.wish (I : Inv X pins σ H s) (E : Value -> Shared -> Prop) : Inv (X.wish E) pins σ H s:=⟨I.ok.wish E,I.os,I.bare,I.base,I.loc,I.cell,I.free,I.freeC,I.pin,I.hok,I.len⟩
theorem Inv.unwish (I : Inv (X.wish E) pins σ H s) : Inv X pins σ H s:=⟨I.ok.unwish,I.os,I.bare,I.base,I.loc,I.cell,I.free,I.freeC,I.pin,I.hok,I.len⟩
theorem SP.unwish {D : Ends} {f : Flow} {s' : Shared} (h : SP (X.wish E) pins D f s') : SP X pins D f s' := by
 cases f with
 | next => obtain ⟨σ',H',I,q⟩:=h; exact ⟨σ',H',I.unwish,q⟩
 | brk => obtain ⟨σ',H',I,q⟩:=h; exact ⟨σ',H',I.unwish,q⟩
 | cont => obtain ⟨σ',H',I,q⟩:=h; exact ⟨σ',H',I.unwish,q⟩
 | ret u => obtain ⟨v,σ',H',I,r,q⟩:=h; exact ⟨v,σ',H',I.unwish,r,q⟩
theorem PSs.nox {st : List Stmt} {t : TS} (h : PSs X.nox st t) : PSs X st t:=fun pins s σ H D I hw =>
 wpAny_mono (h pins s σ H D (I.wish _) hw) (fun _ _ q => q.unwish) fun _ _ z => False.elim z
end
section
variable {X : Cx} {st : Stmt} {rest : List Stmt} {t u : TS} {e : Expr} {te : TE} {pos : Pos}
def nO : TS:=fun D σ H => D.nx σ H
def uE (t u : TS) : TS:=fun D σ H => t { D with nx:=u D } σ H
theorem aZ : PSs X [] nO:=fun _ _ σ H _ I h => wpAny_execs_nil ⟨σ,H,I,h⟩
theorem af (h1 : PS X st t) (h2 : PSs X rest u) : PSs X (st :: rest) (uE t u):=by
 intro pins s σ H D I h
 refine wpAny_execs_cons (thn (h1 pins s σ H { D with nx:=u D } I h) fun f s1 q => ?_)
 cases f with
 | next =>
  obtain ⟨σ',H',I',q⟩:=q
  exact h2 pins s1 σ' H' D I' q
 | ret v => exact q
 | brk => exact q
 | cont => exact q
theorem ak (h1 : PS X st t) : PSs X [st] t:=by
 intro pins s σ H D I h
 refine wpAny_execs_cons (thn (h1 pins s σ H D I h) fun f s1 q => ?_)
 cases f with
 | next => exact wpAny_execs_nil q
 | ret v => exact q
 | brk => exact q
 | cont => exact q
theorem Inv.quiet {pins : List (Addr × Obj)} {σ : St} {H : Hp} {s : Shared} (I : Inv X pins σ H s) : interactive X.env = false:=by simp [interactive,I.ok.kind]
def Ah (te : TE) : TS:=fun D σ H => te σ H fun _ H1 => D.nx σ H1
theorem aY (he : PE X e te) (hs : swapsWith e none pos.line X.env = pure false:=by rfl) : PS X (.Expr e pos) (Ah te):=by
 intro pins s σ H D I h
 exact wpAny_Expr_any (thn (he pins s σ H _ I h) fun v s1 ⟨x,H1,I1,r1,q1⟩ => ⟨σ,H1,I1,q1⟩) I.quiet hs
def AQ (te : TE) : TS:=fun D σ H => te σ H D.rt
theorem aG (he : PE X e te) : PS X (.Return (some e) pos) (AQ te):=by
 intro pins s σ H D I h
 exact wpAny_Return_some (thn (he pins s σ H _ I h) fun v s1 ⟨x,H1,I1,r1,q1⟩ => ⟨x,σ,H1,I1,r1,q1⟩)
def yF (c : TT) (t u : TS) : TS:=fun D σ H => c σ H fun b H1 => if b = true then t D σ H1 else u D σ H1
theorem bT {c : Expr} {a b : List Stmt} {tc : TT} (hc : PT X c tc) (ha : PSs X a t) (hb : PSs X b u) : PS X (.If c a b pos) (yF tc t u):=by
 intro pins s σ H D I h
 refine wpAny_If (thn (hc pins s σ H _ I h) fun d s1 ⟨H1,I1,q1⟩ => ?_)
 cases d with
 | true => exact ha pins s1 σ H1 D I1 q1
 | false => exact hb pins s1 σ H1 D I1 q1
def zG : TS:=fun _ _ _ => False
theorem jX : PS X st zG:=fun _ _ _ _ _ _ h => h.elim
end
abbrev TG:=V -> St -> Hp -> (St -> Hp -> Prop) -> Prop
abbrev TGs:=List V -> St -> Hp -> (St -> Hp -> Prop) -> Prop
def PG (X : Cx) (target : Expr) (t : TG) : Prop:=
 ∀ (pins : List (Addr × Obj)) (s : Shared) (σ : St) (H : Hp) (v : V) (u : Value) (Q : St -> Hp -> Prop),Inv X pins σ H s -> RelV v u -> t v σ H Q ->
  wpAny (model X.prog X.w) X.A (assign target X.env u) (fun _ s' => ∃ σ' H',Inv X pins σ' H' s' /\ Q σ' H') X.xe s
def PGs (X : Cx) (ts : List Expr) (t : TGs) : Prop:=
 ∀ (pins : List (Addr × Obj)) (s : Shared) (σ : St) (H : Hp) (vs : List V) (us : List Value) (Q : St -> Hp -> Prop),Inv X pins σ H s -> Vals vs us -> t vs σ H Q ->
  wpAny (model X.prog X.w) X.A (assignInOrder ((assignEach ts X.env).map (·.2)) us) (fun _ s' => ∃ σ' H',Inv X pins σ' H' s' /\ Q σ' H') X.xe s
abbrev yU:=V -> V -> V -> Hp -> (Hp -> Prop) -> Prop
def zL (X : Cx) (t : yU) : Prop:=
 ∀ (pins : List (Addr × Obj)) (s : Shared) (σ : St) (H : Hp) (o i v : V) (ov iv u : Value) (Q : Hp -> Prop),Inv X pins σ H s -> RelV o ov -> RelV i iv -> RelV v u -> t o i v H Q ->
  wpAny (model X.prog X.w) X.A (setItem ov iv u) (fun _ s' => ∃ H',Inv X pins σ H' s' /\ Q H') X.xe s
section
variable {X : Cx} {pos : Pos}
def aL (i : Nat) : TG:=fun v σ H Q => Q (σ.set i (some v)) H
theorem aE {i : Nat} {x : Str} (hN : X.N.Nodup) (hi : X.N[i]? = some x) (hx : Loc X.env.scope x) (hf : X.fn x = true \/ X.env.scope.names.lookup x = some .local:=by first | exact .inl rfl | exact .inr rfl | assumption) : PG X (.Name x pos) (aL i):=by
 intro pins s σ H v u Q I r h
 exact wpAny_assign_Name (tM I hN hi hx r (fun s' I' => ⟨_,H,I',h⟩) hf)
def Aw : TGs:=fun vs σ H Q => vs = [] /\ Q σ H
def zQ (t : TG) (u : TGs) : TGs:=fun vs σ H Q => ∃ v r,vs = v :: r /\ t v σ H fun σ' H' => u r σ' H' Q
theorem u5 : PGs X [] Aw:=by
 intro pins s σ H vs us Q I r h
 obtain ⟨e,h⟩:=h
 subst e
 cases r
 exact assignInOrder_nil ⟨σ,H,I,h⟩
theorem jV {e : Expr} {es : List Expr} {t : TG} {u : TGs} (h1 : PG X e t) (h2 : PGs X es u)
  (hs : (assignEach (e :: es) X.env).map (·.2) = assign e X.env :: (assignEach es X.env).map (·.2):=by rfl) : PGs X (e :: es) (zQ t u):=by
 intro pins s σ H vs us Q I r h
 obtain ⟨v,vr,e1,h⟩:=h
 subst e1
 cases r with
 | cons r rr =>
  rw [hs]
  refine assignInOrder_cons (thn (h1 pins s σ H _ _ _ I r h) fun _ s1 ⟨σ1,H1,I1,q1⟩ => ?_)
  exact h2 pins s1 σ1 H1 _ _ Q I1 rr q1
def zR (K : PySem.W.Frag) (n : Nat) (t : TGs) : TG:=fun v σ H Q => ∃ a xs,v = .ref a /\ SqT K H a xs /\ xs.length = n /\ t xs σ H Q
theorem xC {es : List Expr} {k : Nat} {t : TGs} {n : Nat} (hc : X.calm = true) (h : PGs X es t)
  (hn : (assignEach es X.env).length = n:=by rfl) (hst : (assignEach es X.env).findIdx? (·.1) = none:=by rfl) : PG X (.Tuple es k pos) (zR X.K n t):=by
 intro pins s σ H v u Q I r hw
 obtain ⟨a,xs,e1,hq,hl,hw⟩:=hw
 subst e1
 cases r
 obtain ⟨its,rv,ht,hz⟩:=I.tuple hq
 refine assign_Tuple_tuple (I.ok.hd hc) ht (by simp [hn,<- hl,rv.length]) hst fun h' hx => ?_
 have I1 : Inv X pins σ H { s with heap:=h' }:=I.kept (t' := s.toks) fun b o e => hx b o (Nat.ne_of_lt (Heap.lt_size e)) e
 exact h pins _ σ H xs _ Q I1 (by simpa using rv) hw
def Ax (to ti : TE) (t : yU) : TG:=fun v σ H Q => to σ H fun o H1 => ti σ H1 fun i H2 => t o i v H2 fun H3 => Q σ H3
theorem zm {o i : Expr} {to ti : TE} {t : yU} (ho : PE X o to) (hi : PE X i ti) (hs : zL X t)
  (ha : ∀ v,assign (.Subscript o i pos) X.env v = (do
   let ov <- holding [v] (eval o X.env)
   let iv <- holding [v,ov] (eval i X.env)
   standAt pos
   holding [v,ov,iv] (setItem ov iv v)
   release [v,ov,iv] []):=by intro _; rfl) : PG X (.Subscript o i pos) (Ax to ti t):=by
 intro pins s σ H v u Q I r h
 rw [ha]
 refine wpAny_bind (wpAny_holding (thn (ho pins s σ H _ I h) fun ov s1 ⟨x,H1,I1,r1,q1⟩ => ?_))
 refine wpAny_bind (wpAny_holding (thn (hi pins s1 σ H1 _ I1 q1) fun iv s2 ⟨y,H2,I2,r2,q2⟩ => ?_))
 refine wpAny_bind (wpAny_standAt (wpAny_bind (wpAny_holding (thn (hs pins s2 σ H2 x y v ov iv u _ I2 r1 r2 r q2) fun _ s3 ⟨H3,I3,q3⟩ => ?_))))
 exact wpAny_release ⟨σ,H3,I3,q3⟩
def wo (te : TE) (g : TG) : TS:=fun D σ H => te σ H fun x H1 => g x σ H1 D.nx
theorem zp {tg e : Expr} {te : TE} {g : TG} (he : PE X e te) (hg : PG X tg g) (hs : swapsWithSole [tg] e pos.line X.env = pure false:=by rfl) (hw : swappedStores [tg] e X.env = pure none:=by rfl)
  (h1 : (assignEach [tg] X.env).map (·.2) = [assign tg X.env]:=by rfl) : PS X (.Assign [tg] e pos) (wo te g):=by
 intro pins s σ H D I h
 refine wpAny_Assign_stores (thn (he pins s σ H _ I h) fun v s1 ⟨x,H1,I1,r1,q1⟩ => ?_) hs hw
 rw [h1]
 exact thn (hg pins s1 σ H1 x v _ I1 r1 q1) fun _ s2 q => q
theorem au {i : Nat} {x : Str} {e : Expr} {te : TE} {pos' : Pos} (hN : X.N.Nodup) (hi : X.N[i]? = some x) (hx : Loc X.env.scope x) (he : PE X e te) (hs : swapsWith e (some (.Name x pos')) pos.line X.env = pure false:=by rfl) (hf : X.fn x = true \/ X.env.scope.names.lookup x = some .local:=by first | exact .inl rfl | exact .inr rfl | assumption) :
  PS X (.Assign [.Name x pos'] e pos) (wo te (aL i)):=by
 intro pins s σ H D I h
 refine wpAny_Assign_Name (thn (he pins s σ H _ I h) fun v s1 ⟨y,H1,I1,r1,q1⟩ => ?_) hs
 exact tM I1 hN hi hx r1 (fun s2 I2 => ⟨_,H1,I2,q1⟩) hf
end
section
variable {X : Cx} {pos : Pos}
def h9 (c : TT) (tb : TS) : TS:=fun D σ H => ∃ W : Nat -> St -> Hp -> Prop,(∃ m,W m σ H) /\ ∀ m σ H,W m σ H ->
 c σ H fun b H1 => if b = true then ∃ N : St -> Hp -> Prop,(∀ σ' H',N σ' H' -> ∃ m',m' < m /\ W m' σ' H') /\ tb { D with nx:=N,ct:=N,bk:=D.nx } σ H1 else D.nx σ H1
theorem eC {c : Expr} {body : List Stmt} {tc : TT} {tb : TS} (hp : PassesOwn (model X.prog X.w) X.A X.env X.xe) (hc : PT X c tc) (hb : PSs X body tb) : PS X (.While c body [] pos) (h9 tc tb):=by
 intro pins s σ H D I h
 obtain ⟨W,⟨m0,w0⟩,turn⟩:=h
 refine wpAny_While (codeAny_whileLoop (fun n s' => ∃ σ' H',Inv X pins σ' H' s' /\ W n σ' H') ?_ m0 ⟨σ,H,I,w0⟩)
 rintro n s1 ⟨σ1,H1,I1,w1⟩
 refine wpAny_passesOwn hp (thn (hc pins s1 σ1 H1 _ I1 (turn n σ1 H1 w1)) fun b s2 ⟨H2,I2,q2⟩ => ?_)
 cases b with
 | true =>
  obtain ⟨N,hN,q2⟩:=q2
  rw [if_pos rfl]
  refine wpAny_passesOwn hp (thn (hb pins s2 σ1 H2 _ I2 q2) fun f s3 q3 => ?_)
  cases f with
  | next =>
   obtain ⟨σ3,H3,I3,n3⟩:=q3
   obtain ⟨m',hm,w3⟩:=hN σ3 H3 n3
   exact ⟨m',hm,σ3,H3,I3,w3⟩
  | cont =>
   obtain ⟨σ3,H3,I3,n3⟩:=q3
   obtain ⟨m',hm,w3⟩:=hN σ3 H3 n3
   exact ⟨m',hm,σ3,H3,I3,w3⟩
  | brk => exact q3
  | ret v => exact q3
 | false =>
  rw [if_neg Bool.false_ne_true]
  exact wpAny_execs_nil ⟨σ1,H2,I2,q2⟩
end
structure It where
 go : Nat -> Hp -> Prop
 yld : Nat -> Hp -> V -> Hp -> Prop
 stop : Nat -> Hp -> Prop
def iq (X : Cx) (pins : List (Addr × Obj)) (H : Hp) (b : Addr) : Prop:=
 H b = none /\ b ≠ X.env.locals /\ b ∉ X.fs /\ (b ∈ X.ex \/ X.s₀.heap.objs.size <= b) /\ (∀ x c,X.env.cells.lookup x = some c -> c ≠ b) /\ ∀ p ∈ X.pn ++ pins,p.1 ≠ b
theorem Inv.fpOk {X : Cx} {pins : List (Addr × Obj)} {σ : St} {H H' : Hp} {s : Shared} {b : Addr} (I : Inv X pins σ H s) (hb : s.heap.objs.size <= b) (hn : H' b = none) : iq X pins H' b:=by
 refine ⟨hn,Nat.ne_of_gt (Nat.lt_of_lt_of_le I.lt hb),I.nofs hb,.inr (Nat.le_trans I.sz hb),fun x c e z => ?_,fun p hp z => ?_⟩
 ·obtain ⟨v,q⟩:=I.cell x c e
  exact absurd (Nat.lt_of_lt_of_le q.lt (by rw [z]; exact hb)) (Nat.lt_irrefl _)
 ·exact absurd (Nat.lt_of_lt_of_le (Heap.lt_size (I.pin p hp).1) (by rw [z]; exact hb)) (Nat.lt_irrefl _)
structure Turn (P : Program) (w : World) (K : PySem.W.Frag) (tg : Expr) (J : It) (fp : List Addr) (it : Addr) (tn : Nat -> Heap -> Prop) : Prop where
 mem : it ∈ fp
 obj : ∀ i h,tn i h -> ∀ b ∈ fp,∃ o,h.get? b = some o /\ ∀ v,o.data ≠ .cell v
 keep : ∀ i h h',tn i h -> (∀ b ∈ fp,∀ o,h.get? b = some o -> h'.get? b = some o) -> tn i h'
 item : ∀ (X : Cx),X.prog = P -> X.w = w -> X.K = K -> X.calm = true -> ∀ (i : Nat) (pins : List (Addr × Obj)) (s : Shared) (σ : St) (H : Hp) (E : Value -> Shared -> Prop),Inv X pins σ H s -> (∀ b ∈ fp,iq X pins H b) -> tn i s.heap -> J.go i H ->
  wpAny (model P w) X.A (pyNext (.ref it)) (fun r s1 => ∃ u,r = some u /\
   wpAny (model P w) X.A (letOwnedTupleGo tg (.ref it) u) (fun _ s2 => ∃ x H',Inv X pins σ H' s2 /\ RelV x u /\ J.yld i H x H' /\ tn (i + 1) s2.heap /\ ∀ b ∈ fp,H' b = none) E s1) E s
 done : ∀ (X : Cx),X.prog = P -> X.w = w -> X.K = K -> X.calm = true -> ∀ (i : Nat) (pins : List (Addr × Obj)) (s : Shared) (σ : St) (H : Hp) (E : Value -> Shared -> Prop),Inv X pins σ H s -> (∀ b ∈ fp,iq X pins H b) -> tn i s.heap -> J.stop i H ->
  wpAny (model P w) X.A (pyNext (.ref it)) (fun r s1 => r = none /\ Inv X pins σ H s1) E s
 self : ∀ (A : Around) (i : Nat) (s : Shared) (Q : Value -> Shared -> Prop) (E : Value -> Shared -> Prop),tn i s.heap -> Q (.ref it) s -> wpAny (model P w) A (pyIter (.ref it)) Q E s
abbrev TI:=St -> Hp -> (It -> Hp -> Prop) -> Prop
def PIE (X : Cx) (pins : List (Addr × Obj)) (σ : St) (tg : Expr) (R : It -> Hp -> Prop) (itv : Value) (s2 : Shared) : Prop:=
 ∃ (it : Addr) (fp : List Addr) (tn : Nat -> Heap -> Prop) (J : It) (H' : Hp),itv = .ref it /\ Inv X pins σ H' s2 /\ Turn X.prog X.w X.K tg J fp it tn /\ tn 0 s2.heap /\ (∀ b ∈ fp,iq X pins H' b) /\ R J H'
def PI (X : Cx) (tg iter : Expr) (wi : TI) : Prop:=
 ∀ (pins : List (Addr × Obj)) (s : Shared) (σ : St) (H : Hp) (R : It -> Hp -> Prop),Inv X pins σ H s -> wi σ H R ->
  wpAny (model X.prog X.w) X.A (eval iter X.env) (fun v s1 => wpAny (model X.prog X.w) X.A (pyIter v) (PIE X pins σ tg R) X.xe s1) X.xe s
theorem pU {M : Model} {A : Around} {E : Value -> Shared -> Prop} {s : Shared} {tg : Expr} {it : Addr} {u : Value} {o : Obj} {n : String} {vs : Array Value} {Q : Unit -> Shared -> Prop} (ho : s.heap.get? it = some o) (hc : o.cls = .type n) (hd : o.data = .fields vs)
  (hn : ["enumerate","zip","dict_itemiterator","dict_reverseitemiterator","odict_iterator","itertools.zip_longest","itertools.pairwise"].contains n = false) (hQ : Q () s) : wpAny M A (letOwnedTupleGo tg (.ref it) u) Q E s:=by
 unfold letOwnedTupleGo
 cases tg <;> first
  | exact wpAny_pure hQ
  | (cases u <;> first
    | exact wpAny_pure hQ
    | (refine wpAny_bind (wpAny_load ho ?_)
       rw [hc,hd]
       show wpAny M A (if (["enumerate","zip","dict_itemiterator","dict_reverseitemiterator","odict_iterator","itertools.zip_longest","itertools.pairwise"].contains n && vs[0]? == some (rawInt _)) = true then _ else _) Q E s
       rw [if_neg (by intro h; rw [hn,Bool.false_and] at h; cases h)]
       exact wpAny_pure hQ))
def Itl (K : PySem.W.Frag) (a : Addr) : It:=
 ⟨fun i H => ∃ xs x,SqL K H a xs /\ xs[i]? = some x,fun i H x H' => H' = H /\ ∀ xs,SqL K H a xs -> xs[i]? = some x,fun i H => ∃ xs,SqL K H a xs /\ xs.length <= i⟩
def Itt (K : PySem.W.Frag) (a : Addr) : It:=
 ⟨fun i H => ∃ xs x,SqT K H a xs /\ xs[i]? = some x,fun i H x H' => H' = H /\ ∀ xs,SqT K H a xs -> xs[i]? = some x,fun i H => ∃ xs,SqT K H a xs /\ xs.length <= i⟩
def Itr (lo : Int) (n : Nat) : It:=⟨fun i _ => i < n,fun i H x H' => H' = H /\ x = .int (lo + i),fun i _ => n <= i⟩
theorem qe {P : Program} {w : World} {K : PySem.W.Frag} {tg : Expr} (a it : Addr) : Turn P w K tg (Itl K a) [it] it (fun i h => h.IsListIter it a i) where
 mem:=by simp
 obj:=fun i h st b hb => by
  have e : b = it:=by simpa using hb
  subst e
  obtain ⟨o,e,c,d⟩:=st
  exact ⟨o,e,fun v z => by rw [d] at z; cases z⟩
 keep:=fun i h h' st k => st.at fun o e => k it (by simp) o e
 item:=by
  intro X hP hw hK hc i pins s σ H E I hf st hg
  subst hP hw hK
  obtain ⟨xs,x,hq,hx⟩:=hg
  obtain ⟨its,rv,p,hz⟩:=I.list hq
  obtain ⟨u,hu,ru⟩:=rv.get hx
  obtain ⟨f0,f1,f2,f3,f4,f5⟩:=hf it (by simp)
  refine wpAny_pyNext_list_item st p.isList (x:=u) (by simpa using hu) fun h' st' sb => ?_
  have I1 : Inv X pins σ H { s with heap:=h' }:=I.turned (t' := s.toks) (fun b o hb e => (sb.2 b hb).trans e) f0 f1 f3 f4 f5
  obtain ⟨o,e,c,d⟩:=id st'
  exact ⟨u,rfl,pU (s:={ s with heap:=h' }) e c d (by decide) ⟨x,H,I1,ru,⟨rfl,fun ys hy => by rw [I.list_inj hy hq]; exact hx⟩,st',fun b hb => (hf b hb).1⟩⟩
 done:=by
  intro X hP hw hK hc i pins s σ H E I hf st hg
  subst hP hw hK
  obtain ⟨xs,hq,hx⟩:=hg
  obtain ⟨its,rv,p,hz⟩:=I.list hq
  obtain ⟨f0,f1,f2,f3,f4,f5⟩:=hf it (by simp)
  have hl:=rv.length
  exact wpAny_pyNext_list_end (I.ok.hd hc) st p.isList (by simp; omega) fun h' eb => ⟨rfl,I.turned (t' := s.toks) (fun b o hb e => eb b o hb e) f0 f1 f3 f4 f5⟩
 self:=fun _ _ _ _ _ st h => wpAny_pyIter_listiter st h
theorem nQ {P : Program} {w : World} {K : PySem.W.Frag} {tg : Expr} (a it : Addr) : Turn P w K tg (Itt K a) [it] it (fun i h => h.IsTupleIter it a i) where
 mem:=by simp
 obj:=fun i h st b hb => by
  have e : b = it:=by simpa using hb
  subst e
  obtain ⟨o,e,c,d⟩:=st
  exact ⟨o,e,fun v z => by rw [d] at z; cases z⟩
 keep:=fun i h h' st k => st.at fun o e => k it (by simp) o e
 item:=by
  intro X hP hw hK hc i pins s σ H E I hf st hg
  subst hP hw hK
  obtain ⟨xs,x,hq,hx⟩:=hg
  obtain ⟨its,rv,p,hz⟩:=I.tuple hq
  obtain ⟨u,hu,ru⟩:=rv.get hx
  obtain ⟨f0,f1,f2,f3,f4,f5⟩:=hf it (by simp)
  refine wpAny_pyNext_tuple_item st (show s.heap.IsTuple a its.toArray from p) (x:=u) (by simpa using hu) fun h' st' sb => ?_
  have I1 : Inv X pins σ H { s with heap:=h' }:=I.turned (t' := s.toks) (fun b o hb e => (sb.2 b hb).trans e) f0 f1 f3 f4 f5
  obtain ⟨o,e,c,d⟩:=id st'
  exact ⟨u,rfl,pU (s:={ s with heap:=h' }) e c d (by decide) ⟨x,H,I1,ru,⟨rfl,fun ys hy => by rw [I.tuple_inj hy hq]; exact hx⟩,st',fun b hb => (hf b hb).1⟩⟩
 done:=by
  intro X hP hw hK hc i pins s σ H E I hf st hg
  subst hP hw hK
  obtain ⟨xs,hq,hx⟩:=hg
  obtain ⟨its,rv,p,hz⟩:=I.tuple hq
  obtain ⟨f0,f1,f2,f3,f4,f5⟩:=hf it (by simp)
  have hl:=rv.length
  exact wpAny_pyNext_tuple_end (I.ok.hd hc) st (show s.heap.IsTuple a its.toArray from p) (by simp; omega) fun h' eb => ⟨rfl,I.turned (t' := s.toks) (fun b o hb e => eb b o hb e) f0 f1 f3 f4 f5⟩
 self:=fun _ _ _ _ _ st h => wpAny_pyIter_tupleiter st h
theorem uG {P : Program} {w : World} {K : PySem.W.Frag} {tg : Expr} (it : Addr) (lo : Int) (n : Nat) : Turn P w K tg (Itr lo n) [it] it (fun i h => IsRangeIter h it (lo + (i : Nat) * 1) ((n : Int) - (i : Nat)) 1) where
 mem:=by simp
 obj:=fun i h st b hb => by
  have e : b = it:=by simpa using hb
  subst e
  exact ⟨_,st,fun v z => by
   have z' : Data.fields _ = Data.cell v:=z
   cases z'⟩
 keep:=fun i h h' st k => k it (by simp) _ st
 item:=by
  intro X hP hw hK hc i pins s σ H E I hf st hg
  subst hP hw hK
  obtain ⟨f0,f1,f2,f3,f4,f5⟩:=hf it (by simp)
  have W:=Walks.range (prog:=X.prog) (w:=X.w) (I.ok.hd hc) it lo 1 n
  refine W.item i s _ _ hg st fun v h' tk hv st' kk => ?_
  obtain ⟨t,rfl⟩:=hv
  have I1 : Inv X pins σ H { s with heap:=h',toks:=tk }:=I.turned (fun b o hb e => kk b o (by simpa using hb) e) f0 f1 f3 f4 f5
  refine ⟨_,rfl,pU (s:={ s with heap:=h',toks:=tk }) (n := "range_iterator") st' rfl rfl (by decide) ⟨.int (lo + i),H,I1,⟨t,?_⟩,⟨rfl,rfl⟩,st',fun b hb => (hf b hb).1⟩⟩
  rw [Int.mul_one]
 done:=by
  intro X hP hw hK hc i pins s σ H E I hf st hg
  subst hP hw hK
  obtain ⟨f0,f1,f2,f3,f4,f5⟩:=hf it (by simp)
  exact wpAny_pyNext_range_end (I.ok.hd hc) st (by have : n <= i:=hg; omega) fun h' eb => ⟨rfl,I.turned (t' := s.toks) (fun b o hb e => eb b o hb e) f0 f1 f3 f4 f5⟩
 self:=fun _ _ _ _ _ st h => wpAny_pyIter_rangeiter st h
end L2
namespace L2
open PySem PySem.Spec PyProof.Rows
section
variable {X : Cx} {tg : Expr}
def zS (K : PySem.W.Frag) (tl : TE) : TI:=fun σ H R => tl σ H fun x H1 => ∃ a,x = .ref a /\ (∃ xs,SqL K H1 a xs) /\ R (Itl K a) H1
def AA (K : PySem.W.Frag) (tl : TE) : TI:=fun σ H R => tl σ H fun x H1 => ∃ a,x = .ref a /\ (∃ xs,SqT K H1 a xs) /\ R (Itt K a) H1
theorem cZ {l : Expr} {tl : TE} (hl : PE X l tl) : PI X tg l (zS X.K tl):=by
 intro pins s σ H R I h
 refine thn (hl pins s σ H _ I h) fun v s1 ⟨x,H1,I1,r1,q1⟩ => ?_
 obtain ⟨a,e,⟨xs,hq⟩,q⟩:=q1
 subst e
 cases r1
 obtain ⟨its,rv,p,hz⟩:=I1.list hq
 refine wpAny_pyIter_list p.isList ?_
 refine ⟨s1.heap.objs.size,[s1.heap.objs.size],_,_,H1,rfl,I1.kept (t' := s1.toks) fun b o e => Heap.get?_push_of_some _ e,qe a _,⟨_,Heap.get?_push_size _ rfl,rfl,rfl⟩,fun b hb => ?_,q⟩
 have e : b = s1.heap.objs.size:=by simpa using hb
 subst e
 exact I1.fpOk (Nat.le_refl _) (I1.hok.fresh (Nat.le_refl _))
theorem kB {l : Expr} {tl : TE} (hl : PE X l tl) : PI X tg l (AA X.K tl):=by
 intro pins s σ H R I h
 refine thn (hl pins s σ H _ I h) fun v s1 ⟨x,H1,I1,r1,q1⟩ => ?_
 obtain ⟨a,e,⟨xs,hq⟩,q⟩:=q1
 subst e
 cases r1
 obtain ⟨its,rv,p,hz⟩:=I1.tuple hq
 refine wpAny_pyIter_tuple (show s1.heap.IsTuple a its.toArray from p) ?_
 refine ⟨s1.heap.objs.size,[s1.heap.objs.size],_,_,H1,rfl,I1.kept (t' := s1.toks) fun b o e => Heap.get?_push_of_some _ e,nQ a _,⟨_,Heap.get?_push_size _ rfl,rfl,rfl⟩,fun b hb => ?_,q⟩
 have e : b = s1.heap.objs.size:=by simpa using hb
 subst e
 exact I1.fpOk (Nat.le_refl _) (I1.hok.fresh (Nat.le_refl _))
theorem xM {pins : List (Addr × Obj)} {σ : St} {H : Hp} {s : Shared} {R : It -> Hp -> Prop} {E : Value -> Shared -> Prop} {lo hi : Int} {t u v : Tok} {tk : Nat} (I : Inv X pins σ H s) (h1 : -(2 ^ 62) <= lo) (h2 : lo < 2 ^ 62) (h3 : -(2 ^ 62) <= hi) (h4 : hi < 2 ^ 62)
  (q : R (Itr lo (hi - lo).toNat) H) : wpAny (model X.prog X.w) X.A (pyIter (.ref s.heap.objs.size)) (PIE X pins σ tg R) E { s with heap:=s.heap.push { cls:=.type "range",data:=.fields #[.int lo t,.int hi u,.int 1 v] },toks:=tk }:=by
 refine wpAny_pyIter_range (IsRange.new ..) (small_one h1 h2 h3 h4) ?_
 have I1 : Inv X pins σ H { s with heap:=s.heap.push { cls:=.type "range",data:=.fields #[.int lo t,.int hi u,.int 1 v] },toks:=tk }:=I.kept fun b o e => Heap.get?_push_of_some _ e
 refine ⟨(s.heap.push { cls:=.type "range",data:=.fields #[.int lo t,.int hi u,.int 1 v] }).objs.size,[(s.heap.push { cls:=.type "range",data:=.fields #[.int lo t,.int hi u,.int 1 v] }).objs.size],_,_,H,rfl,
  I1.kept (t' := tk) fun b o e => Heap.get?_push_of_some _ e,uG _ lo (hi - lo).toNat,?_,fun b hb => ?_,q⟩
 ·have e1 : lo + ((0 : Nat) : Int) * 1 = lo:=by simp
  have e2 : (((hi - lo).toNat : Nat) : Int) - ((0 : Nat) : Int) = Builtin.Range.rangeSize lo hi 1:=by rw [rangeSize_one]; split <;> omega
  show IsRangeIter _ _ (lo + ((0 : Nat) : Int) * 1) ((((hi - lo).toNat : Nat) : Int) - ((0 : Nat) : Int)) 1
  rw [e1,e2]
  exact Heap.get?_push_size _ rfl
 ·have e : b = (s.heap.push { cls:=.type "range",data:=.fields #[.int lo t,.int hi u,.int 1 v] }).objs.size:=by simpa using hb
  subst e
  exact I1.fpOk (Nat.le_refl _) (I1.hok.fresh (Nat.le_refl _))
def zU (ta : TA) : TI:=fun σ H R => ta σ H fun vs H1 => ∃ j : Int,vs = [.int j] /\ -(2 ^ 62) <= j /\ j < 2 ^ 62 /\ R (Itr 0 j.toNat) H1
theorem c7 {a : Expr} {ta : TA} {p pos : Pos} (hg : Gl X "range") (hm : X.mg "range" = none) (ha : PA X [a] ta) (hs : starEach [a] X.env = [(false,eval a X.env)]:=by rfl) : PI X tg (.Call (.Name "range" p) [a] [] pos) (zU ta):=by
 intro pins s σ H R I h
 refine Call_ (eu I hg hm boot_range (PyProof.Rows.callWith_type1 (thn (ha pos pins s σ H _ I h) fun us s1 ⟨vs,H1,I1,r1,q1⟩ => ?_) hs rfl))
 obtain ⟨j,e,q1,q2,q⟩:=q1
 subst e
 cases r1 with
 | cons r rr =>
  cases rr
  obtain ⟨t,rfl⟩:=r
  exact call_range_1 (xM I1 (by omega) (by omega) q1 q2 (by simpa using q))
def nN (wi : TI) (g : TG) (tb : TS) : TS:=fun D σ H => wi σ H fun J H1 => ∃ W : Nat -> Nat -> St -> Hp -> Prop,(∃ m,W 0 m σ H1) /\ ∀ i m σ H,W i m σ H ->
 (J.stop i H /\ D.nx σ H) \/ (J.go i H /\ ∃ N : St -> Hp -> Prop,(∀ σ' H',N σ' H' -> ∃ m',m' < m /\ W (i + 1) m' σ' H') /\ ∀ x H',J.yld i H x H' -> g x σ H' fun σ2 H2 => tb { D with nx:=N,ct:=N,bk:=D.nx } σ2 H2)
def q9 (fp : List Addr) (h : Heap) : List (Addr × Obj):=fp.filterMap fun b => (h.get? b).map fun o => (b,o)
theorem bZ {fp : List Addr} {h : Heap} {b : Addr} {o : Obj} (hb : b ∈ fp) (e : h.get? b = some o) : (b,o) ∈ q9 fp h:=List.mem_filterMap.mpr ⟨b,hb,by rw [e]; rfl⟩
theorem vM {fp : List Addr} {h : Heap} {p : Addr × Obj} (hp : p ∈ q9 fp h) : p.1 ∈ fp /\ h.get? p.1 = some p.2:=by
 obtain ⟨b,hb,e⟩:=List.mem_filterMap.mp hp
 cases q : h.get? b with
 | none => rw [q] at e; cases e
 | some o =>
  rw [q] at e
  have e' : (b,o) = p:=Option.some.inj e
  subst e'
  exact ⟨hb,q⟩
theorem Inv.pinned {pins : List (Addr × Obj)} {σ : St} {H : Hp} {s : Shared} {fp : List Addr} (I : Inv X pins σ H s) (hf : ∀ b ∈ fp,iq X pins H b) (ho : ∀ b ∈ fp,∃ o,s.heap.get? b = some o /\ ∀ v,o.data ≠ .cell v) : Inv X (pins ++ q9 fp s.heap) σ H s:=
 I.pins_of fun p hp => (List.mem_append.mp hp).elim (fun z => I.pin p (List.mem_append_right _ z)) fun z => by
  obtain ⟨hb,e⟩:=vM z
  obtain ⟨f0,f1,f2,_⟩:=hf p.1 hb
  obtain ⟨o,e',d⟩:=ho p.1 hb
  rw [e] at e'; cases e'
  exact ⟨e,f0,f1,f2,d⟩
theorem Inv.unpinned {pins pl : List (Addr × Obj)} {σ : St} {H : Hp} {s : Shared} (I : Inv X (pins ++ pl) σ H s) : Inv X pins σ H s:=I.pins_of fun p hp => I.pin p (List.mem_append_right _ (List.mem_append_left _ hp))
theorem bw {iter : Expr} {body : List Stmt} {wi : TI} {g : TG} {tb : TS} {pos : Pos} (hp : PassesOwn (model X.prog X.w) X.A X.env X.xe) (hc : X.calm = true) (hi : PI X tg iter wi) (hg : PG X tg g) (hb : PSs X body tb)
  (hs : ∀ x,foldedSetIterable iter X.env x = pure x:=by intro _; rfl) : PS X (.For tg iter body [] pos) (nN wi g tb):=by
 intro pins s σ H D I h
 refine wpAny_For (thn (hi pins s σ H _ I h) fun v s1 h1 => thn h1 fun itv s2 h2 => ?_) hs
 obtain ⟨it,fp,tn,J,H2,e,I2,T,st2,f2,W,⟨m0,w0⟩,turn⟩:=h2
 subst e
 have stat : ∀ {H' : Hp},(∀ b ∈ fp,H' b = none) -> ∀ b ∈ fp,iq X pins H' b:=fun hn b hb => ⟨hn b hb,(f2 b hb).2⟩
 refine codeAny_forLoop_any (fun n s' => ∃ i σ' H',Inv X pins σ' H' s' /\ tn i s'.heap /\ (∀ b ∈ fp,H' b = none) /\ W i n σ' H') ?_ m0 ⟨0,σ,H2,I2,st2,fun b hb => (f2 b hb).1,w0⟩
 rintro n s3 ⟨i,σ3,H3,I3,st3,fr3,w3⟩
 rcases turn i n σ3 H3 w3 with ⟨stop,qn⟩ | ⟨go,N,hN,step⟩
 ·refine wpAny_passesOwn hp (thn (T.done X rfl rfl rfl hc i pins s3 σ3 H3 X.xe I3 (stat fr3) st3 stop) fun r s4 ⟨hr,I4⟩ => ?_)
  subst hr
  exact wpAny_execs_nil ⟨σ3,H3,I4,qn⟩
 ·refine wpAny_passesOwn hp (thn (T.item X rfl rfl rfl hc i pins s3 σ3 H3 X.xe I3 (stat fr3) st3 go) fun r s4 ⟨u,hr,h4⟩ => ?_)
  subst hr
  refine wpAny_passesOwn hp (thn h4 fun _ s5 ⟨x,H5,I5,r5,y5,st5,fr5⟩ => ?_)
  have I5' := I5.pinned (stat fr5) (T.obj _ _ st5)
  refine wpAny_passesOwn hp (thn (hg _ s5 σ3 H5 x u _ I5' r5 (step x H5 y5)) fun _ s6 ⟨σ6,H6,I6,q6⟩ => ?_)
  refine wpAny_passesOwn hp (thn (hb _ s6 σ6 H6 _ I6 q6) fun f s7 q7 => ?_)
  have again : ∀ {σ7 : St} {H7 : Hp},Inv X (pins ++ q9 fp s5.heap) σ7 H7 s7 -> N σ7 H7 -> ∃ m,m < n /\ ∃ i σ' H',Inv X pins σ' H' s7 /\ tn i s7.heap /\ (∀ b ∈ fp,H' b = none) /\ W i m σ' H' := fun {σ7 H7} I7 n7 => by
   obtain ⟨m',hm,w7⟩:=hN σ7 H7 n7
   refine ⟨m',hm,i + 1,σ7,H7,I7.unpinned,T.keep _ _ _ st5 fun b hb o e => (I7.pin (b,o) (List.mem_append_right _ (List.mem_append_right _ (bZ hb e)))).1,fun b hb => ?_,w7⟩
   obtain ⟨o,e,d⟩:=T.obj _ _ st5 b hb
   exact (I7.pin (b,o) (List.mem_append_right _ (List.mem_append_right _ (bZ hb e)))).2.1
  cases f with
  | next => obtain ⟨σ7,H7,I7,n7⟩:=q7; exact again I7 n7
  | cont => obtain ⟨σ7,H7,I7,n7⟩:=q7; exact again I7 n7
  | brk => obtain ⟨σ7,H7,I7,q7⟩:=q7; exact ⟨σ7,H7,I7.unpinned,q7⟩
  | ret v => obtain ⟨x7,σ7,H7,I7,r7,q7⟩:=q7; exact ⟨x7,σ7,H7,I7.unpinned,r7,q7⟩
end
theorem cT {K : PySem.W.Frag} {a : Addr} {xs : List V} {g : TG} {tb : TS} {D : Ends} {σ : St} {H : Hp} (Pv : Nat -> St -> Hp -> Prop) (h0 : Pv 0 σ H) (hl : ∀ i σ H,i <= xs.length -> Pv i σ H -> SqL K H a xs)
  (hs : ∀ i x σ H,xs[i]? = some x -> Pv i σ H -> g x σ H fun σ2 H2 => tb { D with nx:=Pv (i + 1),ct:=Pv (i + 1),bk:=D.nx } σ2 H2) (hd : ∀ σ H,Pv xs.length σ H -> D.nx σ H) :
  ∃ W : Nat -> Nat -> St -> Hp -> Prop,(∃ m,W 0 m σ H) /\ ∀ i m σ H,W i m σ H ->
   ((Itl K a).stop i H /\ D.nx σ H) \/ ((Itl K a).go i H /\ ∃ N : St -> Hp -> Prop,(∀ σ' H',N σ' H' -> ∃ m',m' < m /\ W (i + 1) m' σ' H') /\ ∀ x H',(Itl K a).yld i H x H' -> g x σ H' fun σ2 H2 => tb { D with nx:=N,ct:=N,bk:=D.nx } σ2 H2):=by
 refine ⟨fun i m σ H => m = xs.length - i /\ i <= xs.length /\ Pv i σ H,⟨xs.length,by simp,Nat.zero_le _,h0⟩,?_⟩
 rintro i m σ H ⟨rfl,hi,p⟩
 have q:=hl i σ H hi p
 by_cases hlt : i < xs.length
 ·refine .inr ⟨⟨xs,xs[i],q,by simp [hlt]⟩,Pv (i + 1),fun σ' H' p' => ⟨xs.length - (i + 1),by omega,rfl,hlt,p'⟩,fun x H' y => ?_⟩
  obtain ⟨e,y⟩:=y
  subst e
  exact hs i x σ _ (y xs q) p
 ·have e : i = xs.length:=by omega
  subst e
  exact .inl ⟨⟨xs,q,Nat.le_refl _⟩,hd σ H p⟩
theorem jF {K : PySem.W.Frag} {a : Addr} {xs : List V} {g : TG} {tb : TS} {D : Ends} {σ : St} {H : Hp} (Pv : Nat -> St -> Hp -> Prop) (h0 : Pv 0 σ H) (hl : ∀ i σ H,i <= xs.length -> Pv i σ H -> SqT K H a xs)
  (hs : ∀ i x σ H,xs[i]? = some x -> Pv i σ H -> g x σ H fun σ2 H2 => tb { D with nx:=Pv (i + 1),ct:=Pv (i + 1),bk:=D.nx } σ2 H2) (hd : ∀ σ H,Pv xs.length σ H -> D.nx σ H) :
  ∃ W : Nat -> Nat -> St -> Hp -> Prop,(∃ m,W 0 m σ H) /\ ∀ i m σ H,W i m σ H ->
   ((Itt K a).stop i H /\ D.nx σ H) \/ ((Itt K a).go i H /\ ∃ N : St -> Hp -> Prop,(∀ σ' H',N σ' H' -> ∃ m',m' < m /\ W (i + 1) m' σ' H') /\ ∀ x H',(Itt K a).yld i H x H' -> g x σ H' fun σ2 H2 => tb { D with nx:=N,ct:=N,bk:=D.nx } σ2 H2):=by
 refine ⟨fun i m σ H => m = xs.length - i /\ i <= xs.length /\ Pv i σ H,⟨xs.length,by simp,Nat.zero_le _,h0⟩,?_⟩
 rintro i m σ H ⟨rfl,hi,p⟩
 have q:=hl i σ H hi p
 by_cases hlt : i < xs.length
 ·refine .inr ⟨⟨xs,xs[i],q,by simp [hlt]⟩,Pv (i + 1),fun σ' H' p' => ⟨xs.length - (i + 1),by omega,rfl,hlt,p'⟩,fun x H' y => ?_⟩
  obtain ⟨e,y⟩:=y
  subst e
  exact hs i x σ _ (y xs q) p
 ·have e : i = xs.length:=by omega
  subst e
  exact .inl ⟨⟨xs,q,Nat.le_refl _⟩,hd σ H p⟩
theorem fh {lo : Int} {n : Nat} {g : TG} {tb : TS} {D : Ends} {σ : St} {H : Hp} (Pv : Nat -> St -> Hp -> Prop) (h0 : Pv 0 σ H)
  (hs : ∀ i σ H,i < n -> Pv i σ H -> g (.int (lo + i)) σ H fun σ2 H2 => tb { D with nx:=Pv (i + 1),ct:=Pv (i + 1),bk:=D.nx } σ2 H2) (hd : ∀ σ H,Pv n σ H -> D.nx σ H) :
  ∃ W : Nat -> Nat -> St -> Hp -> Prop,(∃ m,W 0 m σ H) /\ ∀ i m σ H,W i m σ H ->
   ((Itr lo n).stop i H /\ D.nx σ H) \/ ((Itr lo n).go i H /\ ∃ N : St -> Hp -> Prop,(∀ σ' H',N σ' H' -> ∃ m',m' < m /\ W (i + 1) m' σ' H') /\ ∀ x H',(Itr lo n).yld i H x H' -> g x σ H' fun σ2 H2 => tb { D with nx:=N,ct:=N,bk:=D.nx } σ2 H2):=by
 refine ⟨fun i m σ H => m = n - i /\ i <= n /\ Pv i σ H,⟨n,by simp,Nat.zero_le _,h0⟩,?_⟩
 rintro i m σ H ⟨rfl,hi,p⟩
 by_cases hlt : i < n
 ·refine .inr ⟨hlt,Pv (i + 1),fun σ' H' p' => ⟨n - (i + 1),by omega,rfl,hlt,p'⟩,fun x H' y => ?_⟩
  obtain ⟨e,y⟩:=y
  subst e y
  exact hs i σ _ hlt p
 ·have e : i = n:=by omega
  subst e
  exact .inl ⟨Nat.le_refl _,hd σ H p⟩
end L2
namespace L2
open PySem PySem.Spec PyProof.Rows
abbrev R2:=V -> V -> Hp -> VK -> Prop
def OpR (X : Cx) (f : Value -> Value -> Sem Value) (r : R2) : Prop:=
 ∀ (pins : List (Addr × Obj)) (s : Shared) (σ : St) (H : Hp) (x y : V) (v u : Value) (Q : VK),Inv X pins σ H s -> RelV x v -> RelV y u -> r x y H Q ->
  wpAny (model X.prog X.w) X.A (f v u) (EP X pins σ Q) X.xe s
def UnR (X : Cx) (f : Value -> Sem Value) (r : V -> Hp -> VK -> Prop) : Prop:=
 ∀ (pins : List (Addr × Obj)) (s : Shared) (σ : St) (H : Hp) (x : V) (v : Value) (Q : VK),Inv X pins σ H s -> RelV x v -> r x H Q ->
  wpAny (model X.prog X.w) X.A (f v) (EP X pins σ Q) X.xe s
def gO (X : Cx) (f : Value) (r : List V -> Hp -> VK -> Prop) : Prop:=
 ∀ (pins : List (Addr × Obj)) (s : Shared) (σ : St) (H : Hp) (xs : List V) (us : List Value) (Q : VK),Inv X pins σ H s -> Vals xs us -> r xs H Q ->
  wpAny (model X.prog X.w) X.A (call f us) (EP X pins σ Q) X.xe s
def Ar (X : Cx) (r : V -> Hp -> (Bool -> Hp -> Prop) -> Prop) : Prop:=
 ∀ (pins : List (Addr × Obj)) (s : Shared) (σ : St) (H : Hp) (x : V) (v : Value) (Q : Bool -> Hp -> Prop),Inv X pins σ H s -> RelV x v -> r x H Q ->
  wpAny (model X.prog X.w) X.A (truthy v) (TP X pins σ Q) X.xe s
def tOp (r : R2) (ta tb : TE) : TE:=fun σ H Q => ta σ H fun x H1 => tb σ H1 fun y H2 => r x y H2 Q
def tUn (r : V -> Hp -> VK -> Prop) (ta : TE) : TE:=fun σ H Q => ta σ H fun x H1 => r x H1 Q
def rI (C : Int -> Int -> Prop) (g : Int -> Int -> V) : R2:=fun x y H Q => ∃ i j,x = .int i /\ y = .int j /\ C i j /\ Q (g i j) H
def rI0 (g : Int -> Int -> V) : R2:=fun x y H Q => ∃ i j,x = .int i /\ y = .int j /\ Q (g i j) H
def rU (g : Int -> V) : V -> Hp -> VK -> Prop:=fun x H Q => ∃ i,x = .int i /\ Q (g i) H
section
variable {X : Cx} {a b c : Expr} {ta tb tc : TE} {pos : Pos}
theorem yW (ha : PE X a ta) (hb : PE X b tb) {pins : List (Addr × Obj)} {s : Shared} {σ : St} {H : Hp} {R : V -> V -> Hp -> Prop} (I : Inv X pins σ H s)
  (h : ta σ H fun x H1 => tb σ H1 fun y H2 => R x y H2) {Q : Value -> Shared -> Prop} {f : Value -> Value -> Sem Value}
  (hf : ∀ v u s2 x y H2,Inv X pins σ H2 s2 -> RelV x v -> RelV y u -> R x y H2 -> wpAny (model X.prog X.w) X.A (f v u) Q X.xe s2) :
  wpAny (model X.prog X.w) X.A (eval a X.env) (fun v s₁ => wpAny (model X.prog X.w) X.A (eval b X.env) (fun u s₂ => wpAny (model X.prog X.w) X.A (f v u) Q X.xe s₂) X.xe s₁) X.xe s:=by
 refine thn (ha pins s σ H _ I h) fun v s1 ⟨x,H1,I1,r1,q1⟩ => ?_
 refine thn (hb pins s1 σ H1 _ I1 q1) fun u s2 ⟨y,H2,I2,r2,q2⟩ => ?_
 exact hf v u s2 x y H2 I2 r1 r2 q2
theorem ar {op : Operator} {r : R2} (ho : OpR X (binaryOp op) r) (ha : PE X a ta) (hb : PE X b tb) : PE X (.BinOp a op b pos) (tOp r ta tb):=by
 intro pins s σ H Q I h
 exact wpAny_BinOp (yW ha hb I h fun v u s2 x y H2 I2 rx ry q => ho pins s2 σ H2 x y v u Q I2 rx ry q)
theorem qc {op : UnaryOp} {r : V -> Hp -> VK -> Prop} (ho : UnR X (unaryOp op) r) (ha : PE X a ta) : PE X (.UnaryOp op a pos) (tUn r ta):=by
 intro pins s σ H Q I h
 exact UnaryOp_ (thn (ha pins s σ H _ I h) fun v s1 ⟨x,H1,I1,r1,q1⟩ => ho pins s1 σ H1 x v Q I1 r1 q1)
theorem opI {f : Value -> Value -> Sem Value} {C : Int -> Int -> Prop} {g : Int -> Int -> Int}
  (rule : ∀ (i j : Int) (t u : Tok) (s : Shared) (Q : Value -> Shared -> Prop) (E : Value -> Shared -> Prop),C i j -> Q (.int (g i j) s.toks) { s with toks:=s.toks + 1 } -> wpAny (model X.prog X.w) X.A (f (.int i t) (.int j u)) Q E s) :
  OpR X f (rI C fun i j => .int (g i j)):=by
 intro pins s σ H x y v u Q I rx ry h
 obtain ⟨i,j,rfl,rfl,hc,q⟩:=h
 obtain ⟨t,rfl⟩:=rx
 obtain ⟨t',rfl⟩:=ry
 exact rule i j t t' s _ _ hc ⟨.int (g i j),H,I.tok _,⟨_,rfl⟩,q⟩
theorem zZ {f : Value -> Value -> Sem Value} {g : Int -> Int -> Int}
  (rule : ∀ (i j : Int) (t u : Tok) (s : Shared) (Q : Value -> Shared -> Prop) (E : Value -> Shared -> Prop),Q (.int (g i j) s.toks) { s with toks:=s.toks + 1 } -> wpAny (model X.prog X.w) X.A (f (.int i t) (.int j u)) Q E s) :
  OpR X f (rI0 fun i j => .int (g i j)):=by
 intro pins s σ H x y v u Q I rx ry h
 obtain ⟨i,j,rfl,rfl,q⟩:=h
 obtain ⟨t,rfl⟩:=rx
 obtain ⟨t',rfl⟩:=ry
 exact rule i j t t' s _ _ ⟨.int (g i j),H,I.tok _,⟨_,rfl⟩,q⟩
theorem yo {f : Value -> Value -> Sem Value} {g : Int -> Int -> Bool}
  (rule : ∀ (i j : Int) (t u : Tok) (s : Shared) (Q : Value -> Shared -> Prop) (E : Value -> Shared -> Prop),Q (.bool (g i j)) s -> wpAny (model X.prog X.w) X.A (f (.int i t) (.int j u)) Q E s) :
  OpR X f (rI0 fun i j => .bl (g i j)):=by
 intro pins s σ H x y v u Q I rx ry h
 obtain ⟨i,j,rfl,rfl,q⟩:=h
 obtain ⟨t,rfl⟩:=rx
 obtain ⟨t',rfl⟩:=ry
 exact rule i j t t' s _ _ ⟨.bl (g i j),H,I,rfl,q⟩
def An (i j : Int) : Prop:=0 < j /\ j < 1073741824
def Ao (i j : Int) : Prop:=0 <= j /\ j <= 1000000 /\ i.natAbs < 2 ^ 64
def CMul (i j : Int) : Prop:=(-(2 ^ 64) < i /\ i < 2 ^ 64) \/ (-(2 ^ 64) < j /\ j < 2 ^ 64)
theorem CMul.ok {i j : Int} (h : CMul i j) : IntMulOk i j:=by
 rcases h with ⟨h1,h2⟩ | ⟨h1,h2⟩
 ·exact .of_left (intBits_le_64 h1 h2)
 ·exact .of_right (intBits_le_64 h1 h2)
theorem bN : OpR X (binaryOp .Add) (rI0 fun i j => .int (i + j)):=zZ fun _ _ _ _ _ _ _ q => add_int q
theorem jq : OpR X (binaryOp .Sub) (rI0 fun i j => .int (i - j)):=zZ fun _ _ _ _ _ _ _ q => sub_int q
theorem dA : OpR X (binaryOp .Mult) (rI CMul fun i j => .int (i * j)):=opI fun _ _ _ _ _ _ _ hc q => mul_int q hc.ok
theorem ij : OpR X (binaryOp .FloorDiv) (rI An fun i j => .int (i / j)):=opI fun i j _ _ _ _ _ hc q => by
 have h1 : (0 : Int) < j:=hc.1
 have h2 : j < 1073741824:=hc.2
 exact floordiv_int (by omega) (by rw [Int.fdiv_eq_ediv_of_nonneg i (by omega)]; exact q) (.inl (PyProof.noPylong_small (by omega)))
theorem ba : OpR X (binaryOp .Mod) (rI (fun _ j => 0 < j) fun i j => .int (i % j)):=opI fun i j _ _ _ _ _ hc q => by
 have h1 : (0 : Int) < j:=hc
 exact mod_int' (by omega) (by rw [Int.fmod_eq_emod_of_nonneg i (by omega)]; exact q)
theorem xr : OpR X (binaryOp .Pow) (rI Ao fun i j => .int (i ^ j.toNat)):=opI fun _ _ _ _ _ _ _ hc q => pow_int_small hc.1 hc.2.1 hc.2.2 q
theorem unI {f : Value -> Sem Value} {g : Int -> Int}
  (rule : ∀ (i : Int) (t : Tok) (s : Shared) (Q : Value -> Shared -> Prop) (E : Value -> Shared -> Prop),Q (.int (g i) s.toks) { s with toks:=s.toks + 1 } -> wpAny (model X.prog X.w) X.A (f (.int i t)) Q E s) :
  UnR X f (rU fun i => .int (g i)):=by
 intro pins s σ H x v Q I rx h
 obtain ⟨i,rfl,q⟩:=h
 obtain ⟨t,rfl⟩:=rx
 exact rule i t s _ _ ⟨.int (g i),H,I.tok _,⟨_,rfl⟩,q⟩
theorem kP : UnR X (unaryOp .USub) (rU fun i => .int (-i)):=unI fun _ _ _ _ _ q => neg_int q
end
def Ad : V -> V -> Bool
 | .non,.non => true | .non,.int _ => true | .int _,.non => true | .non,.bl _ => true | .bl _,.non => true | .non,.str _ => true | .str _,.non => true
 | .int _,.int _ => true | .bl _,.bl _ => true | .str _,.str _ => true | .byt _,.byt _ => true
 | .int _,.str _ => true | .str _,.int _ => true | .bl _,.str _ => true | .str _,.bl _ => true
 | _,_ => false
def rEq : R2:=fun x y H Q => Ad x y = true /\ Q (.bl (decide (x = y))) H
def rNe : R2:=fun x y H Q => Ad x y = true /\ Q (.bl (!decide (x = y))) H
theorem uS {i j : Int} : decide (V.int i = V.int j) = (i == j):=by
 rw [Bool.eq_iff_iff]
 simp
theorem wM {i j : Bool} : decide (V.bl i = V.bl j) = (i == j):=by
 rw [Bool.eq_iff_iff]
 simp
theorem uT {i j : Str} : decide (V.str i = V.str j) = (i == j):=by
 rw [Bool.eq_iff_iff]
 simp
theorem uR {i j : Array UInt8} : decide (V.byt i = V.byt j) = (i.toList == j.toList):=by
 rw [Bool.eq_iff_iff]
 cases i
 cases j
 simp
section
variable {X : Cx} {a b c : Expr} {ta tb tc : TE} {pos : Pos}
theorem aP {pins : List (Addr × Obj)} {σ : St} {H : Hp} {s : Shared} {Q : VK} {k k' : Bool} (I : Inv X pins σ H s) (q : Q (.bl k) H) (e : k = k') : EP X pins σ Q (.bool k') s:=by
 subst e
 exact ⟨.bl k,H,I,rfl,q⟩
theorem hX : OpR X (compareOp .Eq) rEq:=by
 intro pins s σ H x y v u Q I rx ry h
 obtain ⟨hs,q⟩:=h
 cases x with
 | non =>
  cases rx
  cases y with
  | non => cases ry; exact PySem.EqNone.eq_none_none (aP I q (by simp))
  | bl j => cases ry; exact PySem.EqNone.eq_none_bool (aP I q (by simp))
  | int j => obtain ⟨t',rfl⟩:=ry; exact PySem.EqNone.eq_none_int (aP I q (by simp))
  | str j => obtain ⟨t',rfl⟩:=ry; exact PySem.EqNone.eq_none_str (aP I q (by simp))
  | _ => exact absurd (show false = true from hs) Bool.false_ne_true
 | bl i =>
  cases rx
  cases y with
  | non => cases ry; exact PySem.EqNone.eq_bool_none (aP I q (by simp))
  | bl j => cases ry; exact eq_bool (aP I q wM)
  | str j => obtain ⟨t',rfl⟩:=ry; exact PySem.EqMixed.eq_bool_str (aP I q (by simp))
  | _ => exact absurd (show false = true from hs) Bool.false_ne_true
 | int i =>
  obtain ⟨t,rfl⟩:=rx
  cases y with
  | non => cases ry; exact PySem.EqNone.eq_int_none (aP I q (by simp))
  | int j => obtain ⟨t',rfl⟩:=ry; exact eq_int (aP I q uS)
  | str j => obtain ⟨t',rfl⟩:=ry; exact PySem.EqMixed.eq_int_str (aP I q (by simp))
  | _ => exact absurd (show false = true from hs) Bool.false_ne_true
 | str i =>
  obtain ⟨t,rfl⟩:=rx
  cases y with
  | non => cases ry; exact PySem.EqNone.eq_str_none (aP I q (by simp))
  | bl j => cases ry; exact PySem.EqMixed.eq_str_bool (aP I q (by simp))
  | int j => obtain ⟨t',rfl⟩:=ry; exact PySem.EqMixed.eq_str_int (aP I q (by simp))
  | str j => obtain ⟨t',rfl⟩:=ry; exact eq_str (aP I q uT)
  | _ => exact absurd (show false = true from hs) Bool.false_ne_true
 | byt i =>
  obtain ⟨t,rfl⟩:=rx
  cases y with
  | byt j => obtain ⟨t',rfl⟩:=ry; exact PySem.W.eq_bytes (aP I q uR)
  | _ => exact absurd (show false = true from hs) Bool.false_ne_true
 | _ => cases y <;> exact absurd (show false = true from hs) Bool.false_ne_true
theorem z4 : OpR X (compareOp .NotEq) rNe:=by
 intro pins s σ H x y v u Q I rx ry h
 obtain ⟨hs,q⟩:=h
 cases x with
 | non =>
  cases rx
  cases y with
  | non => cases ry; exact PySem.EqNone.ne_none_none (aP I q (by simp))
  | bl j => cases ry; exact PySem.EqNone.ne_none_bool (aP I q (by simp))
  | int j => obtain ⟨t',rfl⟩:=ry; exact PySem.EqNone.ne_none_int (aP I q (by simp))
  | str j => obtain ⟨t',rfl⟩:=ry; exact PySem.EqNone.ne_none_str (aP I q (by simp))
  | _ => exact absurd (show false = true from hs) Bool.false_ne_true
 | bl i =>
  cases rx
  cases y with
  | non => cases ry; exact PySem.EqNone.ne_bool_none (aP I q (by simp))
  | bl j => cases ry; exact ne_bool (aP I q (congrArg not wM))
  | str j => obtain ⟨t',rfl⟩:=ry; exact PySem.EqMixed.ne_bool_str (aP I q (by simp))
  | _ => exact absurd (show false = true from hs) Bool.false_ne_true
 | int i =>
  obtain ⟨t,rfl⟩:=rx
  cases y with
  | non => cases ry; exact PySem.EqNone.ne_int_none (aP I q (by simp))
  | int j => obtain ⟨t',rfl⟩:=ry; exact ne_int (aP I q (congrArg not uS))
  | str j => obtain ⟨t',rfl⟩:=ry; exact PySem.EqMixed.ne_int_str (aP I q (by simp))
  | _ => exact absurd (show false = true from hs) Bool.false_ne_true
 | str i =>
  obtain ⟨t,rfl⟩:=rx
  cases y with
  | non => cases ry; exact PySem.EqNone.ne_str_none (aP I q (by simp))
  | bl j => cases ry; exact PySem.EqMixed.ne_str_bool (aP I q (by simp))
  | int j => obtain ⟨t',rfl⟩:=ry; exact PySem.EqMixed.ne_str_int (aP I q (by simp))
  | str j => obtain ⟨t',rfl⟩:=ry; exact ne_str (aP I q (congrArg not uT))
  | _ => exact absurd (show false = true from hs) Bool.false_ne_true
 | byt i =>
  obtain ⟨t,rfl⟩:=rx
  cases y with
  | byt j => obtain ⟨t',rfl⟩:=ry; exact PySem.W.ne_bytes (aP I q (congrArg not uR))
  | _ => exact absurd (show false = true from hs) Bool.false_ne_true
 | _ => cases y <;> exact absurd (show false = true from hs) Bool.false_ne_true
theorem p5 : OpR X (compareOp .Lt) (rI0 fun i j => .bl (decide (i < j))):=yo fun _ _ _ _ _ _ _ q => lt_int q
theorem xq : OpR X (compareOp .LtE) (rI0 fun i j => .bl (decide (i <= j))):=yo fun _ _ _ _ _ _ _ q => le_int q
theorem nk : OpR X (compareOp .Gt) (rI0 fun i j => .bl (decide (j < i))):=yo fun _ _ _ _ _ _ _ q => gt_int q
theorem yI : OpR X (compareOp .GtE) (rI0 fun i j => .bl (decide (j <= i))):=yo fun _ _ _ _ _ _ _ q => ge_int q
theorem xp : OpR X (compareOp .Is) (fun x y H Q => y = .non /\ Q (.bl (decide (x = .non))) H):=by
 intro pins s σ H x y v u Q I rx ry h
 obtain ⟨rfl,q⟩:=h
 cases ry
 refine is_none_gen (aP I q ?_)
 cases x <;> first
  | (cases rx; rfl)
  | (obtain ⟨t,rfl⟩:=rx; rfl)
theorem u3 : OpR X (compareOp .IsNot) (fun x y H Q => y = .non /\ Q (.bl (!decide (x = .non))) H):=by
 intro pins s σ H x y v u Q I rx ry h
 obtain ⟨rfl,q⟩:=h
 cases ry
 refine isnot_none_gen (aP I q ?_)
 cases x <;> first
  | (cases rx; rfl)
  | (obtain ⟨t,rfl⟩:=rx; rfl)
theorem aQ (b : Expr) {op : CmpOp} (h : op ≠ .In:=by decide) (h2 : op ≠ .NotIn:=by decide) : behindInMarks op b = false:=by
 have e1 : (op == CmpOp.In) = false:=by cases op <;> first | rfl | exact absurd rfl h
 have e2 : (op == CmpOp.NotIn) = false:=by cases op <;> first | rfl | exact absurd rfl h2
 cases b <;> simp [behindInMarks,e1,e2]
theorem l7 {op : CmpOp} {r : R2} (ho : OpR X (compareOp op) r) (ha : PE X a ta) (hb : PE X b tb) (hm : behindInMarks op b = false) : PE X (.Compare a [op] [b] pos) (tOp r ta tb):=by
 intro pins s σ H Q I h
 exact wpAny_Compare1 (yW ha hb I h fun v u s2 x y H2 I2 rx ry q => ho pins s2 σ H2 x y v u Q I2 rx ry q) hm
def Am (t : TE) : TT:=fun σ H Q => t σ H fun x H' => ∃ k,x = .bl k /\ Q k H'
theorem aK {op : CmpOp} {r : R2} (ho : OpR X (compareOp op) r) (ha : PE X a ta) (hb : PE X b tb) (hm : behindInMarks op b = false) : PT X (.Compare a [op] [b] pos) (Am (tOp r ta tb)):=by
 intro pins s σ H Q I h
 refine wpAny_isTrue_Compare1 (thn (ha pins s σ H _ I h) fun v s1 ⟨x,H1,I1,r1,q1⟩ => thn (hb pins s1 σ H1 _ I1 q1) fun u s2 ⟨y,H2,I2,r2,q2⟩ =>
  thn (ho pins s2 σ H2 x y v u _ I2 r1 r2 q2) fun c s3 ⟨z,H3,I3,r3,k,e,q3⟩ => ?_) hm
 subst e
 cases r3
 exact wpAny_truthy_bool ⟨H3,I3,q3⟩
def zC (r r' : R2) (ta tb tc : TE) : TE:=fun σ H Q => ta σ H fun x H1 => tb σ H1 fun y H2 => r x y H2 fun z H3 => ∃ k,z = .bl k /\
 (if k = true then tc σ H3 fun w' H4 => r' y w' H4 Q else Q (.bl false) H3)
theorem xw {op op' : CmpOp} {r r' : R2} (ho : OpR X (compareOp op) r) (ho' : OpR X (compareOp op') r') (ha : PE X a ta) (hb : PE X b tb) (hc : PE X c tc)
  (hm : lastMarks [op,op'] [b,c] = false:=by with_unfolding_all rfl) : PE X (.Compare a [op,op'] [b,c] pos) (zC r r' ta tb tc):=by
 intro pins s σ H Q I h
 refine Compare_chain (thn (ha pins s σ H _ I h) fun v s1 ⟨x,H1,I1,r1,q1⟩ => chain_link (thn (hb pins s1 σ H1 _ I1 q1) fun u s2 ⟨y,H2,I2,r2,q2⟩ =>
  thn (ho pins s2 σ H2 x y v u _ I2 r1 r2 q2) fun d s3 ⟨z,H3,I3,r3,k,e,q3⟩ => ?_)) hm
 subst e
 cases r3
 refine wpAny_truthy_bool ?_
 cases k with
 | false => exact ite_ff ⟨.bl false,H3,I3,rfl,q3⟩
 | true => exact ite_tt (chain_last (thn (hc pins s3 σ H3 _ I3 q3) fun w' s4 ⟨z',H4,I4,r4,q4⟩ => ho' pins s4 σ H4 y z' u w' Q I4 r2 r4 q4))
def zN (K : PySem.W.Frag) (x : V) (H : Hp) (k : Bool) : Prop:=
 match x with
 | .non => k = false
 | .bl b => k = b
 | .int i => k = (i != 0)
 | .str y => y.length <= sizeLine /\ k = ((y.length : Int) != 0)
 | .byt y => y.size <= sizeLine /\ k = ((y.size : Int) != 0)
 | .ref p => (∃ xs,SqL K H p xs /\ k = !xs.isEmpty) \/ (∃ xs,SqT K H p xs /\ k = !xs.isEmpty) \/ ∃ kvs,H p = some (.dK kvs) /\ k = !kvs.isEmpty
 | _ => False
theorem t9 {κ : Type} {kvs : List (κ × V)} {vs : List (κ × Value)} (r : KV kvs vs) : (!vs.isEmpty) = !kvs.isEmpty:=by
 cases r <;> rfl
theorem mL {xs : List V} {its : List Value} (r : Vals xs its) : (!its.toArray.isEmpty) = !xs.isEmpty:=by
 cases r <;> simp
theorem mZ : (sizeLine : Nat) < 2 ^ 63:=by rw [sizeLine_eq]; decide
theorem zI : Ar X (fun x H Q => ∃ k,zN X.K x H k /\ Q k H):=by
 intro pins s σ H x v Q I rx h
 obtain ⟨k,e,q⟩:=h
 have hl:=mZ
 have hs : sizeLine = 16777216:=sizeLine_eq
 cases x with
 | non =>
  cases rx
  have e' : k = false:=e
  subst e'
  exact truthy_none ⟨H,I,q⟩
 | bl b =>
  cases rx
  have e' : k = b:=e
  subst e'
  exact wpAny_truthy_bool ⟨H,I,q⟩
 | int i =>
  obtain ⟨t,rfl⟩:=rx
  have e' : k = (i != 0):=e
  subst e'
  exact PySem.P.truthy_int ⟨H,I,q⟩
 | str y =>
  obtain ⟨t,rfl⟩:=rx
  obtain ⟨hy,e'⟩ : y.length <= sizeLine /\ k = ((y.length : Int) != 0):=e
  subst e'
  exact PySem.P.truthy_str (by omega) ⟨H,I.tok _,q⟩
 | byt y =>
  obtain ⟨t,rfl⟩:=rx
  obtain ⟨hy,e'⟩ : y.size <= sizeLine /\ k = ((y.size : Int) != 0):=e
  subst e'
  exact PySem.W.truthy_bytes (by omega) ⟨H,I.tok _,q⟩
 | ref p =>
  cases rx
  have e' : (∃ xs,SqL X.K H p xs /\ k = !xs.isEmpty) \/ (∃ xs,SqT X.K H p xs /\ k = !xs.isEmpty) \/ ∃ kvs,H p = some (.dK kvs) /\ k = !kvs.isEmpty:=e
  rcases e' with ⟨xs,hx,e'⟩ | ⟨xs,hx,e'⟩ | ⟨kvs,hx,e'⟩
  ·subst e'
   obtain ⟨its,r,pl,hz⟩:=I.list hx
   have hlen:=r.length
   exact wpAny_truthy_list pl.isList (by simp only [List.size_toArray]; omega) ⟨H,I.tok _,by rw [mL r]; exact q⟩
  ·subst e'
   obtain ⟨its,r,pl,hz⟩:=I.tuple hx
   have hlen:=r.length
   exact truthy_tuple pl (by simp only [List.size_toArray]; omega) ⟨H,I.tok _,by rw [mL r]; exact q⟩
  ·subst e'
   obtain ⟨hz,hS,vs,r,m⟩ : kvs.length <= sizeLine /\ (p == sysModules) = false /\ ∃ vs,KV kvs vs /\ s.heap.DictOf (bc X.prog X.w) p vs:=I.hok p _ hx
   have hlen : kvs.length = vs.length:=Paired.length r
   exact wpAny_truthy_dict hS m (by omega) ⟨H,I.tok _,by rw [t9 r]; exact q⟩
 | _ => exact (show False from e).elim
theorem jY (ha : PE X a ta) (he : ∀ whole,isTrue a X.env whole = (do let v <- whole; standAt a.pos; holding [v] (truthy v))) :
  PT X a (fun σ H Q => ta σ H fun x H' => ∃ k,zN X.K x H' k /\ Q k H'):=by
 intro pins s σ H Q I h
 exact isTrue_plain (thn (ha pins s σ H _ I h) fun v s1 ⟨x,H1,I1,r1,q1⟩ => zI pins s1 σ H1 x v Q I1 r1 q1) (he _)
theorem vals1 {x : V} {us : List Value} (r : Vals [x] us) : ∃ u,us = [u] /\ RelV x u:=by
 cases r with
 | cons r1 r2 => cases r2; exact ⟨_,rfl,r1⟩
theorem vals2 {x y : V} {us : List Value} (r : Vals [x,y] us) : ∃ u w',us = [u,w'] /\ RelV x u /\ RelV y w' := by
 cases r with
 | cons r1 r2 =>
  cases r2 with
  | cons r3 r4 => cases r4; exact ⟨_,_,rfl,r1,r3⟩
theorem pP (hc : X.calm = true) : gO X (.builtin "min") (fun xs H Q => ∃ i j,xs = [.int i,.int j] /\ Q (.int (if j < i then j else i)) H):=by
 intro pins s σ H xs us Q I r h
 obtain ⟨i,j,rfl,q⟩:=h
 obtain ⟨u,w',rfl,⟨t,rfl⟩,⟨t',rfl⟩⟩:=vals2 r
 refine min_two_ints (I.ok.hd hc) fun h' tk k => ⟨_,H,I.kept k,?_,q⟩
 by_cases hj : j < i
 ·rw [if_pos hj,if_pos hj]; exact ⟨_,rfl⟩
 ·rw [if_neg hj,if_neg hj]; exact ⟨_,rfl⟩
theorem vi : gO X (.type "int") (fun xs H Q => (∃ i,xs = [.int i] /\ Q (.int i) H) \/ ∃ k,xs = [.bl k] /\ Q (.int (if k then 1 else 0)) H):=by
 intro pins s σ H xs us Q I r h
 rcases h with ⟨i,rfl,q⟩ | ⟨k,rfl,q⟩
 ·obtain ⟨u,rfl,t,rfl⟩:=vals1 r
  exact call_int_int ⟨.int i,H,I,⟨_,rfl⟩,q⟩
 ·obtain ⟨u,rfl,r1⟩:=vals1 r
  cases r1
  exact call_int_bool ⟨.int (if k then 1 else 0),H,I.tok _,⟨_,rfl⟩,q⟩
end
end L2
namespace L2
open PySem PySem.Spec PyProof.Rows
structure ObjM (h : Heap) (x dx C : Addr) (mA : Str -> Option Value) : Prop where
 obj : h.get? x = some (PySem.W.instObj C dx)
 ns : h.Ns1 dx mA
 ne : dx ≠ x
theorem vF {h : Heap} {dx : Addr} {mA : Str -> Option Value} (n : h.Ns1 dx mA) : ∃ od,h.get? dx = some od /\ ∀ name,PySem.W.lookIn name od = some (mA name):=by
 obtain ⟨o,es,ep,ho,hd,hk,_,hm⟩:=n
 refine ⟨o,ho,fun name => ?_⟩
 have e:=hm name
 unfold nsFind findBy at e
 rw [<- Array.find?_toList] at e
 unfold PySem.W.lookIn
 rw [hd]
 dsimp only
 split
 ·rename_i y q
  rw [q] at e
  exact congrArg some e
 ·rename_i q
  rw [q] at e
  have a : es.toList.any (·.refKey) = false:=by
   rw [List.any_eq_false]
   intro y hy
   obtain ⟨z,t,hkey⟩:=hk y (Array.mem_toList_iff.mp hy)
   simp [DictEntry.refKey,hkey]
  have a' : ¬ es.toList.any (·.refKey) = true:=by rw [a]; exact Bool.false_ne_true
  rw [if_neg a']
  exact congrArg some e
theorem ObjM.look {h : Heap} {x dx C : Addr} {mA : Str -> Option Value} (I : ObjM h x dx C mA) : ∃ od,PySem.W.InstAt h x (PySem.W.instObj C dx) C (some od) /\ ∀ name,PySem.W.lookIn name od = some (mA name):=
 let ⟨od,ho,hl⟩:=vF I.ns
 ⟨od,⟨I.obj,rfl,rfl,ho⟩,hl⟩
section
variable {prog : Program} {w : World} {A : Around} {E : Value -> Shared -> Prop} {s : Shared} {K : PySem.W.Frag} {x dx C f : Addr} {mA : Str -> Option Value} {name : Str} {v : Value}
end
theorem RelO.some_of {v : V} {o : Option Value} (r : RelO (some v) o) : ∃ u,o = some u /\ RelV v u:=by
 cases o with
 | none => exact (show False from r).elim
 | some u => exact ⟨u,rfl,r⟩
section
variable {P : Program} {w : World} {H H' : Hp} {h h' : Heap} {a C dx : Addr} {fs fs' : List (Str × V)}
theorem uZ (hok : HOk P w H h) (e : H a = some (.ins C dx fs)) : ∃ mA,ObjM h a dx C mA /\ (∀ f,RelO (fs.lookup f) (mA f)) /\ PySem.Within mA (fs.map (·.1)) /\ fs.length <= 1000 /\ H dx = some (.own a):=by
 obtain ⟨d,z,ne,ob,mA,n,r,q⟩:=(show ObjOk P w H h a (.ins C dx fs) from hok a _ e)
 exact ⟨mA,⟨ob,n,ne⟩,r,q,z,d⟩
end
structure Cls (K : PySem.W.Frag) (C : Addr) : Prop where
 pg : PySem.W.plainGet K C Str.empty = true
 hd : PySem.W.hasDictIn K C = true
 po : PySem.W.plainOver K C = true
 sa : PySem.W.findIn K (.ref C) "__setattr__" = some (some (.builtin "object.__setattr__"))
theorem Cls.get {K : PySem.W.Frag} {C : Addr} (c : Cls K C) (f : Str) : PySem.W.plainGet K C f = true:=c.pg
structure Con (K : PySem.W.Frag) (C : Addr) (f : Str) (v : V) (u : Value) : Prop where
 at_ : PySem.W.findIn K (.ref C) f = some (some u)
 rel : RelV v u
 get : PySem.W.specialIn K u "__get__" = some none
 cp : PySem.W.copiedNames.contains f = false
structure Meth (K : PySem.W.Frag) (C : Addr) (m : Str) (f : Addr) : Prop where
 at_ : PySem.W.findIn K (.ref C) m = some (some (.ref f))
 fn : PySem.W.isFn K (.ref f) = true
 kp : PySem.W.keepIn K (.ref f) = true
section
variable {X : Cx} {pins : List (Addr × Obj)} {σ : St} {H : Hp} {s : Shared} {a C dx : Addr} {fs : List (Str × V)} {f : Str} {v : V} {A : Around} {E : Value -> Shared -> Prop}
end
section
variable {X : Cx} {o e value : Expr} {f : Str} {pos pos' tpos : Pos} {ta tv : TE}
end
section
variable {X : Cx} {pins : List (Addr × Obj)} {σ : St} {H : Hp} {s : Shared} {A : Around} {E : Value -> Shared -> Prop} {Q : Value -> Shared -> Prop} {c : Value} {b : Bool}
inductive TyOf (K : PySem.W.Frag) (H : Hp) : V -> Value -> Prop where
 | non : TyOf K H .non (.type "NoneType")
 | bl (x : Bool) : TyOf K H (.bl x) (.type "bool")
 | int (i : Int) : TyOf K H (.int i) (.type "int")
 | str (x : Str) : TyOf K H (.str x) (.type "str")
 | flt (x : UInt64) : TyOf K H (.flt x) (.type "float")
 | lst {a : Addr} {xs : List V} (e : H a = some (.lst xs)) : TyOf K H (.ref a) (.type "list")
 | frz {a : Addr} {o : Obj} {xs : List V} (e : H a = some (.frz o (.lst xs))) : TyOf K H (.ref a) (.type "list")
 | tup {a : Addr} {xs : List V} (e : H a = some (.tup xs)) : TyOf K H (.ref a) (.type "tuple")
 | dK {a : Addr} {kvs : List (Key × V)} (e : H a = some (.dK kvs)) : TyOf K H (.ref a) (.type "dict")
 | dT {a : Addr} {kvs : List (List Key × V)} (e : H a = some (.dT kvs)) : TyOf K H (.ref a) (.type "dict")
 | ins {a C dx : Addr} {fs : List (Str × V)} (e : H a = some (.ins C dx fs)) (cl : Cls K C) (ha : PySem.W.findIn K (.ref C) "__class__" = some (some (.builtin "object.__class__")))
   (hn : PySem.W.specialIn K (.builtin "object.__class__") "__get__" = some (some (.builtin "getset_descriptor.__get__"))) (htk : PySem.W.takesIn K (.builtin "object.__class__") = some true)
   (hm : PySem.W.mroIn K C (.type "object") = some true) : TyOf K H (.ref a) (.ref C)
theorem vy {x : V} {u t : Value} (I : Inv X pins σ H s) (rx : RelV x u) (ty : TyOf X.K H x t) (e : PySem.W.kitOne X.K t c = some b) (h : ∀ tk,Q (.bool b) { s with toks:=tk }) :
  wpAny (model X.prog X.w) A (call (.builtin "isinstance") [u,c]) Q E s:=by
 cases ty with
 | non => cases (show u = Value.none from rx); exact PySem.W.kia_one PySem.W.kitx_none I.kIn True.intro e (fun z => nomatch z) h
 | bl y => cases (show u = Value.bool y from rx); exact PySem.W.kia_one PySem.W.kitx_bool I.kIn True.intro e (fun z => nomatch z) h
 | int i => obtain ⟨t,q⟩:=(show ∃ t,u = Value.int i t from rx); cases q; exact PySem.W.kia_one PySem.W.kitx_int I.kIn True.intro e (fun z => nomatch z) h
 | str y => obtain ⟨t,q⟩:=(show ∃ t,u = Value.str y t from rx); cases q; exact PySem.W.kia_one PySem.W.kitx_str I.kIn True.intro e (fun z => nomatch z) h
 | flt y => obtain ⟨t,q⟩:=(show ∃ t,u = Value.float y t from rx); cases q; exact PySem.W.kia_one PySem.W.kitx_float I.kIn True.intro e (fun z => nomatch z) h
 | @lst a xs ea =>
  cases (show u = Value.ref a from rx)
  obtain ⟨_,_,n,_,h1⟩:=(show ObjOk X.prog X.w H s.heap a (.lst xs) from I.hok a _ ea)
  exact PySem.W.kia_one PySem.W.kitx_list I.kIn ⟨_,h1,rfl⟩ e (fun z => nomatch z) h
 | @frz a ob xs ea =>
  cases (show u = Value.ref a from rx)
  obtain ⟨_,_,_,n,_,h1⟩:=(show ObjOk X.prog X.w H s.heap a (.frz ob (.lst xs)) from I.hok a _ ea)
  exact PySem.W.kia_one PySem.W.kitx_list I.kIn ⟨_,h1,rfl⟩ e (fun z => nomatch z) h
 | @tup a xs ea =>
  cases (show u = Value.ref a from rx)
  obtain ⟨_,_,_,p⟩:=(show ObjOk X.prog X.w H s.heap a (.tup xs) from I.hok a _ ea)
  obtain ⟨o,h1,h2,_⟩:=p
  exact PySem.W.kia_one PySem.W.kitx_tuple I.kIn ⟨o,h1,h2⟩ e (fun z => nomatch z) h
 | @dK a kvs ea =>
  cases (show u = Value.ref a from rx)
  obtain ⟨_,_,vs,_,p⟩:=(show ObjOk X.prog X.w H s.heap a (.dK kvs) from I.hok a _ ea)
  obtain ⟨o,es,ep,h1,h2,_⟩:=p
  exact PySem.W.kia_one PySem.W.kitx_dict I.kIn ⟨o,h1,h2.1⟩ e (fun z => nomatch z) h
 | @dT a kvs ea =>
  cases (show u = Value.ref a from rx)
  obtain ⟨_,_,xs,_,o,es,ep,h1,h2,_⟩:=(show ObjOk X.prog X.w H s.heap a (.dT kvs) from I.hok a _ ea)
  exact PySem.W.kia_one PySem.W.kitx_dict I.kIn ⟨o,h1,h2.1⟩ e (fun z => nomatch z) h
 | @ins a C dx fs ea cl ha hn htk hm =>
  cases (show u = Value.ref a from rx)
  obtain ⟨mA,O,_⟩:=uZ I.hok ea
  obtain ⟨od,J,_⟩:=O.look
  exact PySem.W.kia_one (PySem.W.kitx_own (cl.get _) cl.hd ha hn htk hm) I.kIn J e (fun z => nomatch z) h
end
end L2
namespace L2
open PySem PySem.Spec PyProof.Rows
structure Room (k : Nat) (A : Around) : Prop where
 hd : A.handled = none
 dp : A.depth + 3 * k + 5 < recursionLimit
 un : A.units + 16 * k + 200 < cLine
theorem Room.mono {j k : Nat} {A : Around} (r : Room k A) (h : j <= k) : Room j A:=⟨r.hd,by have:=r.dp; omega,by have:=r.un; omega⟩
theorem Room.deeper {k : Nat} {A : Around} (r : Room (k + 1) A) (env : Env) : Room k (A.deeper env):=
 ⟨r.hd,by have:=r.dp; show A.depth + 1 + 3 * k + 5 < _; omega,by have:=r.un; show A.units + 3 + 16 * k + 200 < _; omega⟩
theorem Room.depth {k : Nat} {A : Around} (r : Room k A) : A.depth < recursionLimit:=by have:=r.dp; omega
theorem Room.units {k : Nat} {A : Around} (r : Room k A) : A.units + 64 < cLine:=by have:=r.un; omega
def Aj : TA:=fun _ H Q => Q [] H
def yP (ta : TE) (tr : TA) : TA:=fun σ H Q => ta σ H fun x H1 => tr σ H1 fun xs H2 => Q (x :: xs) H2
section
variable {X : Cx} {e : Expr} {es : List Expr} {te : TE} {t : TA} {pos : Pos}
theorem ag : PA X [] Aj:=fun _ _ _ _ H Q I h => Calls.spliced_nil ⟨[],H,I,.nil,h⟩
theorem aa (ha : PE X e te) (hr : PA X es t) (hs : starEach (e :: es) X.env = (false,eval e X.env) :: starEach es X.env:=by rfl) : PA X (e :: es) (yP te t):=by
 intro pos pins s σ H Q I h
 rw [hs]
 show wpAny _ _ (spliced ((false,eval e X.env) :: backTo pos (starEach es X.env))) _ _ s
 refine Calls.spliced_cons (thn (ha pins s σ H _ I h) fun u s1 ⟨x,H1,I1,r1,q1⟩ => ?_)
 exact thn (hr pos pins s1 σ H1 _ I1 q1) fun us s2 ⟨xs,H2,I2,r2,q2⟩ => ⟨x :: xs,H2,I2,.cons r1 r2,q2⟩
def AS (t : TA) : TE:=fun σ H Q => t σ H fun xs H1 => xs.length <= sizeLine /\ ∀ p,H1 p = none -> Q (.ref p) (upd H1 p (.tup xs))
def Ai (t : TA) : TE:=fun σ H Q => t σ H fun xs H1 => xs.length <= sizeLine /\ ∀ p,H1 p = none -> Q (.ref p) (upd H1 p (.lst xs))
theorem q8 {x1} (h : PA X es t) : PE X (.Tuple es x1 pos) (AS t):=by
 intro pins s σ H Q I hq
 refine wpAny_Tuple_spliced (thn (h pos pins s σ H _ I hq) fun us s1 ⟨xs,H1,I1,r,z,q⟩ => ⟨by rw [<- r.length]; exact z,?_⟩)
 have hf : H1 s1.heap.objs.size = none:=I1.hok.fresh (Nat.le_refl _)
 refine ⟨.ref s1.heap.objs.size,upd H1 s1.heap.objs.size (.tup xs),I1.laid (t' := s1.toks) (fun b u e => Heap.get?_push_of_some _ e) (Nat.le_refl _) ?_,rfl,q _ hf⟩
 exact ⟨z,us,r,⟨_,Heap.get?_push_size _ rfl,rfl,_,rfl⟩⟩
theorem bq (h : PA X es t) : PE X (.List es pos) (Ai t):=by
 intro pins s σ H Q I hq
 refine wpAny_List_spliced (thn (h pos pins s σ H _ I hq) fun us s1 ⟨xs,H1,I1,r,z,q⟩ => ⟨by rw [<- r.length]; exact z,?_⟩)
 have hf : H1 s1.heap.objs.size = none:=I1.hok.fresh (Nat.le_refl _)
 refine ⟨.ref s1.heap.objs.size,upd H1 s1.heap.objs.size (.lst xs),I1.laid (t' := s1.toks) (fun b u e => Heap.get?_push_of_some _ e) (Nat.le_refl _) ?_,rfl,q _ hf⟩
 exact ⟨z,us,0,r,Heap.get?_push_size _ rfl⟩
end
abbrev Sp:=List V -> Hp -> VK -> XK -> Prop
abbrev CXT:=List Env -> Hp -> Shared -> XK -> Value -> Shared -> Prop
structure Env0 (P : Program) (w : World) (K : PySem.W.Frag) (mg : Str -> Option Value) (base : Heap) (A : Around) (outer : List Env) (s : Shared) (H : Hp) : Prop where
 frames : A.frames = some outer
 mod : Mod K mg base
 bs : ∀ b o,base.get? b = some o -> s.heap.get? b = some o /\ H b = none
 bsz : base.objs.size <= s.heap.objs.size
 funs : s.heap.FunFrames base outer
 frf : ∀ b ∈ frs outer,H b = none
 hok : HOk P w H s.heap
 bare : AllBare s.gens
def CE (outer : List Env) (P : Program) (w : World) (H : Hp) (s : Shared) (Q : VK) (u : Value) (s' : Shared) : Prop:=
 ∃ v H',s'.os = s.os /\ AllBare s'.gens /\ Un (frs outer) [] H H' s.heap s'.heap /\ HOk P w H' s'.heap /\ RelV v u /\ Q v H'
def CR (CX : CXT) (outer : List Env) (P : Program) (w : World) (H : Hp) (s : Shared) (Q : VK) (E : XK) (r : Result) (s' : Shared) : Prop:=
 match r with
 | .ok (.ret u) => CE outer P w H s Q u s'
 | .ok _ => False
 | .error e => CX outer H s E e s'
structure FnOk (P : Program) (w : World) (K : PySem.W.Frag) (mg : Str -> Option Value) (base : Heap) (CX : CXT) (k : Nat) (f : Addr) (fd : FuncData) (ps : List Str) (sp : Sp) : Prop where
 len : ∀ vs H Q E,sp vs H Q E -> vs.length = ps.length
 run : ∀ (A : Around) (outer : List Env) (s : Shared) (H : Hp) (args : Args) (us : List Value) (vs : List V) (Q : VK) (E : XK),Room k A -> Env0 P w K mg base A outer s H -> BindsTo s fd args (ps.zip us) -> Vals vs us -> sp vs H Q E ->
  codeAny (model P w) A (.call (.ref f) args) (CR CX outer P w H s Q E) s
section
variable {X : Cx} {pins : List (Addr × Obj)} {σ : St} {H : Hp} {s s' : Shared}
theorem Inv.env0 (I : Inv X pins σ H s) : Env0 X.prog X.w X.K X.mg X.base X.A X.stack s H:=
 ⟨I.ok.frames,I.ok.mod,I.bs,Nat.le_trans I.ok.bsz I.sz,I.stack,I.stkFree,I.hok,I.bare⟩
theorem Inv.after {Q : VK} {u : Value} (I : Inv X pins σ H s) (h : CE X.stack X.prog X.w H s Q u s') : EP X pins σ Q u s' := by
 obtain ⟨v,H',os,bare,un,hok,r,q⟩:=h
 obtain ⟨hh,g,d,t,os'⟩:=s'
 obtain rfl : os' = s.os:=os
 exact ⟨v,H',I.call (h' := hh) (g' := g) (d' := d) (t' := t) (ch:=[]) un hok bare (fun b z => absurd z (by simp)),r,q⟩
end
def yO (sp : Sp) (dvs : List V) (E : XK) (t : TA) : TE:=fun σ H Q => t σ H fun vs H1 => sp (vs ++ dvs) H1 Q E
def Binds (K : PySem.W.Frag) (fd : FuncData) (ps : List Str) (ds : List Value) : Prop:=
 ∀ (s : Shared) (us : List Value),K.In s.heap -> (us ++ ds).length = ps.length -> BindsTo s fd ⟨us,[]⟩ (ps.zip (us ++ ds))
theorem Binds.all {K : PySem.W.Frag} {fd : FuncData} {ps : List Str} (h : ∀ us : List Value,us.length = ps.length -> bindArgs fd ⟨us,[]⟩ = pure (ps.zip us)) : Binds K fd ps []:=fun s us _ hl => by
 rw [List.append_nil] at hl ⊢
 exact .of_eq (h us hl)
def Passes (CX : CXT) (X : Cx) (E : XK) : Prop := ∀ (pins : List (Addr × Obj)) (σ : St) (H : Hp) (s : Shared) (e : Value) (s' : Shared),Inv X pins σ H s -> CX X.stack H s E e s' -> X.xe e s'
section
variable {X : Cx} {CX : CXT} {k : Nat} {f C : Addr} {fd : FuncData} {ps : List Str} {sp : Sp} {dvs : List V} {ds : List Value} {E : XK} {x m : Str} {p pos apos : Pos} {e o : Expr} {es : List Expr} {ta : TE} {t : TA}
theorem zu {pins : List (Addr × Obj)} {σ : St} {H : Hp} {s : Shared} {Q : VK} {us : List Value} {vs : List V} (F : FnOk X.prog X.w X.K X.mg X.base CX k f fd ps sp) (hr : Room k X.A) (hb : Binds X.K fd ps ds) (hd : Vals dvs ds) (hx : Passes CX X E)
  (I : Inv X pins σ H s) (r : Vals vs us) (h : sp (vs ++ dvs) H Q E) : wpAny (model X.prog X.w) X.A (call (.ref f) us) (EP X pins σ Q) X.xe s:=by
 have r2 : Vals (vs ++ dvs) (us ++ ds):=r.append hd
 have hl : (us ++ ds).length = ps.length:=by rw [<- r2.length]; exact F.len _ _ _ _ h
 refine wpAny_call (codeAny_mono (F.run X.A X.stack s H ⟨us,[]⟩ (us ++ ds) (vs ++ dvs) Q E hr I.env0 (hb s us I.kIn hl) r2 h) fun r s' hq => ?_)
 cases r with
 | error e => exact hx pins σ H s e s' I hq
 | ok fl =>
  cases fl with
  | ret u => exact I.after hq
  | next => exact False.elim hq
  | brk => exact False.elim hq
  | cont => exact False.elim hq
theorem yr (F : FnOk X.prog X.w X.K X.mg X.base CX k f fd ps sp) (hr : Room k X.A) (hg : Gl X x) (hm : X.mg x = some (.ref f)) (hk : PySem.W.keepIn X.K (.ref f) = true) (hb : Binds X.K fd ps ds) (hd : Vals dvs ds) (hx : Passes CX X E)
  (ha : PA X (e :: es) t) (hdb : (x == ("__debug__" : Str)) = false:=by decide) (he : starEach (e :: es) X.env = (false,eval e X.env) :: starEach es X.env:=by rfl) (hpl : (backTo pos (starEach es X.env)).any (·.1) = false:=by rfl) :
  PE X (.Call (.Name x p) (e :: es) [] pos) (yO sp dvs E t):=by
 intro pins s σ H Q I h
 refine wpAny_Call_Name_kw (u1 I hg hm ?_ hdb)
 refine PySem.W.callWith_K (h₀:=X.base) I.ok.mod.kin hk (thn (ha pos pins s σ H _ I h) fun us s1 ⟨vs,H1,I1,r,q⟩ => ⟨I1.kIn,?_⟩) he hpl
 exact zu F hr hb hd hx I1 r q
structure Mk (K : PySem.W.Frag) (C f : Addr) : Prop where
 makes : PySem.W.makesIn K C = true
 init : PySem.W.findIn K (.ref C) "__init__" = some (some (.ref f))
 fn : PySem.W.isFn K (.ref f) = true
 kp : PySem.W.keepIn K (.ref C) = true
end
section
variable {X : Cx} {CX : CXT} {k : Nat} {f C : Addr} {fd : FuncData} {ps ks : List Str} {sp : Sp} {E : XK} {x m : Str} {p pos apos kpos : Pos} {e o : Expr} {es : List Expr} {kws : List Keyword} {te ta : TE} {t tk : TA} {nm : Option Str}
structure KBinds (K : PySem.W.Frag) (fd : FuncData) (ps ks : List Str) (g : List Value -> List Value -> List Value) (gV : List V -> List V -> List V) : Prop where
 to : ∀ (s : Shared) (us ws : List Value),K.In s.heap -> (g us ws).length = ps.length -> BindsTo s fd ⟨us,ks.zip ws⟩ (ps.zip (g us ws))
 rel : ∀ {vs : List V} {us : List Value} {zs : List V} {ws : List Value},Vals vs us -> Vals zs ws -> Vals (gV vs zs) (g us ws)
variable {g : List Value -> List Value -> List Value} {gV : List V -> List V -> List V}
end
structure FnScope (N P : List Str) (sc : Scope) : Prop where
 kind : sc.kind = .function
 co : sc.isCoroutine = false
 gen : sc.isGenerator = false
 nd : N.Nodup
 pre : N.take P.length = P
 par : ∀ x ∈ P,sc.names.lookup x = some .local \/ sc.names.lookup x = some .cell
 nofree : ∀ y ∈ sc.names,y.2 ≠ .free
theorem pO {kindOf : Str -> Option NameKind} {x : Str} : ∀ {binds : List (Str × Value)} {m : Str -> Option Value},(∀ v,(x,v) ∉ binds) -> bindL kindOf binds m x = m x
 | [],_,_ => rfl
 | (n,v) :: r,m,h => by
  unfold bindL
  rw [pO fun w hw => h w (List.mem_cons_of_mem _ hw)]
  split
  ·have : x ≠ n:=by rintro rfl; exact h v List.mem_cons_self
   simp [this]
  ·rfl
theorem pM {kindOf : Str -> Option NameKind} {x : Str} : ∀ {binds : List (Str × Value)} {m : Str -> Option Value},(∀ v,(x,v) ∉ binds) -> bindC kindOf binds m x = m x
 | [],_,_ => rfl
 | (n,v) :: r,m,h => by
  unfold bindC
  rw [pM fun w hw => h w (List.mem_cons_of_mem _ hw)]
  split
  ·rfl
  ·have : x ≠ n:=by rintro rfl; exact h v List.mem_cons_self
   simp [this]
theorem pN {kindOf : Str -> Option NameKind} {x : Str} {v : Value} : ∀ {P : List Str} {vs : List Value} {i : Nat} {m : Str -> Option Value},P.Nodup -> P[i]? = some x -> vs[i]? = some v -> kindOf x = some .local ->
  bindL kindOf (P.zip vs) m x = some v
 | [],_,_,_,_,h,_,_ => by simp at h
 | _ :: _,[],_,_,_,_,h,_ => by simp at h
 | p :: P,w :: vs,0,m,nd,h1,h2,hk => by
  simp at h1 h2; subst h1; subst h2
  show bindL kindOf ((p,w) :: P.zip vs) m p = _
  unfold bindL
  rw [pO fun v hv => (List.nodup_cons.mp nd).1 (List.of_mem_zip hv).1,if_pos hk]
  simp
 | p :: P,w :: vs,i + 1,m,nd,h1,h2,hk => by
  show bindL kindOf ((p,w) :: P.zip vs) m x = _
  unfold bindL
  exact pN (i:=i) (List.nodup_cons.mp nd).2 (by simpa using h1) (by simpa using h2) hk
theorem pL {kindOf : Str -> Option NameKind} {x : Str} {v : Value} : ∀ {P : List Str} {vs : List Value} {i : Nat} {m : Str -> Option Value},P.Nodup -> P[i]? = some x -> vs[i]? = some v -> kindOf x ≠ some .local ->
  bindC kindOf (P.zip vs) m x = some v
 | [],_,_,_,_,h,_,_ => by simp at h
 | _ :: _,[],_,_,_,_,h,_ => by simp at h
 | p :: P,w :: vs,0,m,nd,h1,h2,hk => by
  simp at h1 h2; subst h1; subst h2
  show bindC kindOf ((p,w) :: P.zip vs) m p = _
  unfold bindC
  rw [pM fun v hv => (List.nodup_cons.mp nd).1 (List.of_mem_zip hv).1,if_neg hk]
  simp
 | p :: P,w :: vs,i + 1,m,nd,h1,h2,hk => by
  show bindC kindOf ((p,w) :: P.zip vs) m x = _
  unfold bindC
  exact pL (i:=i) (List.nodup_cons.mp nd).2 (by simpa using h1) (by simpa using h2) hk
def start (N : List Str) (vs : List V) : St:=vs.map some ++ List.replicate (N.length - vs.length) none
def t4 (CX : CXT) (P : Program) (w : World) (K : PySem.W.Frag) (mg : Str -> Option Value) (base : Heap) (N : List Str) (qual : Str) (scope : Scope) (f : Addr) (cd : Value) (A : Around) (outer : List Env) (s : Shared) (H : Hp) (E : XK) : Cx where
 prog:=P
 w:=w
 K:=K
 mg:=mg
 base:=base
 A:=A.deeper (envOfC qual scope s.heap.objs.size f cd)
 N:=N
 s₀:=s
 H₀:=H
 env:=envOfC qual scope s.heap.objs.size f cd
 outer:=outer
 stack:=envOfC qual scope s.heap.objs.size f cd :: outer
 ex:=[]
 calm:=true
 fn:=fun _ => true
 pn:=[]
 xe:=fun e s' => wpAny (model P w) (A.deeper (envOfC qual scope s.heap.objs.size f cd)) (leaving (envOfC qual scope s.heap.objs.size f cd) e) (fun _ s'' => CX outer H s E e s'') (fun e' s'' => CX outer H s E e' s'') s'
theorem rT {sc : Scope} {n : Nat} {x : Str} (h : sc.names.lookup x = some .cell) : ∃ c,(cellsFrom n sc.names []).lookup x = some c:=by
 have q:=PySem.W.cellsFrom_some sc.names n [] (.inl h)
 exact Option.isSome_iff_exists.mp q
theorem vx {CX : CXT} {P : Program} {w : World} {K : PySem.W.Frag} {mg : Str -> Option Value} {base : Heap} {N ps : List Str} {qual : Str} {scope : Scope} {f : Addr} {cd : Value} {A : Around} {outer : List Env} {s s1 : Shared} {H : Hp} {E : XK} {us : List Value} {vs : List V}
  (S : FnScope N ps scope) (hd : A.handled = none) (e0 : Env0 P w K mg base A outer s H) (hl : vs.length = ps.length) (r : Vals vs us)
  (x : InCallC s s.heap.objs.size (bindL (envOfC qual scope s.heap.objs.size f cd).kindOf (ps.zip us) fun _ => none) (cellsFrom (s.heap.objs.size + 1) scope.names []) (bindC (envOfC qual scope s.heap.objs.size f cd).kindOf (ps.zip us) fun _ => none) s1) :
  Inv (t4 CX P w K mg base N qual scope f cd A outer s H E) [] (start N vs) H s1:=by
 have hpl : ps.length <= N.length:=by have:=congrArg List.length S.pre; rw [List.length_take] at this; omega
 obtain ⟨h1,tk,rfl,hk⟩:=x.done
 have noA : ∀ b : Addr,b ∉ (t4 CX P w K mg base N qual scope f cd A outer s H E).ex:=fun b z => absurd (show b ∈ ([] : List Addr) from z) (by simp)
 refine ⟨⟨e0.mod,S.kind,rfl,rfl,Nat.le_refl _,fun y z c h1 h2 => ?_,fun y hy => ?_,fun y c _ h => ?_,fun _ => hd,Around.frames_deeper e0.frames,.inr ⟨rfl,rfl⟩,fun b z => absurd z (noA b),e0.bs,e0.bsz,fun b _ _ => noA b,fun b z => absurd z (noA b),e0.funs,e0.frf⟩,
  rfl,e0.bare,Un.kept hk,⟨_,x.toInCall.ns,fun i y v h1 h2 h3 => ?_⟩,fun y c h => ⟨_,x.cell y c h⟩,e0.hok.fresh (Nat.le_refl _),fun y c h => ?_,fun p hp => absurd (show p ∈ ([] : List (Addr × Obj)) from hp) (by simp),e0.hok.kept hk,?_⟩
 ·exact name_of_addr x.apart (PySem.mem_of_lookup h1) (PySem.mem_of_lookup h2)
 ·have hy : scope.names.lookup y = some .cell \/ scope.names.lookup y = some .free:=hy
  rcases hy with hy | hy
  ·exact rT hy
  ·exact absurd rfl (S.nofree _ (PySem.mem_of_lookup hy))
 ·exact Nat.le_of_lt (x.above y c (PySem.mem_of_lookup h))
 ·have hi : i < vs.length:=by
   unfold start at h2
   by_cases hi : i < vs.length
   ·exact hi
   ·rw [List.getElem?_append_right (by simpa using hi)] at h2
    rw [List.getElem?_replicate] at h2
    split at h2 <;> cases h2
  have ha : vs[i]? = some v:=by
   unfold start at h2
   rw [List.getElem?_append_left (by simpa using hi),List.getElem?_map] at h2
   cases e : vs[i]? with
   | none => rw [e] at h2; cases h2
   | some a => rw [e] at h2; cases h2; rfl
  obtain ⟨u,hu,rv⟩:=r.get ha
  have hp : ps[i]? = some y:=by
   rw [<- S.pre,List.getElem?_take_of_lt (by omega)]; exact h1
  have ndP : ps.Nodup:=by rw [<- S.pre]; exact S.nd.sublist (List.take_sublist _ _)
  refine ⟨u,rv,?_⟩
  rcases S.par y (List.mem_of_getElem? hp) with k | k
  ·exact .inl ⟨k,pN ndP hp hu k⟩
  ·obtain ⟨c,e⟩:=rT (n:=s.heap.objs.size + 1) k
   refine .inr ⟨.inl k,c,e,?_⟩
   have q:=x.cell y c e
   rw [pL ndP hp hu (by show scope.names.lookup y ≠ _; rw [k]; decide)] at q
   exact q
 ·exact e0.hok.fresh (Nat.le_of_lt (x.above y c (PySem.mem_of_lookup h)))
 ·unfold start
  show _ = N.length
  rw [List.length_append,List.length_map,List.length_replicate]
  omega
theorem yH {CX : CXT} {P : Program} {w : World} {K : PySem.W.Frag} {mg : Str -> Option Value} {base : Heap} {k : Nat} {f : Addr} {name qual : Str} {params : Arguments} {body : List Stmt} {scope : Scope} {dV kV doc pm cdv ct oc : Value} {an od : Option Addr}
  {osl : Array (Option Value)} {N ps : List Str} {sp : Sp} (lk : K.lookup f = some ⟨oc,od,.func (PySem.W.fnOf name qual params body scope dV kV doc pm an cdv ct),osl⟩) (hcd : PySem.W.codeIn K cdv qual = true) (S : FnScope N ps scope)
  (len : ∀ vs H Q E,sp vs H Q E -> vs.length = ps.length)
  (hbody : ∀ (A : Around) (outer : List Env) (s : Shared) (H : Hp) (vs : List V) (Q : VK) (E : XK),Room k (A.deeper (envOfC qual scope s.heap.objs.size f cdv)) -> sp vs H Q E ->
   ∃ t,PSs (t4 CX P w K mg base N qual scope f cdv A outer s H E) body t /\ t { nx:=fun _ H' => Q .non H',rt:=Q } (start N vs) H) :
  FnOk P w K mg base CX (k + 1) f (PySem.W.fnOf name qual params body scope dV kV doc pm an cdv ct) ps sp:=by
 refine ⟨len,fun A outer s H args us vs Q E hr e0 hb r hsp => ?_⟩
 have hl:=len _ _ _ _ hsp
 have KX : K.In s.heap:=e0.mod.kin.keeps fun b o e => (e0.bs b o e).1
 have lim : s.heap.NoLimit:=e0.mod.nolimit.keeps fun b o e => (e0.bs b o e).1
 have hkind : ∀ y ∈ ps.zip us,scope.names.lookup y.1 = some .local \/ (scope.names.lookup y.1 = some .cell /\ ((cellsFrom (s.heap.objs.size + 1) scope.names []).lookup y.1).isSome = true):=fun ⟨n,v⟩ hy => by
  rcases S.par n (List.of_mem_zip hy).1 with q | q
  ·exact .inl q
  ·exact .inr ⟨q,PySem.W.cellsFrom_some _ _ _ (.inl q)⟩
 refine codeAny_call_function hr.depth (KX _ _ lk) rfl S.co S.gen rfl (PySem.W.codeRec_of KX hcd) (hb _ _ _ _ ?_)
 refine wpAny_newFunctionEnv_cells S.kind hkind fun env he s1 x => ?_
 subst he
 refine ⟨lim.keeps x.toInCall.keep,codeAny_func ?_⟩
 obtain ⟨t,ht,hq⟩:=hbody A outer s H vs Q E (hr.deeper _) hsp
 have I : Inv (t4 CX P w K mg base N qual scope f cdv A outer s H E) [] (start N vs) H s1:=vx S hr.hd e0 hl r x
 refine wpAny_mono (ht [] s1 (start N vs) H _ I hq) (fun fl s' hs => ?_) fun e s' hs => hs
 have fin : ∀ {σ' : St} {H' : Hp} {v : V} {u : Value},Inv (t4 CX P w K mg base N qual scope f cdv A outer s H E) [] σ' H' s' -> RelV v u -> Q v H' -> CE outer P w H s Q u s' :=
  fun {σ' H' v u} J rv q => ⟨v,H',J.os,J.bare,J.base,J.hok,rv,q⟩
 cases fl with
 | ret u =>
  obtain ⟨v,σ',H',J,rv,q⟩:=hs
  exact fin J rv q
 | next =>
  obtain ⟨σ',H',J,q⟩:=hs
  exact fin (v:=V.non) (u:=Value.none) J rfl q
 | brk =>
  obtain ⟨_,_,_,q⟩:=hs
  exact False.elim q
 | cont =>
  obtain ⟨_,_,_,q⟩:=hs
  exact False.elim q
end L2
namespace L2
open PySem PySem.Spec PyProof.Rows
section
variable {X : Cx} {x : Str} {p pos : Pos} {e : Expr} {es : List Expr} {t : TA} {id T : String} {r : List V -> Hp -> VK -> Prop}
def tCB (r : List V -> Hp -> VK -> Prop) (t : TA) : TE:=fun σ H Q => t σ H fun vs H1 => r vs H1 Q
theorem aF (hc : gO X (.builtin id) r) (hg : Gl X x) (hm : X.mg x = none) (hv : bootBuiltins x = some (.builtin id)) (ha : PA X (e :: es) t) (hn : x ≠ "__name__" := by decide) (hdb : (x == ("__debug__" : Str)) = false:=by decide)
  (he : starEach (e :: es) X.env = (false,eval e X.env) :: starEach es X.env:=by rfl) (hpl : (backTo pos (starEach es X.env)).any (·.1) = false:=by rfl) : PE X (.Call (.Name x p) (e :: es) [] pos) (tCB r t):=by
 intro pins s σ H Q I h
 refine wpAny_Call_Name_kw (eu I hg hm hv ?_ hn hdb)
 exact PyProof.Rows.callWith_builtin1 (thn (ha pos pins s σ H _ I h) fun us s1 ⟨vs,H1,I1,r1,q1⟩ => hc pins s1 σ H1 vs us Q I1 r1 q1) he hpl
theorem bO (hc : gO X (.type T) r) (hg : Gl X x) (hm : X.mg x = none) (hv : bootBuiltins x = some (.type T)) (ha : PA X (e :: es) t) (hn : x ≠ "__name__" := by decide) (hdb : (x == ("__debug__" : Str)) = false:=by decide)
  (he : starEach (e :: es) X.env = (false,eval e X.env) :: starEach es X.env:=by rfl) (hpl : (backTo pos (starEach es X.env)).any (·.1) = false:=by rfl) : PE X (.Call (.Name x p) (e :: es) [] pos) (tCB r t):=by
 intro pins s σ H Q I h
 refine wpAny_Call_Name_kw (eu I hg hm hv ?_ hn hdb)
 exact PyProof.Rows.callWith_type1 (thn (ha pos pins s σ H _ I h) fun us s1 ⟨vs,H1,I1,r1,q1⟩ => hc pins s1 σ H1 vs us Q I1 r1 q1) he hpl
end
end L2
namespace HT
open PySem PyProof.Rows
section
open PySem.SeqAt
open PySem.AutoSeq1 (wpAny_loadPart')
open PySem.MeetsSeq PySem.MeetsSeq2 PySem.MeetsSeq3
end
section
variable {prog : Program} {w : World} {A : Around} {E : Value -> Shared -> Prop} {s : Shared}
theorem cat_tup {t b : Addr} {vs ws : List Value} {Q : Value -> Shared -> Prop} (ht : IsTup s.heap t vs.toArray) (hb : IsTup s.heap b ws.toArray) (hv : vs ≠ [])
  (h1 : ws = [] -> Q (.ref t) s) (h2 : ws ≠ [] -> Q (.ref s.heap.objs.size) { s with heap:=s.heap.push { cls:=.type "tuple",data:=.seq (vs ++ ws).toArray } })
  (hsz : vs.length + ws.length <= sizeLine) : wpAny (model prog w) A (binaryOp .Add (.ref t) (.ref b)) Q E s:=by
 obtain ⟨⟨cls,dd,data,sl⟩,ho,hc,n,hd⟩:=id ht
 obtain ⟨⟨cls2,dd2,data2,sl2⟩,ho2,hc2,n2,hd2⟩:=id hb
 simp only at hc hd hc2 hd2
 subst hc hd hc2 hd2
 have e : vs.toArray ++ ws.toArray = (vs ++ ws).toArray:=by simp
 by_cases hw : ws = []
 ·exact concat_meets ⟨_,ho,rfl⟩ ⟨_,ho2,rfl⟩ noFill_tuple_add seq_tuple_add PySem.F.slot_tuple_add PySem.F.entry_tuple_add (PySem.F.args_tuple_add_2 _ _)
   (tuple_addW1 t b vs.toArray ws.toArray n n2 dd dd2 sl sl2 (by simpa using hv) (by simp [hw])) ⟨ho,ho2,h1 hw⟩
 ·refine concat_meets ⟨_,ho,rfl⟩ ⟨_,ho2,rfl⟩ noFill_tuple_add seq_tuple_add PySem.F.slot_tuple_add PySem.F.entry_tuple_add (PySem.F.args_tuple_add_2 _ _)
   (tuple_addW2 t b vs.toArray ws.toArray n n2 dd dd2 sl sl2 (by simpa using hv) (by simpa using hw) (by rw [List.size_toArray,List.size_toArray]; exact hsz)) ⟨ho,ho2,?_⟩
  rw [e]
  exact h2 hw
def sIx (n d : Nat) : Option Int -> Nat
 | none => d
 | some v => if v < 0 then (v + (n : Int)).toNat else min v.toNat n
theorem sIx_none (n d : Nat) : sIx n d none = d:=rfl
theorem sIx_nat (n d k : Nat) : sIx n d (some (k : Int)) = min k n:=by
 show (if (k : Int) < 0 then ((k : Int) + (n : Int)).toNat else min (k : Int).toNat n) = min k n
 rw [if_neg (by omega),Int.toNat_natCast]
theorem zv (n d : Nat) (hd : d <= n) (o : Option Int) : sIx n d o <= n:=by
 cases o with
 | none => exact hd
 | some v =>
  show (if v < 0 then (v + (n : Int)).toNat else min v.toNat n) <= n
  by_cases hv : v < 0
  ·rw [if_pos hv]; omega
  ·rw [if_neg hv]; exact Nat.min_le_right _ _
theorem uQ (v : Int) (n d : Nat) : (if v < 0 then max (v + (n : Int)) 0 else min v (n : Int)) = ((sIx n d (some v) : Nat) : Int):=by
 show (if v < 0 then max (v + (n : Int)) 0 else min v (n : Int)) = (((if v < 0 then (v + (n : Int)).toNat else min v.toNat n) : Nat) : Int)
 by_cases hv : v < 0
 ·simp only [if_pos hv]; omega
 ·simp only [if_neg hv]; omega
theorem tR (lo hi : Option Int) (n : Nat) : Builtin.Slice.sliceAdjust lo hi 1 (n : Int) = (((sIx n 0 lo : Nat) : Int),((sIx n n hi : Nat) : Int)):=by
 have h1 : ¬ ((1 : Int) < 0):=by omega
 unfold Builtin.Slice.sliceAdjust
 simp only [h1,if_false]
 refine Prod.ext ?_ ?_
 ·cases lo with
  | none => rfl
  | some v => exact uQ v n 0
 ·cases hi with
  | none => rfl
  | some v => exact uQ v n n
theorem uo (i j : Nat) : Builtin.Slice.slicePlaces (i : Int) (j : Int) 1 = j - i:=by
 unfold Builtin.Slice.slicePlaces
 have h1 : (1 : Int) > 0:=by omega
 simp only [h1,if_true,Int.ediv_one]
 split <;> omega
theorem nC {v : Value} {o : Option Int} {Q : Option Int -> Shared -> Prop} (p : IsPart v o) (h : Q o s) : wpAny (model prog w) A (Builtin.Slice.slicePartIndex v) Q E s:=by
 cases p with
 | none => exact slicePart_none h
 | int i t => exact slicePart_int h
theorem fy {sl : Addr} {vl vu : Value} {lo hi : Option Int} {n : Nat} {Q : Int × Int × Nat -> Shared -> Prop} (hs : s.heap.IsSliceOf sl vl vu .none) (pl : IsPart vl lo) (pu : IsPart vu hi)
  (h : Q (((sIx n 0 lo : Nat) : Int),1,sIx n n hi - sIx n 0 lo) s) : wpAny (model prog w) A (Builtin.Slice.sliceApplied (.ref sl) (pure (n : Int))) Q E s:=by
 obtain ⟨os,hos,hcs,hds⟩:=id hs
 unfold Builtin.Slice.sliceApplied Builtin.Slice.sliceFields
 refine wpAny_bind (wpAny_bind (wpAny_field hos hds (x:=vl) rfl (wpAny_bind (wpAny_field hos hds (x:=vu) rfl (wpAny_bind (wpAny_field hos hds (x:=.none) rfl (wpAny_pure ?_)))))))
 refine wpAny_bind (slicePart_none ?_)
 show wpAny _ _ (if ((1 : Int) == 0) = true then _ else _) _ _ s
 rw [if_neg (by decide)]
 refine wpAny_bind (nC pl (wpAny_bind (nC pu (wpAny_bind (wpAny_pure ?_)))))
 show wpAny _ _ (match Builtin.Slice.sliceAdjust lo hi 1 (n : Int) with | (lo,hi) => pure (lo,(1 : Int),Builtin.Slice.slicePlaces lo hi 1)) _ _ s
 rw [tR lo hi n]
 show wpAny _ _ (pure (((sIx n 0 lo : Nat) : Int),(1 : Int),Builtin.Slice.slicePlaces ((sIx n 0 lo : Nat) : Int) ((sIx n n hi : Nat) : Int) 1)) _ _ s
 rw [uo]
 exact wpAny_pure h
theorem xE (xs : Array Value) (i k : Nat) : ((List.range k).filterMap fun (m : Nat) => xs[((i : Int) + (m : Int) * 1).toNat]?).toArray = ((xs.toList.drop i).take k).toArray:=by
 have e : (fun (m : Nat) => xs[((i : Int) + (m : Int) * 1).toNat]?) = fun m => xs[i + m]? := by
  funext m
  have : ((i : Int) + (m : Int) * 1).toNat = i + m:=by omega
  rw [this]
 rw [e]
 have:=pick_run xs i k
 rw [List.filterMap_map] at this
 have e2 : ((fun x => xs[x]?) ∘ fun x => i + x) = fun m => xs[i + m]? := rfl
 rw [e2] at this
 rw [this]
theorem getItem_tuple_cut {t sl : Addr} {items : Array Value} {vl vu : Value} {lo hi : Option Int} {Q : Value -> Shared -> Prop} (ht : IsTup s.heap t items) (hs : s.heap.IsSliceOf sl vl vu .none) (pl : IsPart vl lo) (pu : IsPart vu hi)
  (hw : ¬ (sIx items.size 0 lo = 0 /\ sIx items.size items.size hi = items.size))
  (h : Q (.ref s.heap.objs.size) { s with heap:=s.heap.push { cls:=.type "tuple",data:=.seq ((items.toList.drop (sIx items.size 0 lo)).take (sIx items.size items.size hi - sIx items.size 0 lo)).toArray } })
  (hsz : items.size <= sizeLine) : wpAny (model prog w) A (getItem (.ref t) (.ref sl)) Q E s:=by
 have htake : sizeOk (.seq ((items.toList.drop (sIx items.size 0 lo)).take (sIx items.size items.size hi - sIx items.size 0 lo)).toArray):=by
  show ((items.toList.drop (sIx items.size 0 lo)).take (sIx items.size items.size hi - sIx items.size 0 lo)).toArray.size <= sizeLine
  rw [List.size_toArray,List.length_take,List.length_drop,Array.length_toList]
  omega
 have hj : sIx items.size items.size hi <= items.size:=zv _ _ (Nat.le_refl _) hi
 obtain ⟨os,hos,hcs,hds⟩:=id hs
 have hTs : s.TypeIs (.ref sl) "slice" := ⟨os,hos,hcs⟩
 unfold getItem
 try with_reducible refine wpAny_holding ?_
 first | refine wpAny_bind (wpAny_pure ?_) | skip
 refine wpAny_bind (wpAny_sequenceKey ht.typeIs (by decide) ?_)
 refine wpAny_bind (wpAny_callSpecial?_slot (name:=Str.ofString "__getitem__") ht.typeIs PyProof.Rows.slot_tuple_getitem
  (wpAny_call_entry PyProof.Rows.slot_tuple_getitem ht.typeIs entry_tuple_getitem ?_ (args_tuple_getitem _ _)))
 show wpAny _ _ (Builtin.Tuple.tupleItemsOf (.ref t) >>= _) _ _ s
 refine wpAny_bind (tupleItemsOf_ ht ?_)
 refine wpAny_bind (wpAny_typeOf hTs ?_)
 rw [if_pos (by decide)]
 refine wpAny_bind (fy hs pl pu ?_)
 have hno : ¬ ((((sIx items.size 0 lo : Nat) : Int) == 0 && (1 : Int) == 1 && (sIx items.size items.size hi - sIx items.size 0 lo) == items.size) = true):=by
  intro q
  rw [Bool.and_eq_true,Bool.and_eq_true] at q
  have q1 : ((sIx items.size 0 lo : Nat) : Int) = 0:=eq_of_beq q.1.1
  have q2 : sIx items.size items.size hi - sIx items.size 0 lo = items.size:=eq_of_beq q.2
  exact hw ⟨by omega,by omega⟩
 show wpAny _ _ (if (((sIx items.size 0 lo : Nat) : Int) == 0 && (1 : Int) == 1 && (sIx items.size items.size hi - sIx items.size 0 lo) == items.size) = true then _ else _) _ _ s
 rw [if_neg hno,xE]
 first
  | exact wpAny_bind (m:=Builtin.Tuple.tupleExact _) (wpAny_newObj_type (wpAny_pure ⟨_,rfl,wpAny_pure h⟩) htake)
  | exact wpAny_bind (m:=Builtin.Tuple.tupleExact _) (wpAny_newObj_type (wpAny_bind (wpAny_pure (wpAny_pure ⟨_,rfl,wpAny_pure h⟩))) htake)
  | exact wpAny_bind (wpAny_bind (m:=Builtin.Tuple.tupleExact _) (wpAny_newObj_type (wpAny_pure (wpAny_pure ⟨_,rfl,wpAny_pure h⟩)) htake))
  | exact wpAny_bind (wpAny_bind (m:=Builtin.Tuple.tupleExact _) (wpAny_newObj_type (wpAny_pure ⟨_,rfl,wpAny_pure h⟩) htake))
end
end HT
namespace L2
open PySem PySem.Spec PyProof.Rows
abbrev TO:=St -> Hp -> (Option Int -> Hp -> Prop) -> Prop
def PO (X : Cx) (e : Option Expr) (t : TO) : Prop:=
 ∀ (pins : List (Addr × Obj)) (s : Shared) (σ : St) (H : Hp) (Q : Option Int -> Hp -> Prop),Inv X pins σ H s -> t σ H Q ->
  wpAny (model X.prog X.w) X.A (evalPart e X.env) (fun u s' => ∃ o H',Inv X pins σ H' s' /\ IsPart u o /\ Q o H') X.xe s
def va : TO:=fun _ H Q => Q none H
def Al (t : TE) : TO:=fun σ H Q => t σ H fun x H1 => ∃ i,x = .int i /\ Q (some i) H1
section
variable {X : Cx} {e : Expr} {te : TE} {lo hi : Option Expr} {tl th : TO} {pos p2 : Pos}
theorem gG : PO X none va:=by
 intro pins s σ H Q I h
 rw [evalPart_none]
 exact wpAny_pure ⟨none,H,I,.none,h⟩
theorem jW (h : PE X e te) : PO X (some e) (Al te):=by
 intro pins s σ H Q I hw
 rw [evalPart_some]
 refine thn (h pins s σ H _ I hw) fun u s1 ⟨x,H1,I1,r1,q1⟩ => ?_
 obtain ⟨i,rfl,q⟩:=q1
 obtain ⟨t,rfl⟩:=r1
 exact ⟨some i,H1,I1,.int i t,q⟩
def SlR (X : Cx) (r : V -> Option Int -> Option Int -> Hp -> VK -> Prop) : Prop:=
 ∀ (pins : List (Addr × Obj)) (s : Shared) (σ : St) (H : Hp) (x : V) (v vl vu : Value) (lo hi : Option Int) (sl : Addr) (Q : VK),Inv X pins σ H s -> RelV x v -> s.heap.IsSliceOf sl vl vu .none -> IsPart vl lo -> IsPart vu hi -> r x lo hi H Q ->
  ∃ T id,typeLookup (.type T) "__getitem__" = pure (some (.builtin id)) /\ s.TypeIs v T /\ wpAny (model X.prog X.w) X.A (getItem v (.ref sl)) (EP X pins σ Q) X.xe s
def tSl (r : V -> Option Int -> Option Int -> Hp -> VK -> Prop) (te : TE) (tl th : TO) : TE:=fun σ H Q => te σ H fun x H1 => tl σ H1 fun l H2 => th σ H2 fun u H3 => r x l u H3 Q
theorem nu {r : V -> Option Int -> Option Int -> Hp -> VK -> Prop} (hr : SlR X r) (he : PE X e te) (hl : PO X lo tl) (hu : PO X hi th) : PE X (.Subscript e (.Slice lo hi none p2) pos) (tSl r te tl th):=by
 intro pins s σ H Q I h
 refine Subscript_ (thn (he pins s σ H _ I h) fun v s1 ⟨x,H1,I1,r1,q1⟩ => ?_)
 refine wpAny_Slice (thn (hl pins s1 σ H1 _ I1 q1) fun vl s2 ⟨l,H2,I2,pl,q2⟩ => thn (hu pins s2 σ H2 _ I2 q2) fun vu s3 ⟨u,H3,I3,pu,q3⟩ => ?_)
 rw [evalPart_none]
 refine wpAny_pure ?_
 have I4 : Inv X pins σ H3 { s3 with heap:=s3.heap.push { cls:=.type "slice",data:=.fields #[vl,vu,.none] } }:=I3.kept (t' := s3.toks) fun b ob q => Heap.get?_push_of_some _ q
 obtain ⟨T,id,hT,ht,hg⟩:=hr pins { s3 with heap:=s3.heap.push { cls:=.type "slice",data:=.fields #[vl,vu,.none] } } σ H3 x v vl vu l u s3.heap.objs.size Q I4 r1 (Heap.IsSliceOf.new ..) pl pu q3
 show wpAny (model X.prog X.w) X.A (subscriptTail e (.Slice lo hi none p2) v (.ref s3.heap.objs.size)) (EP X pins σ Q) X.xe { s3 with heap:=s3.heap.push { cls:=.type "slice",data:=.fields #[vl,vu,.none] } }
 exact tail_any (ops:=[.ref s3.heap.objs.size,v]) ht hT hg (by with_unfolding_all rfl)
def iy (xs : List V) (lo hi : Option Int) : List V:=(xs.drop (HT.sIx xs.length 0 lo)).take (HT.sIx xs.length xs.length hi - HT.sIx xs.length 0 lo)
theorem kX (xs : List V) (lo hi : Option Int) : (iy xs lo hi).length <= xs.length:=by
 unfold iy
 rw [List.length_take,List.length_drop]
 omega
def AI (K : PySem.W.Frag) : V -> Option Int -> Option Int -> Hp -> VK -> Prop:=fun x lo hi H Q => ∃ a xs,x = .ref a /\ SqT K H a xs /\
 ¬ (HT.sIx xs.length 0 lo = 0 /\ HT.sIx xs.length xs.length hi = xs.length) /\ ∀ p,H p = none -> Q (.ref p) (upd H p (.tup (iy xs lo hi)))
theorem zy : SlR X (AI X.K):=by
 intro pins s σ H x v vl vu lo hi sl Q I rx hs pl pu h
 obtain ⟨a,xs,rfl,hx,hw,q⟩:=h
 cases rx
 obtain ⟨its,r,ht,hz⟩:=I.tuple hx
 have hlen : its.toArray.size = xs.length:=by rw [List.size_toArray]; exact r.length.symm
 refine ⟨"tuple",_,PyProof.Rows.slot_tuple_getitem.lookup,ht.typeIs,?_⟩
 refine HT.getItem_tuple_cut ht hs pl pu (by rw [hlen]; exact hw) ?_ (by rw [hlen]; exact hz)
 rw [hlen]
 refine ⟨.ref s.heap.objs.size,_,I.laid (t' := s.toks) (o:=.tup (iy xs lo hi)) (fun b ob q => Heap.get?_push_of_some _ q) (Nat.le_refl _) ?_,rfl,q _ (I.hok.fresh (Nat.le_refl _))⟩
 exact ⟨Nat.le_trans (kX xs lo hi) hz,_,(r.drop (HT.sIx xs.length 0 lo)).take (HT.sIx xs.length xs.length hi - HT.sIx xs.length 0 lo),IsTup.new _ _⟩
def z5 (K : PySem.W.Frag) : R2:=fun x y H Q => ∃ a b xs ys,x = .ref a /\ y = .ref b /\ SqT K H a xs /\ SqT K H b ys /\ xs ≠ [] /\ xs.length + ys.length <= sizeLine /\
 (ys = [] -> Q (.ref a) H) /\ (ys ≠ [] -> ∀ p,H p = none -> Q (.ref p) (upd H p (.tup (xs ++ ys))))
theorem Vals.nil_iff {xs : List V} {us : List Value} (r : Vals xs us) : us = [] ↔ xs = []:=by
 cases r with
 | nil => simp
 | cons _ _ => simp
theorem yq : OpR X (binaryOp .Add) (z5 X.K):=by
 intro pins s σ H x y v u Q I rx ry h
 obtain ⟨a,b,xs,ys,rfl,rfl,ha,hb,hx,hz,q1,q2⟩:=h
 cases rx
 cases ry
 obtain ⟨its,r1,p1,_⟩:=I.tuple ha
 obtain ⟨its2,r2,p2,_⟩:=I.tuple hb
 refine HT.cat_tup p1 p2 (fun z => hx (r1.nil_iff.mp z)) (fun z => ⟨.ref a,H,I,rfl,q1 (r2.nil_iff.mp z)⟩) (fun z => ?_) (by rw [<- r1.length,<- r2.length]; exact hz)
 refine ⟨.ref s.heap.objs.size,_,I.laid (t' := s.toks) (o:=.tup (xs ++ ys)) (fun b ob q => Heap.get?_push_of_some _ q) (Nat.le_refl _) ?_,rfl,q2 (fun w => z (r2.nil_iff.mpr w)) _ (I.hok.fresh (Nat.le_refl _))⟩
 exact ⟨by rw [List.length_append]; exact hz,_,r1.append r2,IsTup.new _ _⟩
end
end L2
namespace L2
open PySem PySem.Spec PyProof.Rows
def ixN (n : Nat) (i : Int) : Option Nat:=if 0 <= i then (if i < n then some i.toNat else none) else if -(n : Int) <= i then some (i + n).toNat else none
def atI {α : Type} (xs : List α) (i : Int) : Option α:=(ixN xs.length i).bind fun j => xs[j]?
theorem u0 {n : Nat} {i : Int} {j : Nat} (h : ixN n i = some j) : seqIndex? i n = some j /\ j < n /\ -(n : Int) <= i /\ i < n:=by
 unfold ixN at h
 by_cases h0 : 0 <= i
 ·rw [if_pos h0] at h
  by_cases h1 : i < n
  ·rw [if_pos h1] at h
   have e : i.toNat = j:=Option.some.inj h
   exact ⟨by rw [seqIndex_of h0 h1,e],by omega,by omega,h1⟩
  ·rw [if_neg h1] at h; cases h
 ·rw [if_neg h0] at h
  by_cases h1 : -(n : Int) <= i
  ·rw [if_pos h1] at h
   have e : (i + n).toNat = j:=Option.some.inj h
   exact ⟨by rw [seqIndex_neg (by omega) h1,e],by omega,h1,by omega⟩
  ·rw [if_neg h1] at h; cases h
theorem uN {α : Type} {xs : List α} {i : Int} {v : α} (h : atI xs i = some v) : ∃ j,seqIndex? i xs.length = some j /\ xs[j]? = some v /\ j < xs.length /\ -(xs.length : Int) <= i /\ i < xs.length:=by
 unfold atI at h
 cases e : ixN xs.length i with
 | none => rw [e] at h; cases h
 | some j =>
  rw [e] at h
  obtain ⟨h1,h2,h3,h4⟩:=u0 e
  exact ⟨j,h1,h,h2,h3,h4⟩
theorem l4 {α : Type} {xs : List α} {j : Nat} {v : α} (h : xs[j]? = some v) : atI xs (j : Int) = some v:=by
 have hj : j < xs.length:=(List.getElem?_eq_some_iff.mp h).1
 have e : ixN xs.length (j : Int) = some j:=by
  unfold ixN
  rw [if_pos (by omega),if_pos (by omega)]; simp
 unfold atI; rw [e]; exact h
theorem rQ {α : Type} (xs : List α) (v : α) : atI (xs ++ [v]) (-1) = some v:=by
 have hl : (xs ++ [v]).length = xs.length + 1:=by simp
 have e : ixN (xs ++ [v]).length (-1) = some xs.length:=by
  unfold ixN
  rw [hl,if_neg (by decide),if_pos (by omega)]
  congr 1
  omega
 unfold atI
 rw [e]
 show (xs ++ [v])[xs.length]? = some v
 simp
def uL (b : Expr) : Prop := ∀ o i,subscripted b false o i = operate [o,i] (getItem o i)
def IxR (X : Cx) (r : R2) : Prop:=
 ∀ (value slice : Expr) (pins : List (Addr × Obj)) (s : Shared) (σ : St) (H : Hp) (x y : V) (v u : Value) (Q : VK),Inv X pins σ H s -> RelV x v -> RelV y u -> r x y H Q ->
  subscripted slice false v u = operate [v,u] (getItem v u) -> wpAny (model X.prog X.w) X.A (subscriptTail value slice v u) (EP X pins σ Q) X.xe s
def MtR (X : Cx) (id : String) (r : V -> List V -> Hp -> VK -> Prop) : Prop:=
 ∀ (pins : List (Addr × Obj)) (s : Shared) (σ : St) (H : Hp) (x : V) (xs : List V) (v : Value) (us : List Value) (Q : VK),Inv X pins σ H s -> RelV x v -> Vals xs us -> r x xs H Q ->
  wpAny (model X.prog X.w) X.A (call (.builtin id) (v :: us)) (EP X pins σ Q) X.xe s
section
variable {X : Cx} {a b : Expr} {ta tb : TE} {pos : Pos}
theorem aB {r : R2} (hr : IxR X r) (ha : PE X a ta) (hb : PE X b tb) (hs : uL b) : PE X (.Subscript a b pos) (tOp r ta tb):=by
 intro pins s σ H Q I h
 exact Subscript_ (yW ha hb I h fun v u s2 x y H2 I2 rx ry q => hr a b pins s2 σ H2 x y v u Q I2 rx ry q (hs _ _))
def z7 (K : PySem.W.Frag) : R2:=fun x y H Q => ∃ p xs i v,x = .ref p /\ y = .int i /\ SqL K H p xs /\ atI xs i = some v /\ Q v H
def z8 (K : PySem.W.Frag) : R2:=fun x y H Q => ∃ p xs i v,x = .ref p /\ y = .int i /\ SqT K H p xs /\ atI xs i = some v /\ Q v H
theorem aH : IxR X (z7 X.K):=by
 intro value slice pins s σ H x y v u Q I rx ry h hs
 obtain ⟨p,xs,i,z,rfl,rfl,hq,he,q⟩:=h
 cases rx
 obtain ⟨t,rfl⟩:=ry
 obtain ⟨its,r,pl,hz⟩:=I.list hq
 obtain ⟨j,h1,h2,h3,h4,h5⟩:=uN he
 obtain ⟨w,ew,rw'⟩:=r.get h2
 have hl:=r.length
 have hn:=mZ
 have fin : EP X pins σ Q w s:=⟨z,H,I,rw',q⟩
 by_cases h0 : 0 <= i
 ·have hj : i.toNat = j:=by
   rw [seqIndex_of h0 h5] at h1
   exact Option.some.inj h1
  exact item_listR pl.isList h0 (by omega) (by rw [hj]; simpa using ew) fin hs
 ·have hj : (i + (its.toArray.size : Int)).toNat = j:=by
   rw [seqIndex_neg (by omega) h4] at h1
   rw [List.size_toArray,<- hl]
   exact Option.some.inj h1
  exact subscriptTail_builtinR (x:=w) pl.isList.typeIs slot_list_getitem.lookup
   (wpAny_getItem_list_neg (Q:=fun r s' => r = w /\ EP X pins σ Q r s') pl.isList (by omega) (by rw [List.size_toArray] <;> omega) (by omega) (by rw [hj]; simpa using ew) ⟨rfl,fin⟩) hs
theorem a8 : IxR X (z8 X.K):=by
 intro value slice pins s σ H x y v u Q I rx ry h hs
 obtain ⟨p,xs,i,z,rfl,rfl,hq,he,q⟩:=h
 cases rx
 obtain ⟨t,rfl⟩:=ry
 obtain ⟨its,r,pl,hz⟩:=I.tuple hq
 obtain ⟨j,h1,h2,h3,h4,h5⟩:=uN he
 obtain ⟨w,ew,rw'⟩:=r.get h2
 have hl:=r.length
 have hn:=mZ
 have fin : EP X pins σ Q w s:=⟨z,H,I,rw',q⟩
 exact subscriptTail_builtinR (x:=w) pl.typeIs slot_tuple_getitem.lookup
  (getItem_tuple (j:=j) (Q:=fun r s' => r = w /\ EP X pins σ Q r s') pl (by omega) (by omega) (by rw [List.size_toArray,<- hl]; exact h1) (by simpa using ew) ⟨rfl,fin⟩) hs
theorem uh (its : List Value) (n j : Nat) (u : Value) : Obj.mapSeq (·.setIfInBounds j u) { cls:=.type "list",data:=.seq its.toArray n } = { cls:=.type "list",data:=.seq (its.set j u).toArray n }:=by
 simp [Obj.mapSeq]
theorem Inv.lst {pins : List (Addr × Obj)} {σ : St} {H : Hp} {s : Shared} {p : Addr} {xs : List V} (I : Inv X pins σ H s) (h : H p = some (.lst xs)) :
  ∃ (its : List Value) (n : Nat),Vals xs its /\ s.heap.get? p = some { cls:=.type "list",data:=.seq its.toArray n } /\ xs.length <= sizeLine:=by
 obtain ⟨z,its,n,r,e⟩:=I.hok p _ h
 exact ⟨its,n,r,e,z⟩
theorem Inv.lstUpd {pins : List (Addr × Obj)} {σ : St} {H : Hp} {s : Shared} {p : Addr} {xs ys : List V} {its its' : List Value} {n n' : Nat} {f : Obj -> Obj} (I : Inv X pins σ H s) (h : H p = some (.lst xs))
  (ho : s.heap.get? p = some { cls:=.type "list",data:=.seq its.toArray n }) (hf : f { cls:=.type "list",data:=.seq its.toArray n } = { cls:=.type "list",data:=.seq its'.toArray n' }) (r : Vals ys its') (hz : ys.length <= sizeLine) (t : Nat) :
  Inv X pins σ (upd H p (.lst ys)) { s with heap:=s.heap.update p f,toks:=t }:=by
 have e : (s.heap.update p f).get? p = some { cls:=.type "list",data:=.seq its'.toArray n' }:=by
  rw [Heap.get?_update_self f ho (by rw [hf] <;> rfl),hf]
 refine I.write (x:=p) (e:=p) (by rw [h]; trivial) (.inl rfl) (fun b u hb q => (Heap.get?_update_other _ _ (Ne.symm hb)).trans q) ⟨_,e⟩ ?_
 exact ⟨hz,its',n',r,e⟩
def z9 : V -> V -> V -> Hp -> (Hp -> Prop) -> Prop:=fun o i v H Q => ∃ p xs k j,o = .ref p /\ i = .int k /\ H p = some (.lst xs) /\ ixN xs.length k = some j /\ Q (upd H p (.lst (xs.set j v)))
theorem set_list : zL X z9:=by
 intro pins s σ H o i v ov iv u Q I ro ri rv h
 obtain ⟨p,xs,k,j,rfl,rfl,hp,hj,q⟩:=h
 cases ro
 obtain ⟨t,rfl⟩:=ri
 obtain ⟨its,n,r,ho,hz⟩:=I.lst hp
 obtain ⟨h1,h2,h3,h4⟩:=u0 hj
 have hl:=r.length
 have hn:=mZ
 have I' : Inv X pins σ (upd H p (.lst (xs.set j v))) { s with heap:=s.heap.update p (Obj.mapSeq (·.setIfInBounds j u)) }:=
  I.lstUpd hp ho (uh its n j u) (r.set rv j) (by rw [List.length_set]; exact hz) s.toks
 by_cases h0 : 0 <= k
 ·have hk : k.toNat = j:=by
   rw [seqIndex_of h0 h4] at h1
   exact Option.some.inj h1
  exact PySem.W.ki_setAt ho h0 (by omega) (by rw [List.size_toArray,<- hl]; exact h4) (by rw [hk]; exact ⟨_,I',q⟩)
 ·have hk : (k + (its.toArray.size : Int)).toNat = j:=by
   rw [seqIndex_neg (by omega) h3] at h1
   rw [List.size_toArray,<- hl]
   exact Option.some.inj h1
  exact PySem.W.ki_setBack ho (by omega) (by rw [List.size_toArray,<- hl]; exact h3) (by omega) (by rw [hk]; exact ⟨_,I',q⟩)
theorem rp (lo hi : Option Int) (n : Nat) : (sliceBounds lo hi none n).1 = ((HT.sIx n 0 lo : Nat) : Int) /\ (sliceBounds lo hi none n).2.1 = ((HT.sIx n n hi : Nat) : Int) /\ (sliceBounds lo hi none n).2.2 = 1:=by
 refine ⟨?_,?_,rfl⟩
 ·cases lo with
  | none => simp [sliceBounds,HT.sIx]
  | some i =>
   simp only [sliceBounds,HT.sIx,Option.getD_none,show (1 : Int) > 0 by decide,if_true]
   by_cases h : i < 0
   ·simp only [h,if_true] <;> omega
   ·simp only [h,if_false] <;> omega
 ·cases hi with
  | none => simp [sliceBounds,HT.sIx]
  | some i =>
   simp only [sliceBounds,HT.sIx,Option.getD_none,show (1 : Int) > 0 by decide,if_true]
   by_cases h : i < 0
   ·simp only [h,if_true] <;> omega
   ·simp only [h,if_false] <;> omega
theorem pI (its : List Value) (lo hi : Option Int) : slicePick its.toArray lo hi none = ((its.drop (HT.sIx its.length 0 lo)).take (HT.sIx its.length its.length hi - HT.sIx its.length 0 lo)).toArray:=by
 obtain ⟨h1,h2,h3⟩:=rp lo hi its.toArray.size
 unfold slicePick
 rw [h1,h2,h3]
 simp only [sliceRange_one,pick_run,List.size_toArray] <;> rfl
def AH (K : PySem.W.Frag) : V -> Option Int -> Option Int -> Hp -> VK -> Prop:=fun x lo hi H Q => ∃ a xs,x = .ref a /\ SqL K H a xs /\ ∀ p,H p = none -> Q (.ref p) (upd H p (.lst (iy xs lo hi)))
theorem rm : SlR X (AH X.K):=by
 intro pins s σ H x v vl vu lo hi sl Q I rx hs pl pu h
 obtain ⟨a,xs,rfl,hx,q⟩:=h
 cases rx
 obtain ⟨its,r,ht,hz⟩:=I.list hx
 have hlen:=r.length
 refine ⟨"list",_,slot_list_getitem.lookup,ht.isList.typeIs,?_⟩
 refine wpAny_getItem_list_slice ht.isList hs pl pu .none (by simp) ?_ (by rw [List.size_toArray] <;> omega)
 rw [pI,<- hlen]
 refine ⟨.ref s.heap.objs.size,_,I.laid (t' := s.toks) (o:=.lst (iy xs lo hi)) (fun b ob q => Heap.get?_push_of_some _ q) (Nat.le_refl _) ?_,rfl,q _ (I.hok.fresh (Nat.le_refl _))⟩
 exact ⟨Nat.le_trans (kX xs lo hi) hz,_,0,(r.drop (HT.sIx xs.length 0 lo)).take (HT.sIx xs.length xs.length hi - HT.sIx xs.length 0 lo),Heap.get?_push_size _ rfl⟩
theorem ay : gO X (.builtin "len") (fun xs H Q => ∃ p ys,xs = [.ref p] /\ (SqL X.K H p ys \/ SqT X.K H p ys) /\ Q (.int ys.length) H):=by
 intro pins s σ H xs us Q I r h
 obtain ⟨p,ys,rfl,hq,q⟩:=h
 obtain ⟨u,rfl,rx⟩:=vals1 r
 cases rx
 have hn:=mZ
 rcases hq with hq | hq
 ·obtain ⟨its,r',pl,hz⟩:=I.list hq
  have hlen:=r'.length
  exact Calls.call_len_list pl.isList (by simp only [List.size_toArray] <;> omega) ⟨.int ys.length,H,I.tok _,⟨s.toks + 1,by rw [List.size_toArray,hlen]⟩,q⟩
 ·obtain ⟨its,r',pl,hz⟩:=I.tuple hq
  have hlen:=r'.length
  exact len_tuple pl (by simp only [List.size_toArray] <;> omega) ⟨.int ys.length,H,I.tok _,⟨s.toks + 1,by rw [List.size_toArray,hlen]⟩,q⟩
theorem f7 : gO X (.type "list") (fun xs H Q => ∃ p ys,xs = [.ref p] /\ (SqL X.K H p ys \/ SqT X.K H p ys) /\ ∀ l,H l = none -> Q (.ref l) (upd H l (.lst ys))):=by
 intro pins s σ H xs us Q I r h
 obtain ⟨p,ys,rfl,hq,q⟩:=h
 obtain ⟨u,rfl,rx⟩:=vals1 r
 cases rx
 have fin : ∀ (its : List Value),Vals ys its -> ys.length <= sizeLine -> ∀ (h' : Heap) (c' : Nat),(∀ b o',s.heap.get? b = some o' -> h'.get? b = some o') ->
   h'.get? s.heap.objs.size = some { cls:=.type "list",dict:=none,data:=.seq its.toArray c',slots := #[] } -> EP X pins σ Q (.ref s.heap.objs.size) { s with heap:=h' }:=fun its r' hz h' c' kp e =>
  ⟨.ref s.heap.objs.size,_,I.laid (t' := s.toks) kp (Nat.le_refl _) (show ObjOk X.prog X.w _ h' _ (.lst ys) from ⟨hz,its,c',r',e⟩),rfl,q _ (I.hok.fresh (Nat.le_refl _))⟩
 rcases hq with hq | hq
 ·obtain ⟨its,r',pl,hz⟩:=I.list hq
  have hlen:=r'.length
  obtain ⟨o,ho,hc,n,hd⟩:=pl.isList
  exact call_list_seq p (.inl rfl) ho hc hd (fun h' c' kp e => fin its r' hz h' c' kp e) (by simp only [List.size_toArray] <;> omega)
 ·obtain ⟨its,r',pl,hz⟩:=I.tuple hq
  have hlen:=r'.length
  obtain ⟨o,ho,hc,n,hd⟩:=pl
  exact call_list_seq p (.inr rfl) ho hc hd (fun h' c' kp e => fin its r' hz h' c' kp e) (by simp only [List.size_toArray] <;> omega)
theorem cu : gO X (.type "tuple") (fun xs H Q => ∃ p ys,xs = [.ref p] /\ ((SqL X.K H p ys /\ ∀ l,H l = none -> Q (.ref l) (upd H l (.tup ys))) \/ (SqT X.K H p ys /\ Q (.ref p) H))):=by
 intro pins s σ H xs us Q I r h
 obtain ⟨p,ys,rfl,h⟩:=h
 obtain ⟨u,rfl,rx⟩:=vals1 r
 cases rx
 rcases h with ⟨hq,q⟩ | ⟨hq,q⟩
 ·obtain ⟨its,r',pl,hz⟩:=I.list hq
  have hlen:=r'.length
  refine call_tuple_list pl.isList (fun h' kp => ?_) (by simp only [List.size_toArray] <;> omega)
  have I1 : Inv X pins σ H { s with heap:=h' }:=I.kept (t' := s.toks) kp
  have I2 : Inv X pins σ (upd H h'.objs.size (.tup ys)) { s with heap:=h'.push { cls:=.type "tuple",data:=.seq its.toArray } }:=
   I1.laid (t' := s.toks) (fun b o e => Heap.get?_push_of_some _ e) (Nat.le_refl _) (show ObjOk X.prog X.w _ _ _ (.tup ys) from ⟨hz,its,r',IsTup.new _ _⟩)
  exact ⟨.ref h'.objs.size,_,I2,rfl,q _ (I1.hok.fresh (Nat.le_refl _))⟩
 ·obtain ⟨its,r',pl,hz⟩:=I.tuple hq
  exact call_tuple_same pl ⟨.ref p,H,I,rfl,q⟩
def tyV (K : PySem.W.Frag) (T : String) (x : V) (H : Hp) : Prop:=match x with
 | .str _ => T = "str"
 | .int _ => T = "int"
 | .ref p => (T = "list" /\ ∃ xs,SqL K H p xs) \/ (T = "tuple" /\ ∃ o,K.lookup p = some o /\ o.cls = .type "tuple" /\ o.dict = none) \/
   (T = "dict" /\ ((∃ kvs,H p = some (.dK kvs)) \/ ∃ kvs,H p = some (.dT kvs))) \/ (T = "set" /\ ∃ S n,H p = some (.set S n))
 | _ => False
theorem xU {pins : List (Addr × Obj)} {σ : St} {H : Hp} {s : Shared} {T : String} {x : V} {v : Value} (I : Inv X pins σ H s) (r : RelV x v) (ty : tyV X.K T x H) :
  s.TypeIs v T /\ ∀ a,v = .ref a -> ∃ ob,s.heap.get? a = some ob /\ ob.dict = none:=by
 cases x with
 | str z =>
  obtain ⟨t,rfl⟩:=r
  cases (show T = "str" from ty)
  exact ⟨typeIs_str s z t,fun _ e => nomatch e⟩
 | int i =>
  obtain ⟨t,rfl⟩:=r
  cases (show T = "int" from ty)
  exact ⟨typeIs_int s i t,fun _ e => nomatch e⟩
 | ref p =>
  cases r
  rcases ty with ⟨rfl,xs,hq⟩ | ⟨rfl,o,hk,hc,hd⟩ | ⟨rfl,hk⟩ | ⟨rfl,S,n,hk⟩
  ·obtain ⟨its,_,pl,_⟩:=I.list hq
   refine ⟨pl.isList.typeIs,fun a e => ?_⟩
   cases e
   obtain ⟨o,n,e,c,hd,_⟩:=pl
   exact ⟨o,e,hd⟩
  ·refine ⟨⟨o,I.kIn p o hk,hc⟩,fun a e => ?_⟩
   cases e
   exact ⟨o,I.kIn _ o hk,hd⟩
  ·have z : ∃ o,s.heap.get? p = some o /\ o.ExactDict:=by
    rcases hk with ⟨kvs,hk⟩ | ⟨kvs,hk⟩
    ·obtain ⟨_,_,_,_,o,_,_,e,ex,_⟩:=I.hok p _ hk
     exact ⟨o,e,ex⟩
    ·obtain ⟨_,_,_,_,o,_,_,e,ex,_⟩:=I.hok p _ hk
     exact ⟨o,e,ex⟩
   obtain ⟨o,e,ex⟩:=z
   refine ⟨⟨o,e,ex.1⟩,fun a e2 => ?_⟩
   cases e2
   exact ⟨o,e,ex.2.1⟩
  ·obtain ⟨o,_,_,_,e,ex,_⟩:=I.hok p _ hk
   refine ⟨⟨o,e,ex.1⟩,fun a e2 => ?_⟩
   cases e2
   exact ⟨o,e,ex.2.1⟩
 | _ => exact False.elim ty
def AL (K : PySem.W.Frag) (T : String) (r : V -> List V -> Hp -> VK -> Prop) (to : TE) : TE:=fun σ H Q => to σ H fun x H1 => tyV K T x H1 /\ r x [] H1 Q
def tBM (K : PySem.W.Frag) (T : String) (r : V -> List V -> Hp -> VK -> Prop) (to : TE) (t : TA) : TE:=fun σ H Q => to σ H fun x H1 => tyV K T x H1 /\ t σ H1 fun xs H2 => r x xs H2 Q
variable {o e : Expr} {es : List Expr} {to : TE} {t : TA} {name : Str} {apos cpos : Pos} {T id : String} {r : V -> List V -> Hp -> VK -> Prop}
theorem xu (pa : PlainAttrs T) (slot : Slot T name id) (hty : typeOf (.builtin id) = pure (.type "method_descriptor")) (hm : MtR X id r) (ho : PE X o to)
  (hbase : attributeBase o name X.env (eval o X.env) = eval o X.env:=by rfl) (hline : (apos.endLine == cpos.line) = true:=by rfl) : PE X (.Call (.Attribute o name apos) [] [] cpos) (AL X.K T r to):=by
 intro pins s σ H Q I h
 refine wpAny_Call_method0_late hbase hline (thn (ho pins s σ H _ I h) fun v s1 ⟨x,H1,I1,r1,ty,q1⟩ => ?_)
 obtain ⟨h1,h2⟩:=xU I1 r1 ty
 exact ⟨T,id,pa,slot,hty,h1,h2,Calls.callWith_builtin rfl (PySem.evalArgs_none (hm pins s1 σ H1 x [] v [] Q I1 r1 .nil q1))⟩
theorem eB (pa : PlainAttrs T) (slot : Slot T name id) (hty : typeOf (.builtin id) = pure (.type "method_descriptor")) (hm : MtR X id r) (ho : PE X o to) (ha : PA X (e :: es) t)
  (hbase : attributeBase o name X.env (eval o X.env) = eval o X.env:=by rfl)
  (hfew : ((backTo cpos (starEach (e :: es) X.env)).all (fun x => !x.1) && (backToKw cpos (keywordEach [] X.env)).all (fun x => x.1.isSome)
   && decide ((e :: es).length + ([] : List Keyword).length + (if ([] : List Keyword).isEmpty then 0 else 1) < 30)) = true:=by rfl)
  (hline : (apos.endLine == cpos.line) = true:=by rfl) (hs : starEach (e :: es) X.env = (false,eval e X.env) :: starEach es X.env:=by rfl) (hplain : (backTo cpos (starEach es X.env)).any (·.1) = false:=by rfl) :
  PE X (.Call (.Attribute o name apos) (e :: es) [] cpos) (tBM X.K T r to t):=by
 intro pins s σ H Q I h
 refine wpAny_Call_method_late hbase hfew hline rfl (thn (ho pins s σ H _ I h) fun v s1 ⟨x,H1,I1,r1,ty,q1⟩ => ?_)
 obtain ⟨h1,h2⟩:=xU I1 r1 ty
 refine ⟨T,id,pa,slot,hty,h1,h2,?_⟩
 have hA:=ha cpos pins s1 σ H1 _ I1 q1
 rw [hs] at hA ⊢
 refine Calls.callWith_builtin (by show (false || (backTo cpos (starEach es X.env)).any (·.1)) = false; rw [hplain] <;> rfl) (Calls.evalArgs_plain ?_)
 exact thn hA fun us s2 ⟨vs,H2,I2,r2,q2⟩ => hm pins s2 σ H2 x vs v us Q I2 r1 r2 q2
/- xs.append(e),list.index on a module's tuple .. are MtR facts of 06m -/
end
end L2
namespace L2
open PySem PySem.Spec PyProof.Rows
def MtM (X : Cx) (id : String) (r : V -> List V -> Hp -> VK -> Prop) : Prop:=
 ∀ (pins : List (Addr × Obj)) (s : Shared) (σ : St) (H : Hp) (x : V) (xs : List V) (v : Value) (us : List Value) (Q : VK),Inv X pins σ H s -> RelV x v -> Vals xs us -> r x xs H Q ->
  wpAny (model X.prog X.w) X.A (call (.builtin id) (v :: us)) (EP X pins σ Q) X.xe s
theorem Vals.one : ∀ {x : V} {us : List Value},Vals [x] us -> ∃ u,us = [u] /\ RelV x u
 | _,_,.cons r .nil => ⟨_,rfl,r⟩
theorem Vals.two : ∀ {x y : V} {us : List Value},Vals [x,y] us -> ∃ u v,us = [u,v] /\ RelV x u /\ RelV y v
 | _,_,_,.cons r (.cons q .nil) => ⟨_,_,rfl,r,q⟩
theorem Vals.zero : ∀ {us : List Value},Vals [] us -> us = []
 | _,.nil => rfl
theorem Vals.dropLast {xs : List V} {us : List Value} (h : Vals xs us) : Vals xs.dropLast us.dropLast:=by
 induction h with
 | nil => exact .nil
 | cons r t ih =>
  cases t with
  | nil => exact .nil
  | cons q t' => exact .cons r ih
theorem Vals.rep {xs : List V} {us : List Value} (h : Vals xs us) : ∀ k : Nat,Vals (List.replicate k xs).flatten (List.replicate k us).flatten
 | 0 => .nil
 | k + 1 => by
  rw [List.replicate_succ,List.replicate_succ,List.flatten_cons,List.flatten_cons]
  exact Vals.append h (Vals.rep h k)
theorem t7 {α : Type} (l : List α) : l.eraseIdx (l.length - 1) = l.dropLast:=by
 induction l with
 | nil => rfl
 | cons a r ih =>
  cases r with
  | nil => rfl
  | cons b r =>
   have e : (a :: b :: r).length - 1 = ((b :: r).length - 1) + 1:=by
    have h1 : (a :: b :: r).length = r.length + 2:=rfl
    have h2 : (b :: r).length = r.length + 1:=rfl
    omega
   rw [e,List.eraseIdx_cons_succ,ih]
   all_goals rfl
theorem foldl_rep (its : List Value) : ∀ (k : Nat) (acc : List Value),
  List.foldl (fun x1 x2 => x1 ++ x2) acc.toArray (List.replicate k its.toArray) = (acc ++ (List.replicate k its).flatten).toArray
 | 0,acc => by simp
 | k + 1,acc => by
  have e : acc.toArray ++ its.toArray = (acc ++ its).toArray:=by simp
  have e2 : (acc ++ its) ++ (List.replicate k its).flatten = acc ++ (List.replicate (k + 1) its).flatten:=by
   rw [List.replicate_succ,List.flatten_cons,List.append_assoc]
  rw [<- e2,<- foldl_rep its k (acc ++ its),<- e,List.replicate_succ,List.foldl_cons]
section
variable {X : Cx} {pins : List (Addr × Obj)} {σ : St} {H : Hp} {s : Shared} {l b : Addr} {xs ys zs : List V}
theorem Inv.lset {its its' : List Value} {n : Nat} {f : Array Value -> Array Value} {t' : Nat} (I : Inv X pins σ H s) (hH : H l = some (.lst xs))
  (e : s.heap.get? l = some { cls:=.type "list",data:=.seq its.toArray n }) (hf : f its.toArray = its'.toArray) (hv : Vals ys its') (hz : ys.length <= sizeLine) :
  Inv X pins σ (upd H l (.lst ys)) { s with heap:=s.heap.update l (Obj.mapSeq f),toks:=t' }:=by
 have q:=PySem.IsL.update e f
 rw [hf] at q
 refine I.write (x:=l) (e:=l) (by rw [hH]; exact trivial) (.inl rfl) (fun b' u hb hu => (Heap.get?_update_other s.heap (Obj.mapSeq f) (Ne.symm hb)).trans hu) ⟨_,q⟩ ?_
 exact ⟨hz,its',_,hv,q⟩
theorem Inv.lnew {its : List Value} {t' : Nat} (I : Inv X pins σ H s) (hv : Vals ys its) (hz : ys.length <= sizeLine) :
  Inv X pins σ (upd H s.heap.objs.size (.lst ys)) { s with heap:=s.heap.push { cls:=.type "list",data:=.seq its.toArray },toks:=t' }:=
 I.laid (fun _ _ q => Heap.get?_push_of_some _ q) (Nat.le_refl _) ⟨hz,its,0,hv,Heap.get?_push_size _ rfl⟩
theorem Inv.fresh (I : Inv X pins σ H s) : H s.heap.objs.size = none:=I.hok.fresh (Nat.le_refl _)
theorem Inv.lstM (I : Inv X pins σ H s) (hH : H l = some (.lst xs)) : xs.length <= sizeLine /\ ∃ (its : List Value) (n : Nat),Vals xs its /\ xs.length = its.length /\ s.heap.get? l = some { cls:=.type "list",data:=.seq its.toArray n }:=by
 obtain ⟨z,its,n,r,e⟩:=I.hok l _ hH
 exact ⟨z,its,n,r,r.length,e⟩
theorem xi {n : Nat} (h : n <= sizeLine) : Builtin.List.listTooLong n = false:=by
 unfold Builtin.List.listTooLong
 exact decide_eq_false (by omega)
end
section
variable {X : Cx}
def yz : V -> List V -> Hp -> VK -> Prop:=fun x vs H Q => ∃ l xs y,x = .ref l /\ vs = [y] /\ H l = some (.lst xs) /\ xs.length < sizeLine /\ Q .non (upd H l (.lst (xs ++ [y])))
theorem aV : MtM X "list.append" yz:=by
 intro pins s σ H x vs v us Q I rx rv h
 obtain ⟨l,xs,y,rfl,rfl,hH,hz,q⟩:=h
 cases rx
 obtain ⟨u,rfl,ru⟩:=rv.one
 obtain ⟨z,its,n,r,hl,e⟩:=I.lstM hH
 refine call_meets F.slot_list_append ⟨_,e,rfl⟩ F.entry_list_append (F.args_list_append_2 _ _) (PySem.list_append l its.toArray n u (by rw [List.size_toArray]; omega)) ⟨e,?_⟩
 refine ⟨.non,_,I.lset (its' := its ++ [u]) hH e (by simp) (r.append (.cons ru .nil)) ?_,rfl,q⟩
 rw [List.length_append,List.length_singleton]
 omega
def AF : V -> List V -> Hp -> VK -> Prop:=fun x vs H Q => ∃ l xs y,x = .ref l /\ vs = [] /\ H l = some (.lst xs) /\ xs[xs.length - 1]? = some y /\ Q y (upd H l (.lst xs.dropLast))
theorem xg : MtM X "list.pop" AF:=by
 intro pins s σ H x vs v us Q I rx rv h
 obtain ⟨l,xs,y,rfl,rfl,hH,hy,q⟩:=h
 cases rx
 have hus:=rv.zero
 subst hus
 obtain ⟨z,its,n,r,hl,e⟩:=I.lstM hH
 obtain ⟨u,hu,ru⟩:=r.get hy
 have hy' : its.toArray[its.toArray.size - 1]? = some u:=by
  show its.toArray[its.length - 1]? = some u
  rw [<- Array.getElem?_toList,<- hl]
  exact hu
 refine call_meets F.slot_list_pop ⟨_,e,rfl⟩ F.entry_list_pop (F.args_list_pop_1 _) (MeetsSeq.list_pop_last l its.toArray n u hy' (by rw [List.size_toArray]; omega)) ⟨e,?_⟩
 refine ⟨y,_,I.lset (its' := its.dropLast) hH e ?_ r.dropLast ?_,ru,q⟩
 ·show its.toArray.eraseIdxIfInBounds (its.toArray.size - 1) = its.dropLast.toArray
  rw [List.size_toArray,List.eraseIdxIfInBounds_toArray,t7]
 ·rw [List.length_dropLast]
  omega
def AD : R2:=fun x y H Q => ∃ l b xs zs,x = .ref l /\ y = .ref b /\ H l = some (.lst xs) /\ H b = some (.lst zs) /\ xs.length + zs.length <= sizeLine /\ ∀ p,H p = none -> Q (.ref p) (upd H p (.lst (xs ++ zs)))
theorem qY : OpR X (binaryOp .Add) AD:=by
 intro pins s σ H x y v u Q I rx ry h
 obtain ⟨l,b,xs,zs,rfl,rfl,hH,hB,hz,q⟩:=h
 cases rx
 cases ry
 obtain ⟨z,its,n,r,hl,e⟩:=I.lstM hH
 obtain ⟨z2,its2,n2,r2,hl2,e2⟩:=I.lstM hB
 refine PySem.P.add_list e e2 ?_ (by rw [List.size_toArray,List.size_toArray]; omega)
 have ea : its.toArray ++ its2.toArray = (its ++ its2).toArray:=by simp
 rw [ea]
 exact ⟨.ref _,_,I.lnew (t' := s.toks) (r.append r2) (by rw [List.length_append]; omega),rfl,q _ I.fresh⟩
def AG : R2:=fun x y H Q => ∃ l k xs,x = .ref l /\ y = .int k /\ H l = some (.lst xs) /\ -(2 ^ 63) <= k /\ k < 2 ^ 63 /\ xs.length * k.toNat <= sizeLine /\
 ∀ p,H p = none -> Q (.ref p) (upd H p (.lst (List.replicate k.toNat xs).flatten))
theorem len_rep {α : Type} (xs : List α) (k : Nat) : (List.replicate k xs).flatten.length = k * xs.length:=by
 induction k with
 | zero => simp
 | succ k ih => rw [List.replicate_succ,List.flatten_cons,List.length_append,ih,Nat.succ_mul,Nat.add_comm]
theorem zh : OpR X (binaryOp .Mult) AG:=by
 intro pins s σ H x y v u Q I rx ry h
 obtain ⟨l,k,xs,rfl,rfl,hH,h1,h2,hz,q⟩:=h
 cases rx
 obtain ⟨t,rfl⟩:=ry
 obtain ⟨z,its,n,r,hl,e⟩:=I.lstM hH
 have hlen : its.toArray.size * k.toNat <= sizeLine:=by rw [List.size_toArray,<- hl]; exact hz
 have hcap : ¬ its.toArray.size * k.toNat > (2 ^ 63 - 1) / 8:=by
  have : (sizeLine : Nat) <= (2 ^ 63 - 1) / 8:=by decide
  omega
 have hfit : ¬ (!Builtin.List.listFitsIndex k) = true:=by
  rw [fitsIndex_both h1 h2]
  exact Bool.false_ne_true
 have hlong : ¬ Builtin.List.listTooLong (its.toArray.size * k.toNat) = true:=by
  rw [xi hlen]
  exact Bool.false_ne_true
 have hnew : List.foldl (fun x1 x2 => x1 ++ x2) #[] (List.replicate (if its.toArray.isEmpty = true then 0 else k.toNat) its.toArray) = (List.replicate k.toNat its).flatten.toArray:=by
  have f0 : ∀ m : Nat,List.foldl (fun x1 x2 => x1 ++ x2) #[] (List.replicate m its.toArray) = (List.replicate m its).flatten.toArray:=fun m => by
   have:=foldl_rep its m []
   rw [List.nil_append] at this
   exact this
  rw [f0]
  cases its with
  | nil => simp
  | cons a r' => rw [if_neg (by simp)]
 refine wpAny_binaryOp_repeat_ref (T := "list") (U := "int") (by decide) ⟨_,e,rfl⟩ (fun s' => typeIs_int s' k t) noFill_list_mul F.fills_int_mul F.slot_int_rmul repeat_list F.slot_int_index.lookup
  (call_meets F.slot_int_rmul (typeIs_int s k t) F.entry_int_rmul (F.args_int_rmul_2 _ _) (int___rmul___int_list k t l its.toArray n)
   ⟨e,rfl,⟨_,e,rfl⟩,call_meets F.slot_list_mul ⟨_,e,rfl⟩ F.entry_list_mul (F.args_list_mul_2 _ _) (AutoListH.list___mul___list_int_3 l its.toArray n k t hfit hcap hlong) ⟨e,?_⟩⟩)
 rw [hnew]
 exact ⟨.ref _,_,I.lnew (t' := s.toks) (r.rep k.toNat) (by rw [len_rep,Nat.mul_comm]; exact hz),rfl,q _ I.fresh⟩
end
section
variable {prog : Program} {w : World} {A : Around} {E : Value -> Shared -> Prop} {s : Shared}
end
section
variable {X : Cx}
end
end L2
namespace Att
open PySem PySem.W PySem.Calls PyProof.Rows
theorem lD {P : Params} {h : Heap} : ∀ (ns : List Int) (vs : List Value),WellAll P h vs (ns.map WData.int) -> IntsAre vs ns:=by
 intro ns
 induction ns with
 | nil =>
  intro vs w
  rw [List.map_nil] at w
  cases w
  exact .nil
 | cons n ns ih =>
  intro vs w
  rw [List.map_cons] at w
  cases w with
  | cons a b =>
   cases a
   exact .cons _ _ (ih _ b)
theorem wb {l : OpenLaw} {n : Nat} (hn : l.most = some n) {P : Params} {h : Heap} {args : List WData} {vals : List Value}
  (hpre : l.row.toRowW.claim.pre args = true) (hwl : WellAll P h vals args) :
  ∃ a vs ns,vals = [Value.ref a] /\ args = [WData.list (ns.map WData.int)] /\ h.get? a = some { cls:=.type "list",data:=.seq vs.toArray } /\ IntsAre vs ns /\ ns.length <= n:=by
 have hsh : WShape.hasAll [] args [.list .int] = true:=(pre_splitW hpre).1
 have hc : l.pre.holds [] { args:=args } = true:=(pre_splitW hpre).2
 obtain ⟨d,r,rfl,h1,h2⟩:=hasAllW_cons hsh
 obtain rfl:=hasAllW_nil h2
 obtain ⟨xs,rfl,h3⟩:=hasW_list h1
 obtain ⟨ns,rfl⟩:=items_int h3
 have hlen : ns.length <= n:=by
  unfold OpenLaw.pre at hc
  have h4 : (WTm.not (.lt (.lit (.int (n : Int))) (.len (.arg 0)))).holds [] { args:=[.list (ns.map .int)] } = true:=by
   have h4:=(holds_andW hc).1
   rw [hn] at h4
   exact h4
  have h5:=condW_of h4 (w_not (w_lt w_lit (w_len_list (w_arg rfl))))
  rw [List.length_map] at h5
  refine Nat.le_of_not_lt fun q => ?_
  have q' : (n : Int) < ((ns.length : Nat) : Int):=by omega
  first
   | (rw [decide_eq_true q'] at h5; exact absurd h5 (by decide))
   | (simp at h5; omega)
 cases hwl with
 | cons w1 w2 =>
  cases w2
  cases w1 with
  | list ho hall => exact ⟨_,_,ns,rfl,rfl,ho,lD ns _ hall,hlen⟩
theorem vY (l : OpenLaw) (args : List WData) : l.row.toRowW.claim.post args (.bool true) args = true:=
 postW_of (r:=l.row.toRowW) (X:=(true == true))
  (show WShape.has [] (.bool true) .bool = true by first | rfl | decide | simp [WShape.has,WShape.arms,WShape.armsAll])
  (show (WTm.eq .res (.lit (.bool true))).value [] { args:=args,res:=some (.bool true),after:=args } = some (.bool (true == true)) from w_eq_bool (w_res rfl) w_lit) rfl
theorem attach_call {l : OpenLaw} {n : Nat} {q : Program} {loose : List Str} {XP : (Str -> Option Value) -> Heap -> Prop} {YP : World -> Heap -> Prop} {d : DefRec}
  (hn : l.most = some n) (hdf : d.params.defaults = [])
  (call : ∀ (w : World) (s₀ s₁ : Shared) (mg mb : Str -> Option Value) (fa : Addr) (o : Obj) (pm cd doc : Value) (a : Addr) (vs : List Value) (ns : List Int),
   Ground q loose [] XP w s₀ mg mb s₁.heap -> YP w s₁.heap ->
   s₁.heap.get? fa = some o -> o.data = .func (docDef d.name d.params d.body d.scope pm cd doc) -> s₁.heap.CodeRec cd d.name -> mg d.name = some (.ref fa) ->
   s₁.heap.get? a = some { cls:=.type "list",data:=.seq vs.toArray } -> IntsAre vs ns -> ns.length <= n -> s₁.gens = #[] ->
   codeAny (model l.prog w) callerA (.call (.ref fa) ⟨[.ref a],[]⟩) (fun r s' => r = .ok (.ret (.bool true)) /\ OldK s₁.heap s'.heap /\ s'.os = s₁.os /\ AllBare s'.gens) s₁) :
  WalkO q loose XP YP l.row.toRowW d [] (fun f vs => PySem.call f vs):=by
 intro w s₀ s₁ mg mb G Y fa o pm cd doc dV kV ho hd hcd hD hmg hg args vals as hpre hlay hrd hwl hlo
 obtain rfl : dV = .none:=Dflts.none hD hdf
 obtain rfl : kV = .none:=Dflts.noKw hD
 obtain ⟨a,vs,ns,rfl,rfl,hobj,hints,hlen⟩:=wb hn hpre hwl
 refine enter_call (codeAny_mono (call w s₀ s₁ mg mb fa o pm cd doc a vs ns G Y ho (fd_plain hd) hcd hmg hobj hints hlen hg) fun r s' hq => ?_)
 obtain ⟨rfl,h2,h3,h4⟩:=hq
 exact ⟨.inl ⟨.bool true,.bool true,[],rfl,fun _ => rfl,.bool true,vY l _,fun _ => ⟨List.Pairwise.nil,fun _ hm => (nomatch hm)⟩⟩,h2,h3,h4⟩
section
variable {prog : Program} {w : World} {A : Around} {E : Value -> Shared -> Prop} {s : Shared} {K : Frag}
def ledger (h : Heap) (L d : Addr) : List (Addr × Obj):=(List.range h.objs.size).filterMap fun a => if a = L \/ a = d then none else (h.get? a).map fun o => (a,o)
end
end Att
namespace L2
open PySem PySem.Spec PyProof.Rows
theorem qf : ∀ {vs : List Value} {ns : List Int},IntsAre vs ns -> Vals (ns.map V.int) vs
 | _,_,.nil => .nil
 | _,_,.cons n t h => .cons ⟨t,rfl⟩ (qf h)
end L2
namespace L2
open PySem PySem.Spec PyProof.Rows
end L2
namespace L2
open PySem PySem.Spec PyProof.Rows
def aD (s : Stmt) : Arguments:=match s with
 | .FunctionDef _ a _ _ _ _ _ _ _ _ => a
 | _ => { posonlyargs:=[],args:=[],vararg:=none,kwonlyargs:=[],kw_defaults:=[],kwarg:=none,defaults:=[] }
def az (s : Stmt) : List Stmt:=match s with
 | .FunctionDef _ _ b _ _ _ _ _ _ _ => b
 | _ => []
def ai (s : Stmt) : Scope:=match s with
 | .FunctionDef _ _ _ _ _ _ sc _ _ _ => sc
 | _ => { kind:=.function,names:=[],isGenerator:=false,isCoroutine:=false }
abbrev CX0 : CXT:=fun _ _ _ _ _ _ => False
abbrev E0 : XK:=fun _ _ _ => False
structure Fun (K : PySem.W.Frag) (x qual : Str) (st : Stmt) (f : Addr) (fd : FuncData) : Prop where
 ex : ∃ (oc : Value) (od : Option Addr) (kV doc pm : Value) (an : Option Addr) (cdv ct : Value) (osl : Array (Option Value)),
  fd = PySem.W.fnOf x qual (aD st) (az st) (ai st) .none kV doc pm an cdv ct /\ K.lookup f = some ⟨oc,od,.func fd,osl⟩ /\ PySem.W.codeIn K cdv qual = true
 kp : PySem.W.keepIn K (.ref f) = true
section
variable {P : Program} {w : World} {K : PySem.W.Frag} {mg : Str -> Option Value} {base : Heap}
end
theorem wX {A : Around} {k : Nat} (hr : Room k A) : A.units + 1 < cLine:=Nat.lt_of_le_of_lt (Nat.add_le_add_left (by decide : 1 <= 64) _) hr.units
theorem aA {n : Nat} (h : n <= 1000) : n < sizeLine:=Nat.lt_of_le_of_lt h (by decide)
section
variable {X : Cx}
theorem pv (i : Nat) {x : Str} {pos : Pos} (hN : X.N[i]? = some x:=by rfl) (hv : Vis X.env.scope x:=by first | exact Or.inl rfl | exact Or.inr (Or.inl rfl) | exact Or.inr (Or.inr rfl)) (hd : (x == ("__debug__" : Str)) = false:=by decide)
  (hcd : (x == ("__classdict__" : Str)) = false:=by decide) : PE X (.Name x pos) (zH i):=xB hN hv hd hcd
end
theorem jb {A B : Prop} (h : B) : if false = true then A else B:=by
 rw [if_neg Bool.false_ne_true]
 exact h
theorem jJ {A B : Prop} (h : A) : if true = true then A else B:=by
 rw [if_pos rfl]
 exact h
theorem yb {c A B : Prop} [Decidable c] (h1 : c -> A) (h2 : ¬ c -> B) : if c then A else B:=by
 by_cases h : c
 ·rw [if_pos h]
  exact h1 h
 ·rw [if_neg h]
  exact h2 h
theorem zW {c A B : Prop} [Decidable c] (hc : c) (h : B) : if (!decide c) = true then A else B:=by
 rw [decide_eq_true hc]
 exact jb h
def Same (H H' : Hp) : Prop := ∀ b o,H b = some o -> H' b = some o
theorem Same.refl (H : Hp) : Same H H:=fun _ _ h => h
theorem Same.trans {H H1 H2 : Hp} (a : Same H H1) (b : Same H1 H2) : Same H H2:=fun c o h => b c o (a c o h)
theorem Same.free {H H' : Hp} (e : Same H H') {l : Addr} (h : H' l = Option.none) : H l = Option.none:=by
 cases q : H l with
 | none => rfl
 | some o =>
  rw [e l o q] at h
  cases h
theorem Same.seq {K : PySem.W.Frag} {H H' : Hp} {a : Addr} {xs : List V} (e : Same H H') (h : SqL K H a xs) : SqL K H' a xs:=by
 rcases h with (h | ⟨o,h⟩) | h
 ·exact .inl (.inl (e _ _ h))
 ·exact .inl (.inr ⟨o,e _ _ h⟩)
 ·exact .inr h
end L2
set_option Elab.async false
set_option linter.all false
set_option maxRecDepth 100000
namespace L2
open PySem PySem.Spec PyProof.Rows
def bJ (cells : List (Str × Addr)) : List (Str × NameKind) -> List (Str × Addr) -> List (Str × Addr)
 | [],cs => cs
 | (n,k) :: r,cs => bJ cells r (if k == .free then (n,(cells.lookup n).getD 0) :: cs else cs)
theorem eX {scope : Scope} {env : Env} (h : ∀ y ∈ scope.names,y.2 = .free -> ∃ c,env.cells.lookup y.1 = some c) :
  closureFor scope env = pure (bJ env.cells scope.names []):=by
 have all : ∀ (ns : List (Str × NameKind)) (cs : List (Str × Addr)),(∀ y ∈ ns,y.2 = .free -> ∃ c,env.cells.lookup y.1 = some c) ->
   (forIn ns cs (fun (x : Str × NameKind) (r : List (Str × Addr)) => (match x with
    | (name,kind) => if (kind == NameKind.free) = true then (do let c <- cellOf env name; pure (ForInStep.yield ((name,c) :: r))) else pure (ForInStep.yield r) : Sem (ForInStep (List (Str × Addr))))) : Sem (List (Str × Addr)))
   = pure (bJ env.cells ns cs):=by
  intro ns
  induction ns with
  | nil => intro cs _; rfl
  | cons y r ih =>
   intro cs hy
   obtain ⟨n,k⟩:=y
   rw [List.forIn_cons]
   by_cases hk : k = .free
   ·subst hk
    obtain ⟨c,e⟩:=hy (n,.free) List.mem_cons_self rfl
    have e' : env.cells.lookup n = some c:=e
    have e1 : cellOf env n = pure c:=by unfold cellOf; rw [e']
    simp only [beq_self_eq_true,if_true,e1,pure_bind]
    rw [ih _ fun z hz => hy z (List.mem_cons_of_mem _ hz)]
    simp only [bJ,beq_self_eq_true,if_true,e',Option.getD_some]
   ·have hb : (k == NameKind.free) = false:=by simpa using hk
    simp only [hb,Bool.false_eq_true,if_false,pure_bind]
    rw [ih _ fun z hz => hy z (List.mem_cons_of_mem _ hz)]
    simp only [bJ,hb,Bool.false_eq_true,if_false]
 unfold closureFor
 have q:=all scope.names [] h
 simp only [bind_pure]
 exact q
theorem iR (cells : List (Str × Addr)) {x : Str} {c : Addr} : ∀ (ns : List (Str × NameKind)) (cs : List (Str × Addr)),(bJ cells ns cs).lookup x = some c ->
  ((x,NameKind.free) ∈ ns /\ (cells.lookup x).getD 0 = c) \/ cs.lookup x = some c
 | [],_,h => .inr h
 | (n,k) :: r,cs,h => by
  rcases iR cells r _ h with ⟨h1,h2⟩ | h1
  ·exact .inl ⟨List.mem_cons_of_mem _ h1,h2⟩
  ·by_cases hk : k = .free
   ·subst hk
    simp only [beq_self_eq_true,if_true] at h1
    by_cases hx : x = n
    ·subst hx
     simp only [List.lookup_cons,beq_self_eq_true] at h1
     exact .inl ⟨List.mem_cons_self,Option.some.inj h1⟩
    ·have hb : (x == n) = false:=by simpa using hx
     simp only [List.lookup_cons,hb] at h1
     exact .inr h1
   ·have hb : (k == NameKind.free) = false:=by simpa using hk
    simp only [hb,Bool.false_eq_true,if_false] at h1
    exact .inr h1
theorem f9 (cells : List (Str × Addr)) {x : Str} {c : Addr} (e : cells.lookup x = some c) : ∀ (ns : List (Str × NameKind)) (cs : List (Str × Addr)),((x,NameKind.free) ∈ ns \/ cs.lookup x = some c) ->
  (bJ cells ns cs).lookup x = some c
 | [],_,h => by
  rcases h with h | h
  ·cases h
  ·exact h
 | (n,k) :: r,cs,h => by
  refine f9 cells e r _ ?_
  rcases h with h | h
  ·rcases List.mem_cons.mp h with z | z
   ·cases z
    right
    simp only [beq_self_eq_true,if_true,List.lookup_cons,e,Option.getD_some]
   ·exact .inl z
  ·right
   by_cases hk : (k == NameKind.free) = true
   ·rw [if_pos hk]
    by_cases hx : x = n
    ·subst hx
     simp only [List.lookup_cons,beq_self_eq_true,e,Option.getD_some]
    ·have hb : (x == n) = false:=by simpa using hx
     simp only [List.lookup_cons,hb]
     exact h
   ·rw [if_neg hk]
    exact h
theorem j0 {env : Env} : ∀ {names : List (Str × NameKind)} {x : Str},names.lookup x = some .free ->
  (names.map fun (n,k) => if (k == NameKind.free && env.scope.kind == .function && env.kindOf n == some .cell) then (n,NameKind.cell) else (n,k)).lookup x = some .cell \/
  (names.map fun (n,k) => if (k == NameKind.free && env.scope.kind == .function && env.kindOf n == some .cell) then (n,NameKind.cell) else (n,k)).lookup x = some .free
 | [],_,h => by simp at h
 | (n,k) :: r,x,h => by
  have ih:=@j0 env r x
  show List.lookup x ((if (k == NameKind.free && env.scope.kind == .function && env.kindOf n == some .cell) = true then (n,NameKind.cell) else (n,k)) :: _) = _ \/
   List.lookup x ((if (k == NameKind.free && env.scope.kind == .function && env.kindOf n == some .cell) = true then (n,NameKind.cell) else (n,k)) :: _) = _
  cases hx : x == n with
  | true =>
   simp only [List.lookup_cons,hx] at h
   cases h
   by_cases hc : (NameKind.free == NameKind.free && env.scope.kind == .function && env.kindOf n == some .cell) = true
   ·rw [if_pos hc]; simp only [List.lookup_cons,hx]; first | exact .inl trivial | exact .inl rfl
   ·rw [if_neg hc]; simp only [List.lookup_cons,hx]; first | exact .inr trivial | exact .inr rfl
  | false =>
   simp only [List.lookup_cons,hx] at h
   by_cases hc : (k == NameKind.free && env.scope.kind == .function && env.kindOf n == some .cell) = true
   ·rw [if_pos hc]; simp only [List.lookup_cons,hx]; exact ih h
   ·rw [if_neg hc]; simp only [List.lookup_cons,hx]; exact ih h
theorem gH {env : Env} : ∀ {names : List (Str × NameKind)} {x : Str} {k' : NameKind},k' = .cell \/ k' = .free -> (∀ y ∈ names,y.2 ≠ .cell) ->
  (names.map fun (n,k) => if (k == NameKind.free && env.scope.kind == .function && env.kindOf n == some .cell) then (n,NameKind.cell) else (n,k)).lookup x = some k' -> (x,NameKind.free) ∈ names
 | [],_,_,_,_,h => by simp at h
 | (n,k) :: r,x,k',hk',hn,h => by
  have ih:=@gH env r x k' hk' (fun y hy => hn y (List.mem_cons_of_mem _ hy))
  have h' : List.lookup x ((if (k == NameKind.free && env.scope.kind == .function && env.kindOf n == some .cell) = true then (n,NameKind.cell) else (n,k)) :: (r.map fun (n,k) => if (k == NameKind.free && env.scope.kind == .function && env.kindOf n == some .cell) then (n,NameKind.cell) else (n,k))) = some k' := h
  have hkc : k ≠ .cell:=hn (n,k) List.mem_cons_self
  cases hx : x == n with
  | true =>
   have hxn : x = n:=by simpa using hx
   subst hxn
   by_cases hc : (k == NameKind.free && env.scope.kind == .function && env.kindOf x == some .cell) = true
   ·have hk : k = .free:=by
     simp only [Bool.and_eq_true,beq_iff_eq] at hc
     exact hc.1.1
    subst hk
    exact List.mem_cons_self
   ·rw [if_neg hc] at h'
    simp only [List.lookup_cons,beq_self_eq_true] at h'
    have hk : k = k' := Option.some.inj h'
    rcases hk' with z | z
    ·exact absurd (hk.trans z) hkc
    ·rw [hk,z]; exact List.mem_cons_self
  | false =>
   refine List.mem_cons_of_mem _ (ih ?_)
   by_cases hc : (k == NameKind.free && env.scope.kind == .function && env.kindOf n == some .cell) = true
   ·rw [if_pos hc] at h'
    simpa only [List.lookup_cons,hx] using h'
   ·rw [if_neg hc] at h'
    simpa only [List.lookup_cons,hx] using h'
def aC (ix : List (Option Nat)) (σ : St) : St:=ix.map fun o => match o with
 | none => none
 | some i => (σ[i]?).join
structure BlkScope (NX : List Str) (scX : Scope) (N : List Str) (ix : List (Option Nat)) (sc : Scope) : Prop where
 kind : sc.kind = .function
 nd : N.Nodup
 nocell : ∀ y ∈ sc.names,y.2 ≠ .cell
 locs : ∀ y ∈ sc.names,y.2 = .local -> sc.names.lookup y.1 = some .local
 free : ∀ y ∈ sc.names,y.2 = .free -> scX.names.lookup y.1 = some .cell \/ scX.names.lookup y.1 = some .free
 len : ix.length = N.length
 at_ : ∀ p ∈ N.zip ix,∀ i,p.2 = some i -> NX[i]? = some p.1 /\ sc.names.lookup p.1 = some .free
def bf (X : Cx) (N : List Str) (scope : Scope) (fp : List Addr) (s : Shared) (H : Hp) (C : Addr) : Cx:=
 { prog:=X.prog,w:=X.w,K:=X.K,mg:=X.mg,base:=X.base,A:=X.A,N:=N,s₀:=s,H₀:=H,env:=compEnvC scope (bJ X.env.cells scope.names []) C X.env,outer:=X.stack,stack:=X.stack,ex:=fp,fn:=fun _ => false,calm:=X.calm,pn:=X.pn,xe:=fun _ _ => False }
theorem lK {names : List (Str × NameKind)} {x : Str} (h : names.lookup x = some .free) : (x,NameKind.free) ∈ names:=PySem.mem_of_lookup h
section
variable {X : Cx} {pins : List (Addr × Obj)} {σ : St} {H : Hp} {s : Shared} {N : List Str} {ix : List (Option Nat)} {scope : Scope} {fp : List Addr}
theorem BlkScope.clos (S : BlkScope X.N X.env.scope N ix scope) (ok : X.Ok) : ∀ y ∈ scope.names,y.2 = .free -> ∃ c,X.env.cells.lookup y.1 = some c:=fun y hy hf => ok.has y.1 (S.free y hy hf)
theorem pW {D C : Addr} {h' : Heap} {tk : Nat} {m : Str -> Option Value} (I : Inv X pins σ H s) (S : BlkScope X.N X.env.scope N ix scope) (hf : ∀ b ∈ fp,iq X pins H b)
  (hfo : ∀ b ∈ fp,∃ o,s.heap.get? b = some o /\ ∀ v,o.data ≠ .cell v)
  (hD : s.heap.objs.size <= D) (hC : s.heap.objs.size <= C) (hDC : D ≠ C) (hk : ∀ b o,s.heap.get? b = some o -> h'.get? b = some o) (hns : h'.Ns C m)
  (hl : ∃ n,h'.get? D = some { cls:=.type "list",data:=.seq ([] : List Value).toArray n }) :
  Inv (bf X N scope fp s H C) pins (aC ix σ) (upd H D (.lst [])) { s with heap:=h',toks:=tk }:=by
 have fresh : ∀ {a : Addr},s.heap.objs.size <= a -> H a = none:=fun h => I.hok.fresh h
 have cl_of : ∀ x c,(bJ X.env.cells scope.names []).lookup x = some c -> X.env.cells.lookup x = some c:=fun x c e => by
  rcases iR _ _ _ e with ⟨h1,h2⟩ | h1
  ·obtain ⟨c',e'⟩:=S.clos I.ok _ h1 rfl
   have e'' : X.env.cells.lookup x = some c' := e'
   rw [e''] at h2
   rw [e'']
   exact congrArg some h2
  ·simp at h1
 have ltO : ∀ {b : Addr} {o : Obj},s.heap.get? b = some o -> b < s.heap.objs.size:=fun e => Heap.lt_size e
 have neC : ∀ {b : Addr} {o : Obj},s.heap.get? b = some o -> b ≠ C:=fun e => Nat.ne_of_lt (Nat.lt_of_lt_of_le (ltO e) hC)
 have neD : ∀ {b : Addr} {o : Obj},s.heap.get? b = some o -> b ≠ D:=fun e => Nat.ne_of_lt (Nat.lt_of_lt_of_le (ltO e) hD)
 have cellG : ∀ x c,X.env.cells.lookup x = some c -> ∃ o,s.heap.get? c = some o:=fun x c e => by
  obtain ⟨v,o,ho,_⟩:=I.cell x c e
  exact ⟨o,ho⟩
 refine ⟨⟨I.ok.mod,?_,I.ok.glob,I.ok.blt,hC,fun x y c e1 e2 => I.ok.inj x y c (cl_of x c e1) (cl_of y c e2),fun x hx => ?_,fun x c h _ => ?_,I.ok.hd,I.ok.frames,.inl rfl,fun b hb => ?_,I.bs,Nat.le_trans I.ok.bsz I.sz,fun b o e hb => ?_,fun b hb hb2 => ?_,I.stack,I.stkFree⟩,
  rfl,I.bare,Un.laid hk hD (fresh hD),⟨m,hns,fun j x v e1 e2 e3 => ?_⟩,fun x c e => ?_,?_,fun x c e => ?_,fun p hp => ?_,I.hok.laid hk hD ?_,?_⟩
 ·exact S.kind
 ·have hx' : (x,NameKind.free) ∈ scope.names:=by
   rcases hx with hx | hx
   ·exact gH (.inl rfl) S.nocell hx
   ·exact gH (.inr rfl) S.nocell hx
  obtain ⟨c,e⟩:=S.clos I.ok _ hx' rfl
  exact ⟨c,f9 _ e _ _ (.inl hx')⟩
 ·exact absurd (show false = true from h) Bool.false_ne_true
 ·obtain ⟨f0,f1,f2,f3,f4,f5⟩:=hf b hb
  obtain ⟨o,e,_⟩:=hfo b hb
  exact ⟨neC e,fun x c ec => f4 x c (cl_of x c ec)⟩
 ·obtain ⟨f0,f1,f2,f3,f4,f5⟩:=hf b hb
  rcases f3 with z | z
  ·exact I.ok.noex b o e z
  ·exact absurd (Nat.lt_of_lt_of_le (Heap.lt_size (I.ok.bs b o e).1) z) (Nat.lt_irrefl _)
 ·obtain ⟨f0,f1,f2,f3,f4,f5⟩:=hf b hb
  rcases List.mem_cons.mp (I.stkSub b hb2) with z | z
  ·exact f1 z
  ·exact f2 z
 ·-- a name's value
  obtain ⟨mX,hnX,hlX⟩:=id I.loc
  have hj : (aC ix σ)[j]? = some (some v):=e2
  unfold aC at hj
  rw [List.getElem?_map] at hj
  cases ej : ix[j]? with
  | none => rw [ej] at hj; cases hj
  | some o =>
   rw [ej] at hj
   cases o with
   | none => cases hj
   | some i =>
    have hj' : (σ[i]?).join = some v:=Option.some.inj hj
    have hz : (x,some i) ∈ N.zip ix:=List.mem_iff_getElem?.mpr ⟨j,by rw [List.getElem?_zip_eq_some]; exact ⟨e1,ej⟩⟩
    obtain ⟨hNi,hfr⟩:=S.at_ _ hz i rfl
    have hmem:=lK hfr
    have hσ : σ[i]? = some (some v):=by
     cases q : σ[i]? with
     | none => rw [q] at hj'; cases hj'
     | some w' =>
      rw [q] at hj'
      have q' : w' = some v:=hj'
      rw [q']
    have hvx : X.env.scope.names.lookup x = some .cell \/ X.env.scope.names.lookup x = some .free:=S.free _ hmem rfl
    obtain ⟨u,r,lk⟩:=hlX i x v hNi hσ (.inr hvx)
    refine ⟨u,r,.inr ⟨?_,?_⟩⟩
    ·exact j0 hfr
    ·rcases lk with ⟨k,_⟩ | ⟨k,c,ec,ci⟩
     ·have k' : X.env.scope.names.lookup x = some .local:=k
      rcases hvx with z | z
      ·rw [z] at k'; cases k'
      ·rw [z] at k'; cases k'
     ·obtain ⟨oc,hoc,hocd⟩:=ci
      exact ⟨c,f9 _ ec _ _ (.inl hmem),oc,hk c oc hoc,hocd⟩
 ·obtain ⟨v,o,ho,hd⟩:=I.cell x c (cl_of x c e)
  exact ⟨v,o,hk c o ho,hd⟩
 ·show upd H D (.lst []) C = none
  rw [ao (Ne.symm hDC)]
  exact fresh hC
 ·obtain ⟨o,ho⟩:=cellG x c (cl_of x c e)
  rw [ao (neD ho)]
  exact I.freeC x c (cl_of x c e)
 ·obtain ⟨e,n,ne,nf,d⟩:=I.pin p hp
  refine ⟨hk _ _ e,by rw [ao (neD e)]; exact n,neC e,fun z => ?_,d⟩
  rcases List.mem_cons.mp (I.stkSub p.1 z) with q | q
  ·exact ne q
  ·exact nf q
 ·obtain ⟨n,hl⟩:=hl
  exact ⟨Nat.zero_le _,[],n,.nil,hl⟩
 ·show (aC ix σ).length = N.length
  unfold aC
  rw [List.length_map]
  exact S.len
end
end L2
set_option Elab.async false
set_option linter.all false
set_option maxRecDepth 100000
namespace L2
open PySem PySem.Spec PyProof.Rows
theorem rW {prog : Program} {w : World} {A : Around} {R : Result -> Shared -> Prop} {s : Shared} {elt target iter : Expr} {scope : Scope} {pos : Pos} {it acc : Value} {env : Env} (I : Nat -> Shared -> Prop)
  (turn : ∀ n s,I n s -> wpAny (model prog w) A (pyNext it) (fun r s₁ => match r with
   | none => R (.ok .next) s₁
   | some v => wpAny (model prog w) A (letOwnedTupleGo target it v) (fun _ s₁' => wpAny (model prog w) A (assign target env v) (fun _ s₂ => wpAny (model prog w) A (eval elt env) (fun x s₃ =>
     wpAny (model prog w) A (call (.builtin "list.append") [acc,x]) (fun _ s₄ => ∃ m,m < n /\ I m s₄) (fun _ _ => False) s₃)
     (fun _ _ => False) s₂) (fun _ _ => False) s₁') (fun _ _ => False) s₁) (fun _ _ => False) s)
  (n : Nat) (h : I n s) :
  codeAny (model prog w) A (.compLoop (.ListComp elt [⟨target,iter,[],0⟩] scope pos) 0 it acc env) R s:=by
 refine codeAny_loop rfl I (fun n s hI => ?_) n h
 show wpAny _ _ ((compTurn (.ListComp elt [⟨target,iter,[],0⟩] scope pos) 0 it acc env).onRaise (fun x => do noteFrame x env; theTreesLotGoes x)) _ _ s
 refine wpAny_noted ?_
 rw [compTurn_list1]
 refine wpAny_bind (wpAny_standAt (wpAny_bind (wpAny_mono (turn n s hI) (fun r s₁ h₁ => ?_) fun _ _ h' => h'.elim)))
 cases r with
 | none => exact wpAny_pure h₁
 | some v =>
  refine wpAny_bind (wpAny_mono h₁ (fun _ s₁' h₁' => ?_) fun _ _ h' => h'.elim)
  exact wpAny_bind (wpAny_mono h₁' (fun _ s₂ h₂ => wpAny_bind (wpAny_bind (wpAny_mono h₂ (fun x s₃ h₃ => wpAny_bind (wpAny_mono h₃
   (fun _ s₄ h₄ => wpAny_pure (wpAny_pure ⟨rfl,h₄⟩)) fun _ _ h' => h'.elim)) fun _ _ h' => h'.elim))) fun _ _ h' => h'.elim)
def rM (J : It) (ix : List (Option Nat)) (g : TG) (te : TE) (σ : St) (H : Hp) (Qd : Addr -> Hp -> Prop) : Prop:=
 ∀ D,H D = none -> ∃ W : Nat -> Nat -> St -> Hp -> Prop,(∃ m,W 0 m (aC ix σ) (upd H D (.lst []))) /\ ∀ i m σ' H',W i m σ' H' ->
  (J.stop i H' /\ Qd D H') \/ (J.go i H' /\ ∀ x H2,J.yld i H' x H2 -> g x σ' H2 fun σ3 H3 => te σ3 H3 fun y H4 => ∃ ys,H4 D = some (.lst ys) /\ ys.length < sizeLine /\ ∃ m',m' < m /\ W (i + 1) m' σ3 (upd H4 D (.lst (ys ++ [y]))))
section
variable {X : Cx} {pins : List (Addr × Obj)} {σ : St} {H : Hp} {s : Shared} {N : List Str} {ix : List (Option Nat)} {scope : Scope} {fp : List Addr} {tg elt iter : Expr} {pos spos : Pos} {J : It} {it : Addr} {tn : Nat -> Heap -> Prop} {g : TG} {te : TE} {wi : TI}
theorem wG {Qd : Addr -> Hp -> Prop} {RR : Value -> Addr -> Result -> Shared -> Prop} {E : Value -> Shared -> Prop} (I : Inv X pins σ H s) (hc : X.calm = true) (S : BlkScope X.N X.env.scope N ix scope) (T : Turn X.prog X.w X.K tg J fp it tn) (st : tn 0 s.heap) (f2 : ∀ b ∈ fp,iq X pins H b)
  (hg : ∀ C,PG (bf X N scope fp s H C) tg g) (he : ∀ C,PE (bf X N scope fp s H C) elt te) (hW : rM J ix g te σ H Qd)
  (hR : ∀ D C s' H' m,Inv X pins σ H' s' -> s'.heap.Ns C m -> iq X pins H' C -> Qd D H' -> RR (.ref D) C (.ok .next) s') :
  wpAny (model X.prog X.w) X.A (newList []) (fun acc s₃ => wpAny (model X.prog X.w) X.A (newFunctionEnv scope X.env.globals (bJ X.env.cells scope.names []) [] X.env.qual none .none (some X.env)) (fun cenv s₄ =>
   codeAny (model X.prog X.w) X.A (.compStart (.ListComp elt [⟨tg,iter,[],0⟩] scope pos) 0 (.ref it) acc { cenv with scope:=relabel scope X.env }) (RR acc cenv.locals) s₄) E s₃) E s:=by
 refine wpAny_newObj_type (wpAny_newFunctionEnv S.nocell (by intro y hy; simp at hy) (fun h₁ hns₁ hsb₁ => ?_) S.kind)
 dsimp only at hns₁ hsb₁ ⊢
 generalize hH2 : s.heap.push { cls:=.type "list",dict:=none,data:=.seq ([] : List Value).toArray } = H2 at hns₁ hsb₁ ⊢
 have hC : H2.objs.size = s.heap.objs.size + 1:=by rw [<- hH2,Heap.size_push]
 have hDC : s.heap.objs.size ≠ H2.objs.size:=by rw [hC]; exact Nat.ne_of_lt (Nat.lt_succ_self _)
 have hCle : s.heap.objs.size <= H2.objs.size:=by rw [hC]; exact Nat.le_succ _
 have below : ∀ b,b < s.heap.objs.size -> b ≠ H2.objs.size:=fun b hb => by rw [hC]; exact Nat.ne_of_lt (Nat.lt_succ_of_lt hb)
 have old : ∀ b o,s.heap.get? b = some o -> h₁.get? b = some o:=fun b o e => hsb₁.extBut b o (below b (Heap.lt_size e)) (Heap.get?_push_of_some _ (hH2 ▸ Heap.get?_push_of_some _ e))
 have hacc : ∃ n,h₁.get? s.heap.objs.size = some { cls:=.type "list",data:=.seq ([] : List Value).toArray n }:=⟨_,hsb₁.extBut _ _ hDC (Heap.get?_push_of_some _ (hH2 ▸ Heap.get?_push_size _ rfl))⟩
 have st1 : tn 0 h₁:=T.keep _ _ _ st fun b _ o e => old b o e
 have fo : ∀ b ∈ fp,∃ o,s.heap.get? b = some o /\ ∀ v,o.data ≠ .cell v:=T.obj _ _ st
 have I0 : Inv (bf X N scope fp s H H2.objs.size) pins (aC ix σ) (upd H s.heap.objs.size (.lst [])) { s with heap:=h₁,toks:=s.toks + ([] : List (Str × Value)).length }:=
  pW I S f2 fo (Nat.le_refl _) hCle hDC old hns₁ hacc
 have freshD : H s.heap.objs.size = none:=I.hok.fresh (Nat.le_refl _)
 obtain ⟨W,⟨m0,w0⟩,turn⟩:=hW s.heap.objs.size freshD
 have cl_ne : ∀ b ∈ fp,b ≠ H2.objs.size:=fun b hb => by
  obtain ⟨o,e,_⟩:=fo b hb
  exact below b (Heap.lt_size e)
 have stat : ∀ {H' : Hp},(∀ b ∈ fp,H' b = none) -> ∀ b ∈ fp,iq (bf X N scope fp s H H2.objs.size) pins H' b:=fun hn b hb => by
  obtain ⟨f0,f1,f3,f4,f5,f6⟩:=f2 b hb
  exact ⟨hn b hb,cl_ne b hb,I0.ok.exfs b hb,.inl hb,(I0.ok.exf b hb).2,f6⟩
 have fr0 : ∀ b ∈ fp,(upd H s.heap.objs.size (.lst [])) b = none:=fun b hb => by
  obtain ⟨o,e,_⟩:=fo b hb
  rw [ao (Nat.ne_of_lt (Heap.lt_size e))]
  exact (f2 b hb).1
 have loop : codeAny (model X.prog X.w) X.A (.compLoop (.ListComp elt [⟨tg,iter,[],0⟩] scope pos) 0 (.ref it) (.ref s.heap.objs.size) (compEnvC scope (bJ X.env.cells scope.names []) H2.objs.size X.env))
   (RR (.ref s.heap.objs.size) H2.objs.size) { s with heap:=h₁,toks:=s.toks + ([] : List (Str × Value)).length }:=by
  refine rW (fun n s' => ∃ i σ' H',Inv (bf X N scope fp s H H2.objs.size) pins σ' H' s' /\ tn i s'.heap /\ (∀ b ∈ fp,H' b = none) /\ W i n σ' H') ?_ m0 ⟨0,_,_,I0,st1,fr0,w0⟩
  rintro n s3 ⟨i,σ3,H3,I3,st3,fr3,w3⟩
  rcases turn i n σ3 H3 w3 with ⟨stop,qn⟩ | ⟨go,step⟩
  ·refine thn (T.done (bf X N scope fp s H H2.objs.size) rfl rfl rfl hc i pins s3 σ3 H3 _ I3 (stat fr3) st3 stop) fun r s4 ⟨hr,I4⟩ => ?_
   subst hr
   obtain ⟨m4,hn4,_⟩:=id I4.loc
   refine hR _ _ s4 H3 m4 ?_ hn4 (I.fpOk hCle I4.free) qn
   exact I.call' (ch:=fp) I4.os I4.base I4.hok I4.bare fun b hb => by
    obtain ⟨f0,f1,f3,f4,f5,f6⟩:=f2 b hb
    exact ⟨f4,f1,f5,f6⟩
  ·refine thn (T.item (bf X N scope fp s H H2.objs.size) rfl rfl rfl hc i pins s3 σ3 H3 _ I3 (stat fr3) st3 go) fun r s4 ⟨u,hr,h4⟩ => ?_
   subst hr
   refine thn h4 fun _ s5 ⟨x,H5,I5,r5,y5,st5,fr5⟩ => ?_
   have I5' := I5.pinned (stat fr5) (T.obj _ _ st5)
   refine thn (hg _ _ s5 σ3 H5 x u _ I5' r5 (step x H5 y5)) fun _ s6 ⟨σ6,H6,I6,q6⟩ => ?_
   refine thn (he _ _ s6 σ6 H6 _ I6 q6) fun yv s7 ⟨y,H7,I7,r7,ys,hD7,hz7,m',hm,w7⟩ => ?_
   refine thn (aV (X:=bf X N scope fp s H H2.objs.size) _ s7 σ6 H7 (.ref s.heap.objs.size) [y] (.ref s.heap.objs.size) [yv] (fun _ H8 => W (i + 1) m' σ6 H8) I7 rfl (.cons r7 .nil) ⟨_,ys,y,rfl,rfl,hD7,hz7,w7⟩) fun _ s8 ⟨_,H8,I8,_,w8⟩ => ?_
   refine ⟨m',hm,i + 1,σ6,H8,I8.unpinned,T.keep _ _ _ st5 fun b hb o e => (I8.pin (b,o) (List.mem_append_right _ (List.mem_append_right _ (bZ hb e)))).1,fun b hb => ?_,w8⟩
   obtain ⟨o,e,d⟩:=T.obj _ _ st5 b hb
   exact (I8.pin (b,o) (List.mem_append_right _ (List.mem_append_right _ (bZ hb e)))).2.1
 exact codeAny_compStart_list loop (T.self _ _ _ _ _ st1 loop)
def Af (ix : List (Option Nat)) (wi : TI) (g : TG) (te : TE) : TE:=fun σ H Q => wi σ H fun J H1 => rM J ix g te σ H1 fun D H' => Q (.ref D) H'
theorem gF (hc : X.calm = true) (S : BlkScope X.N X.env.scope N ix scope) (hi : PI X tg iter wi) (hg : ∀ fp s H C,PG (bf X N scope fp s H C) tg g) (he : ∀ fp s H C,PE (bf X N scope fp s H C) elt te)
  (hs : ∀ x,foldedSetIterable iter X.env x = pure x:=by intro _; rfl) : PE X (.ListComp elt [⟨tg,iter,[],0⟩] scope pos) (Af ix wi g te):=by
 intro pins s σ H Q I h
 rw [eval_ListComp]
 refine wpAny_comprehension_free (use:=none) rfl hs (eX (S.clos I.ok)) S.kind S.locs (thn (hi pins s σ H _ I h) fun v s1 h1 => thn h1 fun itv s2 h2 => ?_)
 obtain ⟨it,fp,tn,J,H2,e,I2,T,st2,f2,hW⟩:=h2
 subst e
 refine wG (RR:=fun acc C => compPost (model X.prog X.w) X.A X.xe none (EP X pins σ Q) acc C) I2 hc S T st2 f2 (hg _ _ _) (he _ _ _) hW ?_
 intro D C s' H' m I' hn fC q
 exact ⟨m,hn,fun h' sb => ⟨.ref D,H',I'.turned (t' := s'.toks) (fun b o hb e => (sb.2 b hb).trans e) fC.1 fC.2.1 fC.2.2.2.1 fC.2.2.2.2.1 fC.2.2.2.2.2,rfl,q⟩⟩
end
theorem mz {lo : Int} {n : Nat} {ix : List (Option Nat)} {te : TE} {σ : St} {H : Hp} {Qd : Addr -> Hp -> Prop} (Pv : Addr -> Nat -> List V -> Hp -> Prop)
  (h0 : ∀ D,H D = none -> Pv D 0 [] (upd H D (.lst [])))
  (hs : ∀ D i ys H' (Q' : VK),H D = none -> i < n -> H' D = some (.lst ys) -> Pv D i ys H' -> (∀ y H4,H4 D = some (.lst ys) -> ys.length < sizeLine -> Pv D (i + 1) (ys ++ [y]) (upd H4 D (.lst (ys ++ [y]))) -> Q' y H4) ->
   te ((aC ix σ).set 0 (some (.int (lo + i)))) H' Q')
  (hd : ∀ D ys H',H D = none -> H' D = some (.lst ys) -> Pv D n ys H' -> Qd D H') : rM (Itr lo n) ix (aL 0) te σ H Qd:=by
 intro D hD
 refine ⟨fun i m σ' H' => m = n - i /\ i <= n /\ (σ' = aC ix σ \/ ∃ t,σ' = (aC ix σ).set 0 t) /\ ∃ ys,H' D = some (.lst ys) /\ Pv D i ys H',⟨n,by simp,Nat.zero_le _,.inl rfl,[],ae,h0 D hD⟩,?_⟩
 rintro i m σ' H' ⟨rfl,hi,hσ,ys,hy,p⟩
 by_cases hlt : i < n
 ·refine .inr ⟨hlt,fun x H2 y => ?_⟩
  obtain ⟨e1,e2⟩:=y
  subst e1
  subst e2
  have es : σ'.set 0 (some (V.int (lo + i))) = (aC ix σ).set 0 (some (V.int (lo + i))):=by
   rcases hσ with z | ⟨t,z⟩
   ·rw [z]
   ·rw [z,List.set_set]
  show te (σ'.set 0 (some (V.int (lo + i)))) _ _
  rw [es]
  refine hs D i ys _ _ hD hlt hy p fun y H4 h4 hz p4 => ⟨ys,h4,hz,n - (i + 1),by omega,rfl,hlt,.inr ⟨_,rfl⟩,ys ++ [y],ae,p4⟩
 ·have e : i = n:=by omega
  subst e
  exact .inl ⟨Nat.le_refl _,hd D ys H' hD hy p⟩
theorem kc {K : PySem.W.Frag} {a : Addr} {xs : List V} {ix : List (Option Nat)} {te : TE} {σ : St} {H : Hp} {Qd : Addr -> Hp -> Prop} (Pv : Addr -> Nat -> List V -> Hp -> Prop)
  (h0 : ∀ D,H D = none -> Pv D 0 [] (upd H D (.lst [])))
  (hl : ∀ D i ys H',i <= xs.length -> Pv D i ys H' -> SqL K H' a xs)
  (hs : ∀ D i x ys H' (Q' : VK),H D = none -> xs[i]? = some x -> H' D = some (.lst ys) -> Pv D i ys H' -> (∀ y H4,H4 D = some (.lst ys) -> ys.length < sizeLine -> Pv D (i + 1) (ys ++ [y]) (upd H4 D (.lst (ys ++ [y]))) -> Q' y H4) ->
   te ((aC ix σ).set 0 (some x)) H' Q')
  (hd : ∀ D ys H',H D = none -> H' D = some (.lst ys) -> Pv D xs.length ys H' -> Qd D H') : rM (Itl K a) ix (aL 0) te σ H Qd:=by
 intro D hD
 refine ⟨fun i m σ' H' => m = xs.length - i /\ i <= xs.length /\ (σ' = aC ix σ \/ ∃ t,σ' = (aC ix σ).set 0 t) /\ ∃ ys,H' D = some (.lst ys) /\ Pv D i ys H',⟨xs.length,by simp,Nat.zero_le _,.inl rfl,[],ae,h0 D hD⟩,?_⟩
 rintro i m σ' H' ⟨rfl,hi,hσ,ys,hy,p⟩
 have q:=hl D i ys H' hi p
 by_cases hlt : i < xs.length
 ·refine .inr ⟨⟨xs,xs[i],q,by simp [hlt]⟩,fun x H2 y => ?_⟩
  obtain ⟨e1,e2⟩:=y
  subst e1
  have ex:=e2 xs q
  have es : σ'.set 0 (some x) = (aC ix σ).set 0 (some x):=by
   rcases hσ with z | ⟨t,z⟩
   ·rw [z]
   ·rw [z,List.set_set]
  show te (σ'.set 0 (some x)) _ _
  rw [es]
  refine hs D i x ys _ _ hD ex hy p fun y H4 h4 hz p4 => ⟨ys,h4,hz,xs.length - (i + 1),by omega,rfl,hlt,.inr ⟨_,rfl⟩,ys ++ [y],ae,p4⟩
 ·have e : i = xs.length:=by omega
  subst e
  exact .inl ⟨⟨xs,q,Nat.le_refl _⟩,hd D ys H' hD hy p⟩
section
variable {X : Cx}
def AE (K : PySem.W.Frag) : List V -> Hp -> VK -> Prop:=fun xs H Q => ∃ x n t b,xs = [x,.ty n] /\ TyOf K H x t /\ PySem.W.kitOne K t (.type n) = some b /\ Q (.bl b) H
theorem jA : gO X (.builtin "isinstance") (AE X.K):=by
 intro pins s σ H xs us Q I r h
 obtain ⟨x,n,t,b,rfl,ty,e,q⟩:=h
 obtain ⟨u,v,rfl,ru,rv⟩:=r.two
 cases (show v = Value.type n from rv)
 exact vy I ru ty e fun tk => ⟨.bl b,H,I.tok tk,rfl,q⟩
end
section
variable {prog : Program} {w : World} {A : Around} {E : Value -> Shared -> Prop} {s : Shared}
end
section
variable {X : Cx} {pos : Pos}
end
end L2
set_option Elab.async false
set_option linter.all false
set_option maxRecDepth 100000
namespace HT
open PySem PySem.Spec PyProof.Rows
section
variable {prog : Program} {w : World} {A : Around} {E : Value -> Shared -> Prop} {s : Shared}
theorem getItem_tuple_whole {t sl : Addr} {items : Array Value} {vl vu : Value} {lo hi : Option Int} {Q : Value -> Shared -> Prop} (ht : IsTup s.heap t items) (hs : s.heap.IsSliceOf sl vl vu .none) (pl : IsPart vl lo) (pu : IsPart vu hi)
  (hw : sIx items.size 0 lo = 0 /\ sIx items.size items.size hi = items.size) (h : Q (.ref t) s) : wpAny (model prog w) A (getItem (.ref t) (.ref sl)) Q E s:=by
 obtain ⟨os,hos,hcs,hds⟩:=id hs
 have hTs : s.TypeIs (.ref sl) "slice" := ⟨os,hos,hcs⟩
 unfold getItem
 try with_reducible refine wpAny_holding ?_
 first | refine wpAny_bind (wpAny_pure ?_) | skip
 refine wpAny_bind (wpAny_sequenceKey ht.typeIs (by decide) ?_)
 refine wpAny_bind (wpAny_callSpecial?_slot (name:=Str.ofString "__getitem__") ht.typeIs PyProof.Rows.slot_tuple_getitem
  (wpAny_call_entry PyProof.Rows.slot_tuple_getitem ht.typeIs entry_tuple_getitem ?_ (args_tuple_getitem _ _)))
 show wpAny _ _ (Builtin.Tuple.tupleItemsOf (.ref t) >>= _) _ _ s
 refine wpAny_bind (tupleItemsOf_ ht ?_)
 refine wpAny_bind (wpAny_typeOf hTs ?_)
 rw [if_pos (by decide)]
 refine wpAny_bind (fy hs pl pu ?_)
 have hyes : ((((sIx items.size 0 lo : Nat) : Int) == 0 && (1 : Int) == 1 && (sIx items.size items.size hi - sIx items.size 0 lo) == items.size) = true):=by
  rw [hw.1,hw.2]; simp
 show wpAny _ _ (if (((sIx items.size 0 lo : Nat) : Int) == 0 && (1 : Int) == 1 && (sIx items.size items.size hi - sIx items.size 0 lo) == items.size) = true then _ else _) _ _ s
 rw [if_pos hyes]
 unfold Builtin.Tuple.tupleIsExact
 refine wpAny_bind (wpAny_bind (wpAny_typeOf ht.typeIs (wpAny_pure ?_)))
 rw [if_pos (by decide)]
 first
  | exact wpAny_bind (wpAny_rule (wpAny_pure ⟨_,rfl,wpAny_pure h⟩))
  | exact wpAny_bind (wpAny_rule (wpAny_bind (wpAny_pure (wpAny_pure ⟨_,rfl,wpAny_pure h⟩))))
  | exact wpAny_bind (wpAny_bind (wpAny_rule (wpAny_pure ⟨_,rfl,wpAny_pure h⟩)))
end
end HT
namespace L2
open PySem PySem.Spec PyProof.Rows
section
variable {X : Cx}
def Ab (K : PySem.W.Frag) : V -> Option Int -> Option Int -> Hp -> VK -> Prop:=fun x lo hi H Q => ∃ a xs,x = .ref a /\ SqT K H a xs /\
 (HT.sIx xs.length 0 lo = 0 /\ HT.sIx xs.length xs.length hi = xs.length) /\ Q (.ref a) H
theorem yC : SlR X (Ab X.K):=by
 intro pins s σ H x v vl vu lo hi sl Q I rx hs pl pu h
 obtain ⟨a,xs,rfl,hx,hw,q⟩:=h
 cases rx
 obtain ⟨its,r,ht,hz⟩:=I.tuple hx
 have hlen : its.toArray.size = xs.length:=by rw [List.size_toArray]; exact r.length.symm
 refine ⟨"tuple",_,PyProof.Rows.slot_tuple_getitem.lookup,ht.typeIs,?_⟩
 exact HT.getItem_tuple_whole ht hs pl pu (by rw [hlen]; exact hw) ⟨.ref a,H,I,rfl,q⟩
def rSl (K : PySem.W.Frag) : V -> Option Int -> Option Int -> Hp -> VK -> Prop:=fun x lo hi H Q => ∃ a xs,x = .ref a /\
 ((SqL K H a xs /\ ∀ p,H p = none -> Q (.ref p) (upd H p (.lst (iy xs lo hi)))) \/
  (SqT K H a xs /\ (iy xs lo hi = xs -> Q (.ref a) H) /\ ∀ p,H p = none -> Q (.ref p) (upd H p (.tup (iy xs lo hi)))))
theorem tZ {xs : List V} {lo hi : Option Int} (h : HT.sIx xs.length 0 lo = 0 /\ HT.sIx xs.length xs.length hi = xs.length) : iy xs lo hi = xs:=by
 unfold iy
 rw [h.1,h.2]
 simp
theorem zx : SlR X (rSl X.K):=by
 intro pins s σ H x v vl vu lo hi sl Q I rx hs pl pu h
 obtain ⟨a,xs,rfl,h⟩:=h
 rcases h with ⟨hx,q⟩ | ⟨hx,q1,q2⟩
 ·exact rm pins s σ H _ v vl vu lo hi sl Q I rx hs pl pu ⟨a,xs,rfl,hx,q⟩
 ·by_cases hw : HT.sIx xs.length 0 lo = 0 /\ HT.sIx xs.length xs.length hi = xs.length
  ·exact yC pins s σ H _ v vl vu lo hi sl Q I rx hs pl pu ⟨a,xs,rfl,hx,hw,q1 (tZ hw)⟩
  ·exact zy pins s σ H _ v vl vu lo hi sl Q I rx hs pl pu ⟨a,xs,rfl,hx,hw,q2⟩
end
structure FunD (K : PySem.W.Frag) (x qual : Str) (st : Stmt) (dV : Value) (f : Addr) (fd : FuncData) : Prop where
 ex : ∃ (oc : Value) (od : Option Addr) (kV doc pm : Value) (an : Option Addr) (cdv ct : Value) (osl : Array (Option Value)),
  fd = PySem.W.fnOf x qual (aD st) (az st) (ai st) dV kV doc pm an cdv ct /\ K.lookup f = some ⟨oc,od,.func fd,osl⟩ /\ PySem.W.codeIn K cdv qual = true
 kp : PySem.W.keepIn K (.ref f) = true
section
variable {P : Program} {w : World} {K : PySem.W.Frag} {mg : Str -> Option Value} {base : Heap}
theorem FunD.ok {x qual : Str} {st : Stmt} {dV : Value} {f : Addr} {fd : FuncData} {N ps : List Str} {k : Nat} {sp : Sp} (F : FunD K x qual st dV f fd) (S : FnScope N ps (ai st)) (len : ∀ vs H Q E,sp vs H Q E -> vs.length = ps.length)
  (hbody : ∀ (cdv : Value) (A : Around) (outer : List Env) (s : Shared) (H : Hp) (vs : List V) (Q : VK) (E : XK),Room k (A.deeper (envOfC qual (ai st) s.heap.objs.size f cdv)) -> sp vs H Q E ->
   ∃ t,PSs (t4 CX0 P w K mg base N qual (ai st) f cdv A outer s H E).nox (az st) t /\ t { nx:=fun _ H' => Q .non H',rt:=Q } (start N vs) H) : FnOk P w K mg base CX0 (k + 1) f fd ps sp:=by
 obtain ⟨oc,od,kV,doc,pm,an,cdv,ct,osl,rfl,lk,hcd⟩:=F.ex
 refine yH lk hcd S len fun A outer s H vs Q E hr hsp => ?_
 obtain ⟨t,h,q⟩:=hbody cdv A outer s H vs Q E hr hsp
 exact ⟨t,h.nox,q⟩
theorem FunD.binds {x qual : Str} {st : Stmt} {f : Addr} {fd : FuncData} {ps : List Str} (F : FunD K x qual st .none f fd)
  (h : ∀ (kV doc pm : Value) (an : Option Addr) (cdv ct : Value) (us : List Value),us.length = ps.length -> bindArgs (PySem.W.fnOf x qual (aD st) (az st) (ai st) .none kV doc pm an cdv ct) ⟨us,[]⟩ = pure (ps.zip us)) : Binds K fd ps []:=by
 obtain ⟨oc,od,kV,doc,pm,an,cdv,ct,osl,rfl,lk,hcd⟩:=F.ex
 exact .all (h kV doc pm an cdv ct)
theorem FunD.bindsD {x qual : Str} {st : Stmt} {f T : Addr} {fd : FuncData} {ps : List Str} {ds : List Value} {o : Obj} {items : Array Value} {n : Nat} (F : FunD K x qual st (.ref T) f fd) (ho : K.lookup T = some o) (hs : o.data = .seq items n) (m : Nat) (hm : m + ds.length = ps.length)
  (h : ∀ (kV doc pm : Value) (an : Option Addr) (cdv ct : Value) (us : List Value),us.length = m -> ∃ k : Option (Array Value) -> Sem (List (Str × Value)),
   bindArgs (PySem.W.fnOf x qual (aD st) (az st) (ai st) (.ref T) kV doc pm an cdv ct) ⟨us,[]⟩ = seqItems? (.ref T) >>= k /\ k (some items) = pure (ps.zip (us ++ ds))) : Binds K fd ps ds:=by
 obtain ⟨oc,od,kV,doc,pm,an,cdv,ct,osl,rfl,lk,hcd⟩:=F.ex
 intro s us X hl
 obtain ⟨k,h1,h2⟩:=h kV doc pm an cdv ct us (by rw [List.length_append] at hl; omega)
 exact BindsTo.of_defaults (fd:=PySem.W.fnOf x qual (aD st) (az st) (ai st) (.ref T) kV doc pm an cdv ct) rfl (X _ _ ho) hs h1 h2
theorem aN {x qual : Str} {st : Stmt} {f : Addr} {oc : Value} {od an : Option Addr} {osl : Array (Option Value)} {dV kV doc pm cdv ct : Value} (l : K.lookup f = some ⟨oc,od,.func (PySem.W.fnOf x qual (aD st) (az st) (ai st) dV kV doc pm an cdv ct),osl⟩)
  (c : PySem.W.codeIn K cdv qual = true) (k : PySem.W.keepIn K (.ref f) = true) : FunD K x qual st dV f (PySem.W.fnOf x qual (aD st) (az st) (ai st) dV kV doc pm an cdv ct):=⟨⟨oc,od,kV,doc,pm,an,cdv,ct,osl,rfl,l,c⟩,k⟩
structure DefOk (P : Program) (w : World) (K : PySem.W.Frag) (mg : Str -> Option Value) (base : Heap) (x : Str) (k : Nat) (ps : List Str) (dvs : List V) (sp : Sp) : Prop where
 ex : ∃ (f : Addr) (fd : FuncData) (ds : List Value),mg x = some (.ref f) /\ PySem.W.keepIn K (.ref f) = true /\ Vals dvs ds /\ Binds K fd ps ds /\ FnOk P w K mg base CX0 k f fd ps sp
end
section
variable {X : Cx} {x : Str} {j k : Nat} {ps : List Str} {dvs : List V} {sp : Sp} {p pos : Pos} {e : Expr} {es : List Expr} {t : TA}
theorem aJ (G : DefOk X.prog X.w X.K X.mg X.base x k ps dvs sp) (hr : Room j X.A) (ha : PA X (e :: es) t) (hx : ∀ e s,X.xe e s = False:=by intro _ _; rfl) (hkj : k <= j:=by decide) (hg : Gl X x:=by rfl) (hdb : (x == ("__debug__" : Str)) = false:=by decide)
  (he : starEach (e :: es) X.env = (false,eval e X.env) :: starEach es X.env:=by rfl) (hpl : (backTo pos (starEach es X.env)).any (·.1) = false:=by rfl) :
  PE X (.Call (.Name x p) (e :: es) [] pos) (yO sp dvs E0 t):=by
 obtain ⟨f,fd,ds,hm,hk,hd,hb,F⟩:=G.ex
 exact yr F (hr.mono hkj) hg hm hk hb hd (fun _ _ _ _ _ _ _ h => h.elim) ha hdb he hpl
end
theorem k0 (K : PySem.W.Frag) : PySem.W.kitOne K (.type "int") (.type "int") = some true:=by with_unfolding_all rfl
theorem jM (K : PySem.W.Frag) : PySem.W.kitOne K (.type "int") (.type "bool") = some false:=by with_unfolding_all rfl
theorem aj {H : Hp} {p : Addr} (h : H p = none) (o : HO) : Same H (upd H p o):=fun b u q => by rw [ao (aq q h)]; exact q
theorem small {n : Nat} (h : n <= 1000) : n <= sizeLine:=Nat.le_of_lt (aA h)
theorem Same.tup {K : PySem.W.Frag} {H H' : Hp} {a : Addr} {xs : List V} (e : Same H H') (h : SqT K H a xs) : SqT K H' a xs:=by
 rcases h with (h | ⟨o,h⟩) | h
 ·exact .inl (.inl (e _ _ h))
 ·exact .inl (.inr ⟨o,e _ _ h⟩)
 ·exact .inr h
theorem bF : bootBuiltins "len" = some (.builtin "len"):=by decide +kernel
theorem wD : bootBuiltins "min" = some (.builtin "min"):=by decide +kernel
theorem cq : bootBuiltins "isinstance" = some (.builtin "isinstance"):=by decide +kernel
theorem tT : bootBuiltins "int" = some (.type "int"):=by decide +kernel
theorem uP : bootBuiltins "bool" = some (.type "bool"):=by decide +kernel
theorem dX : bootBuiltins "tuple" = some (.type "tuple"):=by decide +kernel
theorem jz : bootBuiltins "list" = some (.type "list"):=by decide +kernel
theorem x5 : bootBuiltins "dict" = some (.type "dict"):=by decide +kernel
theorem kT : bootBuiltins "reversed" = some (.type "reversed"):=by decide +kernel
end L2
set_option Elab.async false
set_option linter.all false
set_option maxRecDepth 100000
namespace L2
open PySem PySem.Spec PyProof.Rows
def BIG : Int:=2 ^ 4000
theorem rR {k : Int} (h0 : 0 <= k) (h : k < BIG) : k.natAbs.log2 < 4000:=by
 rcases Nat.eq_zero_or_pos k.natAbs with z | hp
 ·rw [z]; decide +kernel
 ·refine (Nat.log2_lt (by omega)).mpr ?_
  have e : BIG = ((2 ^ 4000 : Nat) : Int):=by unfold BIG; norm_cast
  rw [e] at h
  omega
def CMulB (i j : Int) : Prop:=(0 <= i /\ i < BIG) /\ (0 <= j /\ j < BIG)
theorem CMulB.ok {i j : Int} (h : CMulB i j) : IntMulOk i j:=by
 have one : ∀ {k : Int},0 <= k -> k < BIG -> Builtin.Int.intBits k <= 2 ^ 20:=fun {k} h0 h1 => by
  unfold Builtin.Int.intBits
  have:=rR h0 h1
  split <;> omega
 exact .of_bits (one h.1.1 h.1.2) (one h.2.1 h.2.2)
def zK (i j : Int) : Prop:=0 < j /\ j < BIG
section
variable {X : Cx}
theorem jT : OpR X (binaryOp .Mult) (rI CMulB fun i j => .int (i * j)):=opI fun _ _ _ _ _ _ _ hc q => PyProof.Rows.mul_int q hc.ok
theorem tq : OpR X (binaryOp .FloorDiv) (rI zK fun i j => .int (i / j)):=opI fun i j _ _ _ _ _ hc q => by
 have h1 : (0 : Int) < j:=hc.1
 have h2 : j < BIG:=hc.2
 have h3:=rR (Int.le_of_lt h1) h2
 exact floordiv_int (by omega) (by rw [Int.fdiv_eq_ediv_of_nonneg i (by omega)]; exact q) (.inl (PyProof.noPylong_of_log2 (by omega)))
end
def Itv (K : PySem.W.Frag) (a : Addr) (n : Nat) : It:=
 ⟨fun i H => i < n /\ ∃ xs,SqL K H a xs /\ xs.length = n,fun i H x H' => H' = H /\ ∀ xs,SqL K H a xs -> xs[n - 1 - i]? = some x,fun i H => i = n⟩
theorem xT {P : Program} {w : World} {K : PySem.W.Frag} {tg : Expr} (a it : Addr) (n : Nat) : Turn P w K tg (Itv K a n) [it] it (fun i h => i <= n /\ PySem.Heap.IsRevIter h it a ((n : Int) - 1 - (i : Int))) where
 mem:=by simp
 obj:=fun i h st b hb => by
  have e : b = it:=by simpa using hb
  subst e
  obtain ⟨_,o,e,c,d⟩:=st
  exact ⟨o,e,fun v z => by rw [d] at z; cases z⟩
 keep:=fun i h h' st k => ⟨st.1,st.2.at fun o e => k it (by simp) o e⟩
 item:=by
  intro X hP hw hK hc i pins s σ H E I hf st hg
  subst hP hw hK
  obtain ⟨hi,xs,hq,hn⟩:=hg
  obtain ⟨its,rv,p,hz⟩:=I.list hq
  have hj : n - 1 - i < xs.length:=by omega
  obtain ⟨u,hu,ru⟩:=rv.get (i:=n - 1 - i) (x:=xs[n - 1 - i]) (by simp [hj])
  obtain ⟨f0,f1,f2,f3,f4,f5⟩:=hf it (by simp)
  have e : (n : Int) - 1 - (i : Int) = ((n - 1 - i : Nat) : Int):=by omega
  have st2:=st.2
  rw [e] at st2
  refine wpAny_pyNext_rev_item st2 p.isList (x:=u) (by simpa using hu) fun h' st' sb => ?_
  have I1 : Inv X pins σ H { s with heap:=h' }:=I.turned (t' := s.toks) (fun b o hb e => (sb.2 b hb).trans e) f0 f1 f3 f4 f5
  obtain ⟨o,eo,c,d⟩:=id st'
  refine ⟨u,rfl,pU (s:={ s with heap:=h' }) eo c d (by decide) ⟨xs[n - 1 - i],H,I1,ru,⟨rfl,fun ys hy => by rw [I.list_inj hy hq]; simp [hj]⟩,⟨by omega,?_⟩,fun b hb => (hf b hb).1⟩⟩
  have e2 : (n : Int) - 1 - ((i + 1 : Nat) : Int) = ((n - 1 - i : Nat) : Int) - 1:=by omega
  rw [e2]
  exact st'
 done:=by
  intro X hP hw hK hc i pins s σ H E I hf st hg
  subst hP hw hK
  have hg' : i = n:=hg
  obtain ⟨f0,f1,f2,f3,f4,f5⟩:=hf it (by simp)
  have e : (n : Int) - 1 - (i : Int) = -1:=by omega
  have st2:=st.2
  rw [e] at st2
  exact wpAny_pyNext_rev_end (I.ok.hd hc) st2 fun h' eb => ⟨rfl,I.turned (t' := s.toks) (fun b o hb e => eb b o hb e) f0 f1 f3 f4 f5⟩
 self:=fun _ _ _ _ _ st h => wpAny_pyIter_revIter st.2 h
section
variable {X : Cx} {tg : Expr}
def Ay (K : PySem.W.Frag) (ta : TA) : TI:=fun σ H R => ta σ H fun vs H1 => ∃ a xs,vs = [.ref a] /\ SqL K H1 a xs /\ R (Itv K a xs.length) H1
theorem zo {a : Expr} {ta : TA} {p pos : Pos} (hg : Gl X "reversed") (hm : X.mg "reversed" = none) (ha : PA X [a] ta) (hs : starEach [a] X.env = [(false,eval a X.env)]:=by rfl) : PI X tg (.Call (.Name "reversed" p) [a] [] pos) (Ay X.K ta):=by
 intro pins s σ H R I h
 refine Call_ (eu I hg hm kT (PyProof.Rows.callWith_type1 (thn (ha pos pins s σ H _ I h) fun us s1 ⟨vs,H1,I1,r1,q1⟩ => ?_) hs rfl))
 obtain ⟨l,xs,e,hq,q⟩:=q1
 subst e
 cases r1 with
 | cons r rr =>
  cases rr
  cases r
  obtain ⟨its,rv,pl,hz⟩:=I1.list hq
  have hlen:=rv.length
  refine call_reversed_list pl.isList ?_
  have I2 : Inv X pins σ H1 { s1 with heap:=s1.heap.push (revObj l ((its.toArray.size : Int) - 1)) }:=I1.kept (t' := s1.toks) fun b o e => Heap.get?_push_of_some _ e
  have hit : PySem.Heap.IsRevIter (s1.heap.push (revObj l ((its.toArray.size : Int) - 1))) s1.heap.objs.size l ((xs.length : Int) - 1 - ((0 : Nat) : Int)):=by
   refine ⟨_,Heap.get?_push_size _ rfl,rfl,?_⟩
   have e : ((its.toArray.size : Int) - 1) = (xs.length : Int) - 1 - ((0 : Nat) : Int):=by rw [List.size_toArray]; omega
   rw [<- e]
   rfl
  refine wpAny_pyIter_revIter hit ?_
  refine ⟨s1.heap.objs.size,[s1.heap.objs.size],_,_,H1,rfl,I2,xT l _ xs.length,⟨Nat.zero_le _,hit⟩,fun b hb => ?_,q⟩
  have e : b = s1.heap.objs.size:=by simpa using hb
  subst e
  exact I1.fpOk (Nat.le_refl _) (I1.hok.fresh (Nat.le_refl _))
end
theorem x8 {K : PySem.W.Frag} {a : Addr} {xs : List V} {g : TG} {tb : TS} {D : Ends} {σ : St} {H : Hp} (Pv : Nat -> St -> Hp -> Prop) (h0 : Pv 0 σ H) (hl : ∀ i σ H,i <= xs.length -> Pv i σ H -> SqL K H a xs)
  (hs : ∀ i x σ H,i < xs.length -> xs[xs.length - 1 - i]? = some x -> Pv i σ H -> g x σ H fun σ2 H2 => tb { D with nx:=Pv (i + 1),ct:=Pv (i + 1),bk:=D.nx } σ2 H2) (hd : ∀ σ H,Pv xs.length σ H -> D.nx σ H) :
  ∃ W : Nat -> Nat -> St -> Hp -> Prop,(∃ m,W 0 m σ H) /\ ∀ i m σ H,W i m σ H ->
   ((Itv K a xs.length).stop i H /\ D.nx σ H) \/ ((Itv K a xs.length).go i H /\ ∃ N : St -> Hp -> Prop,(∀ σ' H',N σ' H' -> ∃ m',m' < m /\ W (i + 1) m' σ' H') /\ ∀ x H',(Itv K a xs.length).yld i H x H' -> g x σ H' fun σ2 H2 => tb { D with nx:=N,ct:=N,bk:=D.nx } σ2 H2):=by
 refine ⟨fun i m σ H => m = xs.length - i /\ i <= xs.length /\ Pv i σ H,⟨xs.length,by simp,Nat.zero_le _,h0⟩,?_⟩
 rintro i m σ H ⟨rfl,hi,p⟩
 have q:=hl i σ H hi p
 by_cases hlt : i < xs.length
 ·refine .inr ⟨⟨hlt,xs,q,rfl⟩,Pv (i + 1),fun σ' H' p' => ⟨xs.length - (i + 1),by omega,rfl,hlt,p'⟩,fun x H' y => ?_⟩
  obtain ⟨e,y⟩:=y
  subst e
  exact hs i x σ _ hlt (y xs q) p
 ·have e : i = xs.length:=by omega
  subst e
  exact .inl ⟨rfl,hd σ H p⟩
theorem gI {c : TT} {tb : TS} {D : Ends} {σ : St} {H : Hp} (Pv : Nat -> St -> Hp -> Prop) (h0 : ∃ m,Pv m σ H)
  (hs : ∀ m σ H,Pv m σ H -> c σ H fun b H1 => if b = true then ∃ N : St -> Hp -> Prop,(∀ σ' H',N σ' H' -> ∃ m',m' < m /\ Pv m' σ' H') /\ tb { D with nx:=N,ct:=N,bk:=D.nx } σ H1 else D.nx σ H1) : h9 c tb D σ H:=⟨Pv,h0,hs⟩
end L2
set_option Elab.async false
set_option linter.all false
set_option maxRecDepth 100000
namespace L2
open PySem PySem.Spec PyProof.Rows
section
variable {X : Cx} {pins : List (Addr × Obj)} {σ : St} {H : Hp} {s : Shared}
theorem TyOf.kit {x : V} {u t : Value} (I : Inv X pins σ H s) (rx : RelV x u) (ty : TyOf X.K H x t) : ∃ φ : Heap -> Prop,PySem.W.KitX X.K u t φ /\ φ s.heap /\ u ≠ .builtin "__main__.__loader__#opaque" := by
 cases ty with
 | non => cases (show u = Value.none from rx); exact ⟨_,PySem.W.kitx_none,True.intro,fun z => nomatch z⟩
 | bl y => cases (show u = Value.bool y from rx); exact ⟨_,PySem.W.kitx_bool,True.intro,fun z => nomatch z⟩
 | int i => obtain ⟨t,q⟩:=(show ∃ t,u = Value.int i t from rx); cases q; exact ⟨_,PySem.W.kitx_int,True.intro,fun z => nomatch z⟩
 | str y => obtain ⟨t,q⟩:=(show ∃ t,u = Value.str y t from rx); cases q; exact ⟨_,PySem.W.kitx_str,True.intro,fun z => nomatch z⟩
 | flt y => obtain ⟨t,q⟩:=(show ∃ t,u = Value.float y t from rx); cases q; exact ⟨_,PySem.W.kitx_float,True.intro,fun z => nomatch z⟩
 | @lst a xs ea =>
  cases (show u = Value.ref a from rx)
  obtain ⟨_,_,n,_,h1⟩:=(show ObjOk X.prog X.w H s.heap a (.lst xs) from I.hok a _ ea)
  exact ⟨_,PySem.W.kitx_list,⟨_,h1,rfl⟩,fun z => nomatch z⟩
 | @frz a ob xs ea =>
  cases (show u = Value.ref a from rx)
  obtain ⟨_,_,_,n,_,h1⟩:=(show ObjOk X.prog X.w H s.heap a (.frz ob (.lst xs)) from I.hok a _ ea)
  exact ⟨_,PySem.W.kitx_list,⟨_,h1,rfl⟩,fun z => nomatch z⟩
 | @tup a xs ea =>
  cases (show u = Value.ref a from rx)
  obtain ⟨_,_,_,p⟩:=(show ObjOk X.prog X.w H s.heap a (.tup xs) from I.hok a _ ea)
  obtain ⟨o,h1,h2,_⟩:=p
  exact ⟨_,PySem.W.kitx_tuple,⟨o,h1,h2⟩,fun z => nomatch z⟩
 | @dK a kvs ea =>
  cases (show u = Value.ref a from rx)
  obtain ⟨_,_,vs,_,p⟩:=(show ObjOk X.prog X.w H s.heap a (.dK kvs) from I.hok a _ ea)
  obtain ⟨o,es,ep,h1,h2,_⟩:=p
  exact ⟨_,PySem.W.kitx_dict,⟨o,h1,h2.1⟩,fun z => nomatch z⟩
 | @dT a kvs ea =>
  cases (show u = Value.ref a from rx)
  obtain ⟨_,_,xs,_,o,es,ep,h1,h2,_⟩:=(show ObjOk X.prog X.w H s.heap a (.dT kvs) from I.hok a _ ea)
  exact ⟨_,PySem.W.kitx_dict,⟨o,h1,h2.1⟩,fun z => nomatch z⟩
 | @ins a C dx fs ea cl ha hn htk hm =>
  cases (show u = Value.ref a from rx)
  obtain ⟨mA,O,_⟩:=uZ I.hok ea
  obtain ⟨od,J,_⟩:=O.look
  exact ⟨_,PySem.W.kitx_own (cl.get _) cl.hd ha hn htk hm,J,fun z => nomatch z⟩
theorem tQ : ∀ {ts : List String} {us : List Value},Vals (ts.map V.ty) us -> us = ts.map Value.type
 | [],_,h => by cases h; rfl
 | t :: ts,_,h => by
  cases h with
  | cons r rr =>
   have e:=tQ rr
   cases (show _ = Value.type t from r)
   rw [e]; rfl
def z6 (K : PySem.W.Frag) : List V -> Hp -> VK -> Prop:=fun xs H Q => ∃ (x : V) (p : Addr) (ts : List String) (t : Value) (b : Bool),xs = [x,.ref p] /\ H p = some (.tup (ts.map V.ty)) /\ TyOf K H x t /\ PySem.W.kitAny K t (ts.map Value.type) = some b /\ Q (.bl b) H
theorem vj : gO X (.builtin "isinstance") (z6 X.K):=by
 intro pins s σ H xs us Q I r h
 obtain ⟨x,p,ts,t,b,rfl,hp,ty,e,q⟩:=h
 obtain ⟨u,v,rfl,ru,rv⟩:=r.two
 cases (show v = Value.ref p from rv)
 obtain ⟨φ,Z,z,hx⟩:=ty.kit I ru
 obtain ⟨_,its,r2,o,h1,h2,n,h3⟩:=(show ObjOk X.prog X.w H s.heap p (.tup (ts.map V.ty)) from I.hok p _ hp)
 have ei:=tQ r2
 subst ei
 obtain ⟨oc,od,dt,sl⟩:=o
 simp only at h2 h3
 subst h2 h3
 exact PySem.W.kia_tup Z I.kIn z h1 e hx fun tk => ⟨.bl b,H,I.tok tk,rfl,q⟩
end
def Its (lo c : Int) (n : Nat) : It:=⟨fun i _ => i < n,fun i H x H' => H' = H /\ x = .int (lo + i * c),fun i _ => n <= i⟩
theorem k6 {P : Program} {w : World} {K : PySem.W.Frag} {tg : Expr} (it : Addr) (lo c : Int) (n : Nat) : Turn P w K tg (Its lo c n) [it] it (fun i h => IsRangeIter h it (lo + (i : Nat) * c) ((n : Int) - (i : Nat)) c) where
 mem:=by simp
 obj:=fun i h st b hb => by
  have e : b = it:=by simpa using hb
  subst e
  exact ⟨_,st,fun v z => by
   have z' : Data.fields _ = Data.cell v:=z
   cases z'⟩
 keep:=fun i h h' st k => k it (by simp) _ st
 item:=by
  intro X hP hw hK hc i pins s σ H E I hf st hg
  subst hP hw hK
  obtain ⟨f0,f1,f2,f3,f4,f5⟩:=hf it (by simp)
  have W:=Walks.range (prog:=X.prog) (w:=X.w) (I.ok.hd hc) it lo c n
  refine W.item i s _ _ hg st fun v h' tk hv st' kk => ?_
  obtain ⟨t,rfl⟩:=hv
  have I1 : Inv X pins σ H { s with heap:=h',toks:=tk }:=I.turned (fun b o hb e => kk b o (by simpa using hb) e) f0 f1 f3 f4 f5
  exact ⟨_,rfl,pU (s:={ s with heap:=h',toks:=tk }) (n := "range_iterator") st' rfl rfl (by decide) ⟨.int (lo + i * c),H,I1,⟨t,rfl⟩,⟨rfl,rfl⟩,st',fun b hb => (hf b hb).1⟩⟩
 done:=by
  intro X hP hw hK hc i pins s σ H E I hf st hg
  subst hP hw hK
  obtain ⟨f0,f1,f2,f3,f4,f5⟩:=hf it (by simp)
  exact wpAny_pyNext_range_end (I.ok.hd hc) st (by have : n <= i:=hg; omega) fun h' eb => ⟨rfl,I.turned (t' := s.toks) (fun b o hb e => eb b o hb e) f0 f1 f3 f4 f5⟩
 self:=fun _ _ _ _ _ st h => wpAny_pyIter_rangeiter st h
section
variable {X : Cx} {tg : Expr}
theorem wk {b : Int} (hb : 0 <= b) (hb' : b < 2 ^ 60) : Builtin.Range.small 0 b 2 = true:=by
 unfold Builtin.Range.small Builtin.Range.rangeSize
 simp only [Builtin.Range.rangeFitsLong,Bool.and_eq_true,Bool.or_eq_true,decide_eq_true_eq,beq_iff_eq,show (2 : Int) > 0 by decide,if_true]
 split <;> omega
theorem xQ (b : Int) (hb : 0 <= b) : Builtin.Range.rangeSize 0 b 2 = ((((b + 1) / 2).toNat : Nat) : Int):=by
 unfold Builtin.Range.rangeSize
 simp only [show (2 : Int) > 0 by decide,if_true]
 split <;> omega
def y0 (ta : TA) : TI:=fun σ H R => ta σ H fun vs H1 => ∃ j : Int,vs = [.int 0,.int j,.int 2] /\ (0 <= j /\ j < 2 ^ 60) /\ R (Its 0 2 ((j + 1) / 2).toNat) H1
theorem vU {a b c : Expr} {ta : TA} {p pos : Pos} (hg : Gl X "range") (hm : X.mg "range" = none) (ha : PA X [a,b,c] ta) (hs : starEach [a,b,c] X.env = [(false,eval a X.env),(false,eval b X.env),(false,eval c X.env)]:=by rfl) (hs2 : starEach [b,c] X.env = [(false,eval b X.env),(false,eval c X.env)]:=by rfl) :
  PI X tg (.Call (.Name "range" p) [a,b,c] [] pos) (y0 ta):=by
 intro pins s σ H R I h
 refine Call_ (eu I hg hm boot_range (PyProof.Rows.callWith_type1 (thn (ha pos pins s σ H _ I h) fun us s1 ⟨vs,H1,I1,r1,q1⟩ => ?_) (by rw [hs,hs2]) (by rw [hs2]; rfl)))
 obtain ⟨j,e,⟨q1,q2⟩,q⟩:=q1
 subst e
 cases r1 with
 | cons r rr =>
  cases rr with
  | cons r' rr =>
   cases rr with
   | cons r3 rr =>
    cases rr
    obtain ⟨t,rfl⟩:=r
    obtain ⟨t',rfl⟩:=r'
    obtain ⟨t3,rfl⟩:=r3
    refine call_range_3 (by decide) ?_ (.inl (PyProof.noPylong_small (by decide)))
    refine wpAny_pyIter_range (IsRange.new ..) (wk q1 q2) ?_
    have I2 : Inv X pins σ H1 { s1 with heap:=s1.heap.push { cls:=.type "range",data:=.fields #[.int 0 t,.int j t',.int 2 t3] } }:=I1.kept (t' := s1.toks) fun b o e => Heap.get?_push_of_some _ e
    refine ⟨(s1.heap.push { cls:=.type "range",data:=.fields #[.int 0 t,.int j t',.int 2 t3] }).objs.size,[(s1.heap.push { cls:=.type "range",data:=.fields #[.int 0 t,.int j t',.int 2 t3] }).objs.size],_,_,H1,rfl,
     I2.kept (t' := s1.toks) fun b o e => Heap.get?_push_of_some _ e,k6 _ 0 2 ((j + 1) / 2).toNat,?_,fun b hb => ?_,q⟩
    ·have e1 : (0 : Int) + ((0 : Nat) : Int) * 2 = 0:=by simp
     have e2 : (((j + 1) / 2).toNat : Int) - ((0 : Nat) : Int) = Builtin.Range.rangeSize 0 j 2:=by rw [xQ j q1]; simp
     show IsRangeIter _ _ ((0 : Int) + ((0 : Nat) : Int) * 2) ((((j + 1) / 2).toNat : Int) - ((0 : Nat) : Int)) 2
     rw [e1,e2]
     exact Heap.get?_push_size _ rfl
    ·have e : b = (s1.heap.push { cls:=.type "range",data:=.fields #[.int 0 t,.int j t',.int 2 t3] }).objs.size:=by simpa using hb
     subst e
     exact I2.fpOk (Nat.le_refl _) (I2.hok.fresh (Nat.le_refl _))
end
theorem mK {lo c : Int} {n : Nat} {g : TG} {tb : TS} {D : Ends} {σ : St} {H : Hp} (Pv : Nat -> St -> Hp -> Prop) (h0 : Pv 0 σ H)
  (hs : ∀ i σ H,i < n -> Pv i σ H -> g (.int (lo + i * c)) σ H fun σ2 H2 => tb { D with nx:=Pv (i + 1),ct:=Pv (i + 1),bk:=D.nx } σ2 H2) (hd : ∀ σ H,Pv n σ H -> D.nx σ H) :
  ∃ W : Nat -> Nat -> St -> Hp -> Prop,(∃ m,W 0 m σ H) /\ ∀ i m σ H,W i m σ H ->
   ((Its lo c n).stop i H /\ D.nx σ H) \/ ((Its lo c n).go i H /\ ∃ N : St -> Hp -> Prop,(∀ σ' H',N σ' H' -> ∃ m',m' < m /\ W (i + 1) m' σ' H') /\ ∀ x H',(Its lo c n).yld i H x H' -> g x σ H' fun σ2 H2 => tb { D with nx:=N,ct:=N,bk:=D.nx } σ2 H2):=by
 refine ⟨fun i m σ H => m = n - i /\ i <= n /\ Pv i σ H,⟨n,by simp,Nat.zero_le _,h0⟩,?_⟩
 rintro i m σ H ⟨rfl,hi,p⟩
 by_cases hlt : i < n
 ·refine .inr ⟨hlt,Pv (i + 1),fun σ' H' p' => ⟨n - (i + 1),by omega,rfl,hlt,p'⟩,fun x H' y => ?_⟩
  obtain ⟨e,y⟩:=y
  subst e y
  exact hs i σ _ hlt p
 ·have e : i = n:=by omega
  subst e
  exact .inl ⟨Nat.le_refl _,hd σ H p⟩
section
variable {X : Cx}
end
end L2
set_option Elab.async false
set_option linter.all false
set_option maxRecDepth 100000
namespace PySem
section
variable {prog : Program} {w : World} {A : Around} {R : Result -> Shared -> Prop} {I : Addr} {fp wr : List Addr} {n : Nat} {P : Nat -> Value -> Prop} {St : Nat -> Heap -> Prop}
end
section
variable {prog : Program} {w : World} {A : Around} {E : Value -> Shared -> Prop} {s : Shared}
end
end PySem
namespace L2
open PySem PySem.Spec PyProof.Rows
section
variable {X : Cx}
variable {p pos kpos : Pos} {e d : Expr} {ta : TA} {td : TE}
end
section
variable {prog : Program} {w : World} {A : Around} {E : Value -> Shared -> Prop} {s : Shared}
end
section
variable {X : Cx} {e : Expr} {te : TE} {lo hi : Option Expr} {st : Expr} {tl th ts : TO} {pos p2 : Pos}
def zM (X : Cx) (r : V -> Option Int -> Option Int -> Option Int -> Hp -> VK -> Prop) : Prop:=
 ∀ (pins : List (Addr × Obj)) (s : Shared) (σ : St) (H : Hp) (x : V) (v vl vu vs : Value) (lo hi st : Option Int) (sl : Addr) (Q : VK),Inv X pins σ H s -> RelV x v -> s.heap.IsSliceOf sl vl vu vs -> IsPart vl lo -> IsPart vu hi -> IsPart vs st -> r x lo hi st H Q ->
  ∃ T id,typeLookup (.type T) "__getitem__" = pure (some (.builtin id)) /\ s.TypeIs v T /\ wpAny (model X.prog X.w) X.A (getItem v (.ref sl)) (EP X pins σ Q) X.xe s
def AR (r : V -> Option Int -> Option Int -> Option Int -> Hp -> VK -> Prop) (te : TE) (tl th ts : TO) : TE:=fun σ H Q => te σ H fun x H1 => tl σ H1 fun l H2 => th σ H2 fun u H3 => ts σ H3 fun c H4 => r x l u c H4 Q
theorem p9 {r : V -> Option Int -> Option Int -> Option Int -> Hp -> VK -> Prop} (hr : zM X r) (he : PE X e te) (hl : PO X lo tl) (hu : PO X hi th) (hs : PO X (some st) ts) : PE X (.Subscript e (.Slice lo hi (some st) p2) pos) (AR r te tl th ts):=by
 intro pins s σ H Q I h
 refine Subscript_ (thn (he pins s σ H _ I h) fun v s1 ⟨x,H1,I1,r1,q1⟩ => ?_)
 refine wpAny_Slice (thn (hl pins s1 σ H1 _ I1 q1) fun vl s2 ⟨l,H2,I2,pl,q2⟩ => thn (hu pins s2 σ H2 _ I2 q2) fun vu s3 ⟨u,H3,I3,pu,q3⟩ => thn (hs pins s3 σ H3 _ I3 q3) fun vc s4 ⟨c,H4,I4,pc,q4⟩ => ?_)
 have I5 : Inv X pins σ H4 { s4 with heap:=s4.heap.push { cls:=.type "slice",data:=.fields #[vl,vu,vc] } }:=I4.kept (t' := s4.toks) fun b ob q => Heap.get?_push_of_some _ q
 obtain ⟨T,id,hT,ht,hg⟩:=hr pins { s4 with heap:=s4.heap.push { cls:=.type "slice",data:=.fields #[vl,vu,vc] } } σ H4 x v vl vu vc l u c s4.heap.objs.size Q I5 r1 (Heap.IsSliceOf.new ..) pl pu pc q4
 show wpAny (model X.prog X.w) X.A (subscriptTail e (.Slice lo hi (some st) p2) v (.ref s4.heap.objs.size)) (EP X pins σ Q) X.xe { s4 with heap:=s4.heap.push { cls:=.type "slice",data:=.fields #[vl,vu,vc] } }
 exact tail_any (ops:=[v,.ref s4.heap.objs.size]) ht hT hg (by with_unfolding_all rfl)
end
section
variable {X : Cx} {tg : Expr}
def Az (K : PySem.W.Frag) (tl : TE) : TI:=fun σ H R => tl σ H fun x H1 => ∃ a,x = .ref a /\ (((∃ xs,SqL K H1 a xs) /\ R (Itl K a) H1) \/ ((∃ xs,SqT K H1 a xs) /\ R (Itt K a) H1))
theorem xD {l : Expr} {tl : TE} (hl : PE X l tl) : PI X tg l (Az X.K tl):=by
 intro pins s σ H R I h
 refine thn (hl pins s σ H _ I h) fun v s1 ⟨x,H1,I1,r1,q1⟩ => ?_
 obtain ⟨a,rfl,q | q⟩:=q1
 ·cases r1
  obtain ⟨⟨xs,hx⟩,q⟩:=q
  obtain ⟨its,rv,p,hz⟩:=I1.list hx
  refine wpAny_pyIter_list p.isList ?_
  have I2 : Inv X pins σ H1 { s1 with heap:=s1.heap.push { cls:=.type "list_iterator",data:=.fields #[.ref a,.int 0 0] } }:=I1.kept (t' := s1.toks) fun b o e => Heap.get?_push_of_some _ e
  refine ⟨s1.heap.objs.size,[s1.heap.objs.size],_,_,H1,rfl,I2,qe a _,⟨_,Heap.get?_push_size _ rfl,rfl,rfl⟩,fun b hb => ?_,q⟩
  rw [List.mem_singleton.mp hb]
  exact I1.fpOk (Nat.le_refl _) (I1.hok.fresh (Nat.le_refl _))
 ·cases r1
  obtain ⟨⟨xs,hx⟩,q⟩:=q
  obtain ⟨its,rv,p,hz⟩:=I1.tuple hx
  refine wpAny_pyIter_tuple (show s1.heap.IsTuple a its.toArray from p) ?_
  have I2 : Inv X pins σ H1 { s1 with heap:=s1.heap.push { cls:=.type "tuple_iterator",data:=.fields #[.ref a,.int 0 0] } }:=I1.kept (t' := s1.toks) fun b o e => Heap.get?_push_of_some _ e
  refine ⟨s1.heap.objs.size,[s1.heap.objs.size],_,_,H1,rfl,I2,nQ a _,⟨_,Heap.get?_push_size _ rfl,rfl,rfl⟩,fun b hb => ?_,q⟩
  rw [List.mem_singleton.mp hb]
  exact I1.fpOk (Nat.le_refl _) (I1.hok.fresh (Nat.le_refl _))
end
theorem rY {K : PySem.W.Frag} {a : Addr} {xs : List V} {ix : List (Option Nat)} {te : TE} {σ : St} {H : Hp} {Qd : Addr -> Hp -> Prop} (Pv : Addr -> Nat -> List V -> Hp -> Prop)
  (h0 : ∀ D,H D = none -> Pv D 0 [] (upd H D (.lst [])))
  (hl : ∀ D i ys H',i <= xs.length -> Pv D i ys H' -> SqT K H' a xs)
  (hs : ∀ D i x ys H' (Q' : VK),H D = none -> xs[i]? = some x -> H' D = some (.lst ys) -> Pv D i ys H' -> (∀ y H4,H4 D = some (.lst ys) -> ys.length < sizeLine -> Pv D (i + 1) (ys ++ [y]) (upd H4 D (.lst (ys ++ [y]))) -> Q' y H4) ->
   te ((aC ix σ).set 0 (some x)) H' Q')
  (hd : ∀ D ys H',H D = none -> H' D = some (.lst ys) -> Pv D xs.length ys H' -> Qd D H') : rM (Itt K a) ix (aL 0) te σ H Qd:=by
 intro D hD
 refine ⟨fun i m σ' H' => m = xs.length - i /\ i <= xs.length /\ (σ' = aC ix σ \/ ∃ t,σ' = (aC ix σ).set 0 t) /\ ∃ ys,H' D = some (.lst ys) /\ Pv D i ys H',⟨xs.length,by simp,Nat.zero_le _,.inl rfl,[],ae,h0 D hD⟩,?_⟩
 rintro i m σ' H' ⟨rfl,hi,hσ,ys,hy,p⟩
 have q:=hl D i ys H' hi p
 by_cases hlt : i < xs.length
 ·refine .inr ⟨⟨xs,xs[i],q,by simp [hlt]⟩,fun x H2 y => ?_⟩
  obtain ⟨e1,e2⟩:=y
  subst e1
  have ex:=e2 xs q
  have es : σ'.set 0 (some x) = (aC ix σ).set 0 (some x):=by
   rcases hσ with z | ⟨t,z⟩
   ·rw [z]
   ·rw [z,List.set_set]
  show te (σ'.set 0 (some x)) _ _
  rw [es]
  refine hs D i x ys _ _ hD ex hy p fun y H4 h4 hz p4 => ⟨ys,h4,hz,xs.length - (i + 1),by omega,rfl,hlt,.inr ⟨_,rfl⟩,ys ++ [y],ae,p4⟩
 ·have e : i = xs.length:=by omega
  subst e
  exact .inl ⟨⟨xs,q,Nat.le_refl _⟩,hd D ys H' hD hy p⟩
section
variable {X : Cx}
theorem mO (K : PySem.W.Frag) (h : X.K = K:=by rfl) : IxR X (z7 K):=by subst h; exact aH
theorem yc (K : PySem.W.Frag) (h : X.K = K:=by rfl) : IxR X (z8 K):=by subst h; exact a8
end
end L2
set_option Elab.async false
set_option linter.all false
set_option maxRecDepth 100000
namespace L2
open PySem PySem.Spec PyProof.Rows
section
variable {κ : Type} [DecidableEq κ]
def di (kvs : List (κ × V)) (k : κ) : Option V:=(kvs.find? fun kv => decide (kv.1 = k)).map (·.2)
def putK (kvs : List (κ × V)) (k : κ) (v : V) : List (κ × V):=
 if (kvs.any fun kv => decide (kv.1 = k)) = true then kvs.map (fun kv => if kv.1 = k then (kv.1,v) else kv) else kvs ++ [(k,v)]
def mG (kvs : List (κ × V)) (k : κ) : List (κ × V):=kvs.filter fun kv => decide (kv.1 ≠ k)
theorem ia {p : κ × V} {r : List (κ × V)} {k : κ} (e : p.1 = k) : di (p :: r) k = some p.2:=by simp [di,List.find?_cons,e]
theorem fz {p : κ × V} {r : List (κ × V)} {k : κ} (e : ¬ p.1 = k) : di (p :: r) k = di r k:=by simp [di,List.find?_cons,e]
theorem nU (k : κ) : ∀ kvs : List (κ × V),(kvs.any fun kv => decide (kv.1 = k)) = (di kvs k).isSome
 | [] => rfl
 | p :: r => by
  rw [List.any_cons]
  by_cases e : p.1 = k
  ·simp only [ia e,decide_eq_true e,Bool.true_or,Option.isSome_some]
  ·rw [fz e,decide_eq_false e,Bool.false_or]; exact nU k r
theorem eK (kvs : List (κ × V)) (k : κ) (v : V) : (putK kvs k v).length <= kvs.length + 1:=by
 unfold putK
 split
 ·rw [List.length_map]; omega
 ·rw [List.length_append,List.length_cons,List.length_nil]; omega
theorem RelO.isSome_eq {o : Option V} {u : Option Value} (r : RelO o u) : o.isSome = u.isSome:=by
 cases o with
 | none => cases u with
  | none => rfl
  | some _ => exact (show False from r).elim
 | some _ => cases u with
  | none => exact (show False from r).elim
  | some _ => rfl
theorem RelO.getD {o : Option V} {u : Option Value} {d : V} {d' : Value} (r : RelO o u) (rd : RelV d d') : RelV (o.getD d) (u.getD d'):=by
 cases o with
 | none => cases u with
  | none => exact rd
  | some _ => exact (show False from r).elim
 | some _ => cases u with
  | none => exact (show False from r).elim
  | some _ => exact r
theorem KV.val {kvs : List (κ × V)} {vs : List (κ × Value)} (r : KV kvs vs) (k : κ) : RelO (di kvs k) (valueAt vs k):=by
 unfold KV at r
 induction r with
 | nil => exact True.intro
 | @cons p q ps qs h t ih =>
  obtain ⟨h1,h2⟩:=h
  by_cases e : p.1 = k
  ·have e' : q.1 = k:=h1.symm.trans e
   have b : valueAt (q :: qs) k = some q.2:=by simp [valueAt,List.find?_cons,e']
   rw [ia e,b]; exact h2
  ·have e' : ¬ q.1 = k:=fun z => e (h1.trans z)
   have b : valueAt (q :: qs) k = valueAt qs k:=by simp [valueAt,List.find?_cons,e']
   rw [fz e,b]; exact ih
theorem KV.any {kvs : List (κ × V)} {vs : List (κ × Value)} (r : KV kvs vs) (k : κ) : (kvs.any fun kv => decide (kv.1 = k)) = vs.any fun kv => decide (kv.1 = k):=by
 unfold KV at r
 induction r with
 | nil => rfl
 | cons h t ih => rw [List.any_cons,List.any_cons,ih,h.1]
theorem KV.repl {kvs : List (κ × V)} {vs : List (κ × Value)} (r : KV kvs vs) (k : κ) {y : V} {u : Value} (ry : RelV y u) :
  KV (kvs.map fun kv => if kv.1 = k then (kv.1,y) else kv) (vs.map fun kv => if kv.1 = k then (kv.1,u) else kv):=by
 unfold KV at r ⊢
 induction r with
 | nil => exact .nil
 | @cons p q ps qs h t ih =>
  rw [List.map_cons,List.map_cons]
  refine .cons ?_ ih
  obtain ⟨h1,h2⟩:=h
  by_cases e : p.1 = k
  ·rw [if_pos e,if_pos (h1.symm.trans e)]; exact ⟨h1,ry⟩
  ·rw [if_neg e,if_neg (fun z => e (h1.trans z))]; exact ⟨h1,h2⟩
theorem KV.put {kvs : List (κ × V)} {vs : List (κ × Value)} (r : KV kvs vs) (k : κ) {y : V} {u : Value} (ry : RelV y u) : KV (putK kvs k y) (stored vs k u):=by
 unfold putK stored
 rw [r.any k]
 by_cases e : (vs.any fun kv => decide (kv.1 = k)) = true
 ·rw [if_pos e,if_pos e]; exact r.repl k ry
 ·rw [if_neg e,if_neg e]; exact Paired.snoc r ⟨rfl,ry⟩
theorem KV.drop {kvs : List (κ × V)} {vs : List (κ × Value)} (r : KV kvs vs) (k : κ) : KV (mG kvs k) (without vs k):=by
 unfold KV at r ⊢
 unfold mG without
 induction r with
 | nil => exact .nil
 | @cons p q ps qs h t ih =>
  obtain ⟨h1,h2⟩:=h
  rw [List.filter_cons,List.filter_cons]
  by_cases e : p.1 = k
  ·have a : ¬ decide (p.1 ≠ k) = true:=by simp [e]
   have b : ¬ decide (q.1 ≠ k) = true:=by simp [h1.symm.trans e]
   rw [if_neg a,if_neg b]; exact ih
  ·have e' : ¬ q.1 = k:=fun z => e (h1.trans z)
   have a : decide (p.1 ≠ k) = true:=by simp [e]
   have b : decide (q.1 ≠ k) = true:=by simp [e']
   rw [if_pos a,if_pos b]; exact .cons ⟨h1,h2⟩ ih
theorem KV.length {kvs : List (κ × V)} {vs : List (κ × Value)} (r : KV kvs vs) : kvs.length = vs.length:=Paired.length r
theorem wQ (kvs : List (κ × V)) (k : κ) : (mG kvs k).length <= kvs.length:=List.length_filter_le _ _
end
theorem kZ {P : Program} {w : World} {k : Key} {u : Value} (r : RelV (kV k) u) : (bc P w).is k u = true:=by
 cases k with
 | inl i => obtain ⟨t,e⟩:=(show ∃ t,u = Value.int i t from r); subst e; exact sR P w i t
 | inr x => obtain ⟨t,e⟩:=(show ∃ t,u = Value.str x t from r); subst e; exact sS P w x t
theorem pY {P : Program} {w : World} : ∀ {ks : List Key} {us : List Value},Vals (ks.map kV) us -> ItemsAre (bc P w) ks us
 | [],_,r => by rw [List.map_nil] at r; cases r; exact .nil
 | k :: ks,_,r => by
  rw [List.map_cons] at r
  cases r with
  | cons h t => exact .cons (kZ h) (pY t)
abbrev KT (H : Hp) : List (List Key × V) -> List (List Key × Addr × Value) -> Prop:=Paired fun p q => p.1 = q.1 /\ H q.2.1 = some (.tup (p.1.map kV)) /\ RelV p.2 q.2.2
theorem KT.val {H : Hp} {kvs : List (List Key × V)} {xs : List (List Key × Addr × Value)} (r : KT H kvs xs) (k : List Key) : RelO (di kvs k) ((atKey xs k).map (·.2)):=by
 induction r with
 | nil => exact True.intro
 | @cons p q ps qs h t ih =>
  obtain ⟨h1,_,h2⟩:=h
  by_cases e : p.1 = k
  ·have e' : q.1 = k:=h1.symm.trans e
   have b : atKey (q :: qs) k = some q.2:=by simp [atKey,List.find?_cons,e']
   rw [ia e,b]; exact h2
  ·have e' : ¬ q.1 = k:=fun z => e (h1.trans z)
   have b : atKey (q :: qs) k = atKey qs k:=by simp [atKey,List.find?_cons,e']
   rw [fz e,b]; exact ih
theorem KT.repl {H : Hp} {kvs : List (List Key × V)} {xs : List (List Key × Addr × Value)} (r : KT H kvs xs) (k : List Key) {y : V} {u : Value} (ry : RelV y u) :
  KT H (kvs.map fun kv => if kv.1 = k then (kv.1,y) else kv) (xs.map (putAt k u)):=by
 induction r with
 | nil => exact .nil
 | @cons p q ps qs h t ih =>
  rw [List.map_cons,List.map_cons]
  refine .cons ?_ ih
  obtain ⟨h1,h2,h3⟩:=h
  unfold putAt
  by_cases e : p.1 = k
  ·rw [if_pos e,if_pos (h1.symm.trans e)]; exact ⟨h1,h2,ry⟩
  ·rw [if_neg e,if_neg (fun z => e (h1.trans z))]; exact ⟨h1,h2,h3⟩
theorem KT.put {H : Hp} {kvs : List (List Key × V)} {xs : List (List Key × Addr × Value)} (r : KT H kvs xs) (k : List Key) {b : Addr} {y : V} {u : Value} (hb : H b = some (.tup (k.map kV))) (ry : RelV y u) :
  KT H (putK kvs k y) (storedH xs k b u):=by
 have e : (kvs.any fun kv => decide (kv.1 = k)) = (atKey xs k).isSome:=by
  rw [nU,(r.val k).isSome_eq,Option.isSome_map]
 unfold putK storedH
 rw [e]
 by_cases q : (atKey xs k).isSome = true
 ·rw [if_pos q,if_pos q]; exact r.repl k ry
 ·rw [if_neg q,if_neg q]; exact Paired.snoc r ⟨rfl,hb,ry⟩
theorem KT.keeps {H H' : Hp} {kvs : List (List Key × V)} {xs : List (List Key × Addr × Value)} (r : KT H kvs xs) (ht : ∀ b ys,H b = some (.tup ys) -> H' b = some (.tup ys)) : KT H' kvs xs:=
 Paired.mapP r fun _ _ z => ⟨z.1,ht _ _ z.2.1,z.2.2⟩
section
variable {P : Program} {w : World} {H : Hp} {h : Heap} {a : Addr}
theorem yN {u : HO} (ok : HOk P w H h) (e : Rd H a u) : ObjOk P w H h a u:=e.ok ok
theorem sh {kvs : List (Key × V)} (ok : HOk P w H h) (e : Rd H a (.dK kvs)) : kvs.length <= sizeLine /\ (a == sysModules) = false /\ ∃ vs,KV kvs vs /\ h.DictOf (bc P w) a vs:=
 show ObjOk P w H h a (.dK kvs) from yN ok e
theorem wO {kvs : List (Key × V)} (ok : HOk P w H h) (e : H a = some (.dK kvs)) : kvs.length <= sizeLine /\ (a == sysModules) = false /\ ∃ vs,KV kvs vs /\ h.DictOf (bc P w) a vs:=sh ok (.inl e)
theorem mS {ks : List Key} (ok : HOk P w H h) (e : H a = some (.tup (ks.map kV))) : (tupleKind (bc P w)).is h ks a:=by
 obtain ⟨_,its,r,o,h1,h2,n,h3⟩:=(show ObjOk P w H h a (.tup (ks.map kV)) from ok a _ e)
 exact ⟨o,its.toArray,n,h1,h2,h3,by simpa using pY r⟩
theorem si {kvs : List (List Key × V)} (ok : HOk P w H h) (e : Rd H a (.dT kvs)) : kvs.length <= sizeLine /\ (a == sysModules) = false /\
  ∃ xs,KT H kvs xs /\ h.DictOfH (tupleKind (bc P w)) a xs:=by
 obtain ⟨z,y,xs,r,o,es,ep,h1,h2,h3,h4,h5⟩:=(show ObjOk P w H h a (.dT kvs) from yN ok e)
 refine ⟨z,y,xs,r,o,es,ep,h1,h2,h3,h4,fun x hx => ?_,h5⟩
 have all : ∀ {l : List (List Key × V)} {m : List (List Key × Addr × Value)},KT H l m -> ∀ x ∈ m,(tupleKind (bc P w)).is h x.1 x.2.1:=by
  intro l m q
  induction q with
  | nil => intro x hx; exact nomatch hx
  | @cons p q ps qs hq t ih =>
   intro x hx
   rcases List.mem_cons.mp hx with e | hx
   ·subst e
    exact mS ok (by rw [<- hq.1]; exact hq.2.1)
   ·exact ih x hx
 exact all r x hx
theorem zP {kvs : List (List Key × V)} (ok : HOk P w H h) (e : H a = some (.dT kvs)) : kvs.length <= sizeLine /\ (a == sysModules) = false /\
  ∃ xs,KT H kvs xs /\ h.DictOfH (tupleKind (bc P w)) a xs:=si ok (.inl e)
end
def DGet (H : Hp) (a : Addr) (y : V) (r : Option V) : Prop:=
 (∃ kvs k,Rd H a (.dK kvs) /\ y = kV k /\ r = di kvs k) \/ ∃ kvs k b,Rd H a (.dT kvs) /\ y = .ref b /\ H b = some (.tup (k.map kV)) /\ r = di kvs k
def DPut (H : Hp) (a : Addr) (y v : V) (H' : Hp) : Prop:=
 (∃ kvs k,H a = some (.dK kvs) /\ y = kV k /\ kvs.length < sizeLine /\ H' = upd H a (.dK (putK kvs k v))) \/
 ∃ kvs k b,H a = some (.dT kvs) /\ y = .ref b /\ H b = some (.tup (k.map kV)) /\ kvs.length < sizeLine /\ H' = upd H a (.dT (putK kvs k v))
theorem DGet.k {H : Hp} {a : Addr} {kvs : List (Key × V)} {k : Key} (e : H a = some (.dK kvs)) : DGet H a (kV k) (di kvs k):=.inl ⟨kvs,k,.inl e,rfl,rfl⟩
theorem DPut.k {H : Hp} {a : Addr} {kvs : List (Key × V)} {k : Key} {v : V} (e : H a = some (.dK kvs)) (hl : kvs.length < sizeLine) : DPut H a (kV k) v (upd H a (.dK (putK kvs k v))):=.inl ⟨kvs,k,e,rfl,hl,rfl⟩
section
variable {X : Cx} {pins : List (Addr × Obj)} {σ : St} {H : Hp} {s : Shared} {a : Addr} {y v : V} {u r : Value} {o : Option V} {A : Around} {E : Value -> Shared -> Prop}
theorem Inv.big (I : Inv X pins σ H s) : sysModules < s.heap.objs.size:=by
 have h : mainGlobals < s.heap.objs.size:=(I.mod.glob.keeps I.bk).lt
 exact Nat.lt_trans (by decide) h
theorem Av {Q : Value -> Shared -> Prop} (hu : A.units + 1 < cLine) (I : Inv X pins σ H s) (g : DGet H a y o) (ry : RelV y u) (h : ∀ s',Inv X pins σ H s' -> Q (.bool o.isSome) s') :
  wpAny (model X.prog X.w) A (compareOp .In u (.ref a)) Q E s:=by
 rcases g with ⟨kvs,k,e,ey,l⟩ | ⟨kvs,k,b,e,ey,eb,l⟩
 ·subst ey
  obtain ⟨z,hd,vs,rel,dd⟩:=sh I.hok e
  refine wpAny_in_of (kZ ry) hd dd.mapOf ?_
  rw [<- (rel.val k).isSome_eq,<- l]
  exact h _ (I.tok _)
 ·subst ey
  cases (show u = Value.ref b from ry)
  obtain ⟨z,hd,xs,rel,dd⟩:=si I.hok e
  refine wpAny_in_heap (tupleKind_room_in1 hu) (mS I.hok eb) hd dd ?_
  have q:=(rel.val k).isSome_eq
  rw [Option.isSome_map] at q
  rw [<- q,<- l]
  exact h _ (I.tok _)
theorem x6 {Q : Value -> Shared -> Prop} (hu : A.units + 1 < cLine) (I : Inv X pins σ H s) (g : DGet H a y o) (ry : RelV y u) (h : ∀ s',Inv X pins σ H s' -> Q (.bool (!o.isSome)) s') :
  wpAny (model X.prog X.w) A (compareOp .NotIn u (.ref a)) Q E s:=by
 rcases g with ⟨kvs,k,e,ey,l⟩ | ⟨kvs,k,b,e,ey,eb,l⟩
 ·subst ey
  obtain ⟨z,hd,vs,rel,dd⟩:=sh I.hok e
  refine wpAny_notIn_of (kZ ry) hd dd.mapOf ?_
  rw [<- (rel.val k).isSome_eq,<- l]
  exact h _ (I.tok _)
 ·subst ey
  cases (show u = Value.ref b from ry)
  obtain ⟨z,hd,xs,rel,dd⟩:=si I.hok e
  refine wpAny_notIn_heap (tupleKind_room_in1 hu) (mS I.hok eb) hd dd ?_
  have q:=(rel.val k).isSome_eq
  rw [Option.isSome_map] at q
  rw [<- q,<- l]
  exact h _ (I.tok _)
theorem l5 {h' : Heap} {t' : Nat} {ob : HO} (I : Inv X pins σ H s) (mu : Mut (H a)) (hs : Heap.SameBut a s.heap h') (he : ∃ q,h'.get? a = some q) (new : ObjOk X.prog X.w (upd H a ob) h' a ob) :
  Inv X pins σ (upd H a ob) { s with heap:=h',toks:=t' }:=
 I.write (x:=a) (e:=a) mu (.inl rfl) (fun b q hb z => (hs.2 b hb).trans z) he new
theorem qz {P : Program} {w : World} {H' : Hp} {h' : Heap} {kvs : List (Key × V)} {vs : List (Key × Value)} (z : kvs.length <= sizeLine) (hd : (a == sysModules) = false) (rel : KV kvs vs) (dd : h'.DictOf (bc P w) a vs) :
  ObjOk P w H' h' a (.dK kvs):=⟨z,hd,vs,rel,dd⟩
theorem vp {H' : Hp} {Q : Unit -> Shared -> Prop} (hu : A.units + 1 < cLine) (I : Inv X pins σ H s) (g : DPut H a y v H') (ry : RelV y u) (rv : RelV v r) (h : ∀ s',Inv X pins σ H' s' -> Q () s') :
  wpAny (model X.prog X.w) A (setItem (.ref a) u r) Q E s:=by
 rcases g with ⟨kvs,k,e,ey,l,eH⟩ | ⟨kvs,k,b,e,ey,eb,l,eH⟩
 ·subst ey eH
  obtain ⟨z,hd,vs,rel,dd⟩:=wO I.hok e
  have hz : vs.length <= sizeLine:=by rw [<- rel.length]; exact z
  have hl : (putK kvs k v).length <= sizeLine:=by have:=eK kvs k v; omega
  refine wpAny_setItem_pairs (hsz:=hz) (kZ ry) dd fun h' dd' hs => h _ ?_
  have he : ∃ q,h'.get? a = some q:=let ⟨q,_,_,hq,_⟩:=dd'; ⟨q,hq⟩
  exact l5 I (by rw [e]; exact True.intro) hs he (qz hl hd (rel.put k rv) dd')
 ·subst ey eH
  cases (show u = Value.ref b from ry)
  obtain ⟨z,hd,xs,rel,dd⟩:=zP I.hok e
  have hz : xs.length <= sizeLine:=by rw [<- Paired.length rel]; exact z
  have hl : (putK kvs k v).length <= sizeLine:=by have:=eK kvs k v; omega
  refine wpAny_setItem_heap (hsz:=hz) (tupleKind_room_in1 hu) (mS I.hok eb) dd fun h' dd' hs => h _ ?_
  obtain ⟨q,es,ep,hq,h2,h3,h4,_,h5⟩:=dd'
  refine l5 I (by rw [e]; exact True.intro) hs ⟨q,hq⟩ ⟨hl,hd,_,(rel.put k eb rv).keeps fun c ys ec => ?_,q,es,ep,hq,h2,h3,h4,h5⟩
  rw [ao (cY ec e (fun z => nomatch z))]
  exact ec
end
section
variable {X : Cx} {pins : List (Addr × Obj)} {σ : St} {H : Hp} {s : Shared} {a : Addr} {kvs : List (Key × V)} {k : Key} {u : Value} {A : Around} {E : Value -> Shared -> Prop}
theorem zO {v : V} {more : List Value} {Q : Value -> Shared -> Prop} (I : Inv X pins σ H s) (e : H a = some (.dK kvs)) (ry : RelV (kV k) u) (l : di kvs k = some v) (hm : more = [] \/ ∃ x,more = [x])
  (h : ∀ w' s',Inv X pins σ (upd H a (.dK (mG kvs k))) s' -> RelV v w' -> Q w' s') : wpAny (model X.prog X.w) A (call (.builtin "dict.pop") (.ref a :: u :: more)) Q E s:=by
 obtain ⟨z,hd,vs,rel,dd⟩:=wO I.hok e
 obtain ⟨w',hw,rw'⟩:=RelO.some_of (v:=v) (o:=valueAt vs k) (by rw [<- l]; exact rel.val k)
 have hp : (keyPart u).isSome = true:=by
  cases k with
  | inl i => obtain ⟨t,q⟩:=(show ∃ t,u = Value.int i t from ry); subst q; rfl
  | inr x => obtain ⟨t,q⟩:=(show ∃ t,u = Value.str x t from ry); subst q; rfl
 have ha : argsOk "dict.pop" ⟨.ref a :: u :: more,[]⟩:=by
  rcases hm with q | ⟨x,q⟩
  ·subst q; exact PySem.F.args_dict_pop_2 _ _
  ·subst q; exact PySem.F.args_dict_pop_3 _ _ _
 refine call_meetsIn PySem.F.slot_dict_pop dd.typeIs PySem.F.entry_dict_pop ha (meets_dict_pop_there (bc X.prog X.w) a (kZ ry) more hm hp)
  ⟨vs,w',dd,by rw [<- rel.length]; exact z,hw,fun h' dd' hs => h w' _ ?_ rw'⟩
 have he : ∃ q,h'.get? a = some q:=let ⟨q,_,_,hq,_⟩:=dd'; ⟨q,hq⟩
 exact l5 I (by rw [e]; exact True.intro) hs he (qz (Nat.le_trans (wQ kvs k) z) hd (rel.drop k) dd')
end
def AM (ty td : TE) : TE:=fun σ H Q => ty σ H fun y H1 => td σ H1 fun x H2 => ∃ a o,x = .ref a /\ DGet H2 a y o /\ Q (.bl o.isSome) H2
def yE (ty td : TE) : TE:=fun σ H Q => ty σ H fun y H1 => td σ H1 fun x H2 => ∃ a o,x = .ref a /\ DGet H2 a y o /\ Q (.bl (!o.isSome)) H2
def Ac (td ty tv : TE) : TS:=fun D σ H => tv σ H fun v H1 => td σ H1 fun x H2 => ty σ H2 fun y H3 => ∃ a H4,x = .ref a /\ DPut H3 a y v H4 /\ D.nx σ H4
section
variable {X : Cx} {o i e value : Expr} {pos pos' tpos : Pos} {td ty tv : TE}
theorem zi (hu : X.A.units + 1 < cLine) (hi : PE X i ty) (ho : PE X o td) : PC X .In i o (AM ty td):=by
 intro pins s σ H Q I h
 refine thn (hi pins s σ H _ I h) fun iv s1 ⟨y,H1,I1,ry,q1⟩ => thn (ho pins s1 σ H1 _ I1 q1) fun u s2 ⟨x,H2,I2,rx,a,ov,ex,g,q2⟩ => ?_
 subst ex
 obtain rfl : u = Value.ref a:=rx
 exact Av hu I2 g ry fun s3 I3 => ⟨.bl ov.isSome,H2,I3,rfl,q2⟩
theorem p8 (hu : X.A.units + 1 < cLine) (hi : PE X i ty) (ho : PE X o td) : PC X .NotIn i o (yE ty td):=by
 intro pins s σ H Q I h
 refine thn (hi pins s σ H _ I h) fun iv s1 ⟨y,H1,I1,ry,q1⟩ => thn (ho pins s1 σ H1 _ I1 q1) fun u s2 ⟨x,H2,I2,rx,a,ov,ex,g,q2⟩ => ?_
 subst ex
 obtain rfl : u = Value.ref a:=rx
 exact x6 hu I2 g ry fun s3 I3 => ⟨.bl (!ov.isSome),H2,I3,rfl,q2⟩
theorem u6 (hu : X.A.units + 1 < cLine) (ho : PE X o td) (hi : PE X i ty) (hv : PE X value tv) (hs : swapsWith value (some (.Subscript o i pos')) pos.line X.env = pure false) :
  PS X (.Assign [.Subscript o i pos'] value pos) (Ac td ty tv):=by
 intro pins s σ H D I h
 refine wpAny_Assign_Subscript (thn (hv pins s σ H _ I h) fun r s1 ⟨v,H1,I1,rv,q1⟩ => thn (ho pins s1 σ H1 _ I1 q1) fun u s2 ⟨x,H2,I2,rx,q2⟩ => thn (hi pins s2 σ H2 _ I2 q2) fun iv s3 ⟨y,H3,I3,ry,a,H4,ex,g,q3⟩ => ?_) hs
 subst ex
 obtain rfl : u = Value.ref a:=rx
 exact vp hu I3 g ry rv fun s4 I4 => ⟨σ,H4,I4,q3⟩
end
theorem wN {P : Program} {w : World} {H : Hp} (h : Heap) (hb : sysModules < h.objs.size) : ObjOk P w H (h.push { cls:=.type "dict",data:=.dict #[] }) h.objs.size (.dK []):=
 ⟨Nat.zero_le _,beq_eq_false_iff_ne.mpr (Ne.symm (Nat.ne_of_lt hb)),[],.nil,Heap.DictOf.new h⟩
def zE : TE:=fun _ H Q => ∀ p,H p = none -> Q (.ref p) (upd H p (.dK []))
section
variable {X : Cx} {pos : Pos}
theorem tw : PE X (.Dict [] [] pos) zE:=fun pins s σ H Q I h =>
 wpAny_Dict_empty ⟨.ref s.heap.objs.size,_,I.laid (a:=s.heap.objs.size) (o:=.dK []) (t' := s.toks) (fun _ _ q => Heap.get?_push_of_some _ q) (Nat.le_refl _) (wN s.heap I.big),rfl,h _ (I.hok.fresh (Nat.le_refl _))⟩
end
def gE (kvs more : List (Key × V)) : List (Key × V):=more.foldl (fun acc kv => putK acc kv.1 kv.2) kvs
theorem KV.merge : ∀ {more : List (Key × V)} {rs : List (Key × Value)} {kvs : List (Key × V)} {vs : List (Key × Value)},KV more rs -> KV kvs vs -> KV (gE kvs more) (merged vs rs):=by
 intro more rs kvs vs r
 unfold KV at r
 induction r generalizing kvs vs with
 | nil => intro q; exact q
 | @cons p q ps qs h t ih =>
  intro r0
  have e : KV (putK kvs p.1 p.2) (stored vs q.1 q.2):=by
   have:=r0.put p.1 h.2
   rw [<- h.1]; exact this
  exact ih e
theorem iU : ∀ (more kvs : List (Key × V)),(gE kvs more).length <= kvs.length + more.length
 | [],kvs => by show kvs.length <= kvs.length + 0; omega
 | p :: r,kvs => by
  have h1:=iU r (putK kvs p.1 p.2)
  have h2:=eK kvs p.1 p.2
  show (gE (putK kvs p.1 p.2) r).length <= _
  rw [List.length_cons]; omega
structure M1 (X : Cx) (o : Expr) (m : Str) (apos : Pos) (e : Expr) (cpos : Pos) : Prop where
 base : attributeBase o m X.env (eval o X.env) = eval o X.env
 few : ((backTo cpos (starEach [e] X.env)).all (fun x => !x.1) && (backToKw cpos (keywordEach [] X.env)).all (fun x => x.1.isSome)
  && decide (([e] : List Expr).length + ([] : List Keyword).length + (if ([] : List Keyword).isEmpty then 0 else 1) < 30)) = true
 line : (apos.endLine == cpos.line) = true
 trees : backTo cpos (starEach [e] X.env) = [(false,eval e X.env)]
structure M2 (X : Cx) (o : Expr) (m : Str) (apos : Pos) (e f : Expr) (cpos : Pos) : Prop where
 base : attributeBase o m X.env (eval o X.env) = eval o X.env
 few : ((backTo cpos (starEach [e,f] X.env)).all (fun x => !x.1) && (backToKw cpos (keywordEach [] X.env)).all (fun x => x.1.isSome)
  && decide (([e,f] : List Expr).length + ([] : List Keyword).length + (if ([] : List Keyword).isEmpty then 0 else 1) < 30)) = true
 line : (apos.endLine == cpos.line) = true
 trees : backTo cpos (starEach [e,f] X.env) = [(false,eval e X.env),(false,eval f X.env)]
def IsD (H : Hp) (a : Addr) : Prop:=(∃ kvs,Rd H a (.dK kvs)) \/ ∃ kvs,Rd H a (.dT kvs)
theorem t8 {X : Cx} {pins : List (Addr × Obj)} {σ : St} {H : Hp} {s : Shared} {a : Addr} (I : Inv X pins σ H s) (d : IsD H a) :
  s.TypeIs (.ref a) "dict" /\ (∀ b,Value.ref a = .ref b -> ∃ ob,s.heap.get? b = some ob /\ ob.dict = none) /\ (a == sysModules) = false:=by
 rcases d with ⟨kvs,e⟩ | ⟨kvs,e⟩
 ·obtain ⟨_,hd,vs,_,dd⟩:=sh I.hok e
  refine ⟨dd.typeIs,fun b q => ?_,hd⟩
  cases q
  obtain ⟨ob,_,_,h1,h2,_⟩:=dd
  exact ⟨ob,h1,h2.2.1⟩
 ·obtain ⟨_,hd,xs,_,dd⟩:=si I.hok e
  refine ⟨dd.typeIs,fun b q => ?_,hd⟩
  cases q
  obtain ⟨ob,_,_,h1,h2,_⟩:=dd
  exact ⟨ob,h1,h2.2.1⟩
section
variable {X : Cx} {pins : List (Addr × Obj)} {σ : St} {H : Hp} {s : Shared} {a : Addr} {y d : V} {u r : Value} {o : Option V} {A : Around} {E : Value -> Shared -> Prop}
theorem yY {Q : Value -> Shared -> Prop} (hu : A.units + 1 < cLine) (I : Inv X pins σ H s) (g : DGet H a y o) (ry : RelV y u) (rd : RelV d r) (h : ∀ w' s',Inv X pins σ H s' -> RelV (o.getD d) w' -> Q w' s') :
  wpAny (model X.prog X.w) A (call (.builtin "dict.get") [.ref a,u,r]) Q E s:=by
 rcases g with ⟨kvs,k,e,ey,l⟩ | ⟨kvs,k,b,e,ey,eb,l⟩
 ·subst ey
  obtain ⟨z,hd,vs,rel,dd⟩:=sh I.hok e
  refine call_meetsIn PySem.F.slot_dict_get dd.typeIs PySem.F.entry_dict_get (PySem.F.args_dict_get_3 _ _ _) (meets_dict_get_default (bc X.prog X.w) a (kZ ry) hd r) ⟨_,dd.mapOf,h _ _ (I.tok _) ?_⟩
  rw [l]
  exact (rel.val k).getD rd
 ·subst ey
  cases (show u = Value.ref b from ry)
  obtain ⟨z,hd,xs,rel,dd⟩:=si I.hok e
  refine call_meetsIn PySem.F.slot_dict_get dd.typeIs PySem.F.entry_dict_get (PySem.F.args_dict_get_3 _ _ _) (meetsH_dict_get_default (tupleKind (bc X.prog X.w)) a b hd r) ⟨tupleKind_room_in1 hu,k,xs,mS I.hok eb,dd,h _ _ (I.tok _) ?_⟩
  rw [l]
  exact (rel.val k).getD rd
end
def zD (td ty tx : TE) : TE:=fun σ H Q => td σ H fun x H1 => ∃ a,x = .ref a /\ IsD H1 a /\ ty σ H1 fun y H2 => tx σ H2 fun z H3 => ∃ o,DGet H3 a y o /\ Q (o.getD z) H3
def zF (td ty : TE) : TE:=fun σ H Q => td σ H fun x H1 => ∃ a,x = .ref a /\ IsD H1 a /\ ty σ H1 fun y H2 => ∃ kvs k v,H2 a = some (.dK kvs) /\ y = kV k /\ di kvs k = some v /\ Q v (upd H2 a (.dK (mG kvs k)))
section
variable {X : Cx} {o e f : Expr} {apos cpos : Pos} {td ty tx : TE}
theorem xx (hu : X.A.units + 1 < cLine) (ho : PE X o td) (he : PE X e ty) (hf : PE X f tx) (m : M2 X o "get" apos e f cpos) : PE X (.Call (.Attribute o "get" apos) [e,f] [] cpos) (zD td ty tx):=by
 intro pins s σ H Q I h
 refine wpAny_Call_method m.base m.few m.line PySem.F.plainAttrs_dict PySem.F.slot_dict_get PySem.F.type_dict_get (thn (ho pins s σ H _ I h) fun u s1 ⟨x,H1,I1,rx,a,ex,d,q1⟩ => ?_)
 subst ex
 obtain rfl : u = Value.ref a:=rx
 obtain ⟨t1,t2,_⟩:=t8 I1 d
 refine ⟨t1,t2,?_⟩
 rw [m.trees]
 refine Calls.callWith_builtin rfl (Calls.evalArgs_plain (Calls.spliced_cons (thn (he pins s1 σ H1 _ I1 q1) fun iv s2 ⟨y,H2,I2,ry,q2⟩ =>
  Calls.spliced_cons (thn (hf pins s2 σ H2 _ I2 q2) fun fv s3 ⟨z,H3,I3,rz,ov,g,q3⟩ => Calls.spliced_nil ?_))))
 exact yY hu I3 g ry rz fun w' s4 I4 rw' => ⟨_,H3,I4,rw',q3⟩
theorem xy (ho : PE X o td) (he : PE X e ty) (m : M1 X o "pop" apos e cpos) : PE X (.Call (.Attribute o "pop" apos) [e] [] cpos) (zF td ty):=by
 intro pins s σ H Q I h
 refine wpAny_Call_method m.base m.few m.line PySem.F.plainAttrs_dict PySem.F.slot_dict_pop PySem.F.type_dict_pop (thn (ho pins s σ H _ I h) fun u s1 ⟨x,H1,I1,rx,a,ex,d,q1⟩ => ?_)
 subst ex
 obtain rfl : u = Value.ref a:=rx
 obtain ⟨t1,t2,_⟩:=t8 I1 d
 refine ⟨t1,t2,?_⟩
 rw [m.trees]
 refine Calls.callWith_builtin rfl (Calls.evalArgs_plain (Calls.spliced_cons (thn (he pins s1 σ H1 _ I1 q1) fun iv s2 ⟨y,H2,I2,ry,kvs,k,v,ea,ey,l,q2⟩ => Calls.spliced_nil ?_)))
 subst ey
 exact zO I2 ea ry l (.inl rfl) fun w' s3 I3 rw' => ⟨v,_,I3,rw',q2⟩
end
section
variable {X : Cx} {pins : List (Addr × Obj)} {σ : St} {H : Hp} {s : Shared} {a : Addr} {kvs : List (Key × V)} {A : Around} {E : Value -> Shared -> Prop}
end
section
variable {X : Cx} {pins : List (Addr × Obj)} {σ : St} {H : Hp} {s : Shared} {a : Addr} {y : V} {u : Value} {A : Around} {E : Value -> Shared -> Prop}
end
end L2
namespace L2
open PySem PySem.Spec PyProof.Rows
section
variable {κ : Type} [DecidableEq κ]
theorem jR : ∀ {l : List κ} {k : κ},l.Nodup -> ¬ k ∈ l -> (l ++ [k]).Nodup
 | [],k,_,_ => by simp
 | a :: r,k,h,hk => by
  obtain ⟨h1,h2⟩:=List.nodup_cons.mp h
  show (a :: (r ++ [k])).Nodup
  refine List.nodup_cons.mpr ⟨fun m => ?_,jR h2 fun m => hk (List.mem_cons.mpr (Or.inr m))⟩
  rcases List.mem_append.mp m with q | q
  ·exact h1 q
  ·exact hk (List.mem_cons.mpr (Or.inl (List.mem_singleton.mp q).symm))
end
end L2
set_option Elab.async false
set_option linter.all false
set_option maxRecDepth 100000
namespace PySem
open Sem (wp)
open Builtin
end PySem
namespace L2
open PySem PySem.Spec PyProof.Rows
section
variable {X : Cx}
def yM (K : PySem.W.Frag) : R2:=fun x y H Q => ∃ a b xs ys,x = .ref a /\ y = .ref b /\ SqT K H a xs /\ SqT K H b ys /\ xs.length + ys.length <= sizeLine /\
 (xs = [] -> Q (.ref b) H) /\ (xs ≠ [] -> ys = [] -> Q (.ref a) H) /\ (xs ≠ [] -> ys ≠ [] -> ∀ p,H p = none -> Q (.ref p) (upd H p (.tup (xs ++ ys))))
theorem yp : OpR X (binaryOp .Add) (yM X.K):=by
 intro pins s σ H x y v u Q I rx ry h
 obtain ⟨a,b,xs,ys,rfl,rfl,ha,hb,hz,q0,q1,q2⟩:=h
 by_cases hx : xs = []
 ·cases rx
  cases ry
  obtain ⟨its,r1,p1,_⟩:=I.tuple ha
  obtain ⟨its2,r2,p2,_⟩:=I.tuple hb
  obtain ⟨⟨cls,dd,data,sl⟩,ho,hc,n,hd⟩:=id p1
  obtain ⟨⟨cls2,dd2,data2,sl2⟩,ho2,hc2,n2,hd2⟩:=id p2
  simp only at hc hd hc2 hd2
  subst hc hd hc2 hd2
  have e : its = []:=r1.nil_iff.mpr hx
  exact concat_meets ⟨_,ho,rfl⟩ ⟨_,ho2,rfl⟩ noFill_tuple_add seq_tuple_add PySem.F.slot_tuple_add PySem.F.entry_tuple_add (PySem.F.args_tuple_add_2 _ _)
   (tuple_addW0 a b its.toArray its2.toArray n n2 dd dd2 sl sl2 (by simp [e])) ⟨ho,ho2,⟨.ref b,H,I,rfl,q0 hx⟩⟩
 ·exact yq pins s σ H _ _ v u Q I rx ry ⟨a,b,xs,ys,rfl,rfl,ha,hb,hx,hz,q1 hx,q2 hx⟩
end
inductive Pl (H : Hp) : V -> Prop where
 | non : Pl H .non
 | bl (b : Bool) : Pl H (.bl b)
 | int (i : Int) : Pl H (.int i)
 | str (x : Str) : Pl H (.str x)
 | lst {a : Addr} {xs : List V} (e : H a = some (.lst xs)) : Pl H (.ref a)
 | tup {a : Addr} {xs : List V} (e : H a = some (.tup xs)) : Pl H (.ref a)
 | dK {a : Addr} {kvs : List (Key × V)} (e : H a = some (.dK kvs)) : Pl H (.ref a)
structure PEW (X : Cx) (e : Expr) (t : TE) : Prop where
 out : PE X e t
structure PAW (X : Cx) (es : List Expr) (t : TA) : Prop where
 out : PA X es t
structure PTW (X : Cx) (e : Expr) (t : TT) : Prop where
 out : PT X e t
structure PSW (X : Cx) (s : Stmt) (t : TS) : Prop where
 out : PS X s t
structure PSsW (X : Cx) (s : List Stmt) (t : TS) : Prop where
 out : PSs X s t
section
variable {X : Cx} {a b e : Expr} {es : List Expr} {ta tb te : TE} {t : TA} {pos : Pos}
theorem xV : PAW X [] Aj:=⟨ag⟩
theorem cz (ha : PEW X e te) (hr : PAW X es t) (hs : starEach (e :: es) X.env = (false,eval e X.env) :: starEach es X.env:=by rfl) : PAW X (e :: es) (yP te t):=⟨aa ha.out hr.out hs⟩
theorem yQ (h : PAW X es t) : PEW X (.List es pos) (Ai t):=⟨bq h.out⟩
theorem AU {r : R2} (hr : IxR X r) (ha : PEW X a ta) (hb : PEW X b tb) (hs : uL b) : PEW X (.Subscript a b pos) (tOp r ta tb):=⟨aB hr ha.out hb.out hs⟩
variable {st : Stmt} {rest : List Stmt} {ts us : TS}
theorem dM (h1 : PSW X st ts) (h2 : PSsW X rest us) : PSsW X (st :: rest) (uE ts us):=⟨af h1.out h2.out⟩
theorem zJ (h1 : PSW X st ts) : PSsW X [st] ts:=⟨ak h1.out⟩
theorem yR {i : Nat} {x : Str} {pos' : Pos} (hN : X.N.Nodup) (hi : X.N[i]? = some x) (hx : Loc X.env.scope x) (he : PEW X e te) (hs : swapsWith e (some (.Name x pos')) pos.line X.env = pure false:=by rfl) (hf : X.fn x = true \/ X.env.scope.names.lookup x = some .local:=by first | exact .inl rfl | exact .inr rfl | assumption) :
  PSW X (.Assign [.Name x pos'] e pos) (wo te (aL i)):=⟨au hN hi hx he.out hs hf⟩
theorem yX {b : List Stmt} {R : TS -> Prop} (h : PSsW X b ts) (r : R ts) : ∃ t,PSs X b t /\ R t:=⟨ts,h.out,r⟩
end
end L2
set_option Elab.async false
set_option linter.all false
set_option maxRecDepth 100000
namespace L2
open PySem PySem.Spec PyProof.Rows
def CX1 (P : Program) (w : World) : CXT:=fun outer H s E e s' => ∃ (ea t C : Addr) (B : Heap) (H' : Hp),e = .ref ea /\ s'.os = s.os /\ AllBare s'.gens /\ Un (frs outer) [] H H' s.heap s'.heap /\ HOk P w H' B /\
 Heap.FlyingW B outer ea (.ref C) (.ref t) s'.heap /\ (∀ b o,s.heap.get? b = some o -> b ∉ frs outer -> ∃ o',B.get? b = some o') /\ H' ea = none /\ E (.ref C) none H'
section
variable {P : Program} {w : World} {K : PySem.W.Frag} {mg : Str -> Option Value} {base : Heap} {N : List Str} {qual : Str} {scope : Scope} {f : Addr} {cd : Value} {A : Around} {outer : List Env} {s : Shared} {H : Hp} {E : XK}
end
end L2
set_option Elab.async false
set_option linter.all false
set_option maxRecDepth 100000
namespace L2
open PySem PySem.Spec PyProof.Rows
section
variable {X : Cx} {x : Str} {j k : Nat} {ps : List Str} {dvs : List V} {sp : Sp} {p pos cpos : Pos} {e : Expr} {es : List Expr} {t : TA} {C : Addr} {E : XK}
end
structure DefX (P : Program) (w : World) (K : PySem.W.Frag) (mg : Str -> Option Value) (base : Heap) (x : Str) (k : Nat) (ps : List Str) (dvs : List V) (sp : Sp) : Prop where
 ex : ∃ (f : Addr) (fd : FuncData) (ds : List Value),mg x = some (.ref f) /\ PySem.W.keepIn K (.ref f) = true /\ Vals dvs ds /\ Binds K fd ps ds /\ FnOk P w K mg base (CX1 P w) k f fd ps sp
section
variable {X : Cx} {x : Str} {j k : Nat} {ps : List Str} {dvs : List V} {sp : Sp} {p pos : Pos} {e : Expr} {es : List Expr} {t : TA} {E : XK}
end
section
variable {P : Program} {w : World} {K : PySem.W.Frag} {mg : Str -> Option Value} {base : Heap}
end
section
variable {X : Cx} {e v1 v2 : Expr} {es rest : List Expr} {pos : Pos} {te : TE} {n : Nat}
end
end L2
set_option Elab.async false
set_option linter.all false
set_option maxRecDepth 100000
namespace L2
open PySem PySem.Spec PySem.W PySem.Builtin PySem.Builtin.Getset_descriptor
structure XCls (K : PySem.W.Frag) (C : Addr) : Prop where
 ga : findIn K (.ref C) "__getattribute__" = some (some (.builtin "BaseException.__getattribute__"))
 gt : findIn K (.ref C) "__getattr__" = some none
 cl : findIn K (.ref C) "__class__" = some (some (.builtin "object.__class__"))
 gg : specialIn K (.builtin "object.__class__") "__get__" = some (some (.builtin "getset_descriptor.__get__"))
 tk : takesIn K (.builtin "object.__class__") = some true
 ob : mroIn K C (.type "object") = some true
 be : mroIn K C (.type "BaseException") = some true
 ci : (clsIn K C).isSome = true
section
variable {prog : Program} {w : World} {A : Around} {E : Value -> Shared -> Prop} {s : Shared} {K : PySem.W.Frag} {ea C : Addr} {ob : Obj}
end
end L2
set_option Elab.async false
set_option linter.all false
set_option maxRecDepth 100000
namespace L2
open PySem PySem.Spec PyProof.Rows
section
variable {X : Cx} {pins : List (Addr × Obj)} {σ : St} {H : Hp} {s : Shared} {E : XK} {ea : Addr}
abbrev TX:=Ends -> XK -> St -> Hp -> Prop
end
section
variable {X : Cx} {x : Str} {j k : Nat} {ps : List Str} {dvs : List V} {sp : Sp} {p pos : Pos} {e : Expr} {es : List Expr} {t : TA} {E : XK}
end
section
variable {P : Program} {w : World} {fs : List Addr} {H H1 : Hp} {h h1 : Heap} {ea C : Addr} {o : HO}
end
section
variable {X : Cx} {pins : List (Addr × Obj)} {σ : St} {H : Hp} {s : Shared} {E : XK}
end
section
variable {X : Cx} {pins : List (Addr × Obj)} {σ : St} {H : Hp} {s s' : Shared} {E : XK} {C F : Addr} {i : Nat} {x n : Str} {np pos hpos : Pos} {body : List Stmt} {b₀ : Stmt} {suite : List Stmt} {tb : TX} {ts : TS}
end
end L2
set_option Elab.async false
set_option linter.all false
set_option maxRecDepth 100000
namespace L2
open PySem PySem.Spec PyProof.Rows
structure RoomH (k : Nat) (A : Around) : Prop where
 dp : A.depth + 3 * k + 5 < recursionLimit
 un : A.units + 16 * k + 200 < cLine
structure FnOkH (P : Program) (w : World) (K : PySem.W.Frag) (mg : Str -> Option Value) (base : Heap) (CX : CXT) (k : Nat) (f : Addr) (fd : FuncData) (ps : List Str) (sp : Sp) : Prop where
 len : ∀ vs H Q E,sp vs H Q E -> vs.length = ps.length
 run : ∀ (A : Around) (outer : List Env) (s : Shared) (H : Hp) (args : Args) (us : List Value) (vs : List V) (Q : VK) (E : XK),RoomH k A -> Env0 P w K mg base A outer s H -> BindsTo s fd args (ps.zip us) -> Vals vs us -> sp vs H Q E ->
  codeAny (model P w) A (.call (.ref f) args) (CR CX outer P w H s Q E) s
structure DefH (P : Program) (w : World) (K : PySem.W.Frag) (mg : Str -> Option Value) (base : Heap) (x : Str) (k : Nat) (ps : List Str) (dvs : List V) (sp : Sp) : Prop where
 ex : ∃ (f : Addr) (fd : FuncData) (ds : List Value),mg x = some (.ref f) /\ PySem.W.keepIn K (.ref f) = true /\ Vals dvs ds /\ Binds K fd ps ds /\ FnOkH P w K mg base CX0 k f fd ps sp
section
variable {P : Program} {w : World} {K : PySem.W.Frag} {mg : Str -> Option Value} {base : Heap}
end
section
variable {X : Cx} {x : Str} {j k : Nat} {ps : List Str} {dvs : List V} {sp : Sp} {p pos : Pos} {e : Expr} {es : List Expr} {t : TA}
end
section
variable {X : Cx}
end
end L2
set_option Elab.async false
set_option linter.all false
set_option maxRecDepth 100000
namespace L2
open PySem PySem.Spec PyProof.Rows
section
variable {X : Cx}
end
end L2
set_option Elab.async false
set_option linter.all false
set_option maxRecDepth 100000
namespace L2
open PySem PySem.Spec PyProof.Rows
section
variable {prog : Program} {w : World} {A : Around} {E : Value -> Shared -> Prop} {s : Shared} {it l S : Addr} {items : Array Value}
end
theorem Vals.rev {xs : List V} {us : List Value} (r : Vals xs us) : Vals xs.reverse us.reverse:=by
 induction r with
 | nil => exact .nil
 | cons a t ih =>
  rw [List.reverse_cons,List.reverse_cons]
  exact ih.append (.cons a .nil)
section
variable {X : Cx} {a : Expr} {ta : TA} {p p2 pos pos2 : Pos}
end
end L2
set_option Elab.async false
set_option linter.all false
set_option maxRecDepth 100000
namespace L2
open PySem PySem.Spec PyProof.Rows
theorem k3 {α β : Type} {F : α -> β -> Prop} : ∀ {l₁ : List α} {l₂ : List β} {j : Nat} {q : β},Paired F l₁ l₂ -> l₂[j]? = some q -> ∃ p,l₁[j]? = some p /\ F p q
 | _,_,_,_,.nil,e => by simp at e
 | _,_,0,_,.cons r _,e => by simp at e; subst e; exact ⟨_,rfl,r⟩
 | _,_,j + 1,_,.cons _ t,e => by
  obtain ⟨p,h1,h2⟩:=k3 (j:=j) t (by simpa using e)
  exact ⟨p,by simpa using h1,h2⟩
section
variable {X : Cx}
theorem pZ : ∀ {ks : List Key} {us : List Value},us.length = ks.length -> (∀ (j : Nat) (v : Value),us[j]? = some v -> ∃ k,ks[j]? = some k /\ mR k v = true) -> Vals (ks.map kV) us
 | [],[],_,_ => .nil
 | [],_ :: _,h,_ => by simp at h
 | _ :: _,[],h,_ => by simp at h
 | k :: ks,u :: us,h,q => by
  obtain ⟨k',e,i⟩:=q 0 u rfl
  cases (show k = k' from by simpa using e)
  refine .cons ?_ (pZ (by simpa using h) fun j v e => by simpa using q (j + 1) v (by simpa using e))
  rcases br i with ⟨n,t,rfl,rfl⟩ | ⟨x,t,rfl,rfl⟩
  ·exact ⟨t,rfl⟩
  ·exact ⟨t,rfl⟩
def zt : List V -> Hp -> VK -> Prop:=fun xs H Q => ∃ p kvs,xs = [.ref p] /\ H p = some (.dK kvs) /\ ∀ l,H l = none -> Q (.ref l) (upd H l (.lst (kvs.map fun q => kV q.1)))
theorem tU (hc : X.calm = true) : gO X (.type "list") zt:=by
 intro pins s σ H xs us Q I r h
 obtain ⟨p,kvs,rfl,hp,q⟩:=h
 obtain ⟨u,rfl,rx⟩:=vals1 r
 cases rx
 obtain ⟨hz,lo,vs,kv,dof⟩:=(show ObjOk X.prog X.w H s.heap p (.dK kvs) from I.hok p _ hp)
 obtain ⟨ep,hat⟩:=dof.dictAt
 have hlen : kvs.length = vs.length:=Paired.length kv
 refine PySem.W.kdl_call (PySem.W.kdl_dict (knd:=bc X.prog X.w) (kvs:=vs) (ep:=ep) lo) (I.ok.hd hc) hat (by rw [<- hlen]; exact hz) fun h' tk acc c' kp e hacc => ?_
 have rv : Vals ((kvs.map (·.1)).map kV) acc.toList:=pZ (by rw [Array.length_toList,hacc.1,List.length_map,hlen]) fun j v ej => by
  obtain ⟨k,x,e1,e2⟩:=hacc.2 j v (by rw [<- Array.getElem?_toList]; exact ej)
  refine ⟨k,?_,e2⟩
  obtain ⟨pv,f1,f2⟩:=k3 kv e1
  rw [List.getElem?_map,f1]
  exact congrArg some f2.1
 rw [List.map_map] at rv
 have ob : ObjOk X.prog X.w (upd H s.heap.objs.size (.lst (kvs.map fun q => kV q.1))) h' s.heap.objs.size (.lst (kvs.map fun q => kV q.1)):=by
  refine ⟨by rw [List.length_map]; exact hz,acc.toList,c',rv,?_⟩
  rw [Array.toArray_toList]
  exact e
 exact ⟨.ref _,_,I.laid (t' := tk) kp (Nat.le_refl _) ob,rfl,q _ (I.hok.fresh (Nat.le_refl _))⟩
end
end L2
set_option Elab.async false
set_option linter.all false
set_option maxRecDepth 100000
namespace L2
open PySem PySem.Spec PyProof.Rows
theorem qq {prog : Program} {w : World} {A : Around} {R : Result -> Shared -> Prop} {s : Shared} {elt target iter cond : Expr} {scope : Scope} {pos : Pos} {it acc : Value} {env : Env} (I : Nat -> Shared -> Prop)
  (turn : ∀ n s,I n s -> wpAny (model prog w) A (pyNext it) (fun r s₁ => match r with
   | none => R (.ok .next) s₁
   | some v => wpAny (model prog w) A (letOwnedTupleGo target it v) (fun _ s₁' => wpAny (model prog w) A (assign target env v) (fun _ s₂ => wpAny (model prog w) A (isTrue cond env (eval cond env)) (fun ok s₂' =>
     if ok = true then wpAny (model prog w) A (eval elt env) (fun x s₃ =>
     wpAny (model prog w) A (call (.builtin "list.append") [acc,x]) (fun _ s₄ => ∃ m,m < n /\ I m s₄) (fun _ _ => False) s₃)
     (fun _ _ => False) s₂' else ∃ m,m < n /\ I m s₂') (fun _ _ => False) s₂) (fun _ _ => False) s₁') (fun _ _ => False) s₁) (fun _ _ => False) s)
  (n : Nat) (h : I n s) :
  codeAny (model prog w) A (.compLoop (.ListComp elt [⟨target,iter,[cond],0⟩] scope pos) 0 it acc env) R s:=by
 refine codeAny_loop rfl I (fun n s hI => ?_) n h
 show wpAny _ _ ((compTurn (.ListComp elt [⟨target,iter,[cond],0⟩] scope pos) 0 it acc env).onRaise (fun x => do noteFrame x env; theTreesLotGoes x)) _ _ s
 refine wpAny_noted ?_
 rw [compTurn_list]
 refine wpAny_bind (wpAny_standAt (wpAny_bind (wpAny_mono (turn n s hI) (fun r s₁ h₁ => ?_) fun _ _ h' => h'.elim)))
 cases r with
 | none => exact wpAny_pure h₁
 | some v =>
  refine wpAny_bind (wpAny_mono h₁ (fun _ s₁' h₁' => ?_) fun _ _ h' => h'.elim)
  refine wpAny_bind (wpAny_mono h₁' (fun _ s₂ h₂ => wpAny_bind (wpAny_mono (wpAny_tests_one h₂) (fun ok s₃ h₃ => ?_) fun _ _ h' => h'.elim)) fun _ _ h' => h'.elim)
  cases ok with
  | false => exact wpAny_pure ⟨rfl,h₃⟩
  | true => exact wpAny_bind (wpAny_bind (wpAny_mono h₃ (fun x s₄ h₄ => wpAny_bind (wpAny_mono h₄ (fun _ s₅ h₅ => wpAny_pure (wpAny_pure ⟨rfl,h₅⟩)) fun _ _ h' => h'.elim)) fun _ _ h' => h'.elim))
def ma (J : It) (ix : List (Option Nat)) (g : TG) (tc : TT) (te : TE) (σ : St) (H : Hp) (Qd : Addr -> Hp -> Prop) : Prop:=
 ∀ D,H D = none -> ∃ W : Nat -> Nat -> St -> Hp -> Prop,(∃ m,W 0 m (aC ix σ) (upd H D (.lst []))) /\ ∀ i m σ' H',W i m σ' H' ->
  (J.stop i H' /\ Qd D H') \/ (J.go i H' /\ ∀ x H2,J.yld i H' x H2 -> g x σ' H2 fun σ3 H3 => tc σ3 H3 fun b H4 => if b = true then te σ3 H4 fun y H5 => ∃ ys,H5 D = some (.lst ys) /\ ys.length < sizeLine /\ ∃ m',m' < m /\ W (i + 1) m' σ3 (upd H5 D (.lst (ys ++ [y]))) else ∃ m',m' < m /\ W (i + 1) m' σ3 H4)
section
variable {X : Cx} {pins : List (Addr × Obj)} {σ : St} {H : Hp} {s : Shared} {N : List Str} {ix : List (Option Nat)} {scope : Scope} {fp : List Addr} {tg elt iter cond : Expr} {tc : TT} {pos spos : Pos} {J : It} {it : Addr} {tn : Nat -> Heap -> Prop} {g : TG} {te : TE} {wi : TI}
theorem pS {Qd : Addr -> Hp -> Prop} {RR : Value -> Addr -> Result -> Shared -> Prop} {E : Value -> Shared -> Prop} (I : Inv X pins σ H s) (hc : X.calm = true) (S : BlkScope X.N X.env.scope N ix scope) (T : Turn X.prog X.w X.K tg J fp it tn) (st : tn 0 s.heap) (f2 : ∀ b ∈ fp,iq X pins H b)
  (hg : ∀ C,PG (bf X N scope fp s H C) tg g) (ht : ∀ C,PT (bf X N scope fp s H C) cond tc) (he : ∀ C,PE (bf X N scope fp s H C) elt te) (hW : ma J ix g tc te σ H Qd)
  (hR : ∀ D C s' H' m,Inv X pins σ H' s' -> s'.heap.Ns C m -> iq X pins H' C -> Qd D H' -> RR (.ref D) C (.ok .next) s') :
  wpAny (model X.prog X.w) X.A (newList []) (fun acc s₃ => wpAny (model X.prog X.w) X.A (newFunctionEnv scope X.env.globals (bJ X.env.cells scope.names []) [] X.env.qual none .none (some X.env)) (fun cenv s₄ =>
   codeAny (model X.prog X.w) X.A (.compStart (.ListComp elt [⟨tg,iter,[cond],0⟩] scope pos) 0 (.ref it) acc { cenv with scope:=relabel scope X.env }) (RR acc cenv.locals) s₄) E s₃) E s:=by
 refine wpAny_newObj_type (wpAny_newFunctionEnv S.nocell (by intro y hy; simp at hy) (fun h₁ hns₁ hsb₁ => ?_) S.kind)
 dsimp only at hns₁ hsb₁ ⊢
 generalize hH2 : s.heap.push { cls:=.type "list",dict:=none,data:=.seq ([] : List Value).toArray } = H2 at hns₁ hsb₁ ⊢
 have hC : H2.objs.size = s.heap.objs.size + 1:=by rw [<- hH2,Heap.size_push]
 have hDC : s.heap.objs.size ≠ H2.objs.size:=by rw [hC]; exact Nat.ne_of_lt (Nat.lt_succ_self _)
 have hCle : s.heap.objs.size <= H2.objs.size:=by rw [hC]; exact Nat.le_succ _
 have below : ∀ b,b < s.heap.objs.size -> b ≠ H2.objs.size:=fun b hb => by rw [hC]; exact Nat.ne_of_lt (Nat.lt_succ_of_lt hb)
 have old : ∀ b o,s.heap.get? b = some o -> h₁.get? b = some o:=fun b o e => hsb₁.extBut b o (below b (Heap.lt_size e)) (Heap.get?_push_of_some _ (hH2 ▸ Heap.get?_push_of_some _ e))
 have hacc : ∃ n,h₁.get? s.heap.objs.size = some { cls:=.type "list",data:=.seq ([] : List Value).toArray n }:=⟨_,hsb₁.extBut _ _ hDC (Heap.get?_push_of_some _ (hH2 ▸ Heap.get?_push_size _ rfl))⟩
 have st1 : tn 0 h₁:=T.keep _ _ _ st fun b _ o e => old b o e
 have fo : ∀ b ∈ fp,∃ o,s.heap.get? b = some o /\ ∀ v,o.data ≠ .cell v:=T.obj _ _ st
 have I0 : Inv (bf X N scope fp s H H2.objs.size) pins (aC ix σ) (upd H s.heap.objs.size (.lst [])) { s with heap:=h₁,toks:=s.toks + ([] : List (Str × Value)).length }:=
  pW I S f2 fo (Nat.le_refl _) hCle hDC old hns₁ hacc
 have freshD : H s.heap.objs.size = none:=I.hok.fresh (Nat.le_refl _)
 obtain ⟨W,⟨m0,w0⟩,turn⟩:=hW s.heap.objs.size freshD
 have cl_ne : ∀ b ∈ fp,b ≠ H2.objs.size:=fun b hb => by
  obtain ⟨o,e,_⟩:=fo b hb
  exact below b (Heap.lt_size e)
 have stat : ∀ {H' : Hp},(∀ b ∈ fp,H' b = none) -> ∀ b ∈ fp,iq (bf X N scope fp s H H2.objs.size) pins H' b:=fun hn b hb => by
  obtain ⟨f0,f1,f3,f4,f5,f6⟩:=f2 b hb
  exact ⟨hn b hb,cl_ne b hb,I0.ok.exfs b hb,.inl hb,(I0.ok.exf b hb).2,f6⟩
 have fr0 : ∀ b ∈ fp,(upd H s.heap.objs.size (.lst [])) b = none:=fun b hb => by
  obtain ⟨o,e,_⟩:=fo b hb
  rw [ao (Nat.ne_of_lt (Heap.lt_size e))]
  exact (f2 b hb).1
 have loop : codeAny (model X.prog X.w) X.A (.compLoop (.ListComp elt [⟨tg,iter,[cond],0⟩] scope pos) 0 (.ref it) (.ref s.heap.objs.size) (compEnvC scope (bJ X.env.cells scope.names []) H2.objs.size X.env))
   (RR (.ref s.heap.objs.size) H2.objs.size) { s with heap:=h₁,toks:=s.toks + ([] : List (Str × Value)).length }:=by
  refine qq (fun n s' => ∃ i σ' H',Inv (bf X N scope fp s H H2.objs.size) pins σ' H' s' /\ tn i s'.heap /\ (∀ b ∈ fp,H' b = none) /\ W i n σ' H') ?_ m0 ⟨0,_,_,I0,st1,fr0,w0⟩
  rintro n s3 ⟨i,σ3,H3,I3,st3,fr3,w3⟩
  rcases turn i n σ3 H3 w3 with ⟨stop,qn⟩ | ⟨go,step⟩
  ·refine thn (T.done (bf X N scope fp s H H2.objs.size) rfl rfl rfl hc i pins s3 σ3 H3 _ I3 (stat fr3) st3 stop) fun r s4 ⟨hr,I4⟩ => ?_
   subst hr
   obtain ⟨m4,hn4,_⟩:=id I4.loc
   refine hR _ _ s4 H3 m4 ?_ hn4 (I.fpOk hCle I4.free) qn
   exact I.call' (ch:=fp) I4.os I4.base I4.hok I4.bare fun b hb => by
    obtain ⟨f0,f1,f3,f4,f5,f6⟩:=f2 b hb
    exact ⟨f4,f1,f5,f6⟩
  ·refine thn (T.item (bf X N scope fp s H H2.objs.size) rfl rfl rfl hc i pins s3 σ3 H3 _ I3 (stat fr3) st3 go) fun r s4 ⟨u,hr,h4⟩ => ?_
   subst hr
   refine thn h4 fun _ s5 ⟨x,H5,I5,r5,y5,st5,fr5⟩ => ?_
   have I5' := I5.pinned (stat fr5) (T.obj _ _ st5)
   refine thn (hg _ _ s5 σ3 H5 x u _ I5' r5 (step x H5 y5)) fun _ s6 ⟨σ6,H6,I6,q6⟩ => ?_
   refine thn (ht _ _ s6 σ6 H6 _ I6 q6) fun ok s6' ⟨H6',I6',q6'⟩ => ?_
   cases ok with
   | false =>
    obtain ⟨m',hm,w7⟩:=q6'
    refine ⟨m',hm,i + 1,σ6,H6',I6'.unpinned,T.keep _ _ _ st5 fun b hb o e => (I6'.pin (b,o) (List.mem_append_right _ (List.mem_append_right _ (bZ hb e)))).1,fun b hb => ?_,w7⟩
    obtain ⟨o,e,d⟩:=T.obj _ _ st5 b hb
    exact (I6'.pin (b,o) (List.mem_append_right _ (List.mem_append_right _ (bZ hb e)))).2.1
   | true =>
    refine thn (he _ _ s6' σ6 H6' _ I6' q6') fun yv s7 ⟨y,H7,I7,r7,ys,hD7,hz7,m',hm,w7⟩ => ?_
    refine thn (aV (X:=bf X N scope fp s H H2.objs.size) _ s7 σ6 H7 (.ref s.heap.objs.size) [y] (.ref s.heap.objs.size) [yv] (fun _ H8 => W (i + 1) m' σ6 H8) I7 rfl (.cons r7 .nil) ⟨_,ys,y,rfl,rfl,hD7,hz7,w7⟩) fun _ s8 ⟨_,H8,I8,_,w8⟩ => ?_
    refine ⟨m',hm,i + 1,σ6,H8,I8.unpinned,T.keep _ _ _ st5 fun b hb o e => (I8.pin (b,o) (List.mem_append_right _ (List.mem_append_right _ (bZ hb e)))).1,fun b hb => ?_,w8⟩
    obtain ⟨o,e,d⟩:=T.obj _ _ st5 b hb
    exact (I8.pin (b,o) (List.mem_append_right _ (List.mem_append_right _ (bZ hb e)))).2.1
 exact codeAny_compStart_list loop (T.self _ _ _ _ _ st1 loop)
def xS (ix : List (Option Nat)) (wi : TI) (g : TG) (tc : TT) (te : TE) : TE:=fun σ H Q => wi σ H fun J H1 => ma J ix g tc te σ H1 fun D H' => Q (.ref D) H'
theorem tu (hc : X.calm = true) (S : BlkScope X.N X.env.scope N ix scope) (hi : PI X tg iter wi) (hg : ∀ fp s H C,PG (bf X N scope fp s H C) tg g) (ht : ∀ fp s H C,PT (bf X N scope fp s H C) cond tc) (he : ∀ fp s H C,PE (bf X N scope fp s H C) elt te)
  (hs : ∀ x,foldedSetIterable iter X.env x = pure x:=by intro _; rfl) : PE X (.ListComp elt [⟨tg,iter,[cond],0⟩] scope pos) (xS ix wi g tc te):=by
 intro pins s σ H Q I h
 rw [eval_ListComp]
 refine wpAny_comprehension_free (use:=none) rfl hs (eX (S.clos I.ok)) S.kind S.locs (thn (hi pins s σ H _ I h) fun v s1 h1 => thn h1 fun itv s2 h2 => ?_)
 obtain ⟨it,fp,tn,J,H2,e,I2,T,st2,f2,hW⟩:=h2
 subst e
 refine pS (RR:=fun acc C => compPost (model X.prog X.w) X.A X.xe none (EP X pins σ Q) acc C) I2 hc S T st2 f2 (hg _ _ _) (ht _ _ _) (he _ _ _) hW ?_
 intro D C s' H' m I' hn fC q
 exact ⟨m,hn,fun h' sb => ⟨.ref D,H',I'.turned (t' := s'.toks) (fun b o hb e => (sb.2 b hb).trans e) fC.1 fC.2.1 fC.2.2.2.1 fC.2.2.2.2.1 fC.2.2.2.2.2,rfl,q⟩⟩
end
theorem tX {K : PySem.W.Frag} {a : Addr} {xs : List V} {ix : List (Option Nat)} {tc : TT} {te : TE} {σ : St} {H : Hp} {Qd : Addr -> Hp -> Prop} (Pv : Addr -> Nat -> List V -> Hp -> Prop)
  (h0 : ∀ D,H D = none -> Pv D 0 [] (upd H D (.lst [])))
  (hl : ∀ D i ys H',i <= xs.length -> Pv D i ys H' -> SqL K H' a xs)
  (hs : ∀ D i x ys H' (Qy : VK) (Qn : Hp -> Prop),H D = none -> xs[i]? = some x -> H' D = some (.lst ys) -> Pv D i ys H' -> (∀ y H4,H4 D = some (.lst ys) -> ys.length < sizeLine -> Pv D (i + 1) (ys ++ [y]) (upd H4 D (.lst (ys ++ [y]))) -> Qy y H4) ->
   (∀ H4,H4 D = some (.lst ys) -> Pv D (i + 1) ys H4 -> Qn H4) -> tc ((aC ix σ).set 0 (some x)) H' fun b H4 => if b = true then te ((aC ix σ).set 0 (some x)) H4 Qy else Qn H4)
  (hd : ∀ D ys H',H D = none -> H' D = some (.lst ys) -> Pv D xs.length ys H' -> Qd D H') : ma (Itl K a) ix (aL 0) tc te σ H Qd:=by
 intro D hD
 refine ⟨fun i m σ' H' => m = xs.length - i /\ i <= xs.length /\ (σ' = aC ix σ \/ ∃ t,σ' = (aC ix σ).set 0 t) /\ ∃ ys,H' D = some (.lst ys) /\ Pv D i ys H',⟨xs.length,by simp,Nat.zero_le _,.inl rfl,[],ae,h0 D hD⟩,?_⟩
 rintro i m σ' H' ⟨rfl,hi,hσ,ys,hy,p⟩
 have q:=hl D i ys H' hi p
 by_cases hlt : i < xs.length
 ·refine .inr ⟨⟨xs,xs[i],q,by simp [hlt]⟩,fun x H2 y => ?_⟩
  obtain ⟨e1,e2⟩:=y
  subst e1
  have ex:=e2 xs q
  have es : σ'.set 0 (some x) = (aC ix σ).set 0 (some x):=by
   rcases hσ with z | ⟨t,z⟩
   ·rw [z]
   ·rw [z,List.set_set]
  show tc (σ'.set 0 (some x)) _ _
  rw [es]
  exact hs D i x ys _ _ _ hD ex hy p (fun y H4 h4 hz p4 => ⟨ys,h4,hz,xs.length - (i + 1),by omega,rfl,hlt,.inr ⟨_,rfl⟩,ys ++ [y],ae,p4⟩) fun H4 h4 p4 => ⟨xs.length - (i + 1),by omega,rfl,hlt,.inr ⟨_,rfl⟩,ys,h4,p4⟩
 ·have e : i = xs.length:=by omega
  subst e
  exact .inl ⟨⟨xs,q,Nat.le_refl _⟩,hd D ys H' hD hy p⟩
theorem vk {K : PySem.W.Frag} {a : Addr} {xs : List V} {ix : List (Option Nat)} {tc : TT} {te : TE} {σ : St} {H : Hp} {Qd : Addr -> Hp -> Prop} (Pv : Addr -> Nat -> List V -> Hp -> Prop)
  (h0 : ∀ D,H D = none -> Pv D 0 [] (upd H D (.lst [])))
  (hl : ∀ D i ys H',i <= xs.length -> Pv D i ys H' -> SqT K H' a xs)
  (hs : ∀ D i x ys H' (Qy : VK) (Qn : Hp -> Prop),H D = none -> xs[i]? = some x -> H' D = some (.lst ys) -> Pv D i ys H' -> (∀ y H4,H4 D = some (.lst ys) -> ys.length < sizeLine -> Pv D (i + 1) (ys ++ [y]) (upd H4 D (.lst (ys ++ [y]))) -> Qy y H4) ->
   (∀ H4,H4 D = some (.lst ys) -> Pv D (i + 1) ys H4 -> Qn H4) -> tc ((aC ix σ).set 0 (some x)) H' fun b H4 => if b = true then te ((aC ix σ).set 0 (some x)) H4 Qy else Qn H4)
  (hd : ∀ D ys H',H D = none -> H' D = some (.lst ys) -> Pv D xs.length ys H' -> Qd D H') : ma (Itt K a) ix (aL 0) tc te σ H Qd:=by
 intro D hD
 refine ⟨fun i m σ' H' => m = xs.length - i /\ i <= xs.length /\ (σ' = aC ix σ \/ ∃ t,σ' = (aC ix σ).set 0 t) /\ ∃ ys,H' D = some (.lst ys) /\ Pv D i ys H',⟨xs.length,by simp,Nat.zero_le _,.inl rfl,[],ae,h0 D hD⟩,?_⟩
 rintro i m σ' H' ⟨rfl,hi,hσ,ys,hy,p⟩
 have q:=hl D i ys H' hi p
 by_cases hlt : i < xs.length
 ·refine .inr ⟨⟨xs,xs[i],q,by simp [hlt]⟩,fun x H2 y => ?_⟩
  obtain ⟨e1,e2⟩:=y
  subst e1
  have ex:=e2 xs q
  have es : σ'.set 0 (some x) = (aC ix σ).set 0 (some x):=by
   rcases hσ with z | ⟨t,z⟩
   ·rw [z]
   ·rw [z,List.set_set]
  show tc (σ'.set 0 (some x)) _ _
  rw [es]
  exact hs D i x ys _ _ _ hD ex hy p (fun y H4 h4 hz p4 => ⟨ys,h4,hz,xs.length - (i + 1),by omega,rfl,hlt,.inr ⟨_,rfl⟩,ys ++ [y],ae,p4⟩) fun H4 h4 p4 => ⟨xs.length - (i + 1),by omega,rfl,hlt,.inr ⟨_,rfl⟩,ys,h4,p4⟩
 ·have e : i = xs.length:=by omega
  subst e
  exact .inl ⟨⟨xs,q,Nat.le_refl _⟩,hd D ys H' hD hy p⟩
end L2
set_option Elab.async false
set_option linter.all false
set_option maxRecDepth 100000
set_option maxHeartbeats 4000000
namespace L2
open PySem PySem.Spec PyProof.Rows
open AutoSeq1 (wpAny_loadPart')
section
variable {prog : Program} {w : World} {A : Around} {E : Value -> Shared -> Prop} {s : Shared}
theorem jS {it t : Addr} {i : Nat} {items : Array Value} {x : Value} {Q : Value -> Shared -> Prop} (hit : s.heap.IsTupleIter it t i) (ht : s.heap.IsTuple t items) (hx : items[i]? = some x)
  (hQ : ∀ h',h'.IsTupleIter it t (i + 1) -> Heap.SameBut it s.heap h' -> Q x { s with heap:=h' }) : wpAny (model prog w) A (Builtin.SmallTypes.nextOf (.ref it)) Q E s:=by
 obtain ⟨o,ho,hc,hd⟩:=id hit
 obtain ⟨ol,hol,_,nl,hdl⟩:=ht
 unfold Builtin.SmallTypes.nextOf
 refine wpAny_bind (wpAny_callSpecial?_slot (name:=Str.ofString "__next__") hit.typeIs F.slot_tuple_iterator_next
  (wpAny_call_entry F.slot_tuple_iterator_next hit.typeIs F.entry_tuple_iterator_next ?_ (F.args_tuple_iterator_next_1 _)))
 show wpAny _ _ (field (.ref it) 0 >>= _) _ _ s
 refine wpAny_bind (wpAny_field ho hd (x:=.ref t) rfl ?_)
 show wpAny _ _ (if (Value.ref t == Value.none) = true then _ else _) _ _ s
 rw [if_neg (show ¬ ((Value.ref t == Value.none) = true) from Bool.false_ne_true)]
 show wpAny _ _ (field (.ref it) 1 >>= _) _ _ s
 refine wpAny_bind (wpAny_field ho hd (x:=.int i 0) rfl ?_)
 show wpAny _ _ (seqItems? (.ref t) >>= _) _ _ s
 refine wpAny_bind (wpAny_seqItems hol hdl ?_)
 simp only [Int.toNat_natCast,hx]
 refine wpAny_bind (wpAny_setField ho hd (by simp) (wpAny_pure ⟨x,rfl,wpAny_pure (hQ _ ?_ (Heap.SameBut.update ..))⟩))
 exact ⟨_,Heap.get?_update_self _ ho (Obj.isFreed_of_fields (Obj.data_mapFields hd _)),(Obj.cls_mapFields ..).trans hc,by
  rw [Obj.data_mapFields hd]; simp [rawInt]⟩
theorem fk {it t : Addr} {i : Nat} {items : Array Value} {Q : Value -> Shared -> Prop} (hh : A.handled = none) (hit : s.heap.IsTupleIter it t i) (ht : s.heap.IsTuple t items) (hx : items[i]? = none)
  (hE : ∀ h' e,Heap.ExtBut it s.heap h' -> (∃ o,h'.get? e = some o /\ o.cls = .type "StopIteration") -> E (.ref e) { s with heap:=h' }) : wpAny (model prog w) A (Builtin.SmallTypes.nextOf (.ref it)) Q E s:=by
 obtain ⟨o,ho,hc,hd⟩:=id hit
 obtain ⟨ol,hol,_,nl,hdl⟩:=ht
 unfold Builtin.SmallTypes.nextOf
 refine wpAny_bind (wpAny_callSpecial?_slot (name:=Str.ofString "__next__") hit.typeIs F.slot_tuple_iterator_next
  (wpAny_call_entry F.slot_tuple_iterator_next hit.typeIs F.entry_tuple_iterator_next ?_ (F.args_tuple_iterator_next_1 _)))
 show wpAny _ _ (field (.ref it) 0 >>= _) _ _ s
 refine wpAny_bind (wpAny_field ho hd (x:=.ref t) rfl ?_)
 show wpAny _ _ (if (Value.ref t == Value.none) = true then _ else _) _ _ s
 rw [if_neg (show ¬ ((Value.ref t == Value.none) = true) from Bool.false_ne_true)]
 show wpAny _ _ (field (.ref it) 1 >>= _) _ _ s
 refine wpAny_bind (wpAny_field ho hd (x:=.int i 0) rfl ?_)
 show wpAny _ _ (seqItems? (.ref t) >>= _) _ _ s
 refine wpAny_bind (wpAny_seqItems hol hdl ?_)
 simp only [Int.toNat_natCast,hx]
 refine wpAny_bind (wpAny_rule (wpAny_bind (wpAny_setField ho hd (by simp) ?_)))
 show wpAny _ _ (newExc (.type "StopIteration") [] >>= _) _ _ _
 refine wpAny_bind ?_
 simp only [newExc,newTuple]
 refine wpAny_bind (wpAny_newObj_type ?_ (by size_fits))
 refine wpAny_bind (m:=firstArgMember _ _) (wpAny_of_eq (a:=Value.none) (by first | rfl | (simp only [firstArgMember]; rfl)) ?_)
 refine wpAny_newObj_type ?_ (by size_fits)
 simp only [raiseNew]
 refine wpAny_bind (wpAny_handled ?_)
 first | rw [show A.in1.handled = none from hh] | rw [hh]
 refine wpAny_bind (wpAny_pure (wpAny_throw ?_))
 exact hE _ _ (((Heap.SameBut.update ..).extBut.push _).push _) ⟨_,Heap.get?_push_size _ rfl,rfl⟩
end
theorem t6 {prog : Program} {w : World} {A : Around} (hh : A.handled = none) (it t : Addr) (hne : t ≠ it) (items : Array Value) :
  Draws prog w A it [it,t] items.size (fun i v => items[i]? = some v) (fun i h => h.IsTupleIter it t i /\ h.IsTuple t items) where
 live:=fun _ _ st => let ⟨o,ho,_⟩:=st.1; ⟨o,ho⟩
 frame:=fun _ _ _ st hk => ⟨st.1.at fun o e => hk it (by simp) o e,st.2.at fun o e => hk t (by simp) o e⟩
 item:=fun i s Q E hi st hQ => by
  refine jS st.1 st.2 (x:=items[i]) (by simp [hi]) fun h' hit' hs' => ?_
  exact hQ _ h' s.toks (by simp [hi]) ⟨hit',st.2.at fun o e => (hs'.2 t hne).trans e⟩ hs'
 done:=fun s Q E st hE => fk hh st.1 st.2 (by simp) hE
theorem hV (l : Addr) (items : Array Value) (n : Nat) (dct : Option Addr) (sl : Array (Option Value)) :
  Meets (Builtin.«enumerate.__new__» ⟨[.type "enumerate",.ref l],[]⟩) (fun _ R s => s.heap.get? l = some { cls:=.type "tuple",dict:=dct,data:=.seq items n,slots:=sl } /\
   R (.ok (.ret (.ref (s.heap.push { cls:=.type "tuple_iterator",data:=.fields #[.ref l,.int 0 0] }).objs.size)))
    { s with heap:=(s.heap.push { cls:=.type "tuple_iterator",data:=.fields #[.ref l,.int 0 0] }).push { cls:=.type "enumerate",data:=.fields #[.none,.bool false,.ref s.heap.objs.size,rawInt 0,.none,.none] } }):=
 .of_wp fun prog w A R s h => by
  obtain ⟨hp,g,d,tk,os⟩:=s; obtain ⟨hl,h⟩:=h
  have hsub:=sub_enumerate
  have hL : Heap.IsTuple (Shared.heap ⟨hp,g,d,tk,os⟩) l items:=⟨_,hl,rfl,n,rfl⟩
  wp_walk using wpAny_loadPart' hl
  refine wpAny_stack_any fun st => wpAny_pure ?_
  split
  ·rename_i c _ _ _ _ _
   cases (c == Value.type "enumerate")
   ·wp_walk using wpAny_loadPart' hl,wpAny_pyIter_tuple hL
    exact ⟨_,rfl,h⟩
   ·wp_walk using wpAny_loadPart' hl,wpAny_pyIter_tuple hL
    exact ⟨_,rfl,h⟩
  ·wp_walk using wpAny_loadPart' hl,wpAny_pyIter_tuple hL
   exact ⟨_,rfl,h⟩
theorem gY {prog : Program} {w : World} {A : Around} {E : Value -> Shared -> Prop} {s : Shared} {l : Addr} {items : Array Value} {Q : Value -> Shared -> Prop} (hL : s.heap.IsTuple l items)
  (h : ∀ h',IsEnum h' (s.heap.objs.size + 1) s.heap.objs.size 0 .none -> h'.IsTupleIter s.heap.objs.size l 0 -> h'.objs.size = s.heap.objs.size + 2 ->
   (∀ b o,s.heap.get? b = some o -> h'.get? b = some o) -> Q (.ref (s.heap.objs.size + 1)) { s with heap:=h' }) :
  wpAny (model prog w) A (call (.type "enumerate") [.ref l]) Q E s:=by
 obtain ⟨⟨c,dct,dt,sl⟩,hl,hc,n,hd⟩:=hL
 replace hc : c = .type "tuple" := hc
 replace hd : dt = .seq items n:=hd
 subst hc hd
 refine callType_new F.called_enumerate (by decide) (F.typeCall_enumerate_1 _) (F.newCall_enumerate_1 _) (fun obj => F.args_object_init_2 obj _) F.entry_enumerate_new
  (hV l items n dct sl) ⟨hl,?_⟩
 have hz : (s.heap.push { cls:=.type "tuple_iterator",data:=.fields #[.ref l,.int 0 0] }).objs.size = s.heap.objs.size + 1:=Heap.size_push ..
 show _ /\ _
 rw [hz]
 have he : IsEnum ((s.heap.push { cls:=.type "tuple_iterator",data:=.fields #[.ref l,.int 0 0] }).push
   { cls:=.type "enumerate",data:=.fields #[.none,.bool false,.ref s.heap.objs.size,rawInt 0,.none,.none] }) (s.heap.objs.size + 1) s.heap.objs.size 0 .none:=by
  have:=Heap.get?_push_size (s.heap.push { cls:=.type "tuple_iterator",data:=.fields #[.ref l,.int 0 0] })
   (o:={ cls:=.type "enumerate",data:=.fields #[.none,.bool false,.ref s.heap.objs.size,rawInt 0,.none,.none] }) rfl
  rw [hz] at this; exact this
 refine ⟨⟨_,he,rfl⟩,h _ he ⟨_,Heap.get?_push_of_some _ (Heap.get?_push_size _ rfl),rfl,rfl⟩ (by rw [Heap.size_push,hz]) fun b o x => Heap.get?_push_of_some _ (Heap.get?_push_of_some _ x)⟩
end L2
set_option Elab.async false
set_option linter.all false
set_option maxRecDepth 100000
set_option maxHeartbeats 4000000
namespace L2
open PySem PySem.Spec PyProof.Rows
section
variable {X : Cx} {pins : List (Addr × Obj)} {σ : St} {H : Hp} {s : Shared} {h' : Heap}
theorem Inv.turned2 {t' : Nat} {e it : Addr} (I : Inv X pins σ H s) (k : ∀ b o,b ≠ e -> b ≠ it -> s.heap.get? b = some o -> h'.get? b = some o) (fe : iq X pins H e) (fi : iq X pins H it) : Inv X pins σ H { s with heap:=h',toks:=t' }:=by
 have nn : ∀ b u,H b = some u -> b ≠ e /\ b ≠ it:=fun b u q => ⟨fun z => (by rw [z,fe.1] at q; cases q),fun z => (by rw [z,fi.1] at q; cases q)⟩
 have kk : ∀ b o,b ∉ [e,it] -> s.heap.get? b = some o -> h'.get? b = some o:=fun b o hc q => k b o (fun z => hc (by simp [z])) (fun z => hc (by simp [z])) q
 refine I.step (g' := s.gens) (d' := s.drawn) (ch:=[e,it]) (fun b hb => ?_) (fun b o _ _ hc q _ => kk b o hc q) (fun b o _ _ hc q _ => ⟨o.slots,kk b o hc q⟩) (fun _ _ _ _ n => n)
  (fun b o hc q => ⟨o,kk b o hc q⟩) (fun _ _ q => q) (fun _ _ _ q => q) (fun b ps q => ⟨#[],by rw [q]; simp⟩) (fun m hm => ?_) (fun b u q => ?_) I.bare
 ·have q : b = e \/ b = it:=by simpa using hb
  rcases q with rfl | rfl
  ·exact ⟨fe.2.2.2.1,fe.2.1,fe.2.2.2.2.1,fe.2.2.2.2.2⟩
  ·exact ⟨fi.2.2.2.1,fi.2.1,fi.2.2.2.2.1,fi.2.2.2.2.2⟩
 ·obtain ⟨o,es,ep,ho,r⟩:=hm
  exact ⟨o,es,ep,k _ o (Ne.symm fe.2.1) (Ne.symm fi.2.1) ho,r⟩
 ·refine (I.hok b u q).stay (fun c v hc z => k c v ?_ ?_ z) (fun _ z => z) fun _ _ z => z
  ·rcases hc with z | z
   ·rw [z]; exact (nn b u q).1
   ·exact (nn c _ z).1
  ·rcases hc with z | z
   ·rw [z]; exact (nn b u q).2
   ·exact (nn c _ z).2
end
def Ite (K : PySem.W.Frag) (a : Addr) : It:=
 ⟨fun i H => ∃ xs x,SqT K H a xs /\ xs[i]? = some x,fun i H v H' => ∃ T x,v = .ref T /\ H T = none /\ H' = upd H T (.tup [.int i,x]) /\ ∀ xs,SqT K H a xs -> xs[i]? = some x,fun i H => ∃ xs,SqT K H a xs /\ xs.length <= i⟩
theorem uF {P : Program} {w : World} {K : PySem.W.Frag} {elts : List Expr} {x1 : _} {pos : Pos} (a e it : Addr) : Turn P w K (.Tuple elts x1 pos) (Ite K a) [e,it] e (fun i h => (∃ old,IsEnum h e it i old) /\ h.IsTupleIter it a i) where
 mem:=by simp
 obj:=fun i h st b hb => by
  have q : b = e \/ b = it:=by simpa using hb
  rcases q with rfl | rfl
  ·obtain ⟨⟨old,st⟩,_⟩:=st
   exact ⟨_,st,fun v z => by
    have z' : Data.fields _ = Data.cell v:=z
    cases z'⟩
  ·obtain ⟨_,o,e,c,d⟩:=st
   exact ⟨o,e,fun v z => by rw [d] at z; cases z⟩
 keep:=fun i h h' st k => ⟨let ⟨old,z⟩:=st.1; ⟨old,k e (by simp) _ z⟩,st.2.at fun o z => k it (by simp) o z⟩
 item:=by
  intro X hP hw hK hc i pins s σ H E I hf st hg
  subst hP hw hK
  obtain ⟨xs,x,hq,hx⟩:=hg
  obtain ⟨its,rv,p,hz⟩:=I.tuple hq
  obtain ⟨u,hu,ru⟩:=rv.get hx
  obtain ⟨⟨old,he⟩,hit⟩:=st
  have p' : s.heap.IsTuple a its.toArray:=p
  have fe:=hf e (by simp)
  have fi:=hf it (by simp)
  have ne : e ≠ it:=fun z => by
   subst z
   obtain ⟨o,e1,c,d⟩:=hit
   rw [he] at e1
   cases e1
   have c' : Value.type "enumerate" = Value.type "tuple_iterator" := c
   injection c' with c'
   exact absurd c' (by decide)
  have nae : a ≠ e:=fun z => by
   subst z
   obtain ⟨o,e1,c,d⟩:=p'
   rw [he] at e1
   cases e1
   have c' : Value.type "enumerate" = Value.type "tuple" := c
   injection c' with c'
   exact absurd c' (by decide)
  have nai : a ≠ it:=fun z => by
   subst z
   obtain ⟨o,e1,c,d⟩:=p'
   obtain ⟨o2,e2,c2,d2⟩:=hit
   rw [e1] at e2
   cases e2
   rw [c] at c2
   injection c2 with c'
   exact absurd c' (by decide)
  have hi : i < its.toArray.size:=by
   have : i < its.length:=(List.getElem?_eq_some_iff.mp hu).1
   simpa using this
  have D:=t6 (prog:=X.prog) (w:=X.w) (A:=X.A.in1) (show X.A.in1.handled = none from I.ok.hd hc) it a nai its.toArray
  refine wpAny_pyNext_enum_itemD D he ⟨hit,p'⟩ hi ne (by simp [ne,Ne.symm nae]) fun y h1 tk hy ho st1 hT hsz hk => ?_
  have ey : y = u:=by
   have : its.toArray[i]? = some u:=by simpa using hu
   rw [this] at hy
   exact (Option.some.inj hy).symm
  subst ey
  refine ⟨_,rfl,wpAny_letOwnedTupleGo_enum ho fun h2 he2 hs2 => ?_⟩
  have fr : H s.heap.objs.size = none:=I.hok.fresh (Nat.le_refl _)
  have I1 : Inv X pins σ (upd H s.heap.objs.size (.tup [.int i,x])) { s with heap:=s.heap.push { cls:=.type "tuple",data:=.seq #[.int i tk,y] },toks:=tk + 1 }:=
   I.laid (o:=.tup [.int i,x]) (fun b ob q => Heap.get?_push_of_some _ q) (Nat.le_refl _) ⟨by show 2 <= sizeLine; decide,[.int i tk,y],.cons ⟨tk,rfl⟩ (.cons ru .nil),⟨_,Heap.get?_push_size _ rfl,rfl,_,rfl⟩⟩
  have lt : ∀ b ∈ [e,it],b < s.heap.objs.size:=fun b hb => by
   have q : b = e \/ b = it:=by simpa using hb
   rcases q with rfl | rfl
   ·exact Heap.lt_size he
   ·obtain ⟨o,e1,_⟩:=hit
    exact Heap.lt_size e1
  have f2 : ∀ b ∈ [e,it],iq X pins (upd H s.heap.objs.size (.tup [.int i,x])) b:=fun b hb => by
   refine ⟨?_,(hf b hb).2⟩
   rw [ao (Nat.ne_of_lt (lt b hb))]
   exact (hf b hb).1
  have I2 : Inv X pins σ (upd H s.heap.objs.size (.tup [.int i,x])) { s with heap:=h2,toks:=tk + 1 }:=by
   refine I1.turned2 (t' := tk + 1) (h' := h2) (fun b o b1 b2 q => ?_) (f2 e (by simp)) (f2 it (by simp))
   refine (hs2.2 b b1).trans ?_
   rcases Heap.get?_push_cases (show (s.heap.push { cls:=.type "tuple",data:=.seq #[.int i tk,y] }).get? b = some o from q) with ⟨rfl,rfl⟩ | z
   ·exact hT
   ·exact hk b o b1 b2 z
  refine ⟨.ref s.heap.objs.size,_,I2,rfl,⟨s.heap.objs.size,x,rfl,fr,rfl,fun ys hy => by rw [I.tuple_inj hy hq]; exact hx⟩,⟨⟨y,?_⟩,?_⟩,fun b hb => (f2 b hb).1⟩
  ·have : ((i + 1 : Nat) : Int) = (i : Int) + 1:=by push_cast; rfl
   rw [this]
   exact he2
  ·exact st1.1.at fun o z => (hs2.2 it (Ne.symm ne)).trans z
 done:=by
  intro X hP hw hK hc i pins s σ H E I hf st hg
  subst hP hw hK
  obtain ⟨xs,hq,hx⟩:=hg
  obtain ⟨its,rv,p,hz⟩:=I.tuple hq
  obtain ⟨⟨old,he⟩,hit⟩:=st
  obtain ⟨f0,f1,f2,f3,f4,f5⟩:=hf it (by simp)
  have p' : s.heap.IsTuple a its.toArray:=p
  have hl:=rv.length
  have hT : s.TypeIs (.ref e) "enumerate" := ⟨_,he,rfl⟩
  unfold pyNext
  refine wpAny_bind (wpAny_attempt (wpAny_callSpecial?_slot (name:=Str.ofString "__next__") hT F.slot_enumerate_next
   (wpAny_call_entry F.slot_enumerate_next hT F.entry_enumerate_next ?_ (F.args_enumerate_next_1 _))))
  show wpAny _ _ (field (.ref e) 2 >>= _) _ _ _
  refine wpAny_bind (wpAny_field he rfl (x:=.ref it) rfl ?_)
  refine wpAny_bind (fk (show X.A.in1.handled = none from I.ok.hd hc) hit p' (by simp; omega) fun h' x he' hx' => ?_)
  obtain ⟨o,ho,hcl⟩:=hx'
  refine wpAny_bind (wpAny_isInstance (T := "StopIteration") (b:=true) ⟨o,ho,hcl⟩ isSubtype_stop ?_)
  exact wpAny_pure ⟨rfl,I.turned (t' := s.toks) (fun b o hb z => he' b o hb z) f0 f1 f3 f4 f5⟩
 self:=fun _ _ _ _ _ st h => let ⟨_,z⟩:=st.1; wpAny_pyIter_enum z h
section
variable {X : Cx}
def yZ (K : PySem.W.Frag) (tl : TA) : TI:=fun σ H R => tl σ H fun vs H1 => ∃ a,vs = [.ref a] /\ (∃ xs,SqT K H1 a xs) /\ R (Ite K a) H1
theorem ql : bootBuiltins "enumerate" = some (.type "enumerate"):=by decide +kernel
theorem tD {elts : List Expr} {x1 : _} {tpos : Pos} {l : Expr} {tl : TA} {p pos : Pos} (hg : Gl X "enumerate") (hm : X.mg "enumerate" = none) (hl : PA X [l] tl) (hs : starEach [l] X.env = [(false,eval l X.env)]:=by rfl) :
  PI X (.Tuple elts x1 tpos) (.Call (.Name "enumerate" p) [l] [] pos) (yZ X.K tl):=by
 intro pins s σ H R I h
 refine Call_ (eu I hg hm ql (PyProof.Rows.callWith_type1 (thn (hl pos pins s σ H _ I h) fun us s1 ⟨vs,H1,I1,r1,q1⟩ => ?_) hs rfl))
 obtain ⟨a,e,⟨xs,hq⟩,q⟩:=q1
 subst e
 cases r1 with
 | cons r rr =>
  cases rr
  cases r
  obtain ⟨its,rv,p,hz⟩:=I1.tuple hq
  refine gY (show s1.heap.IsTuple a its.toArray from p) fun h' he hit hsz hk => ?_
  refine wpAny_pyIter_enum he ?_
  refine ⟨s1.heap.objs.size + 1,[s1.heap.objs.size + 1,s1.heap.objs.size],_,_,H1,rfl,I1.kept (t' := s1.toks) hk,uF a _ s1.heap.objs.size,⟨⟨_,he⟩,hit⟩,fun b hb => ?_,q⟩
  have e : b = s1.heap.objs.size + 1 \/ b = s1.heap.objs.size:=by simpa using hb
  rcases e with rfl | rfl
  ·exact I1.fpOk (Nat.le_succ _) (I1.hok.fresh (Nat.le_succ _))
  ·exact I1.fpOk (Nat.le_refl _) (I1.hok.fresh (Nat.le_refl _))
end
theorem vv {K : PySem.W.Frag} {a : Addr} {xs : List V} {g : TG} {tb : TS} {D : Ends} {σ : St} {H : Hp} (Pv : Nat -> St -> Hp -> Prop) (h0 : Pv 0 σ H) (hl : ∀ i σ H,i <= xs.length -> Pv i σ H -> SqT K H a xs)
  (hs : ∀ i x σ H T,xs[i]? = some x -> Pv i σ H -> H T = none -> g (.ref T) σ (upd H T (.tup [.int i,x])) fun σ2 H2 => tb { D with nx:=Pv (i + 1),ct:=Pv (i + 1),bk:=D.nx } σ2 H2) (hd : ∀ σ H,Pv xs.length σ H -> D.nx σ H) :
  ∃ W : Nat -> Nat -> St -> Hp -> Prop,(∃ m,W 0 m σ H) /\ ∀ i m σ H,W i m σ H ->
   ((Ite K a).stop i H /\ D.nx σ H) \/ ((Ite K a).go i H /\ ∃ N : St -> Hp -> Prop,(∀ σ' H',N σ' H' -> ∃ m',m' < m /\ W (i + 1) m' σ' H') /\ ∀ x H',(Ite K a).yld i H x H' -> g x σ H' fun σ2 H2 => tb { D with nx:=N,ct:=N,bk:=D.nx } σ2 H2):=by
 refine ⟨fun i m σ H => m = xs.length - i /\ i <= xs.length /\ Pv i σ H,⟨xs.length,by simp,Nat.zero_le _,h0⟩,?_⟩
 rintro i m σ H ⟨rfl,hi,p⟩
 have q:=hl i σ H hi p
 by_cases hlt : i < xs.length
 ·refine .inr ⟨⟨xs,xs[i],q,by simp [hlt]⟩,Pv (i + 1),fun σ' H' p' => ⟨xs.length - (i + 1),by omega,rfl,hlt,p'⟩,fun x H' y => ?_⟩
  obtain ⟨T,x0,rfl,hT,rfl,y⟩:=y
  exact hs i x0 σ _ T (y xs q) p hT
 ·have e : i = xs.length:=by omega
  subst e
  exact .inl ⟨⟨xs,q,Nat.le_refl _⟩,hd σ H p⟩
end L2
set_option Elab.async false
set_option linter.all false
set_option maxRecDepth 100000
set_option maxHeartbeats 4000000
namespace L2
open PySem PySem.Spec PyProof.Rows
theorem ub {acc : Array Value} {n : Nat} (h : ItemsOf (fun i v => ∃ t,v = .int (0 + (i : Int) * 1) t) acc n) : Vals ((List.range n).map fun i : Nat => V.int i) acc.toList:=by
 have go : ∀ (n : Nat) (us : List Value),us.length = n -> (∀ (j : Nat) (v : Value),us[j]? = some v -> ∃ t,v = Value.int (0 + (j : Int) * 1) t) -> Vals ((List.range n).map fun i : Nat => V.int i) us:=by
  intro n
  induction n with
  | zero =>
   intro us hl _
   cases us with
   | nil => exact .nil
   | cons a r => cases hl
  | succ n ih =>
   intro us hl hv
   have ne : us ≠ []:=fun z => by rw [z] at hl; cases hl
   have e:=List.dropLast_concat_getLast ne
   rw [<- e,List.range_succ,List.map_append]
   have hd : us.dropLast.length = n:=by rw [List.length_dropLast,hl]; rfl
   refine (ih us.dropLast hd fun j v hj => ?_).append (.cons ?_ .nil)
   ·refine hv j v ?_
    have lt:=(List.getElem?_eq_some_iff.mp hj).1
    rw [<- e,List.getElem?_append_left lt]
    exact hj
   ·obtain ⟨t,ht⟩:=hv n (us.getLast ne) (by rw [List.getLast_eq_getElem,List.getElem?_eq_getElem (by omega)]; simp [hl])
    rw [ht]
    exact ⟨t,by rw [Int.zero_add,Int.mul_one]⟩
 exact go n acc.toList (by rw [Array.length_toList,h.1]) fun j v hj => h.2 j v (by rw [<- Array.getElem?_toList]; exact hj)
section
variable {X : Cx} {a : Expr} {ta : TA} {p p2 pos pos2 : Pos}
end
structure DefMk (P : Program) (w : World) (K : PySem.W.Frag) (mg : Str -> Option Value) (base : Heap) (x : Str) (C : Addr) (k : Nat) (ps : List Str) (sp : Sp) : Prop where
 m : mg x = some (.ref C)
 cl : Cls K C
 ex : ∃ (f : Addr) (fd : FuncData),Mk K C f /\ Binds K fd ps [] /\ FnOk P w K mg base CX0 k f fd ps sp
structure DefMe (P : Program) (w : World) (K : PySem.W.Frag) (mg : Str -> Option Value) (base : Heap) (C : Addr) (m : Str) (k : Nat) (ps : List Str) (sp : Sp) : Prop where
 cl : Cls K C
 ex : ∃ (f : Addr) (fd : FuncData),Meth K C m f /\ Binds K fd ps [] /\ FnOk P w K mg base CX0 k f fd ps sp
end L2
set_option Elab.async false
set_option linter.all false
set_option maxRecDepth 100000
set_option maxHeartbeats 4000000
namespace L2
open PySem PySem.Spec PyProof.Rows
section
variable {prog : Program} {w : World} {A : Around} {E : Value -> Shared -> Prop} {s : Shared}
structure ZipFar (z TI TO i1 i2 : Addr) (fp1 fp2 : List Addr) : Prop where
 TIz : TI ≠ z
 TOz : TO ≠ z
 TITO : TI ≠ TO
 i1z : i1 ≠ z
 i2z : i2 ≠ z
 TIi1 : TI ≠ i1
 TIi2 : TI ≠ i2
 TOi1 : TO ≠ i1
 TOi2 : TO ≠ i2
 i12 : i1 ≠ i2
 z1 : z ∉ fp1
 TO1 : TO ∉ fp1
 i21 : i2 ∉ fp1
 z2 : z ∉ fp2
 TO2 : TO ∉ fp2
 i12' : i1 ∉ fp2
variable {z TI TO i1 i2 : Addr} {fp1 fp2 : List Addr} {n1 n2 k : Nat} {P1 P2 : Nat -> Value -> Prop} {St1 St2 : Nat -> Heap -> Prop} {a b : Value}
end
end L2
set_option Elab.async false
set_option linter.all false
set_option maxRecDepth 100000
set_option maxHeartbeats 4000000
namespace L2
open PySem PySem.Spec PyProof.Rows
section
variable {X : Cx} {pins : List (Addr × Obj)} {σ : St} {H : Hp} {s : Shared} {h' : Heap}
end
section
variable {X : Cx}
end
end L2
set_option Elab.async false
set_option linter.all false
set_option maxRecDepth 100000
set_option maxHeartbeats 4000000
namespace L2
open PySem PySem.Spec PyProof.Rows
inductive EqN (K : PySem.W.Frag) (H : Hp) : V -> V -> Prop where
 | non : EqN K H .non .non
 | tup {a b : Addr} {ns : List Int} (ha : SqT K H a (ns.map V.int)) (hb : SqT K H b (ns.map V.int)) : EqN K H (.ref a) (.ref b)
section
variable {X : Cx} {pins : List (Addr × Obj)} {σ : St} {H : Hp} {s : Shared}
end
end L2
set_option Elab.async false
set_option linter.all false
set_option maxRecDepth 100000
set_option maxHeartbeats 4000000
namespace L2
open PySem PySem.Spec PyProof.Rows
section
variable {X : Cx}
end
end L2
set_option Elab.async false
set_option linter.all false
set_option maxRecDepth 100000
set_option maxHeartbeats 4000000
namespace L2
open PySem PySem.Spec PyProof.Rows
theorem xP {B : St} {t u a b : Option V} : ((((B.set 0 t).set 1 u).set 0 a).set 1 b) = (B.set 0 a).set 1 b:=by
 rw [List.set_comm u a (l:=B.set 0 t) (by decide : (1 : Nat) ≠ 0),List.set_set,List.set_set]
end L2
set_option Elab.async false
set_option linter.all false
set_option maxRecDepth 100000
namespace L2
open PySem PySem.Spec PyProof.Rows
section
variable {X : Cx} {pins : List (Addr × Obj)} {σ : St} {H H' : Hp} {s : Shared} {h' : Heap}
end
section
variable {X : Cx}
end
end L2
set_option Elab.async false
set_option linter.all false
set_option maxRecDepth 100000
namespace L2
open PySem PySem.Spec PyProof.Rows
section
variable {X : Cx}
end
end L2
set_option Elab.async false
set_option linter.all false
set_option maxRecDepth 100000
namespace L2
open PySem PySem.Spec PyProof.Rows
theorem xF (its : List Value) : (slicePick its.toArray none none (some (-1))) = its.reverse.toArray:=by
 unfold slicePick
 congr 1
 have e : sliceBounds none none (some (-1)) its.toArray.size = ((its.length : Int) - 1,-1,-1):=by
  unfold sliceBounds
  simp
 rw [e]
 unfold sliceRange
 have c : (if (-1 : Int) > 0 then (if (its.length : Int) - 1 < -1 then (-1 - ((its.length : Int) - 1) + -1 - 1) / -1 else 0) else (if (its.length : Int) - 1 > -1 then ((its.length : Int) - 1 - -1 - -1 - 1) / (- -1) else 0)).toNat = its.length:=by
  rw [if_neg (by decide)]
  by_cases h : its.length = 0
  ·rw [h]; decide
  ·rw [if_pos (by omega)]
   have : ((its.length : Int) - 1 - -1 - -1 - 1) / (- -1) = its.length:=by
    rw [show (- -1 : Int) = 1 from rfl,Int.ediv_one]
    omega
   rw [this]
   rfl
 show ((List.range _).map _).filterMap _ = _
 rw [c,List.filterMap_map]
 refine List.ext_getElem? fun i => ?_
 have go : ∀ n,n <= its.length -> ((List.range n).filterMap ((fun x => its.toArray[x]?) ∘ fun (k : Nat) => ((its.length : Int) - 1 + -1 * (k : Int)).toNat)) = (its.reverse.take n):=by
  intro n
  induction n with
  | zero => intro _; rfl
  | succ n ih =>
   intro hn
   have hn' : n < its.length:=hn
   rw [List.range_succ,List.filterMap_append,ih (Nat.le_of_lt hn'),List.take_add_one,List.getElem?_reverse hn']
   congr 1
   have e1 : ((its.length : Int) - 1 + -1 * (n : Int)).toNat = its.length - 1 - n:=by omega
   have e2 : its.length - 1 - n < its.length:=by omega
   have e3 : ((fun x => its.toArray[x]?) ∘ fun (k : Nat) => ((its.length : Int) - 1 + -1 * (k : Int)).toNat) n = some its[its.length - 1 - n]:=by
    show its.toArray[((its.length : Int) - 1 + -1 * (n : Int)).toNat]? = _
    rw [e1]
    simp [e2]
   rw [List.filterMap_cons_some e3,List.filterMap_nil,List.getElem?_eq_getElem e2]
   rfl
 rw [go _ (Nat.le_refl _),<- List.length_reverse,List.take_length]
section
variable {X : Cx}
def Aa (K : PySem.W.Frag) : V -> Option Int -> Option Int -> Option Int -> Hp -> VK -> Prop:=fun x lo hi st H Q => ∃ a xs,x = .ref a /\ lo = none /\ hi = none /\ st = some (-1) /\ SqL K H a xs /\ ∀ p,H p = none -> Q (.ref p) (upd H p (.lst xs.reverse))
theorem tJ : zM X (Aa X.K):=by
 intro pins s σ H x v vl vu vc lo hi st sl Q I rx hs pl pu pc h
 obtain ⟨a,xs,rfl,rfl,rfl,rfl,hx,q⟩:=h
 cases rx
 obtain ⟨its,r,ht,hz⟩:=I.list hx
 have hlen:=r.length
 refine ⟨"list",_,slot_list_getitem.lookup,ht.isList.typeIs,?_⟩
 refine wpAny_getItem_list_slice ht.isList hs pl pu pc (by simp) ?_ (by rw [List.size_toArray] <;> omega)
 rw [xF]
 refine ⟨.ref s.heap.objs.size,_,I.laid (t' := s.toks) (o:=.lst xs.reverse) (fun b ob q => Heap.get?_push_of_some _ q) (Nat.le_refl _) ?_,rfl,q _ (I.hok.fresh (Nat.le_refl _))⟩
 exact ⟨by rw [List.length_reverse]; exact hz,its.reverse,0,r.rev,Heap.get?_push_size _ rfl⟩
end
end L2
namespace PySem
open PyProof.Rows
namespace F
theorem p6 : Manifest.owners.lookup (String.ofList ['d','e','s','r','e','v','e','r'].reverse) = some Manifest.sig_reversed:=by kernel_rfl
theorem slot_rev_next : Slot "reversed" "__next__" "reversed.__next__" :=
 .of (owner := "reversed") (n := "__next__") (by rw [typeLookup_type,builtinLookup_eq_fast]; kernel_rfl) (by decide +kernel) (by decide +kernel) (by decide +kernel)
  (by first | exact .inl (by decide +kernel) | exact .inr (by decide +kernel)) (by rw [isSubtype_type]; kernel_rfl)
theorem entry_rev_next : entryFor table "reversed.__next__" = some Builtin.«reversed.__next__» := entryFor_of_tree (by kernel_rfl)
theorem args_rev_next_1 (a : Value) : argsOk "reversed.__next__" ⟨[a],[]⟩:=by
 unfold argsOk; rw [signature?_of (id := "reversed.__next__") (n:=['_','_','t','x','e','n','_','_']) (o:=['d','e','s','r','e','v','e','r']) (by kernel_rfl) p6]; kernel_rfl
theorem slot_rev_iter : Slot "reversed" "__iter__" "reversed.__iter__" :=
 .of (owner := "reversed") (n := "__iter__") (by rw [typeLookup_type,builtinLookup_eq_fast]; kernel_rfl) (by decide +kernel) (by decide +kernel) (by decide +kernel)
  (by first | exact .inl (by decide +kernel) | exact .inr (by decide +kernel)) (by rw [isSubtype_type]; kernel_rfl)
theorem args_rev_iter_1 (a : Value) : argsOk "reversed.__iter__" ⟨[a],[]⟩:=by
 unfold argsOk; rw [signature?_of (id := "reversed.__iter__") (n:=['_','_','r','e','t','i','_','_']) (o:=['d','e','s','r','e','v','e','r']) (by kernel_rfl) p6]; kernel_rfl
theorem entry_rev_iter : entryFor table "reversed.__iter__" = some Builtin.«dict_keyiterator.__iter__» :=
 entryFor_alias (id' := "dict_keyiterator.__iter__") (by kernel_rfl) (by first | rfl | decide +kernel | (unfold String.splitOn; simp +decide [String.splitOnAux])) (by decide +kernel) (by kernel_rfl)
theorem no_tuple_reversed : typeLookup (.type "tuple") "__reversed__" = pure none:=by rw [typeLookup_type,builtinLookup_eq_fast]; kernel_rfl
end F
section
variable {prog : Program} {w : World} {A : Around} {E : Value -> Shared -> Prop} {s : Shared}
def j3 (l : Addr) (i : Int) : Obj:={ cls:=.type "reversed",data:=.fields #[.ref l,rawInt i] }
def Heap.IsRevT (h : Heap) (a l : Addr) (i : Int) : Prop := ∃ o,h.get? a = some o /\ o.cls = .type "reversed" /\ o.data = .fields #[.ref l,rawInt i]
theorem Heap.IsRevT.typeIs {a l : Addr} {i : Int} (x : s.heap.IsRevT a l i) : s.TypeIs (.ref a) "reversed" := let ⟨o,ho,hc,_⟩:=x; ⟨o,ho,hc⟩
theorem Heap.IsRevT.at {h h' : Heap} {a l : Addr} {i : Int} (x : h.IsRevT a l i) (e : ∀ o,h.get? a = some o -> h'.get? a = some o) : h'.IsRevT a l i:=let ⟨o,ho,r⟩:=x; ⟨o,e _ ho,r⟩
theorem kG {it t : Addr} {i : Nat} {items : Array Value} {x : Value} {Q : Option Value -> Shared -> Prop} (hit : s.heap.IsRevT it t (i : Int)) (ht : IsTup s.heap t items) (hx : items[i]? = some x) (hz : items.size < 2 ^ 60)
  (hQ : ∀ h' tk,h'.IsRevT it t ((i : Int) - 1) -> Heap.SameBut it s.heap h' -> Q (some x) { s with heap:=h',toks:=tk }) : wpAny (model prog w) A (pyNext (.ref it)) Q E s:=by
 obtain ⟨o,ho,hc,hd⟩:=id hit
 have hi : i < items.size:=by
  rcases Nat.lt_or_ge i items.size with h | h
  ·exact h
  ·simp [Array.getElem?_eq_none h] at hx
 unfold pyNext
 refine wpAny_bind (wpAny_attempt (wpAny_callSpecial?_slot (name:=Str.ofString "__next__") hit.typeIs F.slot_rev_next
  (wpAny_call_entry F.slot_rev_next hit.typeIs F.entry_rev_next ?_ (F.args_rev_next_1 _))))
 unfold Builtin.«reversed.__next__»
 refine wpAny_bind (wpAny_of_eq (a:=(Value.ref it,[])) rfl ?_)
 try dsimp only
 refine wpAny_bind (wpAny_field ho hd (x:=.ref t) rfl ?_)
 refine wpAny_bind (wpAny_field ho hd (x:=rawInt (i : Int)) rfl ?_)
 show wpAny _ _ (if (i : Int) < 0 then _ else _) _ _ s
 rw [if_neg (by omega)]
 refine wpAny_bind (wpAny_specialOf ht.typeIs slot_tuple_getitem.lookup ?_)
 simp only [Option.isNone_some,Bool.false_eq_true,if_false]
 refine wpAny_bind (wpAny_mkInt ?_)
 refine wpAny_bind (wpAny_attempt (getItem_tuple (j:=i) (x:=x) (s:={ s with toks:=s.toks + 1 }) ht (by omega) (by omega) (by unfold seqIndex?; simp; omega) hx ?_))
 try dsimp only
 refine wpAny_bind (wpAny_field (s:={ s with toks:=s.toks + 1 }) ho hd (x:=rawInt (i : Int)) rfl ?_)
 show wpAny _ _ (setField (.ref it) 1 (rawInt ((i : Int) - 1)) >>= _) _ _ _
 refine wpAny_bind (wpAny_setField (s:={ s with toks:=s.toks + 1 }) ho hd (by simp) ?_)
 refine wpAny_pure ⟨x,rfl,wpAny_pure (hQ _ _ ?_ (Heap.SameBut.update ..))⟩
 exact ⟨_,Heap.get?_update_self _ ho (Obj.isFreed_of_fields (Obj.data_mapFields hd _)),(Obj.cls_mapFields ..).trans hc,by
  rw [Obj.data_mapFields hd]; simp⟩
theorem lW {it t : Addr} {Q : Option Value -> Shared -> Prop} (hh : A.handled = none) (hit : s.heap.IsRevT it t (-1))
  (hQ : ∀ h',Heap.ExtBut it s.heap h' -> Q none { s with heap:=h' }) : wpAny (model prog w) A (pyNext (.ref it)) Q E s:=by
 obtain ⟨o,ho,hc,hd⟩:=id hit
 unfold pyNext
 refine wpAny_bind (wpAny_attempt (wpAny_callSpecial?_slot (name:=Str.ofString "__next__") hit.typeIs F.slot_rev_next
  (wpAny_call_entry F.slot_rev_next hit.typeIs F.entry_rev_next ?_ (F.args_rev_next_1 _))))
 unfold Builtin.«reversed.__next__»
 refine wpAny_bind (wpAny_of_eq (a:=(Value.ref it,[])) rfl ?_)
 try dsimp only
 refine wpAny_bind (wpAny_field ho hd (x:=.ref t) rfl ?_)
 refine wpAny_bind (wpAny_field ho hd (x:=rawInt (-1)) rfl ?_)
 show wpAny _ _ (if (-1 : Int) < 0 then _ else _) _ _ s
 rw [if_pos (by decide)]
 refine wpAny_bind (wpAny_rule ?_)
 show wpAny _ _ ((setField (.ref it) 1 (rawInt (-1)) >>= fun _ => setField (.ref it) 0 .none) >>= _) _ _ s
 refine wpAny_bind (wpAny_bind (wpAny_setField ho hd (by simp) ?_))
 have g1:=Heap.get?_update_self (h:=s.heap) (Obj.mapFields fun vs => vs.set! 1 (rawInt (-1))) ho (Obj.isFreed_of_fields (Obj.data_mapFields hd _))
 have d1:=Obj.data_mapFields hd (fun vs => vs.set! 1 (rawInt (-1)))
 refine wpAny_setField g1 d1 (by simp) ?_
 refine wpAny_bind ?_
 show wpAny _ _ (newExc (.type "StopIteration") [] >>= _) _ _ _
 refine wpAny_bind ?_
 simp only [newExc,newTuple]
 refine wpAny_bind (wpAny_newObj_type ?_ (by size_fits))
 refine wpAny_bind (m:=firstArgMember _ _) (wpAny_of_eq (a:=Value.none) (by first | rfl | (simp only [firstArgMember]; rfl)) ?_)
 refine wpAny_newObj_type ?_ (by size_fits)
 simp only [raiseNew]
 refine wpAny_bind (wpAny_handled ?_)
 first | rw [show A.in1.handled = none from hh] | rw [hh]
 refine wpAny_bind (wpAny_pure (wpAny_throw ?_))
 refine wpAny_bind (wpAny_isInstance (T := "StopIteration") (b:=true) ⟨_,Heap.get?_push_size _ rfl,rfl⟩ isSubtype_stop ?_)
 refine wpAny_pure (hQ _ ?_)
 refine Heap.ExtBut.push (Heap.ExtBut.push ?_ _) _
 intro b ob hb e
 exact (Heap.SameBut.update ..).extBut b ob hb ((Heap.SameBut.update ..).extBut b ob hb e)
theorem k4 {it t : Addr} {i : Int} {Q : Value -> Shared -> Prop} (hit : s.heap.IsRevT it t i) (h : Q (.ref it) s) : wpAny (model prog w) A (pyIter (.ref it)) Q E s:=by
 refine wpAny_pyIter_slot hit.typeIs F.slot_rev_iter (wpAny_call_entry F.slot_rev_iter hit.typeIs F.entry_rev_iter ?_ (F.args_rev_iter_1 _))
 show wpAny _ _ (ret (.ref it)) _ _ s
 exact wpAny_pure ⟨_,rfl,"reversed",_,hit.typeIs,F.slot_rev_next.lookup,h⟩
theorem pJ : Slot "reversed" "__init__" "object.__init__" :=
 .of (owner := "object") (n := "__init__") (by rw [typeLookup_type,builtinLookup_eq_fast]; kernel_rfl) (by decide +kernel) (by decide +kernel) (by decide +kernel)
  (by first | exact .inl (by decide +kernel) | exact .inr (by decide +kernel)) (by rw [isSubtype_type]; kernel_rfl)
theorem u2 : mroOf (.type "reversed") = pure [.type "reversed",.type "object"]:=by rw [mroOf_type]; kernel_rfl
theorem m3 : typeLookup (.type "reversed") "__new__" = pure (some (.builtin "reversed.__new__")):=by rw [typeLookup_type,builtinLookup_eq_fast]; kernel_rfl
theorem tV : TypeCalled "reversed" "reversed.__new__" "object.__init__" :=
 ⟨by decide +kernel,by decide +kernel,⟨_,_,u2⟩,madeBy_type u2 m3 (by decide +kernel),by decide +kernel,by rw [isSubtype_type]; kernel_rfl,pJ⟩
theorem rH : isSubtype (.type "reversed") (.type "reversed") = pure true:=by rw [isSubtype_type]; kernel_rfl
theorem qP (a : Value) : Builtin.SmallTypes.newClass "reversed" ⟨[.type "reversed",a],[]⟩ = pure (.type "reversed",[a]):=by
 unfold Builtin.SmallTypes.newClass
 simp only [isType,rH,pure_bind,Bool.not_true,Bool.false_eq_true,if_false]
theorem iB (t : Addr) (items : Array Value) : MeetsIn prog w (Builtin.«reversed.__new__» ⟨[.type "reversed",.ref t],[]⟩) (fun A R s => IsTup s.heap t items /\ (items.size : Int) < 2 ^ 63 /\
  ∀ tk,R (.ok (.ret (.ref s.heap.objs.size))) { s with heap:=s.heap.push (j3 t ((items.size : Int) - 1)),toks:=tk }):=
 .of_wp fun A R s ⟨ht,hfit,h⟩ => by
  unfold Builtin.«reversed.__new__»
  refine wpAny_bind (wpAny_of_eq (qP _) ?_)
  try dsimp only
  refine wpAny_bind (wpAny_of_eq (a:=()) (by first | rfl | kernel_rfl) ?_)
  refine wpAny_bind (wpAny_of_eq (a:=()) (by first | rfl | kernel_rfl) ?_)
  try dsimp only
  refine wpAny_bind (wpAny_specialOf ht.typeIs F.no_tuple_reversed ?_)
  try dsimp only
  refine wpAny_bind ?_
  show wpAny _ _ (isInstance (.ref t) (.type "dict") >>= _) _ _ s
  refine wpAny_bind (wpAny_isInstance ht.typeIs F.sub_tuple_dict ?_)
  simp only [Bool.false_eq_true,if_false]
  refine wpAny_bind (wpAny_specialOf ht.typeIs slot_tuple_getitem.lookup ?_)
  try dsimp only
  rw [if_pos (by decide)]
  refine wpAny_pure ?_
  simp only [Bool.not_true,Bool.false_eq_true,if_false]
  refine wpAny_bind (len_tuple ht hfit ?_)
  refine wpAny_bind (wpAny_of_eq (a:=some (items.size : Int)) rfl ?_)
  try dsimp only
  show wpAny _ _ (newObj (.type "reversed") (.fields #[.ref t,rawInt ((items.size : Int) - 1)]) >>= _) _ _ _
  exact wpAny_bind (wpAny_newObj_type (wpAny_pure ⟨_,rfl,h _⟩))
theorem nS (a : Value) : checkTypeCall "reversed" ⟨[a],[]⟩ = pure ():=by kernel_rfl
theorem oQ (a : Value) : checkBuiltinCall "reversed.__new__" ⟨[.type "reversed",a],[]⟩ = pure ():=by kernel_rfl
theorem oD : entryFor table "reversed.__new__" = some Builtin.«reversed.__new__» := entryFor_of_tree (by kernel_rfl)
theorem iu {t : Addr} {items : Array Value} {Q : Value -> Shared -> Prop} (ht : IsTup s.heap t items) (hfit : (items.size : Int) < 2 ^ 63)
  (h : ∀ tk,Q (.ref s.heap.objs.size) { s with heap:=s.heap.push (j3 t ((items.size : Int) - 1)),toks:=tk }) : wpAny (model prog w) A (call (.type "reversed") [.ref t]) Q E s:=
 callType_newIn tV (by decide) (nS _) (oQ _) (fun obj => F.args_object_init_2 obj _) oD (iB t items) ⟨ht,hfit,fun tk => ⟨⟨_,Heap.get?_push_size _ rfl,rfl⟩,h tk⟩⟩
end
end PySem
namespace L2
open PySem PySem.Spec PyProof.Rows
def wx (K : PySem.W.Frag) (a : Addr) (n : Nat) : It:=
 ⟨fun i H => i < n /\ ∃ xs,SqT K H a xs /\ xs.length = n,fun i H x H' => H' = H /\ ∀ xs,SqT K H a xs -> xs[n - 1 - i]? = some x,fun i H => i = n⟩
theorem wq {P : Program} {w : World} {K : PySem.W.Frag} {tg : Expr} (a it : Addr) (n : Nat) : Turn P w K tg (wx K a n) [it] it (fun i h => i <= n /\ PySem.Heap.IsRevT h it a ((n : Int) - 1 - (i : Int))) where
 mem:=by simp
 obj:=fun i h st b hb => by
  have e : b = it:=by simpa using hb
  subst e
  obtain ⟨_,o,e,c,d⟩:=st
  exact ⟨o,e,fun v z => by rw [d] at z; cases z⟩
 keep:=fun i h h' st k => ⟨st.1,st.2.at fun o e => k it (by simp) o e⟩
 item:=by
  intro X hP hw hK hc i pins s σ H E I hf st hg
  subst hP hw hK
  obtain ⟨hi,xs,hq,hn⟩:=hg
  obtain ⟨its,rv,p,hz⟩:=I.tuple hq
  have hj : n - 1 - i < xs.length:=by omega
  obtain ⟨u,hu,ru⟩:=rv.get (i:=n - 1 - i) (x:=xs[n - 1 - i]) (by simp [hj])
  obtain ⟨f0,f1,f2,f3,f4,f5⟩:=hf it (by simp)
  have e : (n : Int) - 1 - (i : Int) = ((n - 1 - i : Nat) : Int):=by omega
  have st2:=st.2
  rw [e] at st2
  have hzz : its.toArray.size < 2 ^ 60:=by
   rw [List.size_toArray,<- rv.length]
   exact Nat.lt_of_le_of_lt hz (by decide)
  refine kG st2 p (x:=u) (by simpa using hu) hzz fun h' tk st' sb => ?_
  have I1 : Inv X pins σ H { s with heap:=h',toks:=tk }:=I.turned (t' := tk) (fun b o hb e => (sb.2 b hb).trans e) f0 f1 f3 f4 f5
  obtain ⟨o,eo,c,d⟩:=id st'
  refine ⟨u,rfl,pU (s:={ s with heap:=h',toks:=tk }) eo c d (by decide) ⟨xs[n - 1 - i],H,I1,ru,⟨rfl,fun ys hy => by rw [I.tuple_inj hy hq]; simp [hj]⟩,⟨by omega,?_⟩,fun b hb => (hf b hb).1⟩⟩
  have e2 : (n : Int) - 1 - ((i + 1 : Nat) : Int) = ((n - 1 - i : Nat) : Int) - 1:=by omega
  rw [e2]
  exact st'
 done:=by
  intro X hP hw hK hc i pins s σ H E I hf st hg
  subst hP hw hK
  have hg' : i = n:=hg
  obtain ⟨f0,f1,f2,f3,f4,f5⟩:=hf it (by simp)
  have e : (n : Int) - 1 - (i : Int) = -1:=by omega
  have st2:=st.2
  rw [e] at st2
  exact lW (I.ok.hd hc) st2 fun h' eb => ⟨rfl,I.turned (t' := s.toks) (fun b o hb e => eb b o hb e) f0 f1 f3 f4 f5⟩
 self:=fun _ _ _ _ _ st h => k4 st.2 h
section
variable {X : Cx} {tg : Expr}
def zT (K : PySem.W.Frag) (ta : TA) : TI:=fun σ H R => ta σ H fun vs H1 => ∃ a xs,vs = [.ref a] /\ SqT K H1 a xs /\ R (wx K a xs.length) H1
theorem yw {a : Expr} {ta : TA} {p pos : Pos} (hg : Gl X "reversed") (hm : X.mg "reversed" = none) (ha : PA X [a] ta) (hs : starEach [a] X.env = [(false,eval a X.env)]:=by rfl) : PI X tg (.Call (.Name "reversed" p) [a] [] pos) (zT X.K ta):=by
 intro pins s σ H R I h
 refine Call_ (eu I hg hm kT (PyProof.Rows.callWith_type1 (thn (ha pos pins s σ H _ I h) fun us s1 ⟨vs,H1,I1,r1,q1⟩ => ?_) hs rfl))
 obtain ⟨l,xs,e,hq,q⟩:=q1
 subst e
 cases r1 with
 | cons r rr =>
  cases rr
  cases r
  obtain ⟨its,rv,pl,hz⟩:=I1.tuple hq
  have hlen:=rv.length
  have hfit : (its.toArray.size : Int) < 2 ^ 63:=by
   have : its.toArray.size <= sizeLine:=by rw [List.size_toArray,<- hlen]; exact hz
   have h2 : (sizeLine : Int) < 2 ^ 63:=by decide
   omega
  refine iu pl hfit fun tk => ?_
  have I2 : Inv X pins σ H1 { s1 with heap:=s1.heap.push (j3 l ((its.toArray.size : Int) - 1)),toks:=tk }:=I1.kept (t' := tk) fun b o e => Heap.get?_push_of_some _ e
  have hit : PySem.Heap.IsRevT (s1.heap.push (j3 l ((its.toArray.size : Int) - 1))) s1.heap.objs.size l ((xs.length : Int) - 1 - ((0 : Nat) : Int)):=by
   refine ⟨_,Heap.get?_push_size _ rfl,rfl,?_⟩
   have e : ((its.toArray.size : Int) - 1) = (xs.length : Int) - 1 - ((0 : Nat) : Int):=by rw [List.size_toArray]; omega
   rw [<- e]
   rfl
  refine k4 (s:={ s1 with heap:=s1.heap.push (j3 l ((its.toArray.size : Int) - 1)),toks:=tk }) hit ?_
  refine ⟨s1.heap.objs.size,[s1.heap.objs.size],_,_,H1,rfl,I2,wq l _ xs.length,⟨Nat.zero_le _,hit⟩,fun b hb => ?_,q⟩
  have e : b = s1.heap.objs.size:=by simpa using hb
  subst e
  exact I1.fpOk (Nat.le_refl _) (I1.hok.fresh (Nat.le_refl _))
end
theorem wU {K : PySem.W.Frag} {a : Addr} {xs : List V} {g : TG} {tb : TS} {D : Ends} {σ : St} {H : Hp} (Pv : Nat -> St -> Hp -> Prop) (h0 : Pv 0 σ H) (hl : ∀ i σ H,i <= xs.length -> Pv i σ H -> SqT K H a xs)
  (hs : ∀ i x σ H,i < xs.length -> xs[xs.length - 1 - i]? = some x -> Pv i σ H -> g x σ H fun σ2 H2 => tb { D with nx:=Pv (i + 1),ct:=Pv (i + 1),bk:=D.nx } σ2 H2) (hd : ∀ σ H,Pv xs.length σ H -> D.nx σ H) :
  ∃ W : Nat -> Nat -> St -> Hp -> Prop,(∃ m,W 0 m σ H) /\ ∀ i m σ H,W i m σ H ->
   ((wx K a xs.length).stop i H /\ D.nx σ H) \/ ((wx K a xs.length).go i H /\ ∃ N : St -> Hp -> Prop,(∀ σ' H',N σ' H' -> ∃ m',m' < m /\ W (i + 1) m' σ' H') /\ ∀ x H',(wx K a xs.length).yld i H x H' -> g x σ H' fun σ2 H2 => tb { D with nx:=N,ct:=N,bk:=D.nx } σ2 H2):=by
 refine ⟨fun i m σ H => m = xs.length - i /\ i <= xs.length /\ Pv i σ H,⟨xs.length,by simp,Nat.zero_le _,h0⟩,?_⟩
 rintro i m σ H ⟨rfl,hi,p⟩
 have q:=hl i σ H hi p
 by_cases hlt : i < xs.length
 ·refine .inr ⟨⟨hlt,xs,q,rfl⟩,Pv (i + 1),fun σ' H' p' => ⟨xs.length - (i + 1),by omega,rfl,hlt,p'⟩,fun x H' y => ?_⟩
  obtain ⟨e,y⟩:=y
  subst e
  exact hs i x σ _ hlt (y xs q) p
 ·have e : i = xs.length:=by omega
  subst e
  exact .inl ⟨rfl,hd σ H p⟩
end L2
set_option Elab.async false
set_option linter.all false
set_option maxRecDepth 100000
set_option maxHeartbeats 4000000
namespace L2
open PySem PySem.Spec PyProof.Rows
section
variable {X : Cx}
end
section
variable {X : Cx}
theorem yu (K : PySem.W.Frag) {es : List Expr} {k : Nat} {pos : Pos} {t : TGs} {n : Nat} (hc : X.calm = true) (h : PGs X es t) (hK : X.K = K:=by rfl)
  (hn : (assignEach es X.env).length = n:=by rfl) (hst : (assignEach es X.env).findIdx? (·.1) = none:=by rfl) : PG X (.Tuple es k pos) (zR K n t):=by
 subst hK
 exact xC hc h hn hst
end
end L2
set_option Elab.async false
set_option linter.all false
set_option maxRecDepth 100000
set_option maxHeartbeats 4000000
namespace L2
open PySem PySem.Spec PyProof.Rows
section
variable {prog : Program} {w : World} {A : Around} {E : Value -> Shared -> Prop} {s : Shared}
structure ZipFar3 (z TI TO i1 i2 i3 : Addr) (fp1 fp2 fp3 : List Addr) : Prop where
 TIz : TI ≠ z
 TOz : TO ≠ z
 TITO : TI ≠ TO
 i1z : i1 ≠ z
 i2z : i2 ≠ z
 i3z : i3 ≠ z
 TIi1 : TI ≠ i1
 TIi2 : TI ≠ i2
 TIi3 : TI ≠ i3
 TOi1 : TO ≠ i1
 TOi2 : TO ≠ i2
 TOi3 : TO ≠ i3
 z1 : z ∉ fp1
 TO1 : TO ∉ fp1
 i21 : i2 ∉ fp1
 i31 : i3 ∉ fp1
 z2 : z ∉ fp2
 TO2 : TO ∉ fp2
 i12 : i1 ∉ fp2
 i32 : i3 ∉ fp2
 z3 : z ∉ fp3
 TO3 : TO ∉ fp3
 i13 : i1 ∉ fp3
 i23 : i2 ∉ fp3
variable {z TI TO i1 i2 i3 : Addr} {fp1 fp2 fp3 : List Addr} {n1 n2 n3 k : Nat} {P1 P2 P3 : Nat -> Value -> Prop} {St1 St2 St3 : Nat -> Heap -> Prop} {a b c : Value}
end
section
variable {X : Cx}
end
section
variable {X : Cx}
end
theorem d6 {t u : TS} {D : Ends} {σ : St} {H : Hp} (R : St -> Hp -> Prop) (h1 : ∀ σ' H',R σ' H' -> u D σ' H') (h2 : ∀ D' : Ends,(∀ σ' H',R σ' H' -> D'.nx σ' H') -> t D' σ H) : uE t u D σ H:=
 h2 { D with nx:=u D } h1
end L2
set_option Elab.async false
set_option linter.all false
set_option maxRecDepth 100000
set_option maxHeartbeats 4000000
namespace L2
open PySem PySem.Spec PyProof.Rows
structure BlkScope1 (NX : List Str) (scX : Scope) (N : List Str) (ix : List (Option Nat)) (sc : Scope) (x : Str) : Prop where
 kind : sc.kind = .function
 nd : N.Nodup
 cell : sc.names.lookup x = some .cell
 only : ∀ y ∈ sc.names,y.2 = .cell -> y.1 = x
 lay : ∀ n cl,cellsFrom n sc.names cl = (x,n) :: cl
 lays : ∀ h,pushCells h sc.names = h.push { cls:=.type "cell",data:=.cell none }
 locs : ∀ y ∈ sc.names,y.2 = .local -> sc.names.lookup y.1 = some .local
 free : ∀ y ∈ sc.names,y.2 = .free -> scX.names.lookup y.1 = some .cell \/ scX.names.lookup y.1 = some .free
 nofree : ∀ y ∈ sc.names,y.2 = .free -> y.1 ≠ x
 len : ix.length = N.length
 at_ : ∀ p ∈ N.zip ix,∀ i,p.2 = some i -> NX[i]? = some p.1 /\ sc.names.lookup p.1 = some .free
section
variable {X : Cx} {pins : List (Addr × Obj)} {σ : St} {H : Hp} {s : Shared} {N : List Str} {ix : List (Option Nat)} {scope : Scope} {fp : List Addr} {x : Str}
variable {tg elt iter : Expr} {pos spos : Pos} {J : It} {it : Addr} {tn : Nat -> Heap -> Prop} {g : TG} {te : TE} {wi : TI}
end
end L2
set_option Elab.async false
set_option linter.all false
set_option maxRecDepth 100000
namespace L2
open PySem PySem.Spec PyProof.Rows
abbrev Aq (xs : Array Nat) : Prop:=xs.toList.Pairwise (· < ·)
structure TabOk (t : SetTable) (led : Bool) : Prop where
 rise : Aq t.place
 nod : t.dummies = #[]
 led : t.led = led
abbrev byT (w : World) : Bool:=w.params.followText "set-order"
section
variable {P : Program} {w : World} {A : Around} {E : Value -> Shared -> Prop} {s : Shared}
end
end L2
set_option Elab.async false
set_option linter.all false
set_option maxRecDepth 100000
namespace L2
open PySem PySem.Spec PyProof.Rows
section
variable {P : Program} {w : World} {A : Around} {E : Value -> Shared -> Prop} {R : Result -> Shared -> Prop} {I : Addr} {fp wr : List Addr} {G : Array GenState -> Array GenState -> Prop} {n : Nat} {Pz : Nat -> Value -> Prop} {St : Nat -> Shared -> Prop}
end
section
variable {P : Program} {w : World} {A : Around} {E : Value -> Shared -> Prop} {s : Shared}
end
end L2
set_option Elab.async false
set_option linter.all false
set_option maxRecDepth 100000
namespace L2
open PySem PySem.Spec PyProof.Rows
namespace SF
end SF
def vd (h : Heap) (I S : Addr) (first : Value) (i n ep : Nat) : Prop := ∃ o,h.get? I = some o /\ o.cls = .type "set_iterator" /\ o.data = .fields #[first,.int i 0,.ref S,.int n 0,.int ep 0]
def yV (w : World) (es : Array (Int × Value)) (ep : Nat) (t : SetTable) (S T : Addr) (L : List Value) (h : Heap) (i : Nat) (first : Value) : Prop:=
 (byT w = true /\ (∃ z : Nat,first = .int z 0) /\ L = (pickOrder (w.params.setOrder S ep) es).toList.map (·.2)) \/
 (byT w = false /\ (t.plain = true \/ es.size <= 1) /\ (∃ z : Nat,first = .int z 0 /\ SetTable.below t.place z = i) /\ L = es.toList.map (·.2)) \/
 (byT w = false /\ first = .ref T /\ ∃ pl : List Nat,pl.Perm (List.range es.size) /\ (∃ o e,h.get? T = some o /\ o.data = .seq (pl.map fun p : Nat => Value.int (p : Int) 0).toArray e) /\ L = pl.map fun p => (es.getD p (0,.none)).2)
structure SetSt (w : World) (es : Array (Int × Value)) (ep : Nat) (t : SetTable) (S T I : Addr) (L : List Value) (i : Nat) (h : Heap) : Prop where
 set : ∃ o,h.get? S = some o /\ o.data = .set es ep t
 it : ∃ first,vd h I S first i es.size ep /\ yV w es ep t S T L h i first
section
variable {P : Program} {w : World} {A : Around} {E : Value -> Shared -> Prop} {s : Shared} {es : Array (Int × Value)} {ep : Nat} {t : SetTable} {S T I : Addr} {L : List Value} {i : Nat}
end
end L2
set_option Elab.async false
set_option linter.all false
set_option maxRecDepth 100000
namespace L2
open PySem PySem.Spec PyProof.Rows
namespace SF
end SF
section
variable {P : Program} {w : World} {A : Around} {E : Value -> Shared -> Prop} {s : Shared} {es : Array (Int × Value)} {ep : Nat} {t : SetTable} {S T I : Addr} {L : List Value}
end
end L2
set_option Elab.async false
set_option linter.all false
set_option maxRecDepth 100000
namespace L2
open PySem PySem.Spec PyProof.Rows
section
variable {P : Program} {w : World} {A : Around} {E : Value -> Shared -> Prop} {s : Shared} {S : Addr} {ns : List Int}
end
end L2
set_option Elab.async false
set_option linter.all false
set_option maxRecDepth 100000
namespace L2
open PySem PySem.Spec PyProof.Rows
section
variable {X : Cx}
end
end L2
set_option Elab.async false
set_option linter.all false
set_option maxRecDepth 100000
namespace PySem
open PyProof.Rows
theorem mU : typeLookup (.type "list") "keys" = pure none:=by rw [typeLookup_type,builtinLookup_eq_fast]; kernel_rfl
theorem mT {prog : Program} {w : World} {A : Around} {E : Value -> Shared -> Prop} {s : Shared} {a : Addr} {xs : Array Value} {k : Nat} {sl : Array (Option Value)} {Q : Option Value -> Shared -> Prop}
  (hx : s.heap.get? a = some { cls:=.type "list",dict:=none,data:=.seq xs k,slots:=sl }) (hA : A.handled = none)
  (h : ∀ h' tk,(∀ b o,s.heap.get? b = some o -> h'.get? b = some o) -> Q none { s with heap:=h',toks:=tk }) : wpAny (model prog w) A (getAttr? (.ref a) "keys") Q E s:=by
 obtain ⟨hp,g,d,tk,os⟩:=s
 have hT : ∀ tk',(⟨hp,g,d,tk',os⟩ : Shared).TypeIs (.ref a) "list" := fun _ => ⟨_,hx,rfl⟩
 have f1:=sub_AttributeError
 have f3:=F.slot_list_getattribute.lookup
 have f4:=F.slot_list_getattribute.bind (.ref a)
 have f5:=am_list_getattr_none
 have hmiss:=mU
 have hname : (["__module__","__name__","__qualname__","__doc__","__annotations__"] : List Str).contains (Str.ofString "keys") = false:=by decide +kernel
 unfold getAttr? getAttrBy? getAttrBy
 repeat (any_goals (first | assumption | exact hT _ | ((with_reducible show wpAny _ _ (call (Value.builtin "list.__getattribute__") _ _) _ _ _); refine call_meets F.slot_list_getattribute (hT _) am_entry_list_getattribute (F.args_list_getattribute_2 _ _) (meets_getattribute_miss_list a xs k sl (Str.ofString "keys") _ hmiss hname (by decide)) ⟨hx,hA,fun h' tk' e hx' => ?_⟩) | wp_step))
 obtain ⟨t',u',he⟩:=hx'.there
 show wpAny _ _ (getattributeRaised _ _ _ _ _ _ _) _ _ _
 unfold getattributeRaised
 repeat (any_goals (first | assumption | wp_step))
 exact h h' tk' hx'.keeps
section
variable {prog : Program} {w : World} {K : Type} [DecidableEq K] {knd : KeyKind prog w K} {A : Around} {E : Value -> Shared -> Prop} {s : Shared} {R : Result -> Shared -> Prop}
theorem eD : entryFor table "dict.update.loop" = some Builtin.«dict.update.loop» := entryFor_of_tree (by kernel_rfl)
theorem bX : plainId "dict.update.loop" = true:=by decide +kernel
def me (knd : KeyKind prog w K) (h : Heap) (ts : List Addr) (ps : List (K × Value)) : Prop := ∀ (j : Nat) (t : Addr) (p : K × Value),ts[j]? = some t -> ps[j]? = some p -> ∃ key,knd.is p.1 key = true /\ IsTup h t #[key,p.2]
theorem tN {D I l : Addr} {ts : List Addr} {ps : List (K × Value)} (W : Walks prog w A.in1 I [I,l] [I] ts.length (fun i v => (ts.map Value.ref).toArray[i]? = some v) (fun i h => h.IsListIter I l i /\ h.IsList l (ts.map Value.ref).toArray))
  (hl : ts.length = ps.length) (hDI : D ≠ I) (hDl : D ≠ l) (hDt : ∀ t ∈ ts,t ≠ D /\ t ≠ I) (hz : ps.length <= sizeLine) :
  ∀ (k i : Nat) (s : Shared) (acc : List (K × Value)),ts.length - i = k -> i <= ts.length -> (s.heap.IsListIter I l i /\ s.heap.IsList l (ts.map Value.ref).toArray) -> s.heap.DictOf knd D acc -> acc.length <= i -> me knd s.heap ts ps ->
  (∀ h' tk,(∀ b o,b ≠ D -> b ≠ I -> s.heap.get? b = some o -> h'.get? b = some o) -> h'.DictOf knd D (merged acc (ps.drop i)) -> R (.ok (.ret .none)) { s with heap:=h',toks:=tk }) ->
  codeAny (model prog w) A (.builtin "dict.update.loop" ⟨[.ref D,.ref I,rawInt (i : Int),.none],[]⟩) R s:=by
 intro k
 induction k with
 | zero =>
  intro i s acc hk hi hst hD hacc hP hR
  have hin : i = ts.length:=by omega
  subst hin
  refine codeAny_builtin eD ?_
  rw [Around.under_plainId bX _]
  show wpAny _ A.in1 (pyNext (.ref I) >>= _) _ _ s
  refine wpAny_bind (W.done s _ _ hst fun h' tk hm => ?_)
  show wpAny _ _ (Builtin.Dict.addKeywords D [] >>= _) _ _ _
  refine wpAny_bind (wpAny_of_eq (a:=()) rfl ?_)
  have e : ps.drop ts.length = []:=by rw [hl,List.drop_length]
  refine wpAny_pure (hR h' tk (fun b o _ hb q => hm b o (by simpa using hb) q) ?_)
  rw [e]
  exact hD.extBut (b:=I) (fun b o hb q => hm b o (by simpa using hb) q) hDI
 | succ k ih =>
  intro i s acc hk hi hst hD hacc hP hR
  have hlt : i < ts.length:=by omega
  have hlt2 : i < ps.length:=by omega
  refine codeAny_builtin eD ?_
  rw [Around.under_plainId bX _]
  show wpAny _ A.in1 (pyNext (.ref I) >>= _) _ _ s
  refine wpAny_bind (W.item i s _ _ hlt hst fun v h' tk hv hst' hm => ?_)
  have ev : v = .ref ts[i]:=by
   have : (ts.map Value.ref).toArray[i]? = some (.ref ts[i]):=by simp [hlt]
   rw [this] at hv
   exact (Option.some.inj hv).symm
  subst ev
  have keep : ∀ b o,b ≠ I -> s.heap.get? b = some o -> h'.get? b = some o:=fun b o hb q => hm b o (by simpa using hb) q
  obtain ⟨key,hkey,ht⟩:=hP i ts[i] ps[i] (List.getElem?_eq_getElem hlt) (List.getElem?_eq_getElem hlt2)
  have tn:=hDt ts[i] (List.getElem_mem hlt)
  have ht' : IsTup h' ts[i] #[key,(ps[i]).2]:=ht.extBut (b:=I) keep tn.2
  have hD' : h'.DictOf knd D acc:=hD.extBut (b:=I) keep hDI
  obtain ⟨ot,hot,hct,nt,hdt⟩:=id ht'
  try dsimp only
  refine wpAny_bind (wpAny_holding ?_)
  refine wpAny_bind (wpAny_tryCatch ?_)
  unfold Builtin.Dict.pairItems
  refine wpAny_bind (wpAny_typeOf (s:={ s with heap:=h',toks:=tk }) ht'.typeIs ?_)
  rw [if_pos (by decide)]
  refine wpAny_bind (wpAny_seqItems (s:={ s with heap:=h',toks:=tk }) hot hdt ?_)
  refine wpAny_pure ?_
  show wpAny _ _ (holding [key,(ps[i]).2] (dictSet D key (ps[i]).2)) _ _ _
  refine wpAny_holding (wpAny_dictSet_pairs (knd:=knd) (s:={ s with heap:=h',toks:=tk }) hkey hD' (fun h2 hD2 sb2 => ?_) (by omega))
  have keep2 : ∀ b o,b ≠ D -> h'.get? b = some o -> h2.get? b = some o:=fun b o hb q => sb2.extBut b o hb q
  refine wpAny_pure ⟨plainId_quiet bX _,?_⟩
  have ri : rawInt ((i : Int) + 1) = rawInt (((i + 1 : Nat)) : Int):=by push_cast; rfl
  rw [ri]
  refine ih (i + 1) { s with heap:=h2,toks:=tk + 1 } (stored acc (ps[i]).1 (ps[i]).2) (by omega) hlt ⟨hst'.1.at fun o q => keep2 I o (Ne.symm hDI) q,hst'.2.at fun o q => keep2 l o (Ne.symm hDl) q⟩ hD2 (by
   have:=stored_length_le acc (ps[i]).1 (ps[i]).2
   omega) (fun j t p h1 h2' => ?_) (fun h3 tk3 kp3 hD3 => ?_)
  ·obtain ⟨key',hk',ht''⟩:=hP j t p h1 h2'
   have tn' := hDt t (List.mem_of_getElem? h1)
   exact ⟨key',hk',(ht''.extBut (b:=I) keep tn'.2).extBut (b:=D) keep2 tn'.1⟩
  ·refine hR h3 tk3 (fun b o hb hb2 q => kp3 b o hb hb2 (keep2 b o hb (keep b o hb2 q))) ?_
   rw [List.drop_eq_getElem_cons hlt2]
   exact hD3
theorem lh {l : Addr} {ts : List Addr} {ps : List (K × Value)} {c : Nat} {Q : Value -> Shared -> Prop} (hh : A.handled = none) (hL : s.heap.get? l = some { cls:=.type "list",dict:=none,data:=.seq (ts.map Value.ref).toArray c,slots := #[] })
  (hl : ts.length = ps.length) (hP : me knd s.heap ts ps) (hz : ps.length <= sizeLine)
  (hQ : ∀ h' tk,(∀ b o,s.heap.get? b = some o -> h'.get? b = some o) -> h'.DictOf knd s.heap.objs.size (merged [] ps) -> Q (.ref s.heap.objs.size) { s with heap:=h',toks:=tk }) :
  wpAny (model prog w) A (call (.type "dict") [.ref l]) Q E s:=by
 refine callType_codes (Q₁:=fun obj s₁ => obj = .ref s.heap.objs.size /\ s₁ = { s with heap:=s.heap.push { cls:=.type "dict",data:=.dict #[] } }) F.kt_called_dict (F.kt_typeCall_dict_1 _) F.entry_dict_init (kt_code_dict_new _ ⟨rfl,rfl⟩) ?_
 rintro obj s₁ ⟨rfl,rfl⟩
 have hnew : (s.heap.push { cls:=.type "dict",data:=.dict #[] }).DictOf knd s.heap.objs.size []:=Heap.DictOf.new s.heap
 have hlt : l < s.heap.objs.size:=Heap.lt_size hL
 have hL' : (s.heap.push { cls:=.type "dict",data:=.dict #[] }).get? l = some { cls:=.type "list",dict:=none,data:=.seq (ts.map Value.ref).toArray c,slots := #[] }:=Heap.get?_push_of_some _ hL
 refine ⟨hnew.typeIs,F.args_dict_init_2 _ _,?_⟩
 unfold Builtin.«dict.__init__»
 refine wpAny_bind ?_
 unfold Builtin.Dict.selfAndRest
 refine wpAny_bind (wpAny_notOrdered_dict hnew.typeIs ?_)
 show wpAny _ _ (pure (s.heap.objs.size,[Value.ref l])) _ _ _
 refine wpAny_pure ?_
 show wpAny _ _ (Builtin.Dict.updateFrom "dict.__init__" s.heap.objs.size (.ref l) [] .none) _ _ _
 unfold Builtin.Dict.updateFrom
 refine wpAny_bind (wpAny_typeOf (T := "list") ⟨_,hL',rfl⟩ ?_)
 rw [if_pos (by decide)]
 refine wpAny_bind (mT hL' hh fun h1 tk1 kp1 => ?_)
 rw [if_pos (by rfl)]
 refine wpAny_bind (wpAny_rule ?_)
 have hL1:=kp1 _ _ hL'
 have il1 : Heap.IsList h1 l (ts.map Value.ref).toArray:=⟨_,hL1,rfl,c,rfl⟩
 refine wpAny_bind (wpAny_pyIter_list (s:={ s with heap:=h1,toks:=tk1 }) il1 ?_)
 refine wpAny_pure ⟨plainId_quiet bX _,?_⟩
 have oI : (h1.push { cls:=.type "list_iterator",data:=.fields #[.ref l,.int 0 0] }).get? h1.objs.size = some { cls:=.type "list_iterator",data:=.fields #[.ref l,.int 0 0] }:=Heap.get?_push_size _ rfl
 have l1 : l < h1.objs.size:=Heap.lt_size hL1
 have d1 : s.heap.objs.size < h1.objs.size:=Heap.lt_size (kp1 _ _ (Heap.get?_push_size s.heap rfl))
 have W:=Walks.list (prog:=prog) (w:=w) (A:=A.in1.in1) hh h1.objs.size l (Nat.ne_of_lt l1) (ts.map Value.ref).toArray
 have sz : (ts.map Value.ref).toArray.size = ts.length:=by simp
 rw [sz] at W
 have kp2 : ∀ b o,s.heap.get? b = some o -> (h1.push { cls:=.type "list_iterator",data:=.fields #[.ref l,.int 0 0] }).get? b = some o:=fun b o q => Heap.get?_push_of_some _ (kp1 _ _ (Heap.get?_push_of_some _ q))
 refine tN (A:=A.in1) (knd:=knd) (D:=s.heap.objs.size) (ps:=ps) W hl (Nat.ne_of_lt d1) (Nat.ne_of_gt hlt) (fun t ht => ?_) hz ts.length 0 { s with heap:=h1.push { cls:=.type "list_iterator",data:=.fields #[.ref l,.int 0 0] },toks:=tk1 } [] rfl (Nat.zero_le _) ⟨⟨_,oI,rfl,rfl⟩,il1.at fun o q => Heap.get?_push_of_some _ q⟩ ?_ (Nat.zero_le _) (fun j t p a1 a2 => ?_) (fun h3 tk3 kp3 hD3 => ?_)
 ·obtain ⟨j,hj⟩:=List.mem_iff_getElem?.mp ht
  have jl : j < ps.length:=by
   rw [<- hl]
   exact (List.getElem?_eq_some_iff.mp hj).1
  obtain ⟨key,_,o,ho,_⟩:=hP j t ps[j] hj (List.getElem?_eq_getElem jl)
  have tl:=Heap.lt_size ho
  exact ⟨Nat.ne_of_lt tl,Nat.ne_of_lt (Nat.lt_trans tl d1)⟩
 ·exact hnew.extBut (b:=h1.objs.size) (fun b o _ q => Heap.get?_push_of_some _ (kp1 _ _ q)) (Nat.ne_of_lt d1)
 ·obtain ⟨key,hk,ht⟩:=hP j t p a1 a2
  exact ⟨key,hk,ht.keeps kp2⟩
 ·exact ⟨rfl,hQ h3 tk3 (fun b o q => kp3 b o (Nat.ne_of_lt (Heap.lt_size q)) (Nat.ne_of_lt (Nat.lt_trans (Heap.lt_size q) d1)) (kp2 b o q)) hD3⟩
end
end PySem
namespace L2
open PySem PySem.Spec PyProof.Rows
section
variable {X : Cx}
def PairsV (H : Hp) : List Addr -> List (Key × V) -> Prop:=Paired fun a p => H a = some (.tup [kV p.1,p.2])
theorem m8 {P : Program} {w : World} : ∀ {kvs : List (Key × V)} {ts : List Addr} {H : Hp} {h : Heap},PairsV H ts kvs -> HOk P w H h -> ∃ ps : List (Key × Value),KV kvs ps /\ ps.length = ts.length /\ me (bc P w) h ts ps
 | [],[],_,_,.nil,_ => ⟨[],.nil,rfl,fun j t p h => by simp at h⟩
 | _,_,_,_,.cons (a:=a) (b:=p) (l₁:=ts) (l₂:=kvs) q t,ok => by
  obtain ⟨ps,r1,r2,r3⟩:=m8 t ok
  obtain ⟨z,its,rv,ht⟩:=ok a _ q
  obtain ⟨u,v,rfl,ru,rv'⟩:=Vals.two rv
  refine ⟨(p.1,v) :: ps,.cons ⟨rfl,rv'⟩ r1,by simp [r2],fun j t' p' h1 h2 => ?_⟩
  cases j with
  | zero =>
   simp at h1 h2
   subst h1 h2
   exact ⟨u,kZ ru,by simpa using ht⟩
  | succ j => exact r3 j t' p' (by simpa using h1) (by simpa using h2)
def yA : List V -> Hp -> VK -> Prop:=fun xs H Q => ∃ l ts kvs,xs = [.ref l] /\ H l = some (.lst (ts.map V.ref)) /\ PairsV H ts kvs /\ ∀ D,H D = none -> Q (.ref D) (upd H D (.dK (gE [] kvs)))
theorem qg : ∀ {ts : List Addr} {us : List Value},Vals (ts.map V.ref) us -> us = ts.map Value.ref
 | [],_,.nil => rfl
 | t :: ts,_,.cons r q => by
  cases r
  rw [List.map_cons,qg q]
theorem rS (hc : X.calm = true) : gO X (.type "dict") yA:=by
 intro pins s σ H xs us Q I r h
 obtain ⟨l,ts,kvs,rfl,hl,hp,q⟩:=h
 obtain ⟨u,rfl,rx⟩:=vals1 r
 cases rx
 obtain ⟨z,its,n,rv,hln,e⟩:=I.lstM hl
 have ei:=qg rv
 subst ei
 obtain ⟨ps,r1,r2,r3⟩:=m8 hp I.hok
 have hlen : kvs.length = ps.length:=Paired.length r1
 have zl : ps.length <= sizeLine:=by
  rw [r2]
  rw [List.length_map] at z
  exact z
 refine lh (knd:=bc X.prog X.w) (I.ok.hd hc) e r2.symm r3 zl fun h' tk kp dd => ?_
 have ob : ObjOk X.prog X.w (upd H s.heap.objs.size (.dK (gE [] kvs))) h' s.heap.objs.size (.dK (gE [] kvs)):=by
  refine qz ?_ (beq_eq_false_iff_ne.mpr (Ne.symm (Nat.ne_of_lt I.big))) (KV.merge r1 .nil) dd
  have:=iU kvs []
  simp only [List.length_nil] at this
  omega
 exact ⟨.ref _,_,I.laid (t' := tk) kp (Nat.le_refl _) ob,rfl,q _ (I.hok.fresh (Nat.le_refl _))⟩
end
section
variable {X : Cx} {pins : List (Addr × Obj)} {σ : St} {H : Hp} {s : Shared} {a : Addr} {z : V} {u r : Value} {A : Around} {E : Value -> Shared -> Prop} {kvs : List (Key × V)} {k : Key}
theorem qv {Q : Value -> Shared -> Prop} (I : Inv X pins σ H s) (e : H a = some (.dK kvs)) (hz : kvs.length < sizeLine) (ry : RelV (kV k) u) (rz : RelV z r)
  (h1 : ∀ v w' s',di kvs k = some v -> Inv X pins σ H s' -> RelV v w' -> Q w' s') (h2 : ∀ s',di kvs k = none -> Inv X pins σ (upd H a (.dK (putK kvs k z))) s' -> Q r s') :
  wpAny (model X.prog X.w) A (call (.builtin "dict.setdefault") [.ref a,u,r]) Q E s:=by
 obtain ⟨zl,hd,vs,rel,dd⟩:=wO I.hok e
 have rv:=rel.val k
 refine call_meetsIn PySem.F.slot_dict_setdefault dd.typeIs PySem.F.entry_dict_setdefault (PySem.F.args_dict_setdefault_3 _ _ _) (kt_meets_setdefault (bc X.prog X.w) a (kZ ry) hd r) ⟨vs,dd,by rw [<- rel.length]; exact zl,fun v hv => ?_,fun hn h' dd' sb => ?_⟩
 ·cases hk : di kvs k with
  | none => rw [hk,hv] at rv; exact rv.elim
  | some x =>
   rw [hk,hv] at rv
   exact h1 x v _ hk (I.tok _) rv
 ·have hk : di kvs k = none:=by
   cases hk : di kvs k with
   | none => rfl
   | some x => rw [hk,hn] at rv; exact rv.elim
  refine h2 _ hk (l5 (t' := s.toks + 1) I (by rw [e]; trivial) sb ?_ (qz (kvs:=putK kvs k z) (by have:=eK kvs k z; omega) hd (rel.put k rz) dd'))
  obtain ⟨ob,_,_,g,_⟩:=dd'
  exact ⟨ob,g⟩
end
def Ag (td ty tx : TE) : TE:=fun σ H Q => td σ H fun x H1 => ∃ a,x = .ref a /\ IsD H1 a /\ ty σ H1 fun y H2 => tx σ H2 fun z H3 => ∃ kvs k,H3 a = some (.dK kvs) /\ y = kV k /\ kvs.length < sizeLine /\
 (∀ v,di kvs k = some v -> Q v H3) /\ (di kvs k = none -> Q z (upd H3 a (.dK (putK kvs k z))))
section
variable {X : Cx} {o e f : Expr} {apos cpos : Pos} {td ty tx : TE}
theorem yt (ho : PE X o td) (he : PE X e ty) (hf : PE X f tx) (m : M2 X o "setdefault" apos e f cpos) : PE X (.Call (.Attribute o "setdefault" apos) [e,f] [] cpos) (Ag td ty tx):=by
 intro pins s σ H Q I h
 refine wpAny_Call_method m.base m.few m.line PySem.F.plainAttrs_dict PySem.F.slot_dict_setdefault PySem.F.type_dict_setdefault (thn (ho pins s σ H _ I h) fun u s1 ⟨x,H1,I1,rx,a,ex,d,q1⟩ => ?_)
 subst ex
 obtain rfl : u = Value.ref a:=rx
 obtain ⟨t1,t2,_⟩:=t8 I1 d
 refine ⟨t1,t2,?_⟩
 rw [m.trees]
 refine Calls.callWith_builtin rfl (Calls.evalArgs_plain (Calls.spliced_cons (thn (he pins s1 σ H1 _ I1 q1) fun iv s2 ⟨y,H2,I2,ry,q2⟩ =>
  Calls.spliced_cons (thn (hf pins s2 σ H2 _ I2 q2) fun fv s3 ⟨z,H3,I3,rz,kvs,k,ea,ey,hz,q3,q4⟩ => Calls.spliced_nil ?_))))
 subst ey
 exact qv I3 ea hz ry rz (fun v w' s' hv I4 rv => ⟨v,H3,I4,rv,q3 v hv⟩) fun s' hn I4 => ⟨z,_,I4,rz,q4 hn⟩
end
end L2
set_option Elab.async false
set_option linter.all false
set_option maxRecDepth 100000
namespace L2
open PySem PySem.Spec PyProof.Rows
section
variable {X : Cx} {pins : List (Addr × Obj)} {σ : St} {H : Hp} {s : Shared} {a : Addr} {o : Obj} {kvs : List (Key × V)}
end
section
variable {X : Cx} {tg : Expr}
end
section
variable {X : Cx}
end
end L2
set_option Elab.async false
set_option linter.all false
set_option maxRecDepth 100000
namespace L2
open PySem PySem.Spec PyProof.Rows
section
variable {P : Program} {w : World} {A : Around} {E : Value -> Shared -> Prop} {s : Shared}
end
end L2
set_option Elab.async false
set_option linter.all false
set_option maxRecDepth 100000
namespace L2
open PySem PySem.Spec PyProof.Rows
section
variable {X : Cx}
end
end L2
set_option Elab.async false
set_option linter.all false
set_option maxRecDepth 100000
namespace PySem
open PyProof.Rows
section
variable {prog : Program} {w : World} {A : Around} {E : Value -> Shared -> Prop} {s : Shared}
theorem qp {R : Result -> Shared -> Prop} {r : Addr} {a b c : Int} {t u v : Tok} {n : Nat} (hh : A.handled = none) (hr : IsRange s.heap r a b c t u v) (hsmall : Builtin.Range.small a b c = true) (hn : Builtin.Range.rangeSize a b c = n) (hlen : n <= 2 ^ 24)
  (hR : ∀ h' tk acc c',(∀ b o,s.heap.get? b = some o -> h'.get? b = some o) -> h'.get? s.heap.objs.size = some { cls:=.type "list",dict:=none,data:=.seq acc c',slots := #[] } -> ItemsOf (fun i v => ∃ t,v = .int (a + i * c) t) acc n -> R (.ok (.ret (.ref s.heap.objs.size))) { s with heap:=h',toks:=tk }) :
  codeAny (model prog w) A (.builtin "proto.collect" ⟨[.ref r],[]⟩) R s:=by
 refine codeAny_builtin F.entry_proto_collect ?_
 rw [Around.under_plainId F.plain_proto_collect _]
 show wpAny _ A.in1 (newList [] >>= fun l => again (.builtin "list.__iadd__" ⟨[l,.ref r],[]⟩)) _ _ s
 refine wpAny_bind (wpAny_newObj_type ?_)
 refine wpAny_pure ⟨plainId_quiet F.plain_list_iadd _,codeAny_builtin F.entry_list_iadd ?_⟩
 rw [Around.under_plainId F.plain_list_iadd _]
 have hS : (s.heap.push { cls:=.type "list",data:=.seq ([] : List Value).toArray }).get? s.heap.objs.size = some { cls:=.type "list",data:=.seq #[] 0 }:=Heap.get?_push_size _ rfl
 show wpAny _ A.in1 (Builtin.List.listExtendWith (.ref s.heap.objs.size) (.ref r) (.ref s.heap.objs.size)) _ _ _
 exact wpAny_extend_range (R:=R) (s:={ s with heap:=s.heap.push { cls:=.type "list",data:=.seq ([] : List Value).toArray } }) hh (Heap.get?_push_of_some _ hr) hsmall hn hlen _ _ _ hS fun h' tk acc' c' hk hS' hacc => hR h' tk acc' c' (fun b o e => hk b o (Nat.ne_of_lt (Heap.lt_size e)) (Heap.get?_push_of_some _ e)) hS' hacc
theorem rV {Q : List Value -> Shared -> Prop} {r : Addr} {a b c : Int} {t u v : Tok} {n : Nat} (hh : A.handled = none) (hr : IsRange s.heap r a b c t u v) (hsmall : Builtin.Range.small a b c = true) (hn : Builtin.Range.rangeSize a b c = n) (hlen : n <= 2 ^ 24)
  (hQ : ∀ h' tk acc,(∀ b o,s.heap.get? b = some o -> h'.get? b = some o) -> ItemsOf (fun i v => ∃ t,v = .int (a + i * c) t) acc n -> Q acc.toList { s with heap:=h',toks:=tk }) : wpAny (model prog w) A (collect (.ref r)) Q E s:=by
 unfold collect
 refine wpAny_bind (wpAny_runValue (qp hh hr hsmall hn hlen fun h' tk acc c' hk hS hacc => ?_))
 show wpAny _ A (load s.heap.objs.size >>= _) _ _ _
 refine wpAny_bind (wpAny_load hS ?_)
 exact wpAny_pure (hQ h' tk acc hk hacc)
theorem iC (r : Addr) {a b c : Int} {t u v : Tok} {n : Nat} (hsmall : Builtin.Range.small a b c = true) (hn : Builtin.Range.rangeSize a b c = n) (hlen : n <= 2 ^ 24) :
  MeetsIn prog w (Builtin.«tuple.__new__» ⟨[.type "tuple",.ref r],[]⟩)
   (fun A R s => A.handled = none /\ IsRange s.heap r a b c t u v /\ ∀ (h' : Heap) (tk : Nat) (acc : Array Value),(∀ b o,s.heap.get? b = some o -> h'.get? b = some o) -> ItemsOf (fun i v => ∃ t,v = .int (a + i * c) t) acc n ->
    R (.ok (.ret (.ref h'.objs.size))) { s with heap:=h'.push { cls:=.type "tuple",data:=.seq acc },toks:=tk }):=
 .of_wp fun A R s h => by
  obtain ⟨hh,hr,h⟩:=h
  have hsub:=sub_tuple_self
  have hinit:=init_tuple_lookup
  have hmh:=madeHere_tuple
  have hT : s.TypeIs (.ref r) "range" := ⟨_,hr,rfl⟩
  have hh1 : A.in1.handled = none:=hh
  wp_walk using wpAny_typeOf hT,rV hh1 hr hsmall hn hlen
  intro h' tk acc hk hacc
  show wpAny _ _ (Builtin.Tuple.tupleExact acc.toList.toArray >>= fun v => ret v) _ _ _
  unfold Builtin.Tuple.tupleExact
  refine wpAny_bind (wpAny_newObj_type ?_ (show acc.toList.toArray.size <= sizeLine by simp only [Array.toArray_toList]; rw [hacc.1,sizeLine_eq]; exact hlen))
  refine wpAny_pure ⟨_,rfl,?_⟩
  have e : acc.toList.toArray = acc:=by simp
  rw [e]
  exact h h' tk acc hk hacc
theorem mx {Q : Value -> Shared -> Prop} {r : Addr} {a b c : Int} {t u v : Tok} {n : Nat} (hh : A.handled = none) (hr : IsRange s.heap r a b c t u v) (hsmall : Builtin.Range.small a b c = true) (hn : Builtin.Range.rangeSize a b c = n) (hlen : n <= 2 ^ 24)
  (h : ∀ (h' : Heap) (tk : Nat) (acc : Array Value),(∀ b o,s.heap.get? b = some o -> h'.get? b = some o) -> ItemsOf (fun i v => ∃ t,v = .int (a + i * c) t) acc n -> Q (.ref h'.objs.size) { s with heap:=h'.push { cls:=.type "tuple",data:=.seq acc },toks:=tk }) :
  wpAny (model prog w) A (call (.type "tuple") [.ref r]) Q E s:=
 callType_newIn F.called_tuple (by decide) (F.typeCall_tuple_1 _) (F.newCall_tuple_1 _) (fun obj => F.args_object_init_2 obj _) F.entry_tuple_new
  (iC r hsmall hn hlen) ⟨hh,hr,fun h' tk acc hk hacc => ⟨⟨_,Heap.get?_push_size _ rfl,rfl⟩,h h' tk acc hk hacc⟩⟩
end
end PySem
namespace L2
open PySem PySem.Spec PyProof.Rows
section
variable {X : Cx} {a : Expr} {ta : TA} {p p2 pos pos2 : Pos}
def yG (ta : TA) : TE:=fun σ H Q => ta σ H fun vs H1 => ∃ n : Nat,vs = [.int n] /\ n <= sizeLine /\ ∀ l,H1 l = none -> Q (.ref l) (upd H1 l (.tup ((List.range n).map fun i : Nat => V.int i)))
theorem qb (hc : X.calm = true) (hgl : Gl X "tuple") (hml : X.mg "tuple" = none) (hg : Gl X "range") (hm : X.mg "range" = none) (ha : PA X [a] ta)
  (hs : starEach [a] X.env = [(false,eval a X.env)]:=by rfl) (hs2 : starEach [.Call (.Name "range" p2) [a] [] pos2] X.env = [(false,eval (.Call (.Name "range" p2) [a] [] pos2) X.env)]:=by rfl) :
  PE X (.Call (.Name "tuple" p) [.Call (.Name "range" p2) [a] [] pos2] [] pos) (yG ta):=by
 intro pins s σ H Q I h
 refine wpAny_Call_Name_kw (eu I hgl hml dX ?_)
 refine PyProof.Rows.callWith_type1 ?_ hs2 rfl
 rw [hs2]
 refine Calls.spliced_cons ?_
 refine Call_ (eu I hg hm boot_range (PyProof.Rows.callWith_type1 (thn (ha pos2 pins s σ H _ I h) fun us s1 ⟨vs,H1,I1,r1,q1⟩ => ?_) hs rfl))
 obtain ⟨n,e,hn,q⟩:=q1
 subst e
 cases r1 with
 | cons r rr =>
  cases rr
  obtain ⟨t,rfl⟩:=r
  have big : sizeLine <= 2 ^ 24:=by decide
  have big2 : ((sizeLine : Nat) : Int) < 2 ^ 62:=by decide
  have hn62 : (n : Int) < 2 ^ 62:=by omega
  refine call_range_1 ?_
  refine Calls.spliced_nil ?_
  refine mx (s:={ s1 with heap:=s1.heap.push { cls:=.type "range",data:=.fields #[.int 0 s1.toks,.int n t,.int 1 (s1.toks + 1)] },toks:=s1.toks + 1 + 1 }) (n:=n) (I1.ok.hd hc) (IsRange.new ..) (small_one (by omega) (by omega) (by omega) hn62)
   (by rw [rangeSize_one]; split <;> omega) (by omega) fun h' tk acc kp hacc => ?_
  have kp1 : ∀ b o,s1.heap.get? b = some o -> (h'.push { cls:=.type "tuple",data:=.seq acc }).get? b = some o:=fun b o f => Heap.get?_push_of_some _ (kp b o (Heap.get?_push_of_some _ f))
  have szl : s1.heap.objs.size <= h'.objs.size:=by
   rcases Nat.eq_zero_or_pos s1.heap.objs.size with z | z
   ·rw [z]; exact Nat.zero_le _
   ·have hx : (s1.heap.push { cls:=.type "range",data:=.fields #[.int 0 s1.toks,.int n t,.int 1 (s1.toks + 1)] }).get? s1.heap.objs.size = some { cls:=.type "range",data:=.fields #[.int 0 s1.toks,.int n t,.int 1 (s1.toks + 1)] }:=Heap.get?_push_size _ rfl
    exact Nat.le_of_lt (Heap.lt_size (kp _ _ hx))
  have ob : ObjOk X.prog X.w (upd H1 h'.objs.size (.tup ((List.range n).map fun i : Nat => V.int i))) (h'.push { cls:=.type "tuple",data:=.seq acc }) h'.objs.size (.tup ((List.range n).map fun i : Nat => V.int i)):=by
   refine ⟨by rw [List.length_map,List.length_range]; exact hn,acc.toList,ub hacc,?_⟩
   exact ⟨_,Heap.get?_push_size _ rfl,rfl,0,by simp⟩
  exact ⟨.ref _,_,I1.laid (t' := tk) kp1 szl ob,rfl,q _ (I1.hok.fresh szl)⟩
end
end L2
namespace L2
open PySem PySem.Spec PyProof.Rows
section
variable {X : Cx} {N : List Str} {scope : Scope} {ix : List (Option Nat)} {elt iter cond tg : Expr} {pos spos : Pos} {te : TE} {g : TG} {wi : TI} {tc : TT}
theorem tG {i : Nat} {y : Str} {py : Pos} (hc : X.calm = true) (hN : X.N.Nodup) (hyi : X.N[i]? = some y) (hy : Loc X.env.scope y) (S : BlkScope X.N X.env.scope N ix scope) (hi : PI X tg iter wi) (hg : ∀ fp s H C,PG (bf X N scope fp s H C) tg g) (ht : ∀ fp s H C,PT (bf X N scope fp s H C) cond tc) (he : ∀ fp s H C,PE (bf X N scope fp s H C) elt te)
  (hsw : swapsWith (.ListComp elt [⟨tg,iter,[cond],0⟩] scope pos) (some (.Name y py)) spos.line X.env = pure true:=by rfl)
  (hf : X.fn y = true \/ X.env.scope.names.lookup y = some .local:=by first | exact .inl rfl | exact .inr rfl | assumption)
  (hs : ∀ x,foldedSetIterable iter X.env x = pure x:=by intro _; rfl) : PS X (.Assign [.Name y py] (.ListComp elt [⟨tg,iter,[cond],0⟩] scope pos) spos) (wo (xS ix wi g tc te) (aL i)):=by
 intro pins s σ H D I h
 rw [exec_Assign_Name_used _ _ _ _ hsw]
 refine wpAny_bind (wpAny_standAt (wpAny_bind ?_))
 show wpAny _ X.A (do let _ <- comprehension (.ListComp elt [⟨tg,iter,[cond],0⟩] scope pos) scope X.env _ (newList []) false (eval iter X.env) (some (assign (.Name y py) X.env))) _ _ s
 refine wpAny_bind (wpAny_mono (wpAny_comprehension_free (use:=some (assign (.Name y py) X.env)) (Q:=fun _ s' => SP X pins D .next s') rfl hs (eX (S.clos I.ok)) S.kind S.locs
  (thn (hi pins s σ H _ I h) fun v s1 h1 => thn h1 fun itv s2 h2 => ?_)) (fun _ s' hq => wpAny_pure (wpAny_pure hq)) fun _ _ e => e)
 obtain ⟨it,fp,tn,J,H2,e,I2,T,st2,f2,hW⟩:=h2
 subst e
 refine pS (RR:=fun acc C => compPost (model X.prog X.w) X.A X.xe (some (assign (.Name y py) X.env)) (fun _ s' => SP X pins D .next s') acc C) I2 hc S T st2 f2 (hg _ _ _) (ht _ _ _) (he _ _ _) hW ?_
 intro Dl C s' H' m I' hn fC q
 show wpAny _ X.A (assign (.Name y py) X.env (.ref Dl)) _ _ s'
 refine wpAny_assign_Name (qd I' hN hyi hy (v:=.ref Dl) rfl (fun s2 I2' hsb => ?_) hf)
 obtain ⟨a,sb,ha⟩:=hsb
 refine ⟨m,hn.sameBut sb ?_,fun h3 sb3 => ⟨_,H',I2'.turned (t' := s2.toks) (fun b o hb e => (sb3.2 b hb).trans e) fC.1 fC.2.1 fC.2.2.2.1 fC.2.2.2.2.1 fC.2.2.2.2.2,q⟩⟩
 rcases ha with z | z
 ·rw [z]; exact fC.2.1
 ·exact Ne.symm (fC.2.2.2.2.1 _ _ z)
end
end L2
set_option Elab.async false
set_option linter.all false
set_option maxRecDepth 100000
namespace L2
open PySem PySem.Spec PyProof.Rows
section
variable {X : Cx} {tg : Expr}
theorem small_down {a : Int} (ha : -1 <= a) (hb' : a < 2 ^ 60) : Builtin.Range.small a (-1) (-1) = true:=by
 unfold Builtin.Range.small Builtin.Range.rangeSize
 simp only [Builtin.Range.rangeFitsLong,Bool.and_eq_true,Bool.or_eq_true,decide_eq_true_eq,beq_iff_eq,show ¬ ((-1 : Int) > 0) by decide,if_false,show - (-1 : Int) = 1 by decide,Int.ediv_one]
 split <;> omega
theorem we (a : Int) (ha : -1 <= a) : Builtin.Range.rangeSize a (-1) (-1) = (((a + 1).toNat : Nat) : Int):=by
 unfold Builtin.Range.rangeSize
 simp only [show ¬ ((-1 : Int) > 0) by decide,if_false,show - (-1 : Int) = 1 by decide,Int.ediv_one]
 split <;> omega
def zV (ta : TA) : TI:=fun σ H R => ta σ H fun vs H1 => ∃ a : Int,vs = [.int a,.int (-1),.int (-1)] /\ (-1 <= a /\ a < 2 ^ 60) /\ R (Its a (-1) (a + 1).toNat) H1
theorem vV {a b c : Expr} {ta : TA} {p pos : Pos} (hg : Gl X "range") (hm : X.mg "range" = none) (ha : PA X [a,b,c] ta) (hs : starEach [a,b,c] X.env = [(false,eval a X.env),(false,eval b X.env),(false,eval c X.env)]:=by rfl) (hs2 : starEach [b,c] X.env = [(false,eval b X.env),(false,eval c X.env)]:=by rfl) :
  PI X tg (.Call (.Name "range" p) [a,b,c] [] pos) (zV ta):=by
 intro pins s σ H R I h
 refine Call_ (eu I hg hm boot_range (PyProof.Rows.callWith_type1 (thn (ha pos pins s σ H _ I h) fun us s1 ⟨vs,H1,I1,r1,q1⟩ => ?_) (by rw [hs,hs2]) (by rw [hs2]; rfl)))
 obtain ⟨j,e,⟨q1,q2⟩,q⟩:=q1
 subst e
 cases r1 with
 | cons r rr =>
  cases rr with
  | cons r' rr =>
   cases rr with
   | cons r3 rr =>
    cases rr
    obtain ⟨t,rfl⟩:=r
    obtain ⟨t',rfl⟩:=r'
    obtain ⟨t3,rfl⟩:=r3
    refine call_range_3 (by decide) ?_ (.inl (PyProof.noPylong_small (by decide)))
    refine wpAny_pyIter_range (IsRange.new ..) (small_down q1 q2) ?_
    have I2 : Inv X pins σ H1 { s1 with heap:=s1.heap.push { cls:=.type "range",data:=.fields #[.int j t,.int (-1) t',.int (-1) t3] } }:=I1.kept (t' := s1.toks) fun b o e => Heap.get?_push_of_some _ e
    refine ⟨(s1.heap.push { cls:=.type "range",data:=.fields #[.int j t,.int (-1) t',.int (-1) t3] }).objs.size,[(s1.heap.push { cls:=.type "range",data:=.fields #[.int j t,.int (-1) t',.int (-1) t3] }).objs.size],_,_,H1,rfl,
     I2.kept (t' := s1.toks) fun b o e => Heap.get?_push_of_some _ e,k6 _ j (-1) (j + 1).toNat,?_,fun b hb => ?_,q⟩
    ·have e1 : (j : Int) + ((0 : Nat) : Int) * (-1) = j:=by simp
     have e2 : ((j + 1).toNat : Int) - ((0 : Nat) : Int) = Builtin.Range.rangeSize j (-1) (-1):=by rw [we j q1]; simp
     show IsRangeIter _ _ ((j : Int) + ((0 : Nat) : Int) * (-1)) (((j + 1).toNat : Int) - ((0 : Nat) : Int)) (-1)
     rw [e1,e2]
     exact Heap.get?_push_size _ rfl
    ·have e : b = (s1.heap.push { cls:=.type "range",data:=.fields #[.int j t,.int (-1) t',.int (-1) t3] }).objs.size:=by simpa using hb
     subst e
     exact I2.fpOk (Nat.le_refl _) (I2.hok.fresh (Nat.le_refl _))
end
section
variable {X : Cx} {a b c : Expr} {ta : TA} {p p2 pos pos2 : Pos}
end
end L2
set_option Elab.async false
set_option linter.all false
set_option maxRecDepth 100000
set_option maxHeartbeats 4000000
namespace L2
open PySem PySem.Spec PyProof.Rows
theorem rX {K : PySem.W.Frag} {a : Addr} {xs : List V} {ix : List (Option Nat)} {g : TG} {tc : TT} {te : TE} {σ : St} {H : Hp} {Qd : Addr -> Hp -> Prop} (Pv : Addr -> Nat -> List V -> Hp -> Prop)
  (hg : ∀ (T : Addr) (σ : St) (H : Hp) (Q : St -> Hp -> Prop) (x y : V),H T = some (.tup [x,y]) -> Q ((σ.set 0 (some x)).set 1 (some y)) H -> g (.ref T) σ H Q)
  (h0 : ∀ D,H D = none -> Pv D 0 [] (upd H D (.lst [])))
  (hl : ∀ D i ys H',i <= xs.length -> Pv D i ys H' -> SqT K H' a xs)
  (hs : ∀ D i x ys H' T (Qy : VK) (Qn : Hp -> Prop),H D = none -> xs[i]? = some x -> H' D = some (.lst ys) -> Pv D i ys H' -> H' T = none -> (∀ y H4,H4 D = some (.lst ys) -> ys.length < sizeLine -> Pv D (i + 1) (ys ++ [y]) (upd H4 D (.lst (ys ++ [y]))) -> Qy y H4) ->
   (∀ H4,H4 D = some (.lst ys) -> Pv D (i + 1) ys H4 -> Qn H4) -> tc (((aC ix σ).set 0 (some (.int i))).set 1 (some x)) (upd H' T (.tup [.int i,x])) fun b H4 => if b = true then te (((aC ix σ).set 0 (some (.int i))).set 1 (some x)) H4 Qy else Qn H4)
  (hd : ∀ D ys H',H D = none -> H' D = some (.lst ys) -> Pv D xs.length ys H' -> Qd D H') : ma (Ite K a) ix g tc te σ H Qd:=by
 intro D hD
 refine ⟨fun i m σ' H' => m = xs.length - i /\ i <= xs.length /\ (σ' = aC ix σ \/ ∃ t u,σ' = ((aC ix σ).set 0 t).set 1 u) /\ ∃ ys,H' D = some (.lst ys) /\ Pv D i ys H',⟨xs.length,by simp,Nat.zero_le _,.inl rfl,[],ae,h0 D hD⟩,?_⟩
 rintro i m σ' H' ⟨rfl,hi,hσ,ys,hy,p⟩
 have q:=hl D i ys H' hi p
 by_cases hlt : i < xs.length
 ·refine .inr ⟨⟨xs,xs[i],q,by simp [hlt]⟩,fun x H2 y => ?_⟩
  obtain ⟨T,x0,rfl,hT,rfl,y1⟩:=y
  have ex:=y1 xs q
  refine hg T σ' _ _ (.int i) x0 ae ?_
  have es : ((σ'.set 0 (some (V.int i))).set 1 (some x0)) = ((aC ix σ).set 0 (some (V.int i))).set 1 (some x0):=by
   rcases hσ with z | ⟨t,u,z⟩
   ·rw [z]
   ·rw [z,xP]
  show tc ((σ'.set 0 (some (V.int i))).set 1 (some x0)) _ _
  rw [es]
  exact hs D i x0 ys _ T _ _ hD ex hy p hT (fun y H4 h4 hz p4 => ⟨ys,h4,hz,xs.length - (i + 1),by omega,rfl,hlt,.inr ⟨_,_,rfl⟩,ys ++ [y],ae,p4⟩) fun H4 h4 p4 => ⟨xs.length - (i + 1),by omega,rfl,hlt,.inr ⟨_,_,rfl⟩,ys,h4,p4⟩
 ·have e : i = xs.length:=by omega
  subst e
  exact .inl ⟨⟨xs,q,Nat.le_refl _⟩,hd D ys H' hD hy p⟩
end L2
set_option Elab.async false
set_option linter.all false
set_option maxRecDepth 100000
set_option maxHeartbeats 4000000
namespace L2
open PySem PySem.Spec PyProof.Rows
section
variable {X : Cx}
end
end L2
set_option Elab.async false
set_option linter.all false
set_option maxRecDepth 100000
set_option maxHeartbeats 4000000
namespace L2
open PySem PySem.Spec PyProof.Rows
end L2
set_option Elab.async false
set_option linter.all false
set_option maxRecDepth 100000
set_option maxHeartbeats 4000000
namespace PySem
open PyProof.Rows
section
variable {prog : Program} {w : World} {K : Type} [DecidableEq K] {knd : KeyKind prog w K} {A : Around} {E : Value -> Shared -> Prop} {s : Shared} {R : Result -> Shared -> Prop}
end
end PySem
namespace L2
open PySem PySem.Spec PyProof.Rows
section
variable {X : Cx}
end
end L2
set_option Elab.async false
set_option linter.all false
set_option maxRecDepth 100000
set_option maxHeartbeats 4000000
namespace PySem
section
variable {prog : Program} {w : World} {A : Around} {E : Value -> Shared -> Prop} {s : Shared}
end
end PySem
namespace L2
open PySem PySem.Spec PyProof.Rows
section
variable {X : Cx}
end
end L2
set_option Elab.async false
set_option linter.all false
set_option maxRecDepth 100000
set_option maxHeartbeats 4000000
namespace L2
open PySem PySem.Spec PyProof.Rows
end L2
set_option Elab.async false
set_option linter.all false
set_option maxRecDepth 100000
set_option maxHeartbeats 4000000
namespace L2
open PySem PySem.Spec PyProof.Rows
section
variable {X : Cx} {pins : List (Addr × Obj)} {σ : St} {H : Hp} {s : Shared}
end
end L2
set_option Elab.async false
set_option linter.all false
set_option maxRecDepth 100000
set_option maxHeartbeats 4000000
namespace L2
open PySem PySem.Spec PyProof.Rows
section
variable {X : Cx} {pins : List (Addr × Obj)} {σ : St} {H : Hp} {s : Shared}
open Classical in
noncomputable def isR (H : Hp) (ns : List Int) (u : Value) : Bool:=decide (∃ b,u = Value.ref b /\ H b = some (.tup (ns.map V.int)))
end
end L2
set_option Elab.async false
set_option linter.all false
set_option maxRecDepth 100000
set_option maxHeartbeats 4000000
namespace L2
open PySem PySem.Spec PyProof.Rows
section
variable {X : Cx}
end
end L2
set_option Elab.async false
set_option linter.all false
set_option maxRecDepth 100000
set_option maxHeartbeats 4000000
namespace L2
open PySem PySem.Spec PyProof.Rows
section
variable {X : Cx} {pins : List (Addr × Obj)} {σ : St} {H : Hp} {s : Shared} {a : Addr} {o : Obj} {kvs : List (List Key × V)}
end
section
variable {X : Cx} {tg : Expr}
end
end L2
set_option Elab.async false
set_option linter.all false
set_option maxRecDepth 100000
set_option maxHeartbeats 4000000
namespace L2
open PySem PySem.Spec PyProof.Rows
end L2
set_option Elab.async false
set_option linter.all false
set_option maxRecDepth 100000
namespace PySem
end PySem
namespace L2
open PySem PySem.Spec PyProof.Rows
end L2
set_option Elab.async false
set_option linter.all false
set_option maxRecDepth 100000
set_option maxHeartbeats 4000000
namespace L2
open PySem PySem.Spec PyProof.Rows
section
variable {X : Cx}
end
end L2
set_option Elab.async false
set_option linter.all false
set_option maxRecDepth 100000
set_option maxHeartbeats 4000000
namespace PySem
section
variable {prog : Program} {w : World} {A : Around} {E : Value -> Shared -> Prop} {s : Shared}
end
end PySem
namespace L2
open PySem PySem.Spec PyProof.Rows
end L2
set_option Elab.async false
set_option linter.all false
set_option maxRecDepth 100000
set_option maxHeartbeats 4000000
namespace L2
open PySem PySem.Spec PyProof.Rows
abbrev NK:=Int × List Int
section
variable {X : Cx} {pins : List (Addr × Obj)} {σ : St} {H : Hp} {s : Shared} {d : Addr} {ks : List (NK × Addr)}
end
section
variable {X : Cx} {pos pos' : Pos} {o i value : Expr} {td ty tv : TE}
end
end L2
set_option Elab.async false
set_option linter.all false
set_option maxRecDepth 100000
set_option maxHeartbeats 4000000
namespace L2
open PySem PySem.Spec PyProof.Rows
def wz (Pt : Addr) (H : Hp) : Prop:=H Pt = some (.tbl #[]) /\ ∀ b,b ≠ Pt -> H b = none \/ ∃ o xs,H b = some (.frz o (.lst xs))
theorem qm {h : Heap} {c Pt : Addr} (x : PySem.W.CodeHd h c Pt) : isCodeTable h Pt:=by
 obtain ⟨o,vs,_,_,_,_,_,_,_,h1,h2,h3,h4,_⟩:=x
 exact ⟨c,o,vs,h1,h2,h3,h4⟩
def rL (h : Heap) (mg : Str -> Option Value) : Prop := ∃ bm o,mg "__builtins__" = some (.ref bm) /\ bm ≠ builtinsNs /\ bm ≠ mainGlobals /\ h.get? bm = some o /\ o.cls = .type "module" /\ o.dict = some builtinsNs /\ o.data = .plain
theorem vD {P : Program} {w : World} {K : PySem.W.Frag} {mg mb : Str -> Option Value} {CX : CXT} {k : Nat} {fa a c Pt : Addr} {fd : FuncData} {x : Str} {sp : Sp} {s₁ : Shared} {vs : List Value} {ns : List Int}
  (KX : K.In s₁.heap) (hns : s₁.heap.Ns mainGlobals mg) (hb : s₁.heap.Ns builtinsNs mb) (hbb : ∀ x : Str,x ≠ "__name__" -> mb x = bootBuiltins x) (hlim : s₁.heap.NoLimit) (hg : s₁.gens = #[])
  (ha : s₁.heap.get? a = some { cls:=.type "list",data:=.seq vs.toArray }) (hi : IntsAre vs ns) (hl : ns.length <= sizeLine) (hr : Room k callerA)
  (ct : PySem.W.CodeHd s₁.heap c Pt) (hP : s₁.heap.get? Pt = some (PySem.W.tabObj #[])) (nP : K.lookup Pt = none)
  (hbm : rL s₁.heap mg) (F : ∀ base : Heap,K.In base -> base.Ns mainGlobals mg -> rL base mg -> FnOk P w K mg base CX k fa fd [x] sp) (hbind : ∀ (s : Shared) (u : Value),BindsTo s fd ⟨[u],[]⟩ [(x,u)])
  (hsp : ∀ H : Hp,wz Pt H -> SqL K H a (ns.map V.int) -> sp [.ref a] H (fun v _ => v = .bl true) fun _ _ _ => False)
  (hCX : ∀ H e s',CX [] H s₁ (fun _ _ _ => False) e s' -> False) :
  codeAny (model P w) callerA (.call (.ref fa) ⟨[.ref a],[]⟩) (fun r s' => r = .ok (.ret (.bool true)) /\ OldK s₁.heap s'.heap /\ s'.os = s₁.os /\ AllBare s'.gens) s₁:=by
 have rv:=qf hi
 have lenV:=hi.length
 have core : ∀ H : Hp,wz Pt H -> SqL K H a (ns.map V.int) -> HOk P w H s₁.heap -> (∀ b,H b ≠ none -> b = a \/ b = Pt) -> (H a ≠ none -> K.lookup a = none) ->
   codeAny (model P w) callerA (.call (.ref fa) ⟨[.ref a],[]⟩) (fun r s' => r = .ok (.ret (.bool true)) /\ OldK s₁.heap s'.heap /\ s'.os = s₁.os /\ AllBare s'.gens) s₁:=by
  intro H hO hS hok hA hK
  have base_of : ∀ {b : Addr} {o : Obj},s₁.heap.get? b = some o -> H b = none -> (oE s₁.heap H).get? b = some o:=fun e n => wW e n
  have noA : ∀ {b : Addr} {o : Obj} {es : Array DictEntry} {ep : Nat},s₁.heap.get? b = some o -> o.data = .dict es ep -> H b = none:=fun {b o es ep} e d => by
   cases q : H b with
   | none => rfl
   | some u =>
    rcases hA b (by rw [q]; simp) with e' | e'
    ·subst e'
     rw [ha] at e; cases e
     have d' : Data.seq vs.toArray _ = Data.dict es ep:=d
     cases d'
    ·subst e'
     rw [hP] at e; cases e
     have d' : Data.fields #[] = Data.dict es ep:=d
     cases d'
  have nsK : ∀ {b : Addr} {m : Str -> Option Value},s₁.heap.Ns b m -> (oE s₁.heap H).Ns b m:=fun {b m} ⟨o,es,ep,e,d,r⟩ => ⟨o,es,ep,base_of e (noA e d),d,r⟩
  have hKb : K.In (oE s₁.heap H):=fun b o e => base_of (KX b o e) (by
   cases q : H b with
   | none => rfl
   | some u =>
    rcases hA b (by rw [q]; simp) with e' | e'
    ·subst e'
     rw [hK (by rw [q]; simp)] at e; cases e
    ·subst e'
     rw [nP] at e; cases e)
  have hB : rL (oE s₁.heap H) mg:=by
   obtain ⟨bm,o,b1,b2,b3,b4,b5,b6,b7⟩:=hbm
   refine ⟨bm,o,b1,b2,b3,base_of b4 ?_,b5,b6,b7⟩
   cases q : H bm with
   | none => rfl
   | some u =>
    rcases hA bm (by rw [q]; simp) with e' | e'
    ·subst e'
     rw [ha] at b4
     cases b4
     cases b7
    ·subst e'
     rw [hP] at b4
     cases b4
     cases b5
  have hM : Mod K mg (oE s₁.heap H):=⟨hKb,nsK hns,⟨mb,nsK hb,hbb⟩,let ⟨mc,h1,h2⟩:=hlim; ⟨mc,nsK h1,h2⟩⟩
  have e0 : Env0 P w K mg (oE s₁.heap H) callerA [] s₁ H:=⟨rfl,hM,fun b o e => yh e,Nat.le_of_eq (vw _ _),trivial,fun b hb => absurd (show b ∈ ([] : List Addr) from hb) (by simp),hok,.of_eq hg⟩
  refine codeAny_mono ((F _ hKb (nsK hns) hB).run callerA [] s₁ H ⟨[.ref a],[]⟩ [.ref a] [.ref a] _ _ hr e0 (hbind s₁ (.ref a)) (.cons rfl .nil) (hsp H hO hS)) fun r s' h => ?_
  cases r with
  | error e => exact (hCX H e s' h).elim
  | ok fl =>
   cases fl with
   | next => exact False.elim h
   | brk => exact False.elim h
   | cont => exact False.elim h
   | ret u =>
    obtain ⟨v,H',os,bare,un,hok',r',q⟩:=h
    have q' : v = .bl true:=q
    subst q'
    obtain rfl : u = Value.bool true:=r'
    have was : ∀ b o,s₁.heap.get? b = some o -> asItWas s₁.heap s'.heap b o:=fun b o e => by
     by_cases hb : b = Pt
     ·subst hb
      rw [hP] at e
      cases e
      obtain ⟨more,z⟩:=un.tbls b _ hO.1
      have z2 : s'.heap.get? b = some { cls:=.none,data:=.fields (#[] ++ more) }:=hok' b _ z
      exact .inr (.inl ⟨qm ct,rfl,#[],more,rfl,z2⟩)
     ·refine .inl ?_
      cases q : H b with
      | none => exact un.keep b o e q (by intro z; exact absurd (show b ∈ ([] : List Addr) from z) (by simp)) (by simp)
      | some u =>
       rcases hO.2 b hb with z | ⟨ob,xs,z⟩
       ·rw [q] at z; cases z
       ·have z2:=un.frzs b ob _ z
        obtain ⟨e1,_⟩:=hok b _ z
        obtain ⟨e2,_⟩:=hok' b _ z2
        rw [e] at e1; cases e1
        exact e2
    exact ⟨rfl,⟨was,fun b o e => un.there b o e (by simp)⟩,os,bare⟩
 have naP : a ≠ Pt:=fun z => by
  subst z
  rw [ha] at hP
  cases hP
 cases hk : K.lookup a with
 | some o =>
  have e:=KX a o hk
  rw [ha] at e
  cases e
  refine core (fun b => if b = Pt then some (.tbl #[]) else none) ⟨if_pos rfl,fun b hb => .inl (if_neg hb)⟩ (.inr ⟨_,vs.toArray,_,hk,rfl,rfl,rfl,by rw [List.size_toArray,lenV]; exact hl,by simpa using rv⟩) (fun b u z => ?_) (fun b z => ?_) fun z => absurd (if_neg naP) z
  ·by_cases hb : b = Pt
   ·have z' := (if_pos hb).symm.trans z
    cases z'
    subst hb
    exact hP
   ·have z' := (if_neg hb).symm.trans z
    cases z'
  ·by_cases hb : b = Pt
   ·exact .inr hb
   ·exact absurd (if_neg hb) z
 | none =>
  have at1 : ∀ {b : Addr},b = Pt -> (fun b => if b = Pt then some (HO.tbl #[]) else if b = a then some (.frz { cls:=.type "list",data:=.seq vs.toArray } (.lst (ns.map V.int))) else none) b = some (HO.tbl #[]):=fun h => if_pos h
  have at2 : ∀ {b : Addr},b ≠ Pt -> b = a -> (fun b => if b = Pt then some (HO.tbl #[]) else if b = a then some (.frz { cls:=.type "list",data:=.seq vs.toArray } (.lst (ns.map V.int))) else none) b = some (.frz { cls:=.type "list",data:=.seq vs.toArray } (.lst (ns.map V.int))):=fun h h' => (if_neg h).trans (if_pos h')
  have at3 : ∀ {b : Addr},b ≠ Pt -> b ≠ a -> (fun b => if b = Pt then some (HO.tbl #[]) else if b = a then some (.frz { cls:=.type "list",data:=.seq vs.toArray } (.lst (ns.map V.int))) else none) b = none:=fun h h' => (if_neg h).trans (if_neg h')
  refine core (fun b => if b = Pt then some (HO.tbl #[]) else if b = a then some (.frz { cls:=.type "list",data:=.seq vs.toArray } (.lst (ns.map V.int))) else none) ⟨at1 rfl,fun b hb => ?_⟩ (.inl (.inr ⟨{ cls:=.type "list",data:=.seq vs.toArray },at2 naP rfl⟩)) (fun b u z => ?_) (fun b z => ?_) fun _ => hk
  ·by_cases h : b = a
   ·exact .inr ⟨_,_,at2 hb h⟩
   ·exact .inl (at3 hb h)
  ·by_cases hb : b = Pt
   ·have z' := (at1 hb).symm.trans z
    cases z'
    subst hb
    exact hP
   ·by_cases h : b = a
    ·have z' := (at2 hb h).symm.trans z
     cases z'
     subst h
     exact ⟨ha,by rw [List.length_map]; exact hl,vs,_,rv,ha⟩
    ·have z' := (at3 hb h).symm.trans z
     cases z'
  ·by_cases hb : b = Pt
   ·exact .inr hb
   ·by_cases h : b = a
    ·exact .inl h
    ·exact absurd (at3 hb h) z
theorem walk_ofT {l : PySem.W.OpenLaw} {n k : Nat} {q : Program} {loose : List Str} {XP : (Str -> Option Value) -> Heap -> Prop} {YP : World -> Heap -> Prop} {d : DefRec} {K : Params -> PySem.W.Frag} {ts : List Addr} {CX : World -> CXT} {sp : World -> Addr -> Addr -> Sp} {x : Str}
  (hn : l.most = some n) (hn2 : n <= sizeLine) (hdf : d.params.defaults = []) (hr : Room k callerA)
  (hY : ∀ (w : World) (h : Heap),YP w h -> (K w.params).In h) (hT : ∀ (w : World) (h : Heap),YP w h -> ∀ P,P ∈ ts -> h.get? P = some (PySem.W.tabObj #[]))
  (F : ∀ (w : World) (mg : Str -> Option Value) (fa : Addr) (h : Heap),(K w.params).In h -> h.Ns mainGlobals mg -> mg d.name = some (.ref fa) ->
   ∃ (fd : FuncData) (c Pt : Addr),PySem.W.codeHdIn (K w.params) c Pt = true /\ Pt ∈ ts /\ (K w.params).lookup Pt = none /\ (∀ (s : Shared) (u : Value),BindsTo s fd ⟨[u],[]⟩ [(x,u)]) /\
    ∀ base : Heap,(K w.params).In base -> base.Ns mainGlobals mg -> rL base mg -> FnOk l.prog w (K w.params) mg base (CX w) k fa fd [x] (sp w c Pt))
  (hsp : ∀ (w : World) (c Pt : Addr) (H : Hp) (a : Addr) (ns : List Int),ns.length <= n -> wz Pt H -> SqL (K w.params) H a (ns.map V.int) -> sp w c Pt [.ref a] H (fun v _ => v = .bl true) fun _ _ _ => False)
  (hCX : ∀ (w : World) (H : Hp) (s : Shared) (e : Value) (s' : Shared),CX w [] H s (fun _ _ _ => False) e s' -> False) :
  PySem.W.WalkO q loose XP YP l.row.toRowW d [] (fun f vs => PySem.call f vs):=by
 refine Att.attach_call hn hdf fun w s₀ s₁ mg mb fa o pm cd doc a vs ns G Y ho hd hcd hmg hobj hints hlen hg => ?_
 have KX:=hY w _ Y
 obtain ⟨fd,c,Pt,hh,hm,nP,hb,hF⟩:=F w mg fa _ KX G.T.g hmg
 have ct:=PySem.W.codeHd_of_K KX hh
 have hP:=hT w _ Y Pt hm
 have hbm : rL s₁.heap mg:=by
  obtain ⟨bm,ob,b1,b2,b3,b4,b5,b6⟩:=G.T.bmain
  refine ⟨bm,ob,b1,b2,fun z => ?_,b3,b4,b5,b6⟩
  obtain ⟨og,es,ep,e1,e2,_⟩:=G.T.g
  rw [z,e1] at b3
  cases b3
  rw [e2] at b6
  cases b6
 exact vD KX G.T.g G.T.b G.T.builtins G.T.nolimit hg hobj hints (Nat.le_trans hlen hn2) hr ct hP nP hbm hF hb (fun H hO hS => hsp w c Pt H a ns hlen hO hS) fun H e s' => hCX w H s₁ e s'
end L2
set_option Elab.async false
set_option linter.all false
set_option maxRecDepth 100000
set_option maxHeartbeats 4000000
namespace L2
open PySem PySem.Spec PyProof.Rows
def CodeAt (c : Addr) (qual : Str) (h : Heap) : Prop := ∃ o vs t,h.get? c = some o /\ o.data = .fields vs /\ vs[1]? = some (.str qual t)
def LamAt (f : Addr) (qual : Str) (params : Arguments) (body : Expr) (scope : Scope) (clos : List (Str × Addr)) (c' : Addr) (h : Heap) : Prop := ∃ pm ctv,h.get? f = some (PySem.W.kla_obj "<lambda>" qual params body scope clos pm c' ctv)
def TabSt (H : Hp) (Pt : Addr) (qual : Str) (pos : Pos) : Prop:=H Pt = some (.tbl #[]) \/ ∃ c',H Pt = some (.tbl #[rawInt pos.line,rawInt pos.col,.ref c']) /\ H c' = some (.ext (CodeAt c' qual))
theorem CodeAt.ok {P : Program} {w : World} {H : Hp} {h : Heap} {c : Addr} {qual : Str} (x : CodeAt c qual h) : ObjOk P w H h c (.ext (CodeAt c qual)):=
 ⟨x,let ⟨o,_,_,e,_⟩:=x; ⟨o,e⟩,fun h1 h2 ⟨o,vs,t,e,r⟩ k => ⟨o,vs,t,k o e,r⟩⟩
theorem LamAt.ok {P : Program} {w : World} {H : Hp} {h : Heap} {f c' : Addr} {qual : Str} {params : Arguments} {body : Expr} {scope : Scope} {clos : List (Str × Addr)} (x : LamAt f qual params body scope clos c' h) : ObjOk P w H h f (.ext (LamAt f qual params body scope clos c')):=
 ⟨x,let ⟨_,_,e⟩:=x; ⟨_,e⟩,fun h1 h2 ⟨pm,ctv,e⟩ k => ⟨pm,ctv,k _ e⟩⟩
structure LamK (K : PySem.W.Frag) (mg : Str -> Option Value) (base : Heap) (c Pt : Addr) : Prop where
 hd : PySem.W.codeHdIn K c Pt = true
 bm : rL base mg
def AN (qual : Str) (params : Arguments) (body : Expr) (scope : Scope) (clos : List (Str × Addr)) (pos : Pos) (Pt : Addr) : TE:=fun σ H Q => TabSt H Pt qual pos /\
 ∀ (f c' : Addr) (H' : Hp),H f = none -> H' f = some (.ext (LamAt f qual params body scope clos c')) -> H' Pt = some (.tbl #[rawInt pos.line,rawInt pos.col,.ref c']) -> H' c' = some (.ext (CodeAt c' qual)) -> (∀ b u,b ≠ Pt -> H b = some u -> H' b = some u) -> Q (.ref f) H'
theorem Inv.table {X : Cx} {pins : List (Addr × Obj)} {σ : St} {H H' : Hp} {s : Shared} {h' : Heap} {tk : Nat} {Pt : Addr} {ps more : Array Value} (I : Inv X pins σ H s) (hP : H Pt = some (.tbl ps)) (k : ∀ b o,b ≠ Pt -> s.heap.get? b = some o -> h'.get? b = some o)
  (hP' : h'.get? Pt = some { cls:=.none,data:=.fields (ps ++ more) }) (ht : H' Pt = some (.tbl (ps ++ more))) (hH : ∀ b,b ≠ Pt -> b < s.heap.objs.size -> H' b = H b) (new : ∀ b u,s.heap.objs.size <= b -> H' b = some u -> ObjOk X.prog X.w H' h' b u) : Inv X pins σ H' { s with heap:=h',toks:=tk }:=by
 have keep : ∀ b u,b ≠ Pt -> H b = some u -> H' b = some u:=fun b u nb e => by rw [hH b nb (I.hok.lt e)]; exact e
 have nP : ∀ b,H b = none -> b ≠ Pt:=fun b n z => by rw [z,hP] at n; cases n
 refine I.un ⟨fun b o e n _ _ => k b o (nP b n) e,fun b o e n _ _ => ⟨o.slots,k b o (nP b n) e⟩,fun b o e n _ => by rw [hH b (nP b n) (Heap.lt_size e)]; exact n,fun b o e _ => ?_,fun b xs e => keep b _ (fun z => by rw [z,hP] at e; cases e) e,fun b o u e => keep b _ (fun z => by rw [z,hP] at e; cases e) e,fun b qs e => ?_⟩ fun b u e => ?_
 ·by_cases hb : b = Pt
  ·exact ⟨_,by rw [hb]; exact hP'⟩
  ·exact ⟨o,k b o hb e⟩
 ·by_cases hb : b = Pt
  ·subst hb
   rw [hP] at e
   cases e
   exact ⟨more,ht⟩
  ·exact ⟨#[],by rw [keep b _ hb e]; simp⟩
 ·by_cases hb : b = Pt
  ·subst hb
   rw [ht] at e
   cases e
   exact hP'
  ·by_cases hl : b < s.heap.objs.size
   ·have e' := e
    rw [hH b hb hl] at e'
    refine (I.hok b u e').stay (fun c v hc q => k c v ?_ q) (fun c q => keep c _ (fun z => by rw [z,hP] at q; cases q) q) fun c xs q => keep c _ (fun z => by rw [z,hP] at q; cases q) q
    rcases hc with rfl | hc
    ·exact hb
    ·intro z
     rw [z,hP] at hc
     cases hc
   ·exact new b u (Nat.le_of_not_lt hl) e
theorem ve {pos : Pos} {v : Value} : codeAmong pos [rawInt pos.line,rawInt pos.col,v] = some v:=by
 show (if ((pos.line : Int) == (pos.line : Int) && (pos.col : Int) == (pos.col : Int)) = true then some v else _) = some v
 rw [if_pos (by simp)]
section
variable {X : Cx} {params : Arguments} {body : Expr} {scope : Scope} {pos : Pos} {clos : List (Str × Addr)} {c Pt : Addr}
theorem zk (k : LamK X.K X.mg X.base c Pt) (hc : X.env.code = .ref c) (hcl : closureFor scope X.env = pure clos) (hdf : defaultsOf params X.env = ([],[]):=by rfl) : PE X (.Lambda params body scope pos) (AN (X.env.qual ++ "<lambda>") params body scope clos pos Pt):=by
 intro pins s σ H Q I h
 obtain ⟨st,h⟩:=h
 refine PySem.W.kla_eval hdf ?_
 have hPt : ∃ ps,H Pt = some (.tbl ps):=by rcases st with z | ⟨c',z,_⟩ <;> exact ⟨_,z⟩
 obtain ⟨ps0,hP0⟩:=hPt
 have ns : s.heap.Ns mainGlobals X.mg:=I.mod.glob.keeps I.bk
 have nG : mainGlobals ≠ Pt:=fun z => by
  obtain ⟨o,es,ep,e,_⟩:=I.mod.glob
  have:=(I.bs _ _ e).2
  rw [z,hP0] at this
  cases this
 have blt : s.heap.BuiltinsAt X.mg Pt:=by
  obtain ⟨bm,o,b1,b2,b3,b4,b5,b6,b7⟩:=k.bm
  refine ⟨bm,o,b1,b2,b3,fun z => ?_,I.bk _ _ b4,b5,b6,b7⟩
  have z2:=(I.bs _ _ b4).2
  rw [z,hP0] at z2
  cases z2
 have chd:=PySem.W.codeHd_of_K I.kIn k.hd
 rcases st with hP | ⟨c',hP,hc'⟩
 ·have eP : s.heap.get? Pt = some (PySem.W.tabObj #[]):=I.hok Pt _ hP
  refine PySem.W.kla_makeFunction hcl I.ok.glob ns hc chd eP trivial rfl nG blt fun c' ctv h' tk ex h1 h2 cr hP' => ?_
  have nP : Pt < s.heap.objs.size:=Heap.lt_size eP
  have hf1 : s.heap.objs.size <= h'.objs.size:=Nat.le_of_lt (Nat.lt_of_le_of_lt h1 h2)
  obtain ⟨c₂,oc,vs,t,e2,hoc,hd,hv⟩:=cr
  cases e2
  let H2 : Hp:=upd (upd (upd H Pt (.tbl (#[] ++ #[rawInt pos.line,rawInt pos.col,.ref c']))) c' (.ext (CodeAt c' (X.env.qual ++ "<lambda>")))) h'.objs.size (.ext (LamAt h'.objs.size (X.env.qual ++ "<lambda>") params body scope clos c'))
  have nfc : c' ≠ h'.objs.size:=Nat.ne_of_lt h2
  have nfP : Pt ≠ h'.objs.size:=Nat.ne_of_lt (Nat.lt_of_lt_of_le nP hf1)
  have ncP : Pt ≠ c' := Nat.ne_of_lt (Nat.lt_of_lt_of_le nP h1)
  have gP : H2 Pt = some (.tbl (#[] ++ #[rawInt pos.line,rawInt pos.col,.ref c'])):=(ao nfP).trans ((ao ncP).trans ae)
  have gc : H2 c' = some (.ext (CodeAt c' (X.env.qual ++ "<lambda>"))):=(ao nfc).trans ae
  have gf : H2 h'.objs.size = some (.ext (LamAt h'.objs.size (X.env.qual ++ "<lambda>") params body scope clos c')):=ae
  have go : ∀ b,b ≠ Pt -> b ≠ c' -> b ≠ h'.objs.size -> H2 b = H b:=fun b n1 n2 n3 => (ao n3).trans ((ao n2).trans (ao n1))
  have I2:=Inv.table (H' := H2) (tk:=tk) I hP (fun b o nb e => Heap.get?_push_of_some (PySem.W.kla_obj "<lambda>" (X.env.qual ++ "<lambda>") params body scope clos ((X.mg "__name__").getD .none) c' ctv) (ex b o nb e)) (Heap.get?_push_of_some _ hP') gP
   (fun b n1 hl => go b n1 (Nat.ne_of_lt (Nat.lt_of_lt_of_le hl h1)) (Nat.ne_of_lt (Nat.lt_of_lt_of_le hl hf1))) fun b u hl e => by
    by_cases b1 : b = h'.objs.size
    ·rw [b1,gf] at e
     cases e
     rw [b1]
     exact LamAt.ok ⟨_,_,Heap.get?_push_size _ rfl⟩
    ·by_cases b2 : b = c'
     ·rw [b2,gc] at e
      cases e
      rw [b2]
      exact CodeAt.ok ⟨oc,vs,t,Heap.get?_push_of_some _ hoc,hd,hv⟩
     ·rw [go b (fun z => absurd hl (by rw [z]; exact Nat.not_le_of_lt nP)) b2 b1,I.hok.fresh hl] at e
      cases e
  have nf : H h'.objs.size = none:=I.hok.fresh hf1
  have ncn : H c' = none:=I.hok.fresh h1
  exact ⟨.ref h'.objs.size,H2,I2,rfl,h h'.objs.size c' H2 nf gf (by rw [gP]; rfl) gc fun b u nb e => by rw [go b nb (aq e ncn) (aq e nf)]; exact e⟩
 ·have eP : s.heap.get? Pt = some (PySem.W.tabObj #[rawInt pos.line,rawInt pos.col,.ref c']):=I.hok Pt _ hP
  refine PySem.W.kla_makeFunctionHit (cv:=.ref c') hcl I.ok.glob ns hc chd eP ?_ ?_ blt fun ctv h' tk kp h1 => ?_
  ·exact trivial
  ·exact ve
  ·have nf : H h'.objs.size = none:=I.hok.fresh h1
   have new:=LamAt.ok (P:=X.prog) (w:=X.w) (H:=upd H h'.objs.size (.ext (LamAt h'.objs.size (X.env.qual ++ "<lambda>") params body scope clos c'))) (h:=h'.push (PySem.W.kla_obj "<lambda>" (X.env.qual ++ "<lambda>") params body scope clos ((X.mg "__name__").getD .none) c' ctv)) ⟨_,_,Heap.get?_push_size _ rfl⟩
   have kp' : ∀ b o,s.heap.get? b = some o -> (h'.push (PySem.W.kla_obj "<lambda>" (X.env.qual ++ "<lambda>") params body scope clos ((X.mg "__name__").getD .none) c' ctv)).get? b = some o:=fun b o e => Heap.get?_push_of_some _ (kp b o e)
   have I2:=I.un (t' := tk) (Un.laid kp' h1 nf) (HOk.laid I.hok kp' h1 new)
   exact ⟨.ref h'.objs.size,_,I2,rfl,h h'.objs.size c' _ nf ae (by rw [ao (aq hP nf)]; exact hP) (by rw [ao (aq hc' nf)]; exact hc') fun b u _ e => by rw [ao (aq e nf)]; exact e⟩
end
end L2
set_option Elab.async false
set_option linter.all false
set_option maxRecDepth 100000
set_option maxHeartbeats 4000000
namespace L2
open PySem PySem.Spec PyProof.Rows
def CellAt (c : Addr) (o : Obj) (h : Heap) : Prop:=h.get? c = some o
theorem CellAt.ok {P : Program} {w : World} {H : Hp} {h : Heap} {c : Addr} {o : Obj} (x : CellAt c o h) : ObjOk P w H h c (.ext (CellAt c o)):=
 ⟨x,⟨o,x⟩,fun _ _ e k => k _ e⟩
def Ap (H : Hp) (c : Addr) (v : V) : Prop := ∃ o u,H c = some (.ext (CellAt c o)) /\ o.data = .cell (some u) /\ RelV v u
structure LamHas (H : Hp) (f c' : Addr) (qual : Str) (params : Arguments) (body : Expr) (scope : Scope) (clos : List (Str × Addr)) (cvs : List V) : Prop where
 fn : H f = some (.ext (LamAt f qual params body scope clos c'))
 cd : H c' = some (.ext (CodeAt c' qual))
 cl : Paired (fun (p : Str × Addr) v => Ap H p.2 v) clos cvs
 nd : (clos.map (·.2)).Nodup
theorem Paired.lookup {α β : Type} {F : (Str × α) -> β -> Prop} : ∀ {l₁ : List (Str × α)} {l₂ : List β},Paired F l₁ l₂ -> ∀ {x : Str} {c : α},l₁.lookup x = some c -> ∃ v,F (x,c) v
 | _,_,.nil,_,_,e => by simp at e
 | _,_,.cons (a:=(y,d)) r t,x,c,e => by
  rw [List.lookup_cons] at e
  by_cases h : x = y
  ·subst h
   simp at e
   subst e
   exact ⟨_,r⟩
  ·rw [show (x == y) = false from beq_false_of_ne h] at e
   exact Paired.lookup t e
def less (H : Hp) (cs : List Addr) : Hp:=fun b => if b ∈ cs then none else H b
def back (H : Hp) (cs : List Addr) (H' : Hp) : Hp:=fun b => if b ∈ cs then H b else H' b
theorem eL {H : Hp} {cs : List Addr} {b : Addr} (h : b ∈ cs) : less H cs b = none:=if_pos h
theorem aU {H : Hp} {cs : List Addr} {b : Addr} (h : b ∉ cs) : less H cs b = H b:=if_neg h
theorem uO {H H' : Hp} {cs : List Addr} {b : Addr} (h : b ∈ cs) : back H cs H' b = H b:=if_pos h
theorem dW {H H' : Hp} {cs : List Addr} {b : Addr} (h : b ∉ cs) : back H cs H' b = H' b:=if_neg h
theorem vh {H : Hp} {cs : List Addr} : back H cs (less H cs) = H:=by
 funext b
 by_cases h : b ∈ cs
 ·exact uO h
 ·rw [dW h,aU h]
def Cells (H : Hp) (cs : List Addr) : Prop := ∀ c ∈ cs,∃ o,H c = some (.ext (CellAt c o))
section
variable {P : Program} {w : World} {H H' : Hp} {h h' : Heap} {cs : List Addr} {fs : List Addr}
theorem HOk.lessC (x : HOk P w H h) (k : Cells H cs) : HOk P w (L2.less H cs) h:=fun b u e => by
 have hb : b ∉ cs:=fun z => by rw [eL z] at e; cases e
 rw [aU hb] at e
 refine (x b u e).stay (fun _ _ _ q => q) (fun c q => ?_) fun c xs q => ?_ <;> rw [aU] <;> first | exact q | (intro z; obtain ⟨o,r⟩:=k _ z; rw [r] at q; cases q)
theorem Un.back (u : Un fs [] (less H cs) H' h h') (k : Cells H cs) (x : HOk P w H h) (x' : HOk P w H' h') (nf : ∀ c ∈ cs,c ∉ fs) : Un fs [] H (back H cs H') h h' /\ HOk P w (back H cs H') h' := by
 have nb : ∀ b,H b = none -> b ∉ cs:=fun b n z => by obtain ⟨o,r⟩:=k _ z; rw [n] at r; cases r
 have cell : ∀ c ∈ cs,∀ o,H c = some (.ext (CellAt c o)) -> h'.get? c = some o:=fun c z o e => u.keep c o (show CellAt c o h from (x c _ e).1) (eL z) (nf c z) (by simp)
 have gone : ∀ c ∈ cs,H' c = none:=fun c z => by
  obtain ⟨o,e⟩:=k c z
  exact u.free c o (show CellAt c o h from (x c _ e).1) (eL z) (by simp)
 refine ⟨⟨fun b o e n hb _ => u.keep b o e (by rw [aU (nb b n)]; exact n) hb (by simp),fun b o e n hb _ => u.slot b o e (by rw [aU (nb b n)]; exact n) hb (by simp),fun b o e n _ => by rw [dW (nb b n)]; exact u.free b o e (by rw [aU (nb b n)]; exact n) (by simp),
  fun b o e _ => u.there b o e (by simp),fun b xs e => ?_,fun b o v e => ?_,fun b ps e => ?_⟩,fun b v e => ?_⟩
 ·have hb : b ∉ cs:=fun z => by obtain ⟨o,r⟩:=k _ z; rw [e] at r; cases r
  rw [dW hb]
  exact u.tups b xs (by rw [aU hb]; exact e)
 ·have hb : b ∉ cs:=fun z => by obtain ⟨o,r⟩:=k _ z; rw [e] at r; cases r
  rw [dW hb]
  exact u.frzs b o v (by rw [aU hb]; exact e)
 ·have hb : b ∉ cs:=fun z => by obtain ⟨o,r⟩:=k _ z; rw [e] at r; cases r
  rw [dW hb]
  exact u.tbls b ps (by rw [aU hb]; exact e)
 ·by_cases hb : b ∈ cs
  ·rw [uO hb] at e
   obtain ⟨o,r⟩:=k b hb
   rw [r] at e
   cases e
   exact CellAt.ok (cell b hb o r)
  ·rw [dW hb] at e
   refine (x' b v e).stay (fun _ _ _ q => q) (fun c q => ?_) fun c xs q => ?_ <;> rw [dW] <;> first | exact q | (intro z; rw [gone _ z] at q; cases q)
end
def wK (P : Program) (w : World) (K : PySem.W.Frag) (mg : Str -> Option Value) (base : Heap) (N : List Str) (qual : Str) (scope : Scope) (f : Addr) (cd : Value) (clos : List (Str × Addr)) (A : Around) (outer : List Env) (s : Shared) (H : Hp) : Cx where
 prog:=P
 w:=w
 K:=K
 mg:=mg
 base:=base
 A:=A.deeper (PySem.W.envX qual scope s.heap.objs.size f cd clos)
 N:=N
 s₀:=s
 H₀:=H
 env:=PySem.W.envX qual scope s.heap.objs.size f cd clos
 outer:=outer
 stack:=PySem.W.envX qual scope s.heap.objs.size f cd clos :: outer
 ex:=[]
 calm:=true
 fn:=fun _ => false
 pn:=[]
 xe:=fun _ _ => False
structure LamScope (ps fr : List Str) (sc : Scope) : Prop where
 kind : sc.kind = .function
 co : sc.isCoroutine = false
 gen : sc.isGenerator = false
 nd : (ps ++ fr).Nodup
 par : ∀ x ∈ ps,sc.names.lookup x = some .local
 fre : ∀ x ∈ fr,sc.names.lookup x = some .free
 nocell : ∀ y ∈ sc.names,y.2 ≠ .cell
 all : ∀ y ∈ sc.names,y.2 = .free -> y.1 ∈ fr
theorem lookup_mem {α : Type} : ∀ {l : List (Str × α)} {x : Str},x ∈ l.map (·.1) -> ∃ c,l.lookup x = some c
 | [],x,h => by simp at h
 | (y,d) :: r,x,h => by
  rw [List.lookup_cons]
  by_cases e : x = y
  ·subst e; simp
  ·rw [show (x == y) = false from beq_false_of_ne e]
   exact lookup_mem (by simpa [e] using h)
theorem ue {l : List (Str × Addr)} {x y : Str} {c : Addr} (nd : (l.map (·.2)).Nodup) (h1 : l.lookup x = some c) (h2 : l.lookup y = some c) : x = y:=by
 have m1:=PySem.mem_of_lookup h1
 have m2:=PySem.mem_of_lookup h2
 have key : ∀ {l : List (Str × Addr)},(l.map (·.2)).Nodup -> (x,c) ∈ l -> (y,c) ∈ l -> x = y:=by
  intro l
  induction l with
  | nil => intro _ h; simp at h
  | cons p r ih =>
   intro nd m1 m2
   obtain ⟨nn,nr⟩:=List.nodup_cons.mp (show (p.2 :: r.map (·.2)).Nodup from nd)
   rcases List.mem_cons.mp m1 with e1 | m1
   ·rcases List.mem_cons.mp m2 with e2 | m2
    ·rw [<- e1] at e2
     cases e2
     rfl
    ·exact absurd (List.mem_map.mpr ⟨(y,c),m2,by rw [<- e1]⟩) nn
   ·rcases List.mem_cons.mp m2 with e2 | m2
    ·exact absurd (List.mem_map.mpr ⟨(x,c),m1,by rw [<- e2]⟩) nn
    ·exact ih nr m1 m2
 exact key nd m1 m2
theorem Paired.at {α β : Type} {F : α -> β -> Prop} : ∀ {l₁ : List α} {l₂ : List β},Paired F l₁ l₂ -> ∀ {i : Nat} {b : β},l₂[i]? = some b -> ∃ a,l₁[i]? = some a /\ F a b
 | _,_,.nil,i,b,e => by simp at e
 | _,_,.cons r t,0,b,e => by
  simp at e
  subst e
  exact ⟨_,rfl,r⟩
 | _,_,.cons r t,i + 1,b,e => by
  obtain ⟨a,h1,h2⟩:=Paired.at t (i:=i) (by simpa using e)
  exact ⟨a,by simpa using h1,h2⟩
theorem gD {α : Type} : ∀ {l : List (Str × α)} {x : Str} {c : α},(l.map (·.1)).Nodup -> (x,c) ∈ l -> l.lookup x = some c
 | [],_,_,_,h => by simp at h
 | (y,d) :: r,x,c,nd,h => by
  obtain ⟨nn,nr⟩:=List.nodup_cons.mp (show (y :: r.map (·.1)).Nodup from nd)
  rw [List.lookup_cons]
  rcases List.mem_cons.mp h with e | h
  ·cases e
   simp
  ·have ne : x ≠ y:=fun e => nn (by rw [<- e]; exact List.mem_map.mpr ⟨(x,c),h,rfl⟩)
   rw [show (x == y) = false from beq_false_of_ne ne]
   exact gD nr h
theorem zip_sub : ∀ {ps : List Str} {us : List Value},((ps.zip us).map (·.1)).Sublist ps
 | [],_ => by simp
 | _ :: _,[] => by simp
 | p :: ps,u :: us => by
  show (p :: (ps.zip us).map (·.1)).Sublist (p :: ps)
  exact zip_sub.cons₂ p
theorem m5 {ps : List Str} {us : List Value} {i : Nat} {x : Str} {u : Value} (nd : ps.Nodup) (h1 : ps[i]? = some x) (h2 : us[i]? = some u) : (ps.zip us).reverse.lookup x = some u:=by
 refine gD ?_ (List.mem_reverse.mpr (List.mem_of_getElem? (i:=i) ?_))
 ·rw [List.map_reverse]
  refine List.pairwise_reverse.mpr (List.Pairwise.imp (fun h => Ne.symm h) (List.Nodup.sublist ?_ nd))
  exact zip_sub
 ·rw [List.getElem?_zip_eq_some]
  exact ⟨h1,h2⟩
section
variable {P : Program} {w : World} {K : PySem.W.Frag} {mg : Str -> Option Value} {base : Heap} {k : Nat} {f c' : Addr} {qual : Str} {params : Arguments} {body : Expr} {scope : Scope} {clos : List (Str × Addr)} {cvs : List V} {ps : List Str} {A : Around} {outer : List Env} {s : Shared} {H : Hp} {us : List Value} {vs : List V} {Q : VK} {t : TE}
theorem ye (S : LamScope ps (clos.map (·.1)) scope) (L : LamHas H f c' qual params body scope clos cvs) (hr : Room (k + 1) A) (e0 : Env0 P w K mg base A outer s H) (r : Vals vs us) (hl : vs.length = ps.length)
  (hbind : ∀ pm ctv,bindArgs (PySem.W.kla_fn "<lambda>" qual params body scope clos pm (.ref c') ctv) ⟨us,[]⟩ = pure (ps.zip us))
  (hb : PE (wK P w K mg base (ps ++ clos.map (·.1)) qual scope f (.ref c') clos A outer s (less H (clos.map (·.2)))) body t)
  (ht : t ((vs ++ cvs).map some) (less H (clos.map (·.2))) fun v H' => Q v (back H (clos.map (·.2)) H')) :
  codeAny (model P w) A (.call (.ref f) ⟨us,[]⟩) (fun r s' => ∃ u,r = .ok (.ret u) /\ CE outer P w H s Q u s') s:=by
 obtain ⟨pm,ctv,ef⟩ : LamAt f qual params body scope clos c' s.heap:=(e0.hok f _ L.fn).1
 obtain ⟨oc,cv,tc,e1,e2,e3⟩ : CodeAt c' qual s.heap:=(e0.hok c' _ L.cd).1
 have cells : Cells H (clos.map (·.2)):=fun c hc => by
  obtain ⟨⟨y,c2⟩,hm,rfl⟩:=List.mem_map.mp hc
  obtain ⟨i,hi⟩:=List.getElem?_of_mem hm
  have hl2 : i < cvs.length:=by rw [<- L.cl.length]; exact (List.getElem?_eq_some_iff.mp hi).1
  obtain ⟨a,h1,o,u,h2,_⟩:=Paired.at L.cl (List.getElem?_eq_getElem hl2)
  rw [hi] at h1
  cases h1
  exact ⟨o,h2⟩
 have lim : s.heap.NoLimit:=e0.mod.nolimit.keeps fun b o e => (e0.bs b o e).1
 have nfr : ∀ c ∈ clos.map (·.2),c ∉ frs outer:=fun c hc z => by
  obtain ⟨o,e⟩:=cells c hc
  rw [e0.frf c z] at e
  cases e
 refine PySem.W.kla_callFunE hr.depth ef rfl S.co S.gen rfl ⟨c',oc,cv,tc,rfl,e1,e2,e3⟩ ?_
 rw [hbind]
 refine wpAny_pure (wpAny_newFunctionEnv S.nocell (fun y hy => S.par y.1 (List.of_mem_zip (show (y.1,y.2) ∈ ps.zip us from hy)).1) (fun h₁ hns hsb => ⟨lim.fresh _ hsb,?_⟩) S.kind)
 have hk : ∀ b o,s.heap.get? b = some o -> h₁.get? b = some o:=fun b o e => hsb.extBut b o (Nat.ne_of_lt (Heap.lt_size e)) (Heap.get?_push_of_some _ e)
 have noA : ∀ b : Addr,b ∉ ([] : List Addr):=fun b z => absurd z (by simp)
 have I : Inv (wK P w K mg base (ps ++ clos.map (·.1)) qual scope f (.ref c') clos A outer s (less H (clos.map (·.2)))) [] ((vs ++ cvs).map some) (less H (clos.map (·.2))) { s with heap:=h₁,toks:=s.toks + (ps.zip us).length }:=by
  refine ⟨⟨e0.mod,S.kind,rfl,rfl,Nat.le_refl _,fun y z c h1 h2 => ue L.nd h1 h2,fun y hy => ?_,fun y c h => (nomatch h),fun _ => hr.hd,Around.frames_deeper e0.frames,.inr ⟨rfl,rfl⟩,fun b z => absurd z (noA b),fun b o e => ⟨(e0.bs b o e).1,?_⟩,e0.bsz,fun b _ _ => noA b,fun b z => absurd z (noA b),e0.funs,fun b hb => ?_⟩,
   rfl,e0.bare,Un.kept hk,⟨_,hns,fun i y v h1 h2 h3 => ?_⟩,fun y c h => ?_,?_,fun y c h => eL (List.mem_map.mpr ⟨(y,c),PySem.mem_of_lookup h,rfl⟩),fun p hp => absurd (show p ∈ ([] : List (Addr × Obj)) from hp) (by simp),(e0.hok.lessC cells).kept hk,?_⟩
  ·have hy : scope.names.lookup y = some .cell \/ scope.names.lookup y = some .free:=hy
   rcases hy with hy | hy
   ·exact absurd rfl (S.nocell _ (PySem.mem_of_lookup hy))
   ·exact lookup_mem (S.all _ (PySem.mem_of_lookup hy) rfl)
  ·show less H (clos.map (·.2)) b = none
   by_cases z : b ∈ clos.map (·.2)
   ·exact eL z
   ·rw [aU z]; exact (e0.bs b o e).2
  ·show less H (clos.map (·.2)) b = none
   by_cases z : b ∈ clos.map (·.2)
   ·exact eL z
   ·rw [aU z]; exact e0.frf b hb
  ·have h1 : (ps ++ clos.map (·.1))[i]? = some y:=h1
   rw [List.getElem?_map] at h2
   by_cases hi : i < vs.length
   ·rw [List.getElem?_append_left hi] at h2
    have ha : vs[i]? = some v:=by
     cases e : vs[i]? with
     | none => rw [e] at h2; cases h2
     | some a => rw [e] at h2; cases h2; rfl
    rw [List.getElem?_append_left (by rw [<- hl]; exact hi)] at h1
    obtain ⟨u,hu,rv⟩:=r.get ha
    have ndP : ps.Nodup:=(List.nodup_append.mp S.nd).1
    refine ⟨u,rv,.inl ⟨S.par y (List.mem_of_getElem? h1),?_⟩⟩
    show (ps.zip us).reverse.lookup y = some u
    exact m5 ndP h1 hu
   ·rw [List.getElem?_append_right (Nat.le_of_not_lt hi)] at h2
    rw [List.getElem?_append_right (by rw [<- hl]; exact Nat.le_of_not_lt hi),<- hl] at h1
    have ha : cvs[i - vs.length]? = some v:=by
     cases e : cvs[i - vs.length]? with
     | none => rw [e] at h2; cases h2
     | some a => rw [e] at h2; cases h2; rfl
    obtain ⟨⟨y2,c2⟩,g1,o,u,g2,g3,g4⟩:=Paired.at L.cl ha
    rw [List.getElem?_map,g1] at h1
    cases h1
    refine ⟨u,g4,.inr ⟨.inr (S.fre y2 (List.mem_map.mpr ⟨(y2,c2),List.mem_of_getElem? g1,rfl⟩)),c2,?_,o,hk _ _ (show CellAt c2 o s.heap from (e0.hok c2 _ g2).1),g3⟩⟩
    exact gD (List.nodup_append.mp S.nd).2.1 (List.mem_of_getElem? g1)
  ·obtain ⟨v,o,u,g2,g3,g4⟩:=Paired.lookup L.cl h
   exact ⟨some u,o,hk _ _ (show CellAt c o s.heap from (e0.hok c _ g2).1),g3⟩
  ·show less H (clos.map (·.2)) s.heap.objs.size = none
   by_cases z : s.heap.objs.size ∈ clos.map (·.2)
   ·exact eL z
   ·rw [aU z]; exact e0.hok.fresh (Nat.le_refl _)
  ·show ((vs ++ cvs).map some).length = (ps ++ clos.map (·.1)).length
   rw [List.length_map,List.length_append,List.length_append,List.length_map,hl,L.cl.length]
 refine PySem.W.kla_codeExpr (wpAny_mono (hb [] _ _ _ _ I ht) (fun u s' ⟨v,H',J,rv,q⟩ => ?_) fun e s' z => False.elim z)
 obtain ⟨un,hok⟩:=Un.back J.base cells e0.hok J.hok nfr
 exact ⟨u,rfl,v,_,J.os,J.bare,un,hok,rv,q⟩
end
end L2
set_option Elab.async false
set_option linter.all false
set_option maxRecDepth 100000
set_option maxHeartbeats 4000000
namespace L2
open PySem PySem.Spec PyProof.Rows
def FnV (v : V) (H : Hp) : Prop := ∃ f qual params body scope clos c',v = .ref f /\ H f = some (.ext (LamAt f qual params body scope clos c'))
def LR (X : Cx) (R : V -> List V -> Hp -> VK -> Prop) : Prop := ∀ (pins : List (Addr × Obj)) (s : Shared) (σ : St) (H : Hp) (f : Addr) (vs : List V) (us : List Value) (Q : VK),Inv X pins σ H s -> Vals vs us -> R (.ref f) vs H Q -> wpAny (model X.prog X.w) X.A (call (.ref f) us) (EP X pins σ Q) X.xe s
def zB (R : V -> List V -> Hp -> VK -> Prop) (tf : TE) (t : TA) : TE:=fun σ H Q => tf σ H fun v H1 => FnV v H1 /\ t σ H1 fun vs H2 => FnV v H2 /\ R v vs H2 Q
section
variable {X : Cx} {x : Str} {p pos : Pos} {e : Expr} {es : List Expr} {t : TA} {tf : TE} {R : V -> List V -> Hp -> VK -> Prop}
theorem FnV.at {v : V} {H : Hp} {h : Heap} {P : Program} {w : World} {u : Value} (F : FnV v H) (hok : HOk P w H h) (r : RelV v u) : ∃ f,v = .ref f /\ u = .ref f /\ PySem.W.FnAt f h:=by
 obtain ⟨f,qual,params,body,scope,clos,c',rfl,e⟩:=F
 obtain rfl : u = Value.ref f:=r
 obtain ⟨pm,ctv,z⟩ : LamAt f qual params body scope clos c' h:=(hok f _ e).1
 exact ⟨f,rfl,rfl,_,_,_,_,z⟩
theorem xv (hf : PE X (.Name x p) tf) (ha : PA X (e :: es) t) (hc : LR X R) (he : starEach (e :: es) X.env = (false,eval e X.env) :: starEach es X.env:=by rfl) (hpl : (backTo pos (starEach es X.env)).any (·.1) = false:=by rfl) : PE X (.Call (.Name x p) (e :: es) [] pos) (zB R tf t):=by
 intro pins s σ H Q I h
 refine wpAny_Call_Name_kw (thn (hf pins s σ H _ I h) fun u s1 ⟨v,H1,I1,r,F,q⟩ => ?_)
 obtain ⟨f,rfl,rfl,fa⟩:=F.at I1.hok r
 refine PySem.W.callWith_F fa (thn (ha pos pins s1 σ H1 _ I1 q) fun us s2 ⟨vs,H2,I2,r2,F2,q2⟩ => ?_) he hpl
 obtain ⟨f',e1,e2,fa2⟩:=F2.at I2.hok (show RelV (V.ref f) (Value.ref f) from rfl)
 cases e1
 exact ⟨fa2,hc pins s2 σ H2 f vs us Q I2 r2 q2⟩
end
theorem zb {X : Cx} {k : Nat} {ps fr : List Str} {params : Arguments} {body : Expr} {scope : Scope} {te : TE} (hr : Room (k + 1) X.A) (S : LamScope ps fr scope)
  (hbind : ∀ (us : List Value),us.length = ps.length -> ∀ qual clos c' pm ctv,bindArgs (PySem.W.kla_fn "<lambda>" qual params body scope clos pm (.ref c') ctv) ⟨us,[]⟩ = pure (ps.zip us))
  (hb : ∀ (qual : Str) (f c' : Addr) (clos : List (Str × Addr)) (s : Shared) (H : Hp),clos.map (·.1) = fr -> Room k (X.A.deeper (PySem.W.envX qual scope s.heap.objs.size f (.ref c') clos)) ->
   PE (wK X.prog X.w X.K X.mg X.base (ps ++ fr) qual scope f (.ref c') clos X.A X.stack s H) body te) :
  LR X fun v vs H Q => vs.length = ps.length /\ ∃ f c' qual clos cvs,v = .ref f /\ clos.map (·.1) = fr /\ LamHas H f c' qual params body scope clos cvs /\ te ((vs ++ cvs).map some) (less H (clos.map (·.2))) fun v H' => Q v (back H (clos.map (·.2)) H'):=by
 intro pins s σ H f0 vs us Q I r ⟨hl,f,c',qual,clos,cvs,ev,hfr,L,ht⟩
 cases ev
 subst hfr
 refine wpAny_call (codeAny_mono (ye (k:=k) S L hr I.env0 r hl (fun pm ctv => hbind us (by rw [<- r.length]; exact hl) qual clos c' pm ctv) (hb qual f0 c' clos s _ rfl (hr.deeper _)) ht) fun r s' ⟨u,e,ce⟩ => ?_)
 subst e
 exact I.after ce
def zA (sp : Sp) (dvs : List V) (c : Addr) (i : Nat) (t : TA) : TE:=fun σ H Q => t σ H fun vs H1 => ∃ v,σ[i]? = some (some v) /\
 ∀ o u,H1 c = none -> o.data = .cell (some u) -> RelV v u -> sp (vs ++ dvs) (upd H1 c (.ext (CellAt c o))) (fun v' H' => H' c = some (.ext (CellAt c o)) /\ Q v' (less H' [c])) E0
section
variable {X : Cx} {x y : Str} {i j k : Nat} {c : Addr} {ps : List Str} {dvs : List V} {sp : Sp} {p pos : Pos} {e : Expr} {es : List Expr} {t : TA} {CX : CXT} {f : Addr} {fd : FuncData} {ds : List Value}
theorem xO {pins : List (Addr × Obj)} {σ : St} {H : Hp} {s : Shared} {Q : VK} {us : List Value} {vs : List V} (F : FnOk X.prog X.w X.K X.mg X.base CX0 k f fd ps sp) (hr : Room k X.A) (hb : Binds X.K fd ps ds) (hd : Vals dvs ds) (hN : X.N[i]? = some y) (hv : X.env.scope.names.lookup y = some .cell) (hfn : X.fn y = true)
  (hc : X.env.cells.lookup y = some c) (I : Inv X pins σ H s) (r : Vals vs us) (h : ∃ v,σ[i]? = some (some v) /\ ∀ o u,H c = none -> o.data = .cell (some u) -> RelV v u -> sp (vs ++ dvs) (upd H c (.ext (CellAt c o))) (fun v' H' => H' c = some (.ext (CellAt c o)) /\ Q v' (less H' [c])) E0) :
  wpAny (model X.prog X.w) X.A (call (.ref f) us) (EP X pins σ Q) X.xe s:=by
 obtain ⟨v,hv1,h⟩:=h
 obtain ⟨m,_,hl⟩:=I.loc
 obtain ⟨u,rv,hlk⟩:=hl i y v hN hv1 (.inr (.inl hv))
 rcases hlk with ⟨hk,_⟩ | ⟨_,c2,hc2,o,ho,hdat⟩
 ·have hk' : X.env.scope.names.lookup y = some .local:=hk
  rw [hv] at hk'
  cases hk'
 rw [hc] at hc2
 cases hc2
 have hn : H c = none:=I.freeC y c hc
 have hq:=h o u hn hdat rv
 have cge : X.s₀.heap.objs.size <= c:=I.ok.cab y c hfn hc
 have nbase : ∀ b o,X.base.get? b = some o -> b ≠ c:=fun b o e z => by
  have:=Nat.lt_of_lt_of_le (Heap.lt_size e) (Nat.le_trans I.ok.bsz cge)
  rw [z] at this
  exact Nat.lt_irrefl _ this
 have nfr : ∀ b ∈ frs X.stack,b ≠ c:=fun b hb z => by
  rcases List.mem_cons.mp (I.stkSub b hb) with e | hb
  ·exact I.cne y c hc (z.symm.trans e)
  ·obtain ⟨_,o,ho,_⟩:=I.ok.funs.mem hb
   have:=Nat.lt_of_lt_of_le (Heap.lt_size ho) cge
   rw [z] at this
   exact Nat.lt_irrefl _ this
 have hok2 : HOk X.prog X.w (upd H c (.ext (CellAt c o))) s.heap:=fun b w e => by
  by_cases hb : b = c
  ·rw [hb,ae] at e
   cases e
   rw [hb]
   exact CellAt.ok ho
  ·rw [ao hb] at e
   exact (I.hok b w e).stay (fun _ _ _ q => q) (fun d q => by rw [ao (aq q hn)]; exact q) fun d xs q => by rw [ao (aq q hn)]; exact q
 have e1:=I.env0
 have e0 : Env0 X.prog X.w X.K X.mg X.base X.A X.stack s (upd H c (.ext (CellAt c o))):=⟨e1.frames,e1.mod,fun b o e => ⟨(e1.bs b o e).1,by rw [ao (nbase b o e)]; exact (e1.bs b o e).2⟩,e1.bsz,e1.funs,fun b hb => by rw [ao (nfr b hb)]; exact e1.frf b hb,hok2,e1.bare⟩
 have r2 : Vals (vs ++ dvs) (us ++ ds):=r.append hd
 have hlen : (us ++ ds).length = ps.length:=by rw [<- r2.length]; exact F.len _ _ _ _ hq
 refine wpAny_call (codeAny_mono (F.run X.A X.stack s _ ⟨us,[]⟩ (us ++ ds) (vs ++ dvs) _ E0 hr e0 (hb s us I.kIn hlen) r2 hq) fun r s' hq' => ?_)
 cases r with
 | error e => exact False.elim hq'
 | ok fl =>
  cases fl with
  | next => exact False.elim hq'
  | brk => exact False.elim hq'
  | cont => exact False.elim hq'
  | ret u' =>
   obtain ⟨v',H',os,bare,un,hok',rv',hc',q'⟩:=hq'
   have oc : s'.heap.get? c = some o:=(hok' c _ hc').1
   have ncs : ∀ b,b ≠ c -> b ∉ [c]:=fun b n z => n (by simpa using z)
   refine I.after ⟨v',less H' [c],os,bare,⟨fun b ob e n hb hx => ?_,fun b ob e n hb hx => ?_,fun b ob e n hx => ?_,fun b ob e hx => un.there b ob e hx,fun b xs e => ?_,fun b ob z e => ?_,fun b qs e => ?_⟩,hok'.lessC fun d hd => ?_,rv',q'⟩
   ·by_cases z : b = c
    ·subst z
     rw [ho] at e
     cases e
     exact oc
    ·exact un.keep b ob e (by rw [ao z]; exact n) hb hx
   ·exact un.slot b ob e (by rw [ao (nfr b hb)]; exact n) hb hx
   ·by_cases z : b = c
    ·exact eL (by simp [z])
    ·rw [aU (ncs b z)]
     exact un.free b ob e (by rw [ao z]; exact n) hx
   ·have z : b ≠ c:=aq e hn
    rw [aU (ncs b z)]
    exact un.tups b xs (by rw [ao z]; exact e)
   ·have z' : b ≠ c:=aq e hn
    rw [aU (ncs b z')]
    exact un.frzs b ob z (by rw [ao z']; exact e)
   ·have z : b ≠ c:=aq e hn
    rw [aU (ncs b z)]
    exact un.tbls b qs (by rw [ao z]; exact e)
   ·obtain rfl : d = c:=by simpa using hd
    exact ⟨o,hc'⟩
theorem zj (G : DefOk X.prog X.w X.K X.mg X.base x k ps dvs sp) (hr : Room j X.A) (ha : PA X (e :: es) t) (hN : X.N[i]? = some y) (hv : X.env.scope.names.lookup y = some .cell) (hc : X.env.cells.lookup y = some c) (hfn : X.fn y = true:=by rfl) (hkj : k <= j:=by decide) (hg : Gl X x:=by rfl) (hdb : (x == ("__debug__" : Str)) = false:=by decide)
  (he : starEach (e :: es) X.env = (false,eval e X.env) :: starEach es X.env:=by rfl) (hpl : (backTo pos (starEach es X.env)).any (·.1) = false:=by rfl) :
  PE X (.Call (.Name x p) (e :: es) [] pos) (zA sp dvs c i t):=by
 obtain ⟨f,fd,ds,hm,hk,hd,hb,F⟩:=G.ex
 intro pins s σ H Q I h
 refine wpAny_Call_Name_kw (u1 I hg hm ?_ hdb)
 refine PySem.W.callWith_K (h₀:=X.base) I.ok.mod.kin hk (thn (ha pos pins s σ H _ I h) fun us s1 ⟨vs,H1,I1,r,q⟩ => ⟨I1.kIn,?_⟩) he hpl
 exact xO F (hr.mono hkj) hb hd hN hv hfn hc I1 r q
end
theorem FunD.okL {P : Program} {w : World} {K : PySem.W.Frag} {mg : Str -> Option Value} {base : Heap} {x qual : Str} {st : Stmt} {dV : Value} {f c : Addr} {fd : FuncData} {N ps : List Str} {k : Nat} {sp : Sp} (F : FunD K x qual st dV f fd) (hc : fd.code = .ref c) (S : FnScope N ps (ai st)) (len : ∀ vs H Q E,sp vs H Q E -> vs.length = ps.length)
  (hbody : ∀ (A : Around) (outer : List Env) (s : Shared) (H : Hp) (vs : List V) (Q : VK) (E : XK),Room k (A.deeper (envOfC qual (ai st) s.heap.objs.size f (.ref c))) -> sp vs H Q E ->
   ∃ t,PSs (t4 CX0 P w K mg base N qual (ai st) f (.ref c) A outer s H E).nox (az st) t /\ t { nx:=fun _ H' => Q .non H',rt:=Q } (start N vs) H) : FnOk P w K mg base CX0 (k + 1) f fd ps sp:=by
 obtain ⟨oc,od,kV,doc,pm,an,cdv,ct,osl,rfl,lk,hcd⟩:=F.ex
 obtain rfl : cdv = .ref c:=hc
 refine yH lk hcd S len fun A outer s H vs Q E hr hsp => ?_
 obtain ⟨t,h,q⟩:=hbody A outer s H vs Q E hr hsp
 exact ⟨t,h.nox,q⟩
theorem qo {K : PySem.W.Frag} {x : Str} {f c Pt : Addr} {oc : Value} {od : Option Addr} {fd : FuncData} {sl : Array (Option Value)} (a : PySem.W.nsIn K mainGlobals x = some (some (.ref f))) (l : K.lookup f = some ⟨oc,od,.func fd,sl⟩) (t : PySem.W.tabIn K x = some (c,Pt)) : fd.code = .ref c:=by
 unfold PySem.W.tabIn at t
 rw [a] at t
 simp only [l] at t
 split at t
 ·rename_i c2 e
  split at t
  ·split at t
   ·cases t; exact e
   ·cases t
  ·cases t
 ·cases t
end L2
set_option Elab.async false
set_option linter.all false
set_option maxRecDepth 100000
set_option maxHeartbeats 8000000
namespace My
open PySem L2
abbrev LL:=List (List Int)
abbrev LI:=List Int
abbrev OV:=Option V
theorem gi_ {α : Type} {l : List α} {i : Nat} {a : α} (h : l[i]? = some a) : ∃ h : i < l.length,l[i] = a:=List.getElem?_eq_some_iff.mp h
theorem mq_ {α : Type} {l : List α} {i : Nat} {a : α} (h : l[i]? = some a) : a ∈ l:=List.mem_of_getElem? h
theorem ma_ {α : Type} {a : α} {s t : List α} : a ∈ s ++ t ↔ a ∈ s \/ a ∈ t:=List.mem_append
theorem lm_ {α β : Type} {f : α -> β} {l : List α} : (l.map f).length = l.length:=List.length_map f
theorem qT_ {K : PySem.W.Frag} {H : Hp} {a : Addr} {xs : List V} (h : H a = some (.tup xs)) : SqT K H a xs:=SqT.of h
theorem qL_ {K : PySem.W.Frag} {H : Hp} {a : Addr} {xs : List V} (h : H a = some (.lst xs)) : SqL K H a xs:=SqL.of h
def top (i : Nat) : Stmt:=PySem.Challenge.pw_figuretell_k42_first_number.main.body.getD i (.Pass ⟨0,0,0,0⟩)
abbrev c8 : Stmt:=top 4
abbrev bA : Stmt:=top 5
abbrev bo : Stmt:=top 6
abbrev ck : Stmt:=top 7
abbrev c9 : Stmt:=top 8
abbrev dN : Stmt:=top 9
abbrev fu : Stmt:=top 10
abbrev cH : Stmt:=top 11
abbrev fw : Stmt:=top 12
abbrev bS : Stmt:=top 14
abbrev aS : Stmt:=top 15
abbrev bt : Stmt:=top 16
abbrev bj : Stmt:=top 18
abbrev bQ : Stmt:=top 19
abbrev cm : Stmt:=top 20
abbrev bz : Stmt:=top 21
abbrev cn : Stmt:=top 22
abbrev bH : Stmt:=top 24
abbrev cg : Stmt:=top 25
abbrev cj : Stmt:=top 26
abbrev cG : Stmt:=top 27
abbrev bh : Stmt:=top 28
abbrev bP : Stmt:=top 29
abbrev aO : Stmt:=top 30
abbrev cf : Stmt:=top 31
abbrev j5 : Stmt:=top 32
theorem gr {c A B : Prop} [Decidable c] (h1 : c -> A) (h2 : ¬ c -> B) : if decide c = true then A else B:=yb (fun h => h1 (of_decide_eq_true h)) fun h => h2 fun z => h (decide_eq_true z)
theorem sy {c A B : Prop} [Decidable c] (h1 : ¬ c -> A) (h2 : c -> B) : if (!decide c) = true then A else B:=yb (fun h => h1 fun z => by rw [decide_eq_true z] at h; cases h) fun h => h2 (Decidable.byContradiction fun z => h (by rw [decide_eq_false z]; rfl))
theorem mN {a b : Int} {A B : Prop} (h1 : a = b -> A) (h2 : a ≠ b -> B) : if decide (V.int a = V.int b) = true then A else B:=gr (fun h => h1 (V.int.inj h)) fun h => h2 fun z => h (congrArg V.int z)
theorem b8 {a b : Int} (h : 0 < b) : 0 <= a % b /\ a % b < b:=⟨Int.emod_nonneg a (by omega),Int.emod_lt_of_pos a h⟩
theorem ic {t u : TS} {D : Ends} {σ : St} {H : Hp} (R : St -> Hp -> Prop) (h2 : ∀ σ' H',R σ' H' -> u D σ' H') (h1 : (∀ σ' H',R σ' H' -> u D σ' H') -> uE t u D σ H) : uE t u D σ H:=h1 h2
theorem d6 {t u : TS} {D : Ends} {σ : St} {H : Hp} (R : St -> Hp -> Prop) (h1 : ∀ σ' H',R σ' H' -> u D σ' H') (h2 : ∀ D' : Ends,(∀ σ' H',R σ' H' -> D'.nx σ' H') -> t D' σ H) : uE t u D σ H:=h2 { D with nx:=u D } h1
theorem aw {H H' : Hp} {p : Addr} {o : HO} (h : Same H H') (hp : H p = none) : Same H (upd H' p o):=fun b u e => by rw [ao (aq e hp)]; exact h b u e
theorem m9 {x : Int} (h : 0 <= x) : ∃ n : Nat,x = (n : Int):=⟨x.toNat,by omega⟩
theorem getD_at {α : Type} {xs : List α} {i : Nat} {d : α} (h : i < xs.length) : xs.getD i d = xs[i]:=by simp [h]
theorem bp {ns : LI} {k : Int} (h0 : 0 <= k) (h : k < (ns.length : Int)) : atI (ns.map V.int) k = some (.int (ns.getD k.toNat 0)):=by
 have hk : k.toNat < ns.length:=by omega
 have ek : k = ((k.toNat : Nat) : Int):=by omega
 have q : atI (ns.map V.int) ((k.toNat : Nat) : Int) = some (.int ns[k.toNat]):=l4 (by rw [List.getElem?_map,List.getElem?_eq_getElem hk] <;> rfl)
 rw [<- ek] at q
 rw [q,getD_at hk]
theorem dU {ras : List Addr} {k : Int} {ra : Addr} (h0 : 0 <= k) (h : ras[k.toNat]? = some ra) : atI (ras.map V.ref) k = some (.ref ra):=by
 have ek : k = ((k.toNat : Nat) : Int):=by omega
 have q : atI (ras.map V.ref) ((k.toNat : Nat) : Int) = some (.ref ra):=l4 (by rw [List.getElem?_map,h] <;> rfl)
 rw [<- ek] at q
 exact q
theorem bb {ns : LI} {i : Nat} {y : V} (h : (ns.map V.int)[i]? = some y) : ∃ z,y = V.int z /\ ns[i]? = some z:=by
 rw [List.getElem?_map] at h
 cases e : ns[i]? with
 | none => rw [e] at h; cases h
 | some z => rw [e] at h; exact ⟨z,(Option.some.inj h).symm,rfl⟩
def stepI (rows : LL) (h f : Int) : Int:=(rows.getD h.toNat []).getD f.toNat 0
def aI (rows : LL) (row : LI) (h : Int) : Int:=row.foldl (stepI rows) h
structure RowsOk (many wide : Nat) (rows : LL) : Prop where
 len : rows.length = many
 row : ∀ r ∈ rows,r.length = wide
 val : ∀ r ∈ rows,∀ v ∈ r,0 <= v /\ v < (many : Int)
theorem aR {many wide : Nat} {rows : LL} {h f : Int} (R : RowsOk many wide rows) (h0 : 0 <= h) (h1 : h < many) (f0 : 0 <= f) (f1 : f < wide) : 0 <= stepI rows h f /\ stepI rows h f < many:=by
 have l1 : h.toNat < rows.length:=by rw [R.len]; omega
 have l2 : f.toNat < rows[h.toNat].length:=by rw [R.row _ (List.getElem_mem l1)]; omega
 unfold stepI
 rw [getD_at l1,getD_at l2]
 exact R.val _ (List.getElem_mem l1) _ (List.getElem_mem l2)
theorem nV {many wide : Nat} {rows : LL} (R : RowsOk many wide rows) : ∀ {ns : LI} {h : Int},(∀ f ∈ ns,0 <= f /\ f < (wide : Int)) -> 0 <= h -> h < many -> 0 <= aI rows ns h /\ aI rows ns h < many
 | [],h,_,h0,h1 => ⟨h0,h1⟩
 | f :: r,h,hf,h0,h1 => by
  obtain ⟨a,b⟩:=aR R h0 h1 (hf f List.mem_cons_self).1 (hf f List.mem_cons_self).2
  exact nV (ns:=r) R (fun g hg => hf g (List.mem_cons_of_mem _ hg)) a b
theorem bE (rows : LL) (xs ys : LI) (h : Int) : aI rows (xs ++ ys) h = aI rows ys (aI rows xs h):=by
 unfold aI
 rw [List.foldl_append]
theorem uH {rows : LL} {ns : LI} {h z : Int} {i : Nat} (e : ns[i]? = some z) : aI rows (ns.take (i + 1)) h = stepI rows (aI rows (ns.take i) h) z:=by
 rw [List.take_add_one,e,bE]
 rfl
def RowsAt (H : Hp) : List Addr -> LL -> Prop:=Paired fun a r => H a = some (.tup (r.map V.int))
theorem RowsAt.length {H : Hp} {ras : List Addr} {rows : LL} (h : RowsAt H ras rows) : ras.length = rows.length:=Paired.length h
theorem RowsAt.get : ∀ {H : Hp} {ras : List Addr} {rows : LL} {i : Nat},RowsAt H ras rows -> (h : i < rows.length) -> ∃ ra,ras[i]? = some ra /\ H ra = some (.tup (rows[i].map V.int))
 | _,_,_,_,.nil,h => by simp at h
 | _,_,_,0,.cons (a:=a) r _,_ => ⟨a,rfl,r⟩
 | _,_,_,i + 1,.cons _ t,h => by
  obtain ⟨ra,h1,h2⟩:=RowsAt.get (i:=i) t (by simpa using h)
  exact ⟨ra,by simpa using h1,by simpa using h2⟩
theorem RowsAt.same {H H' : Hp} {ras : List Addr} {rows : LL} (h : RowsAt H ras rows) (s : ∀ b xs,H b = some (.tup xs) -> H' b = some (.tup xs)) : RowsAt H' ras rows:=Paired.mapP h fun _ _ q => s _ _ q
theorem RowsAt.snoc : ∀ {H : Hp} {ras : List Addr} {rows : LL} {a : Addr} {r : LI},RowsAt H ras rows -> H a = some (.tup (r.map V.int)) -> RowsAt H (ras ++ [a]) (rows ++ [r])
 | _,_,_,_,_,.nil,h => .cons h .nil
 | _,_,_,_,_,.cons q t,h => .cons q (RowsAt.snoc t h)
structure MachAt (H : Hp) (m r g : Addr) (wide : Nat) (rows : LL) (signs : LI) : Prop where
 tup : H m = some (.tup [.int wide,.ref r,.ref g])
 rows : ∃ ras,H r = some (.tup (ras.map V.ref)) /\ RowsAt H ras rows
 sgn : H g = some (.tup (signs.map V.int))
theorem MachAt.same {H H' : Hp} {m r g : Addr} {wide : Nat} {rows : LL} {signs : LI} (M : MachAt H m r g wide rows signs) (s : ∀ b xs,H b = some (.tup xs) -> H' b = some (.tup xs)) : MachAt H' m r g wide rows signs:=by
 obtain ⟨h1,⟨ras,h2,h3⟩,h4⟩:=M
 exact ⟨s _ _ h1,⟨ras,s _ _ h2,h3.same s⟩,s _ _ h4⟩
theorem j4 {H : Hp} {ras : List Addr} {rows : LL} {many wide : Nat} {h f : Int} (A : RowsAt H ras rows) (R : RowsOk many wide rows) (h0 : 0 <= h) (h1 : h < many) (f0 : 0 <= f) (f1 : f < wide) :
  ∃ (ra : Addr) (r : LI),atI (ras.map V.ref) h = some (.ref ra) /\ H ra = some (.tup (r.map V.int)) /\ atI (r.map V.int) f = some (.int (stepI rows h f)):=by
 have l1 : h.toNat < rows.length:=by rw [R.len]; omega
 have l2 : rows[h.toNat].length = wide:=R.row _ (List.getElem_mem l1)
 obtain ⟨ra,e1,e2⟩:=A.get l1
 refine ⟨ra,rows[h.toNat],dU h0 e1,e2,?_⟩
 rw [bp f0 (by rw [l2]; exact f1)]
 unfold stepI
 rw [getD_at l1]
theorem p3 {α : Type} (p : α -> Bool) : ∀ l : List α,l.length = (l.filter p).length + (l.filter fun x => !p x).length
 | [] => rfl
 | x :: l => by
  have ih:=p3 p l
  cases e : p x
  ·rw [List.filter_cons_of_neg (by rw [e]; decide),List.filter_cons_of_pos (by rw [e]; rfl),List.length_cons,List.length_cons]
   omega
  ·rw [List.filter_cons_of_pos e,List.filter_cons_of_neg (by rw [e]; decide),List.length_cons,List.length_cons]
   omega
theorem bK : ∀ (many : Nat) {ks : LI},ks.Nodup -> (∀ q ∈ ks,0 <= q /\ q < (many : Int)) -> ks.length <= many
 | 0,ks,_,h => by
  cases ks with
  | nil => exact Nat.le_refl _
  | cons q r => have:=h q List.mem_cons_self; omega
 | many + 1,ks,nd,h => by
  have e : (ks.filter fun q => decide (q ≠ (many : Int))).length <= many:=bK many (nd.filter _) fun q hq => by
   have h1:=h q (List.mem_filter.mp hq).1
   have h2 : q ≠ (many : Int):=of_decide_eq_true (List.mem_filter.mp hq).2
   omega
  have c : (ks.filter fun q => !decide (q ≠ (many : Int))).length <= 1:=by
   have nd2:=nd.filter fun q => !decide (q ≠ (many : Int))
   have al : ∀ q ∈ ks.filter (fun q => !decide (q ≠ (many : Int))),q = (many : Int):=fun q hq => by
    have:=(List.mem_filter.mp hq).2
    simpa using this
   match hm : ks.filter (fun q => !decide (q ≠ (many : Int))),nd2,al with
   | [],_,_ => exact Nat.zero_le _
   | [x],_,_ => exact Nat.le_refl _
   | x :: y :: r,nd2,al =>
    have h1:=al x List.mem_cons_self
    have h2:=al y (List.mem_cons_of_mem _ List.mem_cons_self)
    rw [h1,h2] at nd2
    exact absurd List.mem_cons_self (List.nodup_cons.mp nd2).1
  have t:=p3 (fun q => decide (q ≠ (many : Int))) ks
  omega
def Reach (wide : Nat) (rows : LL) (st q : Int) : Prop := ∃ row : LI,(∀ f ∈ row,0 <= f /\ f < (wide : Int)) /\ aI rows row st = q
def kvT (ks : LI) : List (Key × V):=ks.map fun q => (Sum.inl q,V.bl true)
theorem jN (ks : LI) (q : Int) : (di (kvT ks) (Sum.inl q)).isSome = decide (q ∈ ks):=by
 induction ks with
 | nil => rfl
 | cons k r ih =>
  by_cases e : k = q
  ·subst e
   rw [show kvT (k :: r) = (Sum.inl k,V.bl true) :: kvT r from rfl,ia rfl]
   simp
  ·rw [show kvT (k :: r) = (Sum.inl k,V.bl true) :: kvT r from rfl,fz (fun z => e (Sum.inl.inj z)),ih]
   simp [Ne.symm e]
theorem qG {ks : LI} {q : Int} (h : q ∉ ks) : putK (kvT ks) (Sum.inl q) (V.bl true) = kvT (ks ++ [q]):=by
 unfold putK
 rw [if_neg (by
  intro z
  obtain ⟨p,hp,e⟩:=List.any_eq_true.mp z
  obtain ⟨k,hk,rfl⟩:=List.mem_map.mp hp
  have:=Sum.inl.inj (of_decide_eq_true e)
  exact h (this ▸ hk))]
 unfold kvT
 rw [List.map_append]
 rfl
def jZ (s : LI) (x : Int) : LI:=if x ∈ s then s else s ++ [x]
def wV (rows : LL) (s : LI) (q : Int) : LI:=(rows.getD q.toNat []).foldl jZ s
structure Bfs (many wide : Nat) (rows : LL) (st : Int) (qs : LI) : Prop where
 eq : qs = qs.foldl (wV rows) [st]
 nd : qs.Nodup
 inr : ∀ q ∈ qs,0 <= q /\ q < (many : Int)
 re : ∀ q,q ∈ qs ↔ Reach wide rows st q
structure Found (many wide : Nat) (rows : LL) (st : Int) (dn ks : LI) : Prop where
 eq : ks = dn.foldl (wV rows) [st]
 nd : ks.Nodup
 inr : ∀ q ∈ ks,0 <= q /\ q < (many : Int)
 re : ∀ q ∈ ks,Reach wide rows st q
structure Part (many wide : Nat) (rows : LL) (st : Int) (dn : LI) (xs : LI) (ks : LI) : Prop where
 eq : ks = xs.foldl jZ (dn.foldl (wV rows) [st])
 nd : ks.Nodup
 inr : ∀ q ∈ ks,0 <= q /\ q < (many : Int)
 re : ∀ q ∈ ks,Reach wide rows st q
section
variable {P : Program} {w : World} {K : PySem.W.Frag} {mg : Str -> Option Value} {base : Heap} {f : Addr} {fd : FuncData} {dV : Value}
end
end My
set_option Elab.async false
set_option linter.all false
set_option maxRecDepth 100000
set_option maxHeartbeats 8000000
namespace My
open PySem L2
def kvL (es : List (Int × Addr)) : List (Key × V):=es.map fun e => (Sum.inl e.1,V.ref e.2)
theorem sF : ∀ {es : List (Int × Addr)} {q : Int},q ∉ es.map Prod.fst -> di (kvL es) (Sum.inl q) = none
 | [],_,_ => rfl
 | e :: es,q,h => by
  rw [show kvL (e :: es) = (Sum.inl e.1,V.ref e.2) :: kvL es from rfl,fz (fun z => h (by rw [<- Sum.inl.inj z]; exact List.mem_cons_self))]
  exact sF fun z => h (List.mem_cons_of_mem _ z)
theorem qF : ∀ {es : List (Int × Addr)} {q : Int} {a : Addr} {j : Nat},(es.map Prod.fst).Nodup -> es[j]? = some (q,a) -> di (kvL es) (Sum.inl q) = some (V.ref a)
 | [],_,_,_,_,h => by cases h
 | e :: es,q,a,0,_,h => by
  cases h
  exact ia rfl
 | e :: es,q,a,j + 1,nd,h => by
  have nd' := List.nodup_cons.mp (show (e.1 :: es.map Prod.fst).Nodup from nd)
  have h' : es[j]? = some (q,a):=h
  rw [show kvL (e :: es) = (Sum.inl e.1,V.ref e.2) :: kvL es from rfl,fz (fun z => nd'.1 (by
   have : e.1 = q:=Sum.inl.inj z
   rw [this]
   exact List.mem_map.mpr ⟨(q,a),mq_ h',rfl⟩))]
  exact qF nd'.2 h'
theorem yd {es : List (Int × Addr)} {q : Int} {a : Addr} (h : q ∉ es.map Prod.fst) : putK (kvL es) (Sum.inl q) (V.ref a) = kvL (es ++ [(q,a)]):=by
 unfold putK
 rw [if_neg (by
  intro z
  obtain ⟨p,hp,e⟩:=List.any_eq_true.mp z
  obtain ⟨k,hk,rfl⟩:=List.mem_map.mp hp
  have:=Sum.inl.inj (of_decide_eq_true e)
  exact h (this ▸ List.mem_map.mpr ⟨k,hk,rfl⟩))]
 unfold kvL
 rw [List.map_append]
 rfl
theorem snoc_cases {α : Type} {xs : List α} {y z : α} {j : Nat} (h : (xs ++ [y])[j]? = some z) : xs[j]? = some z \/ (j = xs.length /\ z = y):=by
 rcases Nat.lt_or_ge j xs.length with q | q
 ·rw [List.getElem?_append_left q] at h
  exact .inl h
 ·rw [List.getElem?_append_right q] at h
  rcases Nat.lt_or_ge (j - xs.length) 1 with p | p
  ·have e : j = xs.length:=by omega
   subst e
   rw [Nat.sub_self] at h
   exact .inr ⟨rfl,(Option.some.inj h).symm⟩
  ·rw [List.getElem?_eq_none (by simpa using p)] at h
   cases h
theorem PairsV.same {H H' : Hp} {ts : List Addr} {kvs : List (Key × V)} (h : PairsV H ts kvs) (s : ∀ b xs,H b = some (.tup xs) -> H' b = some (.tup xs)) : PairsV H' ts kvs:=Paired.mapP h fun _ _ q => s _ _ q
theorem sQ : ∀ {gs ks : LI},(ks ++ gs).Nodup -> gE (kvT ks) (kvT gs) = kvT (ks ++ gs)
 | [],ks,_ => by rw [List.append_nil]; rfl
 | g :: gs,ks,nd => by
  have hg : g ∉ ks:=fun z => (List.nodup_append.mp nd).2.2 g z g List.mem_cons_self rfl
  show gE (putK (kvT ks) (Sum.inl g) (V.bl true)) (kvT gs) = _
  rw [qG hg,sQ (by rw [List.append_assoc]; exact nd),List.append_assoc]
  rfl
theorem vH {gs : LI} (nd : gs.Nodup) : gE [] (kvT gs) = kvT gs:=sQ (ks:=[]) nd
structure BackOk (H0 H : Hp) (B : Addr) (es : List (Int × Addr)) (P : Int -> LI -> Prop) : Prop where
 at_ : H B = some (.dK (kvL es))
 nd : (es.map Prod.fst).Nodup
 nd2 : (es.map Prod.snd).Nodup
 fresh : ∀ e ∈ es,H0 e.2 = none
 lst : ∀ e ∈ es,∃ ls : LI,H e.2 = some (.lst (ls.map V.int)) /\ P e.1 ls
 non : ∀ q,q ∉ es.map Prod.fst -> P q []
theorem BackOk.get {H0 H : Hp} {B : Addr} {es : List (Int × Addr)} {P : Int -> LI -> Prop} (b : BackOk H0 H B es P) {q : Int} {v : V} (h : di (kvL es) (Sum.inl q) = some v) : ∃ la ls,v = .ref la /\ (q,la) ∈ es /\ H la = some (.lst (ls.map V.int)) /\ P q ls:=by
 have hm : q ∈ es.map Prod.fst:=Classical.byContradiction fun z => by rw [sF z] at h; cases h
 obtain ⟨e,he,rfl⟩:=List.mem_map.mp hm
 obtain ⟨j,hj⟩:=List.mem_iff_getElem?.mp he
 have:=qF b.nd (q:=e.1) (a:=e.2) hj
 rw [this] at h
 obtain ⟨ls,h1,h2⟩:=b.lst e he
 exact ⟨e.2,ls,(Option.some.inj h).symm,he,h1,h2⟩
theorem ya {es : List (Int × Addr)} (nd : (es.map Prod.fst).Nodup) {e e' : Int × Addr} (h : e ∈ es) (h' : e' ∈ es) (q : e.1 = e'.1) : e = e' := by
 obtain ⟨i,hi,ei⟩:=List.getElem_of_mem h
 obtain ⟨j,hj,ej⟩:=List.getElem_of_mem h'
 have : (es.map Prod.fst)[i]'(by simpa using hi) = (es.map Prod.fst)[j]'(by simpa using hj):=by simp [ei,ej,q]
 have:=(List.getElem_inj nd).mp this
 subst this
 rw [<- ei,<- ej]
theorem yD {es : List (Int × Addr)} (nd : (es.map Prod.snd).Nodup) {e e' : Int × Addr} (h : e ∈ es) (h' : e' ∈ es) (q : e.2 = e'.2) : e = e' := by
 obtain ⟨i,hi,ei⟩:=List.getElem_of_mem h
 obtain ⟨j,hj,ej⟩:=List.getElem_of_mem h'
 have : (es.map Prod.snd)[i]'(by simpa using hi) = (es.map Prod.snd)[j]'(by simpa using hj):=by simp [ei,ej,q]
 have:=(List.getElem_inj nd).mp this
 subst this
 rw [<- ei,<- ej]
theorem BackOk.old {H0 H : Hp} {B la : Addr} {es : List (Int × Addr)} {P P' : Int -> LI -> Prop} {q h : Int} {ls : LI} (b : BackOk H0 H B es P) (hm : (q,la) ∈ es) (hla : H la = some (.lst (ls.map V.int))) (hp : P' q (ls ++ [h])) (ho : ∀ p ls,p ≠ q -> P p ls -> P' p ls) :
  BackOk H0 (upd H la (.lst (ls.map V.int ++ [.int h]))) B es P' where
 at_:=by rw [ao (cY b.at_ hla (by intro z; cases z))]; exact b.at_
 nd:=b.nd
 nd2:=b.nd2
 fresh:=b.fresh
 lst:=fun e he => by
  by_cases c : e.2 = la
  ·have:=yD b.nd2 he hm c
   subst this
   exact ⟨ls ++ [h],by rw [ae,List.map_append]; rfl,hp⟩
  ·obtain ⟨ms,h1,h2⟩:=b.lst e he
   refine ⟨ms,by rw [ao c]; exact h1,ho _ _ (fun z => c ?_) h2⟩
   have:=ya b.nd he hm z
   rw [this]
 non:=fun p hp' => ho p [] (fun z => hp' (by rw [z]; exact List.mem_map.mpr ⟨_,hm,rfl⟩)) (b.non p hp')
theorem BackOk.new {H0 H : Hp} {B L : Addr} {es : List (Int × Addr)} {P P' : Int -> LI -> Prop} {q h : Int} (b : BackOk H0 H B es P) (hq : q ∉ es.map Prod.fst) (hL : H L = some (.lst [])) (fL : H0 L = none) (nL : ∀ e ∈ es,e.2 ≠ L) (hp : P' q [h]) (ho : ∀ p ls,p ≠ q -> P p ls -> P' p ls) :
  BackOk H0 (upd (upd H B (.dK (putK (kvL es) (Sum.inl q) (.ref L)))) L (.lst [.int h])) B (es ++ [(q,L)]) P' where
 at_:=by rw [ao (cY b.at_ hL (by intro z; cases z)),ae,yd hq]
 nd:=by rw [List.map_append]; exact jR b.nd hq
 nd2:=by
  rw [List.map_append]
  refine jR b.nd2 fun z => ?_
  obtain ⟨e,he,e2⟩:=List.mem_map.mp z
  exact nL e he e2
 fresh:=fun e he => by
  rcases ma_.mp he with z | z
  ·exact b.fresh e z
  ·rw [List.mem_singleton.mp z]; exact fL
 lst:=fun e he => by
  rcases ma_.mp he with z | z
  ·obtain ⟨ms,h1,h2⟩:=b.lst e z
   refine ⟨ms,by rw [ao (nL e z),ao (cY h1 b.at_ (by intro z; cases z))]; exact h1,ho _ _ (fun y => hq ?_) h2⟩
   rw [<- y]
   exact List.mem_map.mpr ⟨e,z,rfl⟩
  ·rw [List.mem_singleton.mp z]
   exact ⟨[h],by rw [ae]; rfl,hp⟩
 non:=fun p hp' => by
  rw [List.map_append] at hp'
  exact ho p [] (fun z => hp' (by rw [z]; exact List.mem_append_right _ List.mem_cons_self)) (b.non p fun z => hp' (List.mem_append_left _ z))
theorem BackOk.keep {H0 H H' : Hp} {B : Addr} {es : List (Int × Addr)} {P : Int -> LI -> Prop} (b : BackOk H0 H B es P) (hB : H' B = H B) (hl : ∀ e ∈ es,H' e.2 = H e.2) : BackOk H0 H' B es P where
 at_:=by rw [hB]; exact b.at_
 nd:=b.nd
 nd2:=b.nd2
 fresh:=b.fresh
 lst:=fun e he => by rw [hl e he]; exact b.lst e he
 non:=b.non
theorem BackOk.same {H0 H H' : Hp} {B : Addr} {es : List (Int × Addr)} {P : Int -> LI -> Prop} (b : BackOk H0 H B es P) (s : Same H H') : BackOk H0 H' B es P where
 at_:=s _ _ b.at_
 nd:=b.nd
 nd2:=b.nd2
 fresh:=b.fresh
 lst:=fun e he => by
  obtain ⟨ls,h1,h2⟩:=b.lst e he
  exact ⟨ls,s _ _ h1,h2⟩
 non:=b.non
theorem BackOk.weak {H0 H : Hp} {B : Addr} {es : List (Int × Addr)} {P P' : Int -> LI -> Prop} (b : BackOk H0 H B es P) (h : ∀ q ls,P q ls -> P' q ls) : BackOk H0 H B es P' :=
 ⟨b.at_,b.nd,b.nd2,b.fresh,fun e he => by
  obtain ⟨ls,h1,h2⟩:=b.lst e he
  exact ⟨ls,h1,h _ _ h2⟩,fun q hq => h _ _ (b.non q hq)⟩
theorem bC {xs : LI} {j : Nat} {t p : Int} (h : xs[j]? = some t) : p ∈ xs.take (j + 1) ↔ p ∈ xs.take j \/ p = t:=by
 rw [List.take_add_one,h,List.mem_append]
 show _ \/ p ∈ [t] ↔ _
 rw [List.mem_singleton]
def LeadsTo (rows : LL) (fs gs : LI) (q : Int) : Prop := ∃ row : LI,(∀ f ∈ row,f ∈ fs) /\ aI rows row q ∈ gs
theorem LeadsTo.goal {rows : LL} {fs gs : LI} {q : Int} (h : q ∈ gs) : LeadsTo rows fs gs q:=⟨[],(fun f z => by cases z),h⟩
theorem LeadsTo.step {rows : LL} {fs gs : LI} {q f : Int} (hf : f ∈ fs) (h : LeadsTo rows fs gs (stepI rows q f)) : LeadsTo rows fs gs q:=by
 obtain ⟨row,h1,h2⟩:=h
 refine ⟨f :: row,fun g hg => ?_,h2⟩
 rcases List.mem_cons.mp hg with z | z
 ·rw [z]; exact hf
 ·exact h1 g z
def PB (rows : LL) (fs : LI) (many n i j : Nat) (q : Int) (ls : LI) : Prop:=ls.length <= n /\ (∀ h ∈ ls,(0 <= h /\ h < (many : Int)) /\ ∃ f ∈ fs,stepI rows h f = q) /\ ∀ (h : Nat) (f : Int),((h < i /\ f ∈ fs) \/ (h = i /\ f ∈ fs.take j)) -> stepI rows h f = q -> (h : Int) ∈ ls
def rB (K : PySem.W.Frag) : Sp:=fun vs H Q _ => ∃ (m r g gl tk : Addr) (many wide : Nat) (rows : LL) (signs gs fs : LI),vs = [.ref m,.ref gl,.ref tk] /\ MachAt H m r g wide rows signs /\ RowsOk many wide rows /\ (1 <= many /\ many <= 400) /\ (1 <= wide /\ wide <= 400) /\
 H gl = some (.lst (gs.map V.int)) /\ gs.Nodup /\ (∀ q ∈ gs,0 <= q /\ q < (many : Int)) /\ H tk = some (.tup (fs.map V.int)) /\ fs.length <= 400 /\ (∀ f ∈ fs,0 <= f /\ f < (wide : Int)) /\
 ∀ (D : Addr) (H' : Hp) (ks : LI),Same H H' -> H D = none -> H' D = some (.dK (kvT ks)) -> ks.Nodup -> (∀ q ∈ ks,(0 <= q /\ q < (many : Int)) /\ LeadsTo rows fs gs q) -> (∀ q : Int,0 <= q -> q < (many : Int) -> LeadsTo rows fs gs q -> q ∈ ks) -> Q (.ref D) H'
section
variable {P : Program} {w : World} {K : PySem.W.Frag} {mg : Str -> Option Value} {base : Heap} {f : Addr} {fd : FuncData} {dV : Value}
theorem sc_rooms_leading_to : FnScope ["machine","goals","taken","back","here","row","figure","waiting","leading","there"] ["machine","goals","taken"] (ai aS):=⟨rfl,rfl,rfl,by decide +kernel,rfl,by decide +kernel,by decide +kernel⟩
theorem bk_rooms_leading_to_0 : BlkScope ["machine","goals","taken","back","here","row","figure","waiting","leading","there"] (ai aS) ["here"] [none] { kind:=ScopeKind.function,names:=[(".0",NameKind.local),("here",NameKind.local)],isGenerator:=false,isCoroutine:=false,more:=[] }:=⟨rfl,by decide +kernel,by decide +kernel,by decide +kernel,by decide +kernel,rfl,by decide +kernel⟩
theorem xl (F : FunD K "rooms_leading_to" "rooms_leading_to" aS dV f fd) (cI : mg "enumerate" = none) (dc : mg "list" = none) (uK : mg "dict" = none) : FnOk P w K mg base CX0 1 f fd ["machine","goals","taken"] (rB K):=by
 refine F.ok sc_rooms_leading_to (fun vs H Q E h => ?_) (fun cdv A outer s H vs Q E hr h => ?_)
 ·obtain ⟨m,r,g,gl,tk,many,wide,rows,signs,gs,fs,rfl,_⟩:=h
  rfl
 obtain ⟨m,r,g,gl,tk,many,wide,rows,signs,gs,fs,rfl,M,R,⟨n0,n1⟩,⟨w0,w1⟩,hgl,ndg,hgs,htk,lfs,hfs,k⟩:=h
 obtain ⟨ras,hr',hA⟩:=M.rows
 have hu:=wX hr
 refine ⟨_,(af (au (i:=3) sc_rooms_leading_to.nd rfl (Or.inl rfl) tw)
   (af (bw PassesOwn.never rfl (tD rfl cI (aa (aB a8 (pv 0) ah (fun _ _ => rfl)) ag)) (xC rfl (jV (aE (i:=4) sc_rooms_leading_to.nd rfl (Or.inl rfl)) (jV (aE (i:=5) sc_rooms_leading_to.nd rfl (Or.inl rfl)) u5))) (ak (bw PassesOwn.never rfl (kB (pv 2)) (aE (i:=6) sc_rooms_leading_to.nd rfl (Or.inl rfl)) (ak (aY (eB PySem.F.plainAttrs_list PySem.F.slot_list_append PySem.F.type_list_append aV (yt (pv 3) (aB a8 (pv 5) (pv 6) (fun _ _ => rfl)) (bq ag) ⟨rfl,rfl,rfl,rfl⟩) (aa (pv 4) ag)))))))
   (af (au (i:=7) sc_rooms_leading_to.nd rfl (Or.inl rfl) (bO f7 (by rfl) dc jz (aa (pv 1) ag)))
   (af (au (i:=8) sc_rooms_leading_to.nd rfl (Or.inl rfl) (bO (rS rfl) (by rfl) uK x5 (aa (gF rfl bk_rooms_leading_to_0 (cZ (pv 7)) (fun _ _ _ _ => (aE (i:=0) bk_rooms_leading_to_0.nd rfl (Or.inl rfl))) (fun _ _ _ _ => (q8 (aa (pv 0) (aa jU ag))))) ag)))
   (af (eC PassesOwn.never (jY (pv 7) (fun _ => rfl)) (af (au (i:=4) sc_rooms_leading_to.nd rfl (Or.inl rfl) (xu PySem.F.plainAttrs_list PySem.F.slot_list_pop PySem.F.type_list_pop xg (pv 7)))
   (ak (bw PassesOwn.never rfl (xD (xx hu (pv 3) (pv 4) (q8 ag) ⟨rfl,rfl,rfl,rfl⟩)) (aE (i:=9) sc_rooms_leading_to.nd rfl (Or.inl rfl)) (ak (bT (ur (p8 hu (pv 9) (pv 8)) (by with_unfolding_all rfl)) (af (u6 hu (pv 8) (pv 9) jU rfl)
   (ak (aY (eB PySem.F.plainAttrs_list PySem.F.slot_list_append PySem.F.type_list_append aV (pv 7) (aa (pv 9) ag))))) aZ))))))
   (ak (aG (pv 8)))))))),?_⟩
 refine fun B hB => ?_
 have kr0 : ∀ e ∈ ([] : List (Int × Addr)),0 <= e.1 /\ e.1 < (many : Int):=fun e h => by cases h
 have b0 : BackOk H (upd H B (.dK [])) B [] (PB rows fs many 0 0 0):=⟨ae,List.Pairwise.nil,List.Pairwise.nil,(fun e h => by cases h),(fun e h => by cases h),(fun q _ => ⟨Nat.le_refl _,(fun h z => by cases z),fun h f z _ => by
  rcases z with z | z
  ·omega
  ·have:=z.2
   simp at this⟩)⟩
 try dsimp only [aL]
 refine d6 (t:=nN _ _ _) (fun σ' H' => ∃ (es : List (Int × Addr)) (v1 v2 v3 : OV),σ' = [some (.ref m),some (.ref gl),some (.ref tk),some (.ref B),v1,v2,v3,none,none,none] /\ Same H H' /\ BackOk H H' B es (PB rows fs many (rows.length * fs.length) rows.length 0)) ?_ (fun D' nxt => ?_)
 rotate_left
 ·have s0:=aj hB (HO.dK [])
  refine ⟨_,rfl,m,_,_,_,rfl,rfl,qT_ (s0 _ _ M.tup),rfl,r,rfl,⟨_,qT_ (s0 _ _ hr')⟩,vv (K:=K) (xs:=ras.map V.ref) (fun i σ' H' => ∃ (es : List (Int × Addr)) (v1 v2 v3 : OV),σ' = [some (.ref m),some (.ref gl),some (.ref tk),some (.ref B),v1,v2,v3,none,none,none] /\ Same H H' /\ (∀ e ∈ es,0 <= e.1 /\ e.1 < (many : Int)) /\ BackOk H H' B es (PB rows fs many (i * fs.length) i 0))
   ⟨[],none,none,none,rfl,s0,kr0,by rw [Nat.zero_mul]; exact b0⟩ (fun i σ' H' _ ⟨_,_,_,_,_,e,_⟩ => qT_ (e _ _ hr')) ?_ ?_⟩
  ·rintro i y σ' H1 T hi ⟨es,v1,v2,v3,rfl,s1,kr1,b1⟩ hT
   have il : i < rows.length:=by
    have:=(gi_ hi).1
    rw [lm_,hA.length] at this
    exact this
   obtain ⟨ra,e1,e2⟩:=hA.get il
   have ey : y = .ref ra:=by rw [List.getElem?_map,e1] at hi; exact (Option.some.inj hi).symm
   subst ey
   have im : i < many:=by rw [<- R.len]; exact il
   have lrow : rows[i].length = wide:=R.row _ (List.getElem_mem il)
   have sT:=aj hT (HO.tup [V.int i,V.ref ra])
   have big : i * fs.length + fs.length <= 400 * 400 + 400:=by
    have:=Nat.mul_le_mul (show i <= 400 by omega) lfs
    omega
   refine ⟨T,_,rfl,qT_ ae,rfl,_,_,rfl,_,_,rfl,rfl,?_⟩
   refine ⟨_,rfl,tk,rfl,⟨_,qT_ (sT _ _ (s1 _ _ htk))⟩,jF (K:=K) (xs:=fs.map V.int) (fun j σ' H' => ∃ (es : List (Int × Addr)) (v3 : OV),σ' = [some (.ref m),some (.ref gl),some (.ref tk),some (.ref B),some (.int i),some (.ref ra),v3,none,none,none] /\ Same H H' /\ (∀ e ∈ es,0 <= e.1 /\ e.1 < (many : Int)) /\ BackOk H H' B es (PB rows fs many (i * fs.length + j) i j))
    ⟨es,v3,rfl,s1.trans sT,kr1,b1.same sT⟩ (fun j σ' H' _ ⟨_,_,_,e,_⟩ => qT_ (e _ _ htk)) ?_ ?_⟩
   ·rintro j y σ' H2 hj ⟨es,v3,rfl,s2,kr2,b2⟩
    obtain ⟨fi,rfl,hfi⟩:=bb hj
    have jl : j < fs.length:=(gi_ hfi).1
    have fm:=mq_ hfi
    have fr:=hfs fi fm
    have es0 : (rows[i]).getD fi.toNat 0 = stepI rows (i : Int) fi:=by
     unfold stepI
     rw [Int.toNat_natCast,getD_at il]
    have at1 : atI (rows[i].map V.int) fi = some (.int (stepI rows (i : Int) fi)):=by
     rw [bp fr.1 (by rw [lrow]; exact fr.2),es0]
    refine ⟨_,rfl,B,rfl,.inl ⟨_,.inl b2.at_⟩,_,rfl,_,rfl,ra,_,_,_,rfl,rfl,qT_ (s2 _ _ e2),at1,(by show 0 <= sizeLine; decide),fun L hL => ?_⟩
    have sL:=aj hL (HO.lst [])
    have b3:=b2.same sL
    have nL : ∀ e ∈ es,e.2 ≠ L:=fun e he z => by
     obtain ⟨ls,h1,_⟩:=b2.lst e he
     rw [z,hL] at h1
     cases h1
    have nLB : B ≠ L:=aq b2.at_ hL
    have fL : H L = none:=s2.free hL
    have stq:=aR R (show (0 : Int) <= (i : Int) by omega) (by omega) fr.1 fr.2
    have few:=bK many b3.nd (fun q hq => by
     obtain ⟨e,he,rfl⟩:=List.mem_map.mp hq
     exact kr2 e he)
    rw [lm_] at few
    have len : (kvL es).length < sizeLine:=aA (by unfold kvL; rw [lm_]; omega)
    have oth : ∀ (p : Int) (ls : LI),p ≠ stepI rows (i : Int) fi -> PB rows fs many (i * fs.length + j) i j p ls -> PB rows fs many (i * fs.length + (j + 1)) i (j + 1) p ls:=fun p ls np z => ⟨by have:=z.1; omega,z.2.1,fun h f c e => by
     rcases c with c | ⟨rfl,c⟩
     ·exact z.2.2 h f (.inl c) e
     ·rcases (bC hfi).mp c with d | d
      ·exact z.2.2 h f (.inr ⟨rfl,d⟩) e
      ·rw [d] at e; exact absurd e.symm np⟩
    have one : (0 <= (i : Int) /\ (i : Int) < (many : Int)) /\ ∃ f ∈ fs,stepI rows (i : Int) f = stepI rows (i : Int) fi:=⟨⟨by omega,by omega⟩,fi,fm,rfl⟩
    have grow : ∀ ls : LI,PB rows fs many (i * fs.length + j) i j (stepI rows (i : Int) fi) ls -> PB rows fs many (i * fs.length + (j + 1)) i (j + 1) (stepI rows (i : Int) fi) (ls ++ [(i : Int)]):=fun ls z => ⟨by rw [List.length_append,List.length_singleton]; have:=z.1; omega,fun h hh => by
      rcases ma_.mp hh with y | y
      ·exact z.2.1 h y
      ·rw [List.mem_singleton.mp y]; exact one,fun h f c e => by
      rcases c with c | ⟨rfl,c⟩
      ·exact List.mem_append_left _ (z.2.2 h f (.inl c) e)
      ·exact List.mem_append_right _ List.mem_cons_self⟩
    refine ⟨_,Sum.inl (stepI rows (i : Int) fi),b3.at_,rfl,len,fun v hv => ?_,fun hn => ?_⟩
    ·obtain ⟨la,ls,rfl,hm,hla,hp⟩:=b3.get hv
     have lz : (ls.map V.int).length < sizeLine:=Nat.lt_of_le_of_lt (show _ <= 1000000 by rw [lm_]; have:=hp.1; omega) (by decide)
     refine ⟨.inl ⟨rfl,_,qL_ hla⟩,_,rfl,la,_,_,rfl,rfl,hla,lz,?_⟩
     refine ⟨es,_,rfl,aw (s2.trans sL) (b2.fresh _ hm),kr2,b3.old hm hla (grow ls hp) oth⟩
    ·have hq : stepI rows (i : Int) fi ∉ es.map Prod.fst:=fun z => by
      obtain ⟨e,he,ee⟩:=List.mem_map.mp z
      obtain ⟨jj,hjj⟩:=List.mem_iff_getElem?.mp he
      have:=qF b3.nd (q:=e.1) (a:=e.2) hjj
      rw [ee,hn] at this
      cases this
     have hL3 : (upd (upd H2 L (HO.lst [])) B (HO.dK (putK (kvL es) (Sum.inl (stepI rows (i : Int) fi)) (V.ref L)))) L = some (.lst []):=by rw [ao (Ne.symm nLB),ae]
     refine ⟨.inl ⟨rfl,_,qL_ hL3⟩,_,rfl,L,_,_,rfl,rfl,hL3,(by show 0 < sizeLine; decide),?_⟩
     refine ⟨es ++ [(stepI rows (i : Int) fi,L)],_,rfl,aw (aw (s2.trans sL) hB) fL,fun e he => ?_,b3.new hq ae fL nL (grow [] (b3.non _ hq)) oth⟩
     rcases ma_.mp he with z | z
     ·exact kr2 e z
     ·rw [List.mem_singleton.mp z]; exact stq
   ·rintro σ' H2 ⟨es,v3,rfl,s2,kr2,b2⟩
    rw [lm_] at b2
    refine ⟨es,_,_,_,rfl,s2,kr2,b2.weak fun q ls z => ⟨by rw [Nat.succ_mul]; exact z.1,z.2.1,fun h f c e => ?_⟩⟩
    rcases c with c | c
    ·rcases Nat.lt_or_ge h i with d | d
     ·exact z.2.2 h f (.inl ⟨d,c.2⟩) e
     ·exact z.2.2 h f (.inr ⟨by omega,by rw [List.take_length]; exact c.2⟩) e
    ·have:=c.2
     simp at this
  ·rintro σ' H1 ⟨es,v1,v2,v3,rfl,s1,kr1,b1⟩
   rw [lm_,hA.length] at b1
   exact nxt _ _ ⟨es,_,_,_,rfl,s1,b1⟩
 rintro σ' H1 ⟨es,v1,v2,v3,rfl,s1,b1⟩
 refine ⟨_,rfl,gl,_,rfl,.inl (qL_ (s1 _ _ hgl)),fun W hW => ?_⟩
 have sW:=aj hW (HO.lst (gs.map V.int))
 have fW : H W = none:=s1.free hW
 refine ⟨_,rfl,W,rfl,⟨_,qL_ ae⟩,?_⟩
 refine kc (K:=K) (xs:=gs.map V.int) (fun D i ys H' => Same (upd H1 W (HO.lst (gs.map V.int))) H' /\ ∃ ts,ys = ts.map V.ref /\ PairsV H' ts (kvT (gs.take i))) (fun D hD => ⟨aj hD _,[],rfl,.nil⟩) (fun D i ys H' _ ⟨e,_⟩ => qL_ (e _ _ ae)) ?_ ?_
 ·rintro D i y ys H' Q' hD hi hy ⟨hs,ts,rfl,pv⟩ k'
  obtain ⟨q,rfl,hq⟩:=bb hi
  have il : i < gs.length:=(gi_ hq).1
  have gl4:=bK many ndg hgs
  refine ⟨_,rfl,(by show 2 <= sizeLine; decide),fun T hT => ?_⟩
  have sT:=aj hT (HO.tup [V.int q,V.bl true])
  have nD : D ≠ T:=aq hy hT
  have lts : ts.length = i:=by
   rw [Paired.length pv]
   unfold kvT
   rw [lm_,List.length_take]
   omega
  have hyT : (upd H' T (HO.tup [V.int q,V.bl true])) D = some (.lst (ts.map V.ref)):=by rw [ao nD]; exact hy
  refine k' _ _ hyT (aA (by rw [lm_]; omega)) ⟨aw (aw hs (hs.free hT)) hD,ts ++ [T],by rw [List.map_append]; rfl,?_⟩
  rw [List.take_add_one,hq]
  have up : ∀ b xs,(upd H' T (HO.tup [V.int q,V.bl true])) b = some (.tup xs) -> (upd (upd H' T (HO.tup [V.int q,V.bl true])) D (.lst (ts.map V.ref ++ [V.ref T]))) b = some (.tup xs):=fun b xs e => by
   rw [ao (cY e hyT (by intro z; cases z))]; exact e
  show PairsV _ _ (kvT (gs.take i ++ [q]))
  unfold kvT
  rw [List.map_append]
  exact Paired.snoc (PairsV.same pv fun b xs e => up b xs (sT _ _ e)) (up _ _ ae)
 rintro L ys H2 fL hL ⟨s2,ts,rfl,pv⟩
 rw [lm_,List.take_length] at pv
 refine ⟨L,ts,_,rfl,hL,pv,fun D hD => ?_⟩
 rw [vH ndg]
 have s3:=s2.trans (aj hD (HO.dK (kvT gs)))
 have fD : H D = none:=(s1.trans sW).free (s2.free hD)
 have hW3:=s3 _ _ (show (upd H1 W (HO.lst (gs.map V.int))) W = _ from ae)
 have hWD : W ≠ D:=cY hW3 (show (upd H2 D (HO.dK (kvT gs))) D = some (.dK (kvT gs)) from ae) (by intro z; cases z)
 have b3 : BackOk H (upd H2 D (HO.dK (kvT gs))) B es (PB rows fs many (rows.length * fs.length) rows.length 0):=(b1.same sW).same s3
 have nW : ∀ e ∈ es,e.2 ≠ W:=fun e he z => by
  obtain ⟨ls,h1,_⟩:=b1.lst e he
  rw [z,hW] at h1
  cases h1
 have nBD : B ≠ D:=fun z => by
  have:=(b1.same sW).same s2
  rw [<- z,this.at_] at hD
  cases hD
 have neD : ∀ e ∈ es,e.2 ≠ D:=fun e he z => by
  obtain ⟨ls,h1,_⟩:=((b1.same sW).same s2).lst e he
  rw [z,hD] at h1
  cases h1
 try dsimp only [aL]
 refine d6 (t:=h9 _ _) (fun σ' H' => ∃ (ks : LI) (v1 v2 v3 v4 : OV),σ' = [some (.ref m),some (.ref gl),some (.ref tk),some (.ref B),v1,v2,v3,some (.ref W),some (.ref D),v4] /\ Same H H' /\ H' D = some (.dK (kvT ks)) /\ ks.Nodup /\ (∀ q ∈ ks,(0 <= q /\ q < (many : Int)) /\ LeadsTo rows fs gs q) /\ (∀ q ∈ gs,q ∈ ks) /\ (∀ q ∈ ks,∀ (h : Nat) (f : Int),h < many -> f ∈ fs -> stepI rows h f = q -> (h : Int) ∈ ks)) ?_ (fun D' nxt => ?_)
 rotate_left
 ·refine gI (fun mm σ' H' => ∃ (ks ws : LI) (v1 v2 v3 v4 : OV),mm = 2 * (many - ks.length) + ws.length /\ σ' = [some (.ref m),some (.ref gl),some (.ref tk),some (.ref B),v1,v2,v3,some (.ref W),some (.ref D),v4] /\ Same H H' /\ H' D = some (.dK (kvT ks)) /\ H' W = some (.lst (ws.map V.int)) /\ ks.Nodup /\ (∀ q ∈ ks,(0 <= q /\ q < (many : Int)) /\ LeadsTo rows fs gs q) /\ (∀ q ∈ ws,q ∈ ks) /\ ws.length <= ks.length /\ (∀ q ∈ gs,q ∈ ks) /\ (∀ q ∈ ks,q ∉ ws -> ∀ (h : Nat) (f : Int),h < many -> f ∈ fs -> stepI rows h f = q -> (h : Int) ∈ ks) /\ BackOk H H' B es (PB rows fs many (rows.length * fs.length) rows.length 0))
   ⟨_,gs,gs,v1,v2,v3,none,rfl,rfl,s1.trans (sW.trans s3),ae,hW3,ndg,fun q hq => ⟨hgs q hq,LeadsTo.goal hq⟩,fun q h => h,Nat.le_refl _,fun q h => h,fun q h n => absurd h n,b3⟩ ?_
  rintro mm σ' H4 ⟨ks,ws,v1,v2,v3,v4,rfl,rfl,s4,hD4,hW4,ndk,hk,hwk,lw,hgk,hcl,b4⟩
  have kl:=bK many ndk fun q hq => (hk q hq).1
  by_cases en : ws = []
  ·subst en
   refine ⟨_,rfl,_,.inl ⟨_,qL_ hW4,rfl⟩,jb ?_⟩
   exact nxt _ _ ⟨ks,_,_,_,_,rfl,s4,hD4,ndk,hk,hgk,fun q hq => hcl q hq (fun z => by cases z)⟩
  refine ⟨_,rfl,_,.inl ⟨_,qL_ hW4,rfl⟩,?_⟩
  have ne : (!(ws.map V.int).isEmpty) = true:=by
   cases ws with
   | nil => exact absurd rfl en
   | cons x r => rfl
  rw [ne]
  refine jJ ⟨fun σ' H' => ∃ m',m' < 2 * (many - ks.length) + ws.length /\ ∃ (ks ws : LI) (v1 v2 v3 v4 : OV),m' = 2 * (many - ks.length) + ws.length /\ σ' = [some (.ref m),some (.ref gl),some (.ref tk),some (.ref B),v1,v2,v3,some (.ref W),some (.ref D),v4] /\ Same H H' /\ H' D = some (.dK (kvT ks)) /\ H' W = some (.lst (ws.map V.int)) /\ ks.Nodup /\ (∀ q ∈ ks,(0 <= q /\ q < (many : Int)) /\ LeadsTo rows fs gs q) /\ (∀ q ∈ ws,q ∈ ks) /\ ws.length <= ks.length /\ (∀ q ∈ gs,q ∈ ks) /\ (∀ q ∈ ks,q ∉ ws -> ∀ (h : Nat) (f : Int),h < many -> f ∈ fs -> stepI rows h f = q -> (h : Int) ∈ ks) /\ BackOk H H' B es (PB rows fs many (rows.length * fs.length) rows.length 0),fun σ' H' h => h,?_⟩
  have wl : 0 < ws.length:=by
   cases ws with
   | nil => exact absurd rfl en
   | cons x r => exact Nat.succ_pos _
  have lastI : ws.length - 1 < ws.length:=by omega
  obtain ⟨here,hlast⟩ : ∃ here,ws[ws.length - 1]? = some here:=⟨_,List.getElem?_eq_getElem lastI⟩
  have hks:=hwk here (mq_ hlast)
  refine ⟨_,rfl,.inl ⟨rfl,_,qL_ hW4⟩,W,_,V.int here,rfl,rfl,hW4,by rw [lm_,List.getElem?_map,hlast]; rfl,?_⟩
  have eDL : (ws.map V.int).dropLast = ws.dropLast.map V.int:=by rw [List.map_dropLast]
  rw [eDL]
  have nBW : B ≠ W:=cY b4.at_ hW4 (by intro z; cases z)
  have b5 : BackOk H (upd H4 W (HO.lst (ws.dropLast.map V.int))) B es (PB rows fs many (rows.length * fs.length) rows.length 0):=b4.keep (by rw [ao nBW]) fun e he => by rw [ao (nW e he)]
  have hD5 : (upd H4 W (HO.lst (ws.dropLast.map V.int))) D = some (.dK (kvT ks)):=by rw [ao (Ne.symm hWD)]; exact hD4
  have sub5 : ∀ q ∈ ws.dropLast,q ∈ ks:=fun q hq => hwk q (List.dropLast_subset _ hq)
  have ld5 : ws.dropLast.length = ws.length - 1:=List.length_dropLast
  have last5 : ∀ q,q ∈ ws -> q ∉ ws.dropLast -> q = here:=fun q h1 h2 => by
   have hl : ws.length - 1 + 1 = ws.length:=by omega
   have h3 : q ∈ ws.take (ws.length - 1 + 1):=by rw [hl,List.take_length]; exact h1
   rcases (bC hlast).mp h3 with z | z
   ·exact absurd (by rw [List.dropLast_eq_take]; exact z) h2
   ·exact z
  have cl5 : ∀ q ∈ ks,q ∉ ws.dropLast -> q ≠ here -> ∀ (h : Nat) (f : Int),h < many -> f ∈ fs -> stepI rows h f = q -> (h : Int) ∈ ks:=fun q hq h1 h2 => hcl q hq fun z => h2 (last5 q z h1)
  refine ⟨_,rfl,B,rfl,.inl ⟨_,.inl b5.at_⟩,_,rfl,(by show 0 <= sizeLine; decide),fun t0 ht0 => ?_⟩
  have st0:=aj ht0 (HO.tup [])
  have b6:=b5.same st0
  refine ⟨_,DGet.k (k:=Sum.inl here) b6.at_,?_⟩
  have hD6:=st0 _ _ hD5
  have hW6:=st0 _ _ (show (upd H4 W (HO.lst (ws.dropLast.map V.int))) W = _ from ae)
  have s6 : Same H (upd (upd H4 W (HO.lst (ws.dropLast.map V.int))) t0 (HO.tup [])):=(aw s4 fW).trans st0
  cases hv : di (kvL es) (Sum.inl here) with
  | none =>
   refine ⟨t0,rfl,.inr ⟨⟨_,qT_ ae⟩,?_⟩⟩
   refine jF (K:=K) (xs:=[]) (fun i σ' H' => ∃ v4 v3,σ' = [some (.ref m),some (.ref gl),some (.ref tk),some (.ref B),some (.int here),v2,v3,some (.ref W),some (.ref D),v4] /\ H' = (upd (upd H4 W (HO.lst (ws.dropLast.map V.int))) t0 (HO.tup []))) ⟨_,_,rfl,rfl⟩ (fun i σ' H' _ ⟨_,_,_,e⟩ => by rw [e]; exact qT_ ae) (fun i x σ' H' hx _ => by simp at hx) ?_
   rintro σ' H' ⟨v4,v3,rfl,rfl⟩
   exact ⟨_,(by rw [ld5]; omega : 2 * (many - ks.length) + ws.dropLast.length < _),ks,ws.dropLast,_,_,_,_,rfl,rfl,s6,hD6,hW6,ndk,hk,sub5,by omega,hgk,(fun q hq hn h f hh hf e => by
    by_cases c : q = here
    ·subst c
     have np : q ∉ es.map Prod.fst:=fun z => by
      obtain ⟨e',he',ee⟩:=List.mem_map.mp z
      obtain ⟨jj,hjj⟩:=List.mem_iff_getElem?.mp he'
      have:=qF b6.nd (q:=e'.1) (a:=e'.2) hjj
      rw [ee,hv] at this
      cases this
     exact absurd ((b6.non q np).2.2 h f (.inl ⟨by rw [R.len]; exact hh,hf⟩) e) (by simp)
    ·exact cl5 q hq hn c h f hh hf e),b6⟩
  | some v =>
   obtain ⟨la,ls,rfl,hm,hla,hp⟩:=b6.get hv
   refine ⟨la,rfl,.inl ⟨⟨_,qL_ hla⟩,?_⟩⟩
   refine cT (K:=K) (xs:=ls.map V.int) (fun i σ' H' => ∃ (ks' ws' : LI) (v4 : OV) (v3 : OV),σ' = [some (.ref m),some (.ref gl),some (.ref tk),some (.ref B),some (.int here),v2,v3,some (.ref W),some (.ref D),v4] /\ Same H H' /\ H' D = some (.dK (kvT ks')) /\ H' W = some (.lst (ws'.map V.int)) /\ ks'.Nodup /\ (∀ q ∈ ks',(0 <= q /\ q < (many : Int)) /\ LeadsTo rows fs gs q) /\ (∀ q ∈ ws',q ∈ ks') /\ ws'.length <= ks'.length /\ (∀ q ∈ gs,q ∈ ks') /\ (∀ q ∈ ks',q ∉ ws' -> q ≠ here -> ∀ (h : Nat) (f : Int),h < many -> f ∈ fs -> stepI rows h f = q -> (h : Int) ∈ ks') /\ (∀ h ∈ ls.take i,h ∈ ks') /\ 2 * (many - ks'.length) + ws'.length < 2 * (many - ks.length) + ws.length /\ here ∈ ks' /\ H' la = some (.lst (ls.map V.int)) /\ BackOk H H' B es (PB rows fs many (rows.length * fs.length) rows.length 0))
    ⟨ks,ws.dropLast,_,_,rfl,s6,hD6,hW6,ndk,hk,sub5,by omega,hgk,cl5,(fun h z => by simp at z),by omega,hks,hla,b6⟩ (fun i σ' H' _ ⟨_,_,_,_,_,_,_,_,_,_,_,_,_,_,_,_,_,e,_⟩ => qL_ e) ?_ ?_
   ·rintro i y σ' H7 hi ⟨ks',ws',v4,v3,rfl,s7,hD7,hW7,nd7,hk7,sub7,lw7,hg7,cl7,tk7,meas,hh7,hla7,b7⟩
    obtain ⟨th,rfl,hth⟩:=bb hi
    obtain ⟨thr,fi,hfi,stp⟩:=hp.2.1 th (mq_ hth)
    have kl7:=bK many nd7 fun q hq => (hk7 q hq).1
    refine ⟨_,rfl,_,rfl,D,_,rfl,DGet.k (k:=Sum.inl th) hD7,_,rfl,?_⟩
    rw [jN]
    refine sy (fun c => ?_) (fun c => ?_)
    ·refine ⟨_,rfl,_,rfl,D,_,rfl,DPut.k (k:=Sum.inl th) hD7 (aA (by unfold kvT; rw [lm_]; omega)),?_⟩
     rw [qG c]
     have hW8 : (upd H7 D (HO.dK (kvT (ks' ++ [th])))) W = some (.lst (ws'.map V.int)):=by rw [ao hWD]; exact hW7
     have nd8 : (ks' ++ [th]).Nodup:=jR nd7 c
     have hk8 : ∀ q ∈ ks' ++ [th],(0 <= q /\ q < (many : Int)) /\ LeadsTo rows fs gs q:=fun q hq => by
      rcases ma_.mp hq with z | z
      ·exact hk7 q z
      ·rw [List.mem_singleton.mp z]
       exact ⟨thr,LeadsTo.step hfi (by rw [stp]; exact (hk7 here hh7).2)⟩
     have kl8:=bK many nd8 fun q hq => (hk8 q hq).1
     rw [List.length_append,List.length_singleton] at kl8
     refine ⟨_,rfl,.inl ⟨rfl,_,qL_ hW8⟩,_,rfl,W,_,_,rfl,rfl,hW8,aA (by rw [lm_]; omega),?_⟩
     refine ⟨ks' ++ [th],ws' ++ [th],_,_,rfl,aw (aw s7 fD) fW,by rw [ao (Ne.symm hWD),ae],by rw [ae,List.map_append]; rfl,nd8,hk8,?_,by rw [List.length_append,List.length_append,List.length_singleton]; omega,fun q hq => List.mem_append_left _ (hg7 q hq),fun q hq hn nh h f hh hf e => ?_,fun h hh => ?_,by rw [List.length_append,List.length_append,List.length_singleton]; omega,List.mem_append_left _ hh7,?_,?_⟩
     ·intro q hq
      rcases ma_.mp hq with z | z
      ·exact List.mem_append_left _ (sub7 q z)
      ·exact List.mem_append_right _ z
     ·rcases ma_.mp hq with z | z
      ·exact List.mem_append_left _ (cl7 q z (fun y => hn (List.mem_append_left _ y)) nh h f hh hf e)
      ·exact absurd (List.mem_append_right _ z) hn
     ·rcases (bC hth).mp hh with z | z
      ·exact List.mem_append_left _ (tk7 h z)
      ·rw [z]; exact List.mem_append_right _ List.mem_cons_self
     ·rw [ao (nW _ hm),ao (neD _ hm)]; exact hla7
     ·exact b7.keep (by rw [ao nBW,ao nBD]) fun e he => by rw [ao (nW e he),ao (neD e he)]
    ·refine ⟨ks',ws',_,_,rfl,s7,hD7,hW7,nd7,hk7,sub7,lw7,hg7,cl7,fun h hh => ?_,meas,hh7,hla7,b7⟩
     rcases (bC hth).mp hh with z | z
     ·exact tk7 h z
     ·rw [z]; exact c
   ·rintro σ' H7 ⟨ks',ws',v4,v3,rfl,s7,hD7,hW7,nd7,hk7,sub7,lw7,hg7,cl7,tk7,meas,hh7,hla7,b7⟩
    rw [lm_,List.take_length] at tk7
    refine ⟨_,meas,ks',ws',_,_,_,_,rfl,rfl,s7,hD7,hW7,nd7,hk7,sub7,lw7,hg7,fun q hq hn h f hh hf e => ?_,b7⟩
    by_cases c : q = here
    ·subst c
     exact tk7 _ (hp.2.2 h f (.inl ⟨by rw [R.len]; exact hh,hf⟩) e)
    ·exact cl7 q hq hn c h f hh hf e
 rintro σ' H4 ⟨ks,v1,v2,v3,v4,rfl,s4,hD4,ndk,hk,hgk,hcl⟩
 refine ⟨_,rfl,k D H4 ks s4 fD hD4 ndk hk ?_⟩
 have go : ∀ (row : LI) (q : Int),0 <= q -> q < (many : Int) -> (∀ f ∈ row,f ∈ fs) -> aI rows row q ∈ gs -> q ∈ ks:=by
  intro row
  induction row with
  | nil => intro q _ _ _ h; exact hgk q h
  | cons f r ih =>
   intro q q0 q1 hf h
   have fin:=hf f List.mem_cons_self
   have st:=aR R q0 q1 (hfs f fin).1 (hfs f fin).2
   have h2:=ih (stepI rows q f) st.1 st.2 (fun g hg => hf g (List.mem_cons_of_mem _ hg)) h
   obtain ⟨n,rfl⟩:=m9 q0
   exact hcl _ h2 n f (by omega) fin rfl
 exact fun q q0 q1 ⟨row,hr1,hr2⟩ => go row q q0 q1 hr1 hr2
end
def av (b : Int) : LI -> Int
 | [] => 0
 | p :: r => p + b * av b r
def eE (m : Int) : LI -> LI
 | [] => []
 | p :: r => p % m :: p / m :: eE m r
def InB (b : Int) (ps : LI) : Prop := ∀ p ∈ ps,0 <= p /\ p < b
theorem InB.nil {b : Int} : InB b []:=fun p h => by cases h
theorem InB.cons {b p : Int} {r : LI} (h0 : 0 <= p) (h1 : p < b) (h : InB b r) : InB b (p :: r):=fun x hx => by
 rcases List.mem_cons.mp hx with z | z
 ·rw [z]; exact ⟨h0,h1⟩
 ·exact h x z
theorem InB.tail {b p : Int} {r : LI} (h : InB b (p :: r)) : InB b r:=fun x hx => h x (List.mem_cons_of_mem _ hx)
theorem ki (m : Int) : ∀ ps : LI,(eE m ps).length = 2 * ps.length
 | [] => rfl
 | p :: r => by simp only [eE,List.length_cons,ki m r]; omega
theorem su {m : Int} (hm : 0 < m) : ∀ {ps : LI},InB (m * m) ps -> InB m (eE m ps)
 | [],_ => InB.nil
 | p :: r,h => by
  have hp:=h p List.mem_cons_self
  have d0 : 0 <= p / m:=Int.ediv_nonneg hp.1 (Int.le_of_lt hm)
  have d1 : p / m < m:=Int.ediv_lt_of_lt_mul hm hp.2
  exact InB.cons (Int.emod_nonneg p (by omega)) (Int.emod_lt_of_pos p hm) (InB.cons d0 d1 (su hm h.tail))
theorem pV (m : Int) : ∀ ps : LI,av m (eE m ps) = av (m * m) ps
 | [] => rfl
 | p :: r => by
  have e:=Int.emod_add_mul_ediv p m
  simp only [eE,av,pV m r]
  rw [Int.mul_add,<- Int.add_assoc,e,Int.mul_assoc]
theorem jH (m : Int) : ∀ (ps : LI) (x : Int),eE m (ps ++ [x]) = eE m ps ++ [x % m,x / m]
 | [],x => rfl
 | p :: r,x => by simp only [List.cons_append,eE,jH m r x]
theorem bD {b : Int} (hb : 0 <= b) : ∀ {ps : LI},InB b ps -> 0 <= av b ps
 | [],_ => Int.le_refl 0
 | p :: r,h => Int.add_nonneg (h p List.mem_cons_self).1 (Int.mul_nonneg hb (bD hb h.tail))
theorem eO (b : Int) : ∀ (ps qs : LI),av b (ps ++ qs) = av b ps + b ^ ps.length * av b qs
 | [],qs => by simp [av]
 | p :: r,qs => by
  simp only [List.cons_append,av,eO b r qs,List.length_cons]
  rw [Int.mul_add,Int.pow_succ,Int.add_assoc,<- Int.mul_assoc,Int.mul_comm b (b ^ r.length)]
theorem kQ (b : Int) (ps : LI) (x : Int) : av b (ps ++ [x]) = av b ps + x * b ^ ps.length:=by
 rw [eO]
 simp [av,Int.mul_comm]
def pw (w : Int) : Nat -> Int
 | 0 => w
 | i + 1 => pw w i * pw w i
theorem kF {w : Int} (h : 2 <= w) : ∀ i,2 <= pw w i
 | 0 => h
 | i + 1 => by
  have q:=kF h i
  have:=Int.mul_le_mul q q (by decide) (by omega)
  show 2 <= pw w i * pw w i
  omega
theorem yK {w : Int} (h : 2 <= w) (i : Nat) : pw w i < pw w (i + 1):=by
 have q:=kF h i
 have:=Int.mul_le_mul q (Int.le_refl (pw w i)) (by omega) (by omega)
 show pw w i < pw w i * pw w i
 omega
theorem yJ {w : Int} (h : 2 <= w) : ∀ i : Nat,(2 : Int) ^ (2 ^ i) <= pw w i
 | 0 => by simpa [pw] using h
 | i + 1 => by
  have q:=yJ h i
  have e : (2 : Int) ^ (2 ^ (i + 1)) = 2 ^ (2 ^ i) * 2 ^ (2 ^ i):=by
   rw [Nat.pow_succ,Nat.mul_two,Int.pow_add]
  rw [e]
  have p0 : (0 : Int) <= 2 ^ (2 ^ i):=Int.le_of_lt (Int.pow_pos (by decide))
  exact Int.mul_le_mul q q p0 (Int.le_trans p0 q)
def NB : Int:=2 ^ 1100
theorem wy : NB * NB < BIG:=by decide +kernel
theorem yS : 2 < NB:=by decide +kernel
theorem xI {w n : Int} {t : Nat} (h : 2 <= w) (hp : pw w t <= n) (hn : n < NB) : 2 ^ t < 1100:=by
 have q:=yJ h t
 have q2 : (2 : Int) ^ (2 ^ t) < 2 ^ 1100:=Int.lt_of_le_of_lt (Int.le_trans q hp) hn
 have q3 : (2 : Nat) ^ (2 ^ t) < 2 ^ 1100:=by exact_mod_cast q2
 exact (Nat.pow_lt_pow_iff_right (by decide)).mp q3
def pws (w : Int) (t : Nat) : LI:=(List.range t).map (pw w)
theorem xK (w : Int) (t : Nat) : pws w (t + 1) = pws w t ++ [pw w t]:=by
 unfold pws
 rw [List.range_succ,List.map_append]
 rfl
theorem l8 (w : Int) (t : Nat) : (pws w t).length = t:=by simp [pws]
theorem yy {w : Int} {t i : Nat} (h : i < t) : (pws w t)[i]? = some (pw w i):=by simp [pws,h]
structure Figs (w n : Int) (ds : LI) : Prop where
 inb : InB w ds
 val : av w ds = n
 top : ∀ d,ds.getLast? = some d -> d ≠ 0
theorem ud (ds : LI) : ds = [] \/ ∃ r x,ds = r ++ [x]:=by
 rcases List.eq_nil_or_concat ds with h | ⟨r,x,h⟩
 ·exact .inl h
 ·exact .inr ⟨r,x,by simpa using h⟩
def l9 : Sp:=fun vs H Q _ => ∃ z : Int,vs = [.int z] /\ Q (.bl true) H
def uA : Sp:=fun vs H Q _ => ∃ z y : Int,vs = [.int z,.int y] /\ Q (.bl (decide (y <= z))) H
def rD : Sp:=fun vs H Q _ => ∃ (z y : Int) (x : Str),vs = [.int z,.int y,.str x] /\ y <= z /\ Q .non H
def nF (K : PySem.W.Frag) : Sp:=fun vs H Q _ => ∃ (a : Addr) (m : Int) (ps : LI),vs = [.ref a,.int m] /\ SqL K H a (ps.map V.int) /\ ps.length <= 5000 /\ (0 < m /\ m < BIG) /\
 ∀ (l : Addr) (H' : Hp),Same H H' -> H l = none -> H' l = some (.lst ((eE m ps).map V.int)) -> Q (.ref l) H'
def kK (K : PySem.W.Frag) : Sp:=fun vs H Q _ => ∃ n w : Int,vs = [.int n,.int w] /\ (0 <= n /\ n < NB) /\ (2 <= w /\ w < NB) /\
 ∀ (t : Addr) (H' : Hp) (ds : LI),Same H H' -> H' t = some (.tup (ds.map V.int)) -> Figs w n ds -> ds.length <= 5000 -> Q (.ref t) H'
section
variable {P : Program} {w : World} {K : PySem.W.Frag} {mg : Str -> Option Value} {base : Heap} {f : Addr} {fd : FuncData} {dV : Value}
theorem tH : FnScope ["thing"] ["thing"] (ai c8):=⟨rfl,rfl,rfl,by decide +kernel,rfl,by decide +kernel,by decide +kernel⟩
theorem kH : FnScope ["thing","least"] ["thing","least"] (ai bA):=⟨rfl,rfl,rfl,by decide +kernel,rfl,by decide +kernel,by decide +kernel⟩
theorem pz : FnScope ["thing","least","called"] ["thing","least","called"] (ai ck):=⟨rfl,rfl,rfl,by decide +kernel,rfl,by decide +kernel,by decide +kernel⟩
theorem sc_figures : FnScope ["number","wide","powers","power","parts","middle"] ["number","wide"] (ai dN):=⟨rfl,rfl,rfl,by decide +kernel,rfl,by decide +kernel,by decide +kernel⟩
theorem sc_halved : FnScope ["parts","middle","halves","part"] ["parts","middle"] (ai fu):=⟨rfl,rfl,rfl,by decide +kernel,rfl,by decide +kernel,by decide +kernel⟩
theorem tj (F : FunD K "is_whole" "is_whole" c8 dV f fd) (a7 : mg "isinstance" = none) (j7 : mg "int" = none) (kS : mg "bool" = none) : FnOk P w K mg base CX0 1 f fd ["thing"] l9:=by
 refine F.ok tH (fun vs H Q E h => ?_) (fun cdv A outer s H vs Q E hr h => ?_)
 ·obtain ⟨z,rfl,_⟩:=h
  rfl
 obtain ⟨z,rfl,q⟩:=h
 refine ⟨_,(ak (aG (qZ (aF jA (by rfl) a7 cq (aa (pv 0) (aa (ik (v:=.ty "int") rfl j7 tT rfl) ag))) (q5 (xA (aF jA (by rfl) a7 cq (aa (pv 0) (aa (ik (v:=.ty "bool") rfl kS uP rfl) ag)))))))),?_⟩
 refine ⟨_,rfl,_,_,_,_,rfl,TyOf.int z,k0 K,_,rfl,jJ ?_⟩
 exact ⟨_,rfl,_,_,_,_,rfl,TyOf.int z,jM K,_,rfl,q⟩
theorem yj (F : FunD K "is_whole_from" "is_whole_from" bA dV f fd) (c5 : DefOk P w K mg base "is_whole" 1 ["thing"] [] l9) : FnOk P w K mg base CX0 2 f fd ["thing","least"] uA:=by
 refine F.ok kH (fun vs H Q E h => ?_) (fun cdv A outer s H vs Q E hr h => ?_)
 ·obtain ⟨z,y,rfl,_⟩:=h
  rfl
 obtain ⟨z,y,rfl,q⟩:=h
 refine ⟨_,(ak (aG (qZ (aJ c5 hr (aa (pv 0) ag)) (q5 (l7 yI (pv 0) (pv 1) (aQ _)))))),?_⟩
 exact ⟨_,rfl,z,rfl,_,rfl,jJ ⟨_,rfl,_,rfl,_,_,rfl,rfl,q⟩⟩
theorem yk (F : FunD K "need_whole" "need_whole" ck dV f fd) (dj : DefOk P w K mg base "is_whole_from" 2 ["thing","least"] [] uA) : FnOk P w K mg base CX0 3 f fd ["thing","least","called"] rD:=by
 refine F.ok pz (fun vs H Q E h => ?_) (fun cdv A outer s H vs Q E hr h => ?_)
 ·obtain ⟨z,y,x,rfl,_⟩:=h
  rfl
 obtain ⟨z,y,x,rfl,hy,q⟩:=h
 refine ⟨_,(ak (bT (kE (h7 (aJ dj hr (aa (pv 0) (aa (pv 1) ag))))) (ak jX) aZ)),?_⟩
 refine ⟨_,rfl,_,rfl,z,y,rfl,_,rfl,zW hy ?_⟩
 exact q
theorem vO (F : FunD K "halved" "halved" fu dV f fd) : FnOk P w K mg base CX0 1 f fd ["parts","middle"] (nF K):=by
 refine F.ok sc_halved (fun vs H Q E h => ?_) (fun cdv A outer s H vs Q E hr h => ?_)
 ·obtain ⟨a,m,ps,rfl,_⟩:=h
  rfl
 obtain ⟨a,m,ps,rfl,hS,hl,⟨m0,m1⟩,k⟩:=h
 refine ⟨_,(af (au (i:=2) sc_halved.nd rfl (Or.inl rfl) (bq ag))
   (af (bw PassesOwn.never rfl (cZ (pv 0)) (aE (i:=3) sc_halved.nd rfl (Or.inl rfl)) (af (aY (eB PySem.F.plainAttrs_list PySem.F.slot_list_append PySem.F.type_list_append aV (pv 2) (aa (ar ba (pv 3) (pv 1)) ag)))
   (ak (aY (eB PySem.F.plainAttrs_list PySem.F.slot_list_append PySem.F.type_list_append aV (pv 2) (aa (ar tq (pv 3) (pv 1)) ag))))))
   (ak (aG (pv 2))))),?_⟩
 refine ⟨(by show 0 <= sizeLine; decide),fun l hl0 => ?_⟩
 refine ⟨_,rfl,a,rfl,⟨_,(aj hl0 _).seq hS⟩,cT (K:=K) (xs:=ps.map V.int) (fun i σ' H' => ∃ v,σ' = [some (.ref a),some (.int m),some (.ref l),v] /\ Same H H' /\ H' l = some (.lst ((eE m (ps.take i)).map V.int)))
  ⟨none,rfl,aj hl0 _,ae⟩ (fun i σ' H' _ ⟨_,_,s,_⟩ => s.seq hS) ?_ ?_⟩
 ·rintro i y σ' H' hi ⟨v,rfl,s1,h1⟩
  obtain ⟨z,rfl,hz⟩:=bb hi
  have hi' : i < ps.length:=(gi_ hz).1
  have l1 : ((eE m (ps.take i)).map V.int).length <= 10000:=by
   rw [lm_,ki,List.length_take]
   omega
  have big : 10002 < sizeLine:=by decide
  refine ⟨_,rfl,.inl ⟨rfl,_,qL_ h1⟩,_,rfl,_,rfl,_,_,rfl,rfl,m0,l,_,_,rfl,rfl,h1,by omega,?_⟩
  refine ⟨_,rfl,.inl ⟨rfl,_,qL_ ae⟩,_,rfl,_,rfl,_,_,rfl,rfl,⟨m0,m1⟩,l,_,_,rfl,rfl,ae,by rw [List.length_append]; simp only [List.length_singleton]; omega,?_⟩
  refine ⟨_,rfl,aw (aw s1 hl0) hl0,?_⟩
  rw [ae,List.take_add_one,hz]
  show _ = some (HO.lst ((eE m (ps.take i ++ [z])).map V.int))
  rw [jH,List.map_append,List.append_assoc]
  rfl
 ·rintro σ' H' ⟨v,rfl,s1,h1⟩
  rw [lm_,List.take_length] at h1
  exact ⟨_,rfl,k l H' s1 hl0 h1⟩
theorem uk (F : FunD K "figures" "figures" dN dV f fd) (bB : DefOk P w K mg base "need_whole" 3 ["thing","least","called"] [] rD) (md : DefOk P w K mg base "halved" 1 ["parts","middle"] [] (nF K))
  (de : mg "reversed" = none) (a9 : mg "tuple" = none) : FnOk P w K mg base CX0 4 f fd ["number","wide"] (kK K):=by
 refine F.ok sc_figures (fun vs H Q E h => ?_) (fun cdv A outer s H vs Q E hr h => ?_)
 ·obtain ⟨n,w,rfl,_⟩:=h
  rfl
 obtain ⟨n,wd,rfl,⟨n0,n1⟩,⟨w0,w1⟩,k⟩:=h
 have hbig : ∀ {x y : Int},0 <= x -> x < NB -> 0 <= y -> y < NB -> x * y < BIG:=fun {x y} hx hx' hy hy' =>
  Int.lt_of_le_of_lt (Int.mul_le_mul (Int.le_of_lt hx') (Int.le_of_lt hy') hy (Int.le_trans hx (Int.le_of_lt hx'))) wy
 have nbig : ∀ {x : Int},0 <= x -> x < NB -> x < BIG:=fun {x} hx hx' => by
  have:=yS
  have:=wy
  have q : NB * 1 <= NB * NB:=Int.mul_le_mul (Int.le_refl _) (by omega) (by decide) (by omega)
  omega
 refine ⟨_,(af (aY (aJ bB hr (aa (pv 0) (aa ah (aa kA ag)))))
   (af (aY (aJ bB hr (aa (pv 1) (aa ah (aa kA ag)))))
   (af (au (i:=2) sc_figures.nd rfl (Or.inl rfl) (bq ag))
   (af (au (i:=3) sc_figures.nd rfl (Or.inl rfl) (pv 1))
   (af (eC PassesOwn.never (aK xq (pv 3) (pv 0) (aQ _)) (af (aY (eB PySem.F.plainAttrs_list PySem.F.slot_list_append PySem.F.type_list_append aV (pv 2) (aa (pv 3) ag)))
   (ak (au (i:=3) sc_figures.nd rfl (Or.inl rfl) (ar jT (pv 3) (pv 3))))))
   (af (au (i:=4) sc_figures.nd rfl (Or.inl rfl) (bq (aa (pv 0) ag)))
   (af (bw PassesOwn.never rfl (zo rfl de (aa (pv 2) ag)) (aE (i:=5) sc_figures.nd rfl (Or.inl rfl)) (ak (au (i:=4) sc_figures.nd rfl (Or.inl rfl) (aJ md hr (aa (pv 4) (aa (pv 5) ag))))))
   (af (eC PassesOwn.never (PW.pt (uu (jY (pv 4) (fun _ => rfl)) (rh (aK hX (aB aH (pv 4) (qc kP ah) (fun _ _ => rfl)) ah (aQ _))))) (ak (aY (xu PySem.F.plainAttrs_list PySem.F.slot_list_pop PySem.F.type_list_pop xg (pv 4)))))
   (ak (aG (bO cu (by rfl) a9 dX (aa (pv 4) ag)))))))))))),?_⟩
 refine ⟨_,rfl,n,0,_,rfl,n0,?_⟩
 refine ⟨_,rfl,wd,2,_,rfl,w0,?_⟩
 refine ⟨(by show 0 <= sizeLine; decide),fun L hL => ?_⟩
 refine ⟨_,rfl,?_⟩
 try dsimp only [aL]
 refine ic (t:=h9 _ _) (fun σ' H' => ∃ t : Nat,σ' = [some (.int n),some (.int wd),some (.ref L),some (.int (pw wd t)),none,none] /\ Same H H' /\ H' L = some (.lst ((pws wd t).map V.int)) /\ n < pw wd t /\ (t = 0 \/ pw wd (t - 1) <= n)) ?_ (fun nxt => ?_)
 rotate_left
 ·refine gI (fun m σ' H' => ∃ t : Nat,m = (n + 1 - pw wd t).toNat /\ σ' = [some (.int n),some (.int wd),some (.ref L),some (.int (pw wd t)),none,none] /\ Same H H' /\ H' L = some (.lst ((pws wd t).map V.int)) /\ (t = 0 \/ pw wd (t - 1) <= n))
   ⟨_,0,rfl,rfl,aj hL _,ae,.inl rfl⟩ ?_
  rintro m σ' H' ⟨t,rfl,rfl,s1,h1,ht⟩
  refine ⟨_,rfl,_,rfl,_,_,rfl,rfl,_,rfl,gr (fun c => ?_) (fun c => ?_)⟩
  ·have c' : pw wd t <= n:=c
   have p2:=kF w0 t
   have few:=xI w0 c' n1
   have lt2 : t < 2 ^ t:=Nat.lt_two_pow_self
   have plt:=yK w0 t
   refine ⟨fun σ' H' => ∃ m',m' < (n + 1 - pw wd t).toNat /\ ∃ t : Nat,m' = (n + 1 - pw wd t).toNat /\ σ' = [some (.int n),some (.int wd),some (.ref L),some (.int (pw wd t)),none,none] /\ Same H H' /\ H' L = some (.lst ((pws wd t).map V.int)) /\ (t = 0 \/ pw wd (t - 1) <= n),fun σ' H' h => h,?_⟩
   refine ⟨_,rfl,.inl ⟨rfl,_,qL_ h1⟩,_,rfl,L,_,_,rfl,rfl,h1,?_,?_⟩
   ·rw [lm_,l8]
    have big : (1101 : Nat) < sizeLine:=by decide
    omega
   refine ⟨_,rfl,_,rfl,_,_,rfl,rfl,⟨⟨by omega,nbig (by omega) (by omega)⟩,⟨by omega,nbig (by omega) (by omega)⟩⟩,_,?_,t + 1,rfl,rfl,aw s1 hL,?_,.inr c'⟩
   ·show (n + 1 - pw wd (t + 1)).toNat < _
    omega
   ·rw [ae,xK,List.map_append]
    rfl
  ·exact nxt _ _ ⟨t,rfl,s1,h1,by omega,ht⟩
 rintro σ' H1 ⟨t,rfl,s1,h1,hn,ht⟩
 have few : 2 ^ t <= 2200:=by
  rcases ht with z | z
  ·rw [z]; decide
  ·rcases t with _ | t
   ·decide
   ·have:=xI w0 z n1
    rw [Nat.pow_succ]
    simp only [Nat.add_sub_cancel] at this
    omega
 refine ⟨_,rfl,(by show 1 <= sizeLine; decide),fun D0 hD0 => ?_⟩
 have s2:=s1.trans (aj hD0 (HO.lst [V.int n]))
 have nL : L ≠ D0:=aq h1 hD0
 try dsimp only [aL]
 refine ic (t:=nN _ _ _) (fun σ' H' => ∃ (D : Addr) (v : OV) (ps : LI),σ' = [some (.int n),some (.int wd),some (.ref L),some (.int (pw wd t)),some (.ref D),v] /\ Same H H' /\ H D = none /\ H' D = some (.lst (ps.map V.int)) /\ InB wd ps /\ av wd ps = n /\ ps.length <= 2200) ?_ (fun nxt => ?_)
 rotate_left
 ·refine ⟨_,rfl,L,_,rfl,qL_ (by rw [ao nL]; exact h1),x8 (K:=K) (xs:=(pws wd t).map V.int) (fun i σ' H' => ∃ (D : Addr) (v : OV) (ps : LI),σ' = [some (.int n),some (.int wd),some (.ref L),some (.int (pw wd t)),some (.ref D),v] /\ Same H1 H' /\ H1 D = none /\ H' D = some (.lst (ps.map V.int)) /\ InB (pw wd (t - i)) ps /\ av (pw wd (t - i)) ps = n /\ ps.length = 2 ^ i)
   ⟨D0,none,[n],rfl,aj hD0 _,hD0,ae,InB.cons n0 hn InB.nil,by simp [av],rfl⟩ (fun i σ' H' _ ⟨_,_,_,_,s,_⟩ => qL_ (s _ _ h1)) ?_ ?_⟩
  ·rintro i y σ' H' hi hy ⟨D,v,ps,rfl,s3,fD,hD,hin,hval,hlen⟩
   rw [lm_,l8] at hi
   rw [lm_,l8] at hy
   have e1 : t - i = (t - 1 - i) + 1:=by omega
   have e2 : t - (i + 1) = t - 1 - i:=by omega
   obtain ⟨z,rfl,hz⟩:=bb hy
   rw [yy (show t - 1 - i < t by omega)] at hz
   cases hz
   rw [e1] at hin hval
   have hp:=kF w0 (t - 1 - i)
   have hle : pw wd (t - 1 - i) <= n:=by
    rcases ht with z | z
    ·omega
    ·have mono : ∀ a b : Nat,pw wd a <= pw wd (a + b):=fun a b => by
      induction b with
      | zero => exact Int.le_refl _
      | succ b ih => exact Int.le_trans ih (Int.le_of_lt (yK w0 (a + b)))
     have:=mono (t - 1 - i) i
     rw [show t - 1 - i + i = t - 1 by omega] at this
     omega
   have li : 2 ^ i <= 2 ^ t:=Nat.pow_le_pow_right (by decide) (by omega)
   refine ⟨_,rfl,_,rfl,D,_,ps,rfl,qL_ hD,by omega,⟨by omega,nbig (by omega) (by omega)⟩,fun l H'' s4 fl hl => ?_⟩
   refine ⟨l,_,eE (pw wd (t - 1 - i)) ps,rfl,s3.trans s4,s3.free fl,hl,?_,?_,?_⟩
   ·rw [e2]; exact su (by omega) hin
   ·rw [e2,pV]; exact hval
   ·rw [ki,hlen,Nat.pow_succ]; omega
  ·rintro σ' H' ⟨D,v,ps,rfl,s3,fD,hD,hin,hval,hlen⟩
   rw [lm_,l8] at hin hval hlen
   rw [Nat.sub_self] at hin hval
   exact nxt _ _ ⟨D,v,ps,rfl,s1.trans s3,s1.free fD,hD,hin,hval,by omega⟩
 rintro σ' H2 ⟨D,v,ps,rfl,s3,fD,hD,hin,hval,hlen⟩
 try dsimp only [aL]
 refine ic (t:=h9 _ _) (fun σ' H' => ∃ ps : LI,σ' = [some (.int n),some (.int wd),some (.ref L),some (.int (pw wd t)),some (.ref D),v] /\ Same H H' /\ H' D = some (.lst (ps.map V.int)) /\ Figs wd n ps /\ ps.length <= 2200) ?_ (fun nxt => ?_)
 rotate_left
 ·refine gI (fun m σ' H' => ∃ ps : LI,m = ps.length /\ σ' = [some (.int n),some (.int wd),some (.ref L),some (.int (pw wd t)),some (.ref D),v] /\ Same H H' /\ H' D = some (.lst (ps.map V.int)) /\ InB wd ps /\ av wd ps = n /\ ps.length <= 2200) ⟨_,ps,rfl,rfl,s3,hD,hin,hval,hlen⟩ ?_
  rintro m σ' H' ⟨ps,rfl,rfl,s4,h4,hin,hval,hlen⟩
  rcases ud ps with rfl | ⟨r,x,rfl⟩
  ·refine ⟨_,rfl,_,.inl ⟨_,qL_ h4,rfl⟩,jb (jb ?_)⟩
   exact nxt _ _ ⟨[],rfl,s4,h4,⟨hin,hval,fun d h => by cases h⟩,hlen⟩
  ·have ix : atI ((r ++ [x]).map V.int) (-1) = some (.int x):=by
    rw [List.map_append]
    exact rQ _ _
   refine ⟨_,rfl,_,.inl ⟨_,qL_ h4,rfl⟩,?_⟩
   have ne : (!((r ++ [x]).map V.int).isEmpty) = true:=by simp
   rw [ne]
   refine jJ ⟨_,rfl,_,rfl,D,_,_,_,rfl,rfl,qL_ h4,ix,rfl,_,rfl,mN (fun c => ?_) (fun c => ?_)⟩
   ·have hr : av wd r = n:=by
     rw [kQ,c,Int.zero_mul,Int.add_zero] at hval
     exact hval
    refine ⟨fun σ' H' => ∃ m',m' < (r ++ [x]).length /\ ∃ ps : LI,m' = ps.length /\ σ' = [some (.int n),some (.int wd),some (.ref L),some (.int (pw wd t)),some (.ref D),v] /\ Same H H' /\ H' D = some (.lst (ps.map V.int)) /\ InB wd ps /\ av wd ps = n /\ ps.length <= 2200,fun σ' H' h => h,?_⟩
    refine ⟨_,rfl,.inl ⟨rfl,_,qL_ h4⟩,D,_,V.int x,rfl,rfl,h4,by simp,?_⟩
    ·refine ⟨r.length,by simp,r,rfl,rfl,aw s4 fD,?_,fun p hp => hin p (List.mem_append_left _ hp),hr,?_⟩
     ·rw [ae,List.map_append]
      show some (HO.lst ((r.map V.int ++ [V.int x]).dropLast)) = _
      rw [List.dropLast_concat]
     ·rw [List.length_append] at hlen
      omega
   ·exact nxt _ _ ⟨r ++ [x],rfl,s4,h4,⟨hin,hval,fun d h => by
     rw [List.getLast?_concat] at h
     cases h
     exact c⟩,hlen⟩
 rintro σ' H3 ⟨ps,rfl,s4,h4,FG,hlen⟩
 refine ⟨_,rfl,D,_,rfl,.inl ⟨qL_ h4,fun T hT => ?_⟩⟩
 exact k T _ ps (s4.trans (aj hT _)) ae FG (by omega)
end
def bu (m : Int) : LI -> LI
 | [] => []
 | [p] => [p + m * 0]
 | p :: q :: r => (p + m * q) :: bu m r
theorem jh (m : Int) : ∀ ps : LI,av (m * m) (bu m ps) = av m ps
 | [] => rfl
 | [p] => by simp [bu,av]
 | p :: q :: r => by
  simp only [bu,av,jh m r]
  rw [Int.mul_add,Int.mul_assoc,Int.add_assoc]
theorem bG (m : Int) : ∀ ps : LI,(bu m ps).length = (ps.length + 1) / 2
 | [] => rfl
 | [p] => by simp [bu]
 | p :: q :: r => by
  simp only [bu,List.length_cons,bG m r]
  omega
theorem kq {m : Int} (hm : 0 < m) : ∀ {ps : LI},InB m ps -> InB (m * m) (bu m ps)
 | [],_ => InB.nil
 | [p],h => by
  have hp:=h p List.mem_cons_self
  have mm : m * 1 <= m * m:=Int.mul_le_mul_of_nonneg_left (by omega) (by omega)
  exact InB.cons (by omega) (by omega) InB.nil
 | p :: q :: r,h => by
  have hp:=h p List.mem_cons_self
  have hq:=h q (List.mem_cons_of_mem _ List.mem_cons_self)
  have a0 : 0 <= m * q:=Int.mul_nonneg (by omega) hq.1
  have a1 : m * q <= m * (m - 1):=Int.mul_le_mul_of_nonneg_left (by omega) (by omega)
  have a2 : m * (m - 1) = m * m - m:=by rw [Int.mul_sub,Int.mul_one]
  exact InB.cons (by omega) (by omega) (kq hm h.tail.tail)
theorem sP {m : Int} {ps : LI} : ∀ {i : Nat},2 * i < ps.length -> bu m (ps.take (2 * (i + 1))) = bu m (ps.take (2 * i)) ++ [ps.getD (2 * i) 0 + m * ps.getD (2 * i + 1) 0]:=by
 intro i
 induction i generalizing ps with
 | zero =>
  intro h
  rcases ps with _ | ⟨p,_ | ⟨q,r⟩⟩
  ·simp at h
  ·simp [bu]
  ·simp [bu]
 | succ i ih =>
  intro h
  rcases ps with _ | ⟨p,_ | ⟨q,r⟩⟩
  ·simp at h
  ·simp at h
  ·have h' : 2 * i < r.length:=by simp at h; omega
   have e:=ih (ps:=r) h'
   have e1 : 2 * (i + 1 + 1) = 2 * (i + 1) + 1 + 1:=by omega
   have e2 : 2 * (i + 1) = 2 * i + 1 + 1:=by omega
   rw [e1,List.take_succ_cons,List.take_succ_cons]
   show (p + m * q) :: bu m (r.take (2 * (i + 1))) = _
   rw [e,e2,List.take_succ_cons,List.take_succ_cons]
   rfl
theorem uv {w : Int} : ∀ t : Nat,pw w t = w ^ (2 ^ t)
 | 0 => (Int.pow_one w).symm
 | t + 1 => by
  show pw w t * pw w t = _
  rw [uv t,Nat.pow_succ,Nat.mul_two,Int.pow_add]
theorem fj {w : Int} (h : 1 <= w) {i : Nat} : ∀ {j : Nat},i <= j -> w ^ i <= w ^ j
 | 0,h' => by rw [Nat.le_zero.mp h']; exact Int.le_refl _
 | j + 1,h' => by
  rcases Nat.lt_or_ge i (j + 1) with q | q
  ·have ih:=fj h (i:=i) (j:=j) (by omega)
   have p0 : (0 : Int) < w ^ j:=Int.pow_pos (by omega)
   have : w ^ j * 1 <= w ^ j * w:=Int.mul_le_mul_of_nonneg_left h (by omega)
   rw [Int.pow_succ]
   omega
  ·rw [Nat.le_antisymm h' q]; exact Int.le_refl _
theorem InB.append {b : Int} {ps qs : LI} (h : InB b ps) (h' : InB b qs) : InB b (ps ++ qs):=fun x hx => (ma_.mp hx).elim (h x) (h' x)
theorem jE {w : Int} (hw : 2 <= w) : ∀ {ds es : LI} {n : Int},Figs w n ds -> Figs w n es -> ds = es
 | [],[],_,_,_ => rfl
 | [],e :: es,n,h,h' => by
  exfalso
  have z : av w (e :: es) = 0:=h'.val.trans h.val.symm
  exact no_zero hw h' z
 | d :: ds,[],n,h,h' => by
  exfalso
  have z : av w (d :: ds) = 0:=h.val.trans h'.val.symm
  exact no_zero hw h z
 | d :: ds,e :: es,n,h,h' => by
  have hd:=h.inb d List.mem_cons_self
  have he:=h'.inb e List.mem_cons_self
  have v1 : d + w * av w ds = n:=h.val
  have v2 : e + w * av w es = n:=h'.val
  have e1 : n % w = d:=by rw [<- v1,Int.add_mul_emod_self_left]; exact Int.emod_eq_of_lt hd.1 hd.2
  have e2 : n % w = e:=by rw [<- v2,Int.add_mul_emod_self_left]; exact Int.emod_eq_of_lt he.1 he.2
  have ede : d = e:=e1.symm.trans e2
  have ev : av w ds = av w es:=by
   have : w * av w ds = w * av w es:=by omega
   exact Int.eq_of_mul_eq_mul_left (by omega) this
  have t1 : Figs w (av w ds) ds:=⟨h.inb.tail,rfl,fun x hx => by
   cases ds with
   | nil => cases hx
   | cons a r => exact h.top x (by rw [List.getLast?_cons_cons]; exact hx)⟩
  have t2 : Figs w (av w ds) es:=⟨h'.inb.tail,ev.symm,fun x hx => by
   cases es with
   | nil => cases hx
   | cons a r => exact h'.top x (by rw [List.getLast?_cons_cons]; exact hx)⟩
  rw [ede,jE hw t1 t2]
where
 no_zero {w : Int} (hw : 2 <= w) : ∀ {es : LI} {e n : Int},Figs w n (e :: es) -> av w (e :: es) = 0 -> False
 | [],e,n,h,z => by
  have : e + w * 0 = 0:=z
  exact h.top e rfl (by omega)
 | a :: r,e,n,h,z => by
  have hz : e + w * av w (a :: r) = 0:=z
  have he:=h.inb e List.mem_cons_self
  have hv:=bD (by omega : (0 : Int) <= w) h.inb.tail
  have : 0 <= w * av w (a :: r):=Int.mul_nonneg (by omega) hv
  have z2 : w * av w (a :: r) = 0:=by omega
  have z3 : av w (a :: r) = 0:=by
   rcases Int.mul_eq_zero.mp z2 with q | q
   ·omega
   ·exact q
  exact no_zero hw (es:=r) (e:=a) (n:=av w (a :: r)) ⟨h.inb.tail,rfl,fun x hx => h.top x (by rw [List.getLast?_cons_cons]; exact hx)⟩ z3
def nM : Sp:=fun vs H Q _ => ∃ z lo hi : Int,vs = [.int z,.int lo,.int hi] /\ (lo <= z /\ z <= hi) /\ Q (.bl true) H
def kM : Sp:=fun vs H Q _ => ∃ (b : Addr) (xs : List V) (x : Str),vs = [.ref b,.str x] /\ (H b = some (.lst xs) \/ H b = some (.tup xs)) /\ ∀ H',Same H H' -> Q .non H'
def nI (K : PySem.W.Frag) : Sp:=fun vs H Q _ => ∃ (a : Addr) (m : Int) (ps : LI),vs = [.ref a,.int m] /\ H a = some (.lst (ps.map V.int)) /\ ps.length <= 5000 /\ (0 <= m /\ m < BIG) /\ (∀ p ∈ ps,0 <= p /\ p < BIG) /\
 ∀ (l : Addr) (H' : Hp),Same H H' -> H l = none -> H' l = some (.lst ((bu m ps).map V.int)) -> Q (.ref l) H'
def rF (K : PySem.W.Frag) : Sp:=fun vs H Q _ => ∃ (b : Addr) (w : Int) (ds : LI),vs = [.ref b,.int w] /\ (H b = some (.lst (ds.map V.int)) \/ H b = some (.tup (ds.map V.int))) /\ 2 <= w /\ ds.length <= 4000 /\ w ^ (ds.length + 1) < BIG /\ InB w ds /\
 ∀ H',Same H H' -> Q (.int (av w ds)) H'
theorem sE (K : PySem.W.Frag) : PySem.W.kitAny K (.type "list") (["tuple","list"].map Value.type) = some true:=by with_unfolding_all rfl
theorem qE (K : PySem.W.Frag) : PySem.W.kitAny K (.type "tuple") (["tuple","list"].map Value.type) = some true:=by with_unfolding_all rfl
section
variable {P : Program} {w : World} {K : PySem.W.Frag} {mg : Str -> Option Value} {base : Heap} {f : Addr} {fd : FuncData} {dV : Value}
theorem jt : FnScope ["thing","least","most"] ["thing","least","most"] (ai bo):=⟨rfl,rfl,rfl,by decide +kernel,rfl,by decide +kernel,by decide +kernel⟩
theorem tI : FnScope ["thing","called"] ["thing","called"] (ai c9):=⟨rfl,rfl,rfl,by decide +kernel,rfl,by decide +kernel,by decide +kernel⟩
theorem sc_number_of : FnScope ["row","wide","figure","parts","middle"] ["row","wide"] (ai cH):=⟨rfl,rfl,rfl,by decide +kernel,rfl,by decide +kernel,by decide +kernel⟩
theorem sc_merged : FnScope ["parts","middle","wholes","at","high"] ["parts","middle"] (ai fw):=⟨rfl,rfl,rfl,by decide +kernel,rfl,by decide +kernel,by decide +kernel⟩
theorem vT (F : FunD K "is_whole_within" "is_whole_within" bo dV f fd) (c5 : DefOk P w K mg base "is_whole" 1 ["thing"] [] l9) : FnOk P w K mg base CX0 2 f fd ["thing","least","most"] nM:=by
 refine F.ok jt (fun vs H Q E h => ?_) (fun cdv A outer s H vs Q E hr h => ?_)
 ·obtain ⟨z,lo,hi,rfl,_⟩:=h
  rfl
 obtain ⟨z,lo,hi,rfl,⟨h1,h2⟩,q⟩:=h
 refine ⟨_,(ak (aG (qZ (aJ c5 hr (aa (pv 0) ag)) (q5 (xw xq xq (pv 1) (pv 0) (pv 2)))))),?_⟩
 refine ⟨_,rfl,z,rfl,_,rfl,jJ ⟨_,rfl,_,rfl,_,_,rfl,rfl,_,rfl,gr (fun _ => ?_) (fun c => absurd h1 c)⟩⟩
 refine ⟨_,rfl,_,_,rfl,rfl,?_⟩
 show Q (.bl (decide (z <= hi))) H
 rw [decide_eq_true h2]
 exact q
theorem tm (F : FunD K "need_row" "need_row" c9 dV f fd) (a7 : mg "isinstance" = none) (a9 : mg "tuple" = none) (dc : mg "list" = none) : FnOk P w K mg base CX0 1 f fd ["thing","called"] kM:=by
 refine F.ok tI (fun vs H Q E h => ?_) (fun cdv A outer s H vs Q E hr h => ?_)
 ·obtain ⟨b,xs,x,rfl,_⟩:=h
  rfl
 obtain ⟨b,xs,x,rfl,hb,q⟩:=h
 refine ⟨_,(ak (bT (kE (h7 (aF vj (by rfl) a7 cq (aa (pv 0) (aa (q8 (aa (ik (v:=.ty "tuple") rfl a9 dX rfl) (aa (ik (v:=.ty "list") rfl dc jz rfl) ag))) ag))))) (ak jX) aZ)),?_⟩
 refine ⟨_,rfl,(by show 2 <= sizeLine; decide),fun p hp => ?_⟩
 have s1:=aj hp (HO.tup [V.ty "tuple",V.ty "list"])
 rcases hb with hb | hb
 ·exact ⟨_,p,["tuple","list"],_,_,rfl,ae,TyOf.lst (s1 _ _ hb),sE K,_,rfl,jb (q _ s1)⟩
 ·exact ⟨_,p,["tuple","list"],_,_,rfl,ae,TyOf.tup (s1 _ _ hb),qE K,_,rfl,jb (q _ s1)⟩
theorem vQ (F : FunD K "merged" "merged" fw dV f fd) (aM : mg "range" = none) (aW : mg "len" = none) : FnOk P w K mg base CX0 1 f fd ["parts","middle"] (nI K):=by
 refine F.ok sc_merged (fun vs H Q E h => ?_) (fun cdv A outer s H vs Q E hr h => ?_)
 ·obtain ⟨a,m,ps,rfl,_⟩:=h
  rfl
 obtain ⟨a,m,ps,rfl,ha,hl,⟨m0,m1⟩,hps,k⟩:=h
 have lp : (ps.map V.int).length = ps.length:=List.length_map _
 have big : 5001 < sizeLine:=by decide
 refine ⟨_,(af (au (i:=2) sc_merged.nd rfl (Or.inl rfl) (bq ag))
   (af (bw PassesOwn.never rfl (vU rfl aM (aa ah (aa (aF ay (by rfl) aW bF (aa (pv 0) ag)) (aa ah ag)))) (aE (i:=3) sc_merged.nd rfl (Or.inl rfl)) (af (au (i:=4) sc_merged.nd rfl (Or.inl rfl) (nq (aK p5 (ar bN (pv 3) ah) (aF ay (by rfl) aW bF (aa (pv 0) ag)) (aQ _)) (aB aH (pv 0) (ar bN (pv 3) ah) (fun _ _ => rfl)) ah))
   (ak (aY (eB PySem.F.plainAttrs_list PySem.F.slot_list_append PySem.F.type_list_append aV (pv 2) (aa (ar bN (aB aH (pv 0) (pv 3) (fun _ _ => rfl)) (ar jT (pv 1) (pv 4))) ag))))))
   (ak (aG (pv 2))))),?_⟩
 refine ⟨(by show 0 <= sizeLine; decide),fun l hl0 => ?_⟩
 have nla : a ≠ l:=aq ha hl0
 refine ⟨_,rfl,a,_,rfl,.inl (qL_ (by rw [ao nla]; exact ha)),_,rfl,⟨by omega,by omega⟩,mK (fun i σ' H' => ∃ v1 v2,σ' = [some (.ref a),some (.int m),some (.ref l),v1,v2] /\ Same H H' /\ H' l = some (.lst ((bu m (ps.take (2 * i))).map V.int)))
  ⟨none,none,rfl,aj hl0 _,by rw [ae]; rfl⟩ ?_ ?_⟩
 ·rintro i σ' H' hi ⟨v1,v2,rfl,s1,h1⟩
  have hi2 : 2 * i < ps.length:=by omega
  have a1:=s1 _ _ ha
  have g0 : (ps.getD (2 * i) 0) = ps[2 * i]:=getD_at hi2
  have at0 : atI (ps.map V.int) (0 + (i : Int) * 2) = some (.int (ps.getD (2 * i) 0)):=by
   have q:=bp (ns:=ps) (k:=0 + (i : Int) * 2) (by omega) (by omega)
   rw [show (0 + (i : Int) * 2).toNat = 2 * i by omega] at q
   exact q
  have step : ∀ hh : Int,hh = ps.getD (2 * i + 1) 0 -> ∃ v1 v2,[some (V.ref a),some (V.int m),some (V.ref l),some (V.int (0 + (i : Int) * 2)),some (V.int hh)] = [some (V.ref a),some (V.int m),some (V.ref l),v1,v2] /\ Same H (upd H' l (.lst ((bu m (ps.take (2 * i))).map V.int ++ [V.int (ps.getD (2 * i) 0 + m * hh)]))) /\
    (upd H' l (.lst ((bu m (ps.take (2 * i))).map V.int ++ [V.int (ps.getD (2 * i) 0 + m * hh)]))) l = some (.lst ((bu m (ps.take (2 * (i + 1)))).map V.int)):=fun hh e => by
   refine ⟨_,_,rfl,aw s1 hl0,?_⟩
   rw [ae,sP hi2,e,List.map_append]
   rfl
  have lenl : ((bu m (ps.take (2 * i))).map V.int).length < sizeLine:=by
   rw [lm_,bG,List.length_take]
   omega
  refine ⟨_,rfl,_,_,rfl,rfl,_,rfl,a,_,rfl,.inl (qL_ a1),_,_,rfl,rfl,_,rfl,gr (fun c => ?_) (fun c => ?_)⟩
  ·have c' : 0 + (i : Int) * 2 + 1 < (ps.length : Int):=by rw [<- lp]; exact c
   have hi3 : 2 * i + 1 < ps.length:=by omega
   have hh:=hps _ (List.getElem_mem hi3)
   rw [<- getD_at (d:=0) hi3] at hh
   have at1 : atI (ps.map V.int) (0 + (i : Int) * 2 + 1) = some (.int (ps.getD (2 * i + 1) 0)):=by
    have q:=bp (ns:=ps) (k:=0 + (i : Int) * 2 + 1) (by omega) (by omega)
    rw [show (0 + (i : Int) * 2 + 1).toNat = 2 * i + 1 by omega] at q
    exact q
   refine ⟨_,rfl,_,rfl,_,_,rfl,rfl,a,_,_,_,rfl,rfl,qL_ a1,at1,?_⟩
   refine ⟨_,rfl,.inl ⟨rfl,_,qL_ h1⟩,_,rfl,_,rfl,a,_,_,_,rfl,rfl,qL_ a1,at0,_,rfl,_,rfl,_,_,rfl,rfl,⟨⟨m0,m1⟩,hh⟩,_,_,rfl,rfl,l,_,_,rfl,rfl,h1,lenl,step _ rfl⟩
  ·have c' : ¬ (0 + (i : Int) * 2 + 1 < (ps.length : Int)):=by rw [<- lp]; exact c
   have e0 : (0 : Int) = ps.getD (2 * i + 1) 0:=by
    rw [List.getD_eq_getElem?_getD,List.getElem?_eq_none (by omega)]
    rfl
   refine ⟨_,rfl,.inl ⟨rfl,_,qL_ h1⟩,_,rfl,_,rfl,a,_,_,_,rfl,rfl,qL_ a1,at0,_,rfl,_,rfl,_,_,rfl,rfl,⟨⟨m0,m1⟩,⟨by decide,by decide +kernel⟩⟩,_,_,rfl,rfl,l,_,_,rfl,rfl,h1,lenl,step _ e0⟩
 ·rintro σ' H' ⟨v1,v2,rfl,s1,h1⟩
  rw [List.take_of_length_le (by omega)] at h1
  exact ⟨_,rfl,k l H' s1 hl0 h1⟩
theorem qX (F : FunD K "number_of" "number_of" cH dV f fd) (bB : DefOk P w K mg base "need_whole" 3 ["thing","least","called"] [] rD) (fE : DefOk P w K mg base "need_row" 1 ["thing","called"] [] kM)
  (bU : DefOk P w K mg base "is_whole_within" 2 ["thing","least","most"] [] nM) (jy : DefOk P w K mg base "merged" 1 ["parts","middle"] [] (nI K)) (dc : mg "list" = none) (aW : mg "len" = none) :
  FnOk P w K mg base CX0 4 f fd ["row","wide"] (rF K):=by
 refine F.ok sc_number_of (fun vs H Q E h => ?_) (fun cdv A outer s H vs Q E hr h => ?_)
 ·obtain ⟨b,w,ds,rfl,_⟩:=h
  rfl
 obtain ⟨b,wd,ds,rfl,hb,w0,hl,hB,hin,k⟩:=h
 have lp : (ds.map V.int).length = ds.length:=List.length_map _
 have big : 5001 < sizeLine:=by decide
 have w1 : wd ^ 1 <= wd ^ (ds.length + 1):=fj (by omega) (by omega)
 rw [Int.pow_one] at w1
 rcases hb with hb | hb
 ·refine ⟨_,(af (aY (aJ bB hr (aa (pv 1) (aa ah (aa kA ag)))))
   (af (aY (aJ fE hr (aa (pv 0) (aa kA ag))))
   (af (bw PassesOwn.never rfl (cZ (pv 0)) (aE (i:=2) sc_number_of.nd rfl (Or.inl rfl)) (ak (bT (kE (h7 (aJ bU hr (aa (pv 2) (aa ah (aa (ar jq (pv 1) ah) ag)))))) (ak jX) aZ)))
   (af (au (i:=3) sc_number_of.nd rfl (Or.inl rfl) (ar qY (bO f7 (by rfl) dc jz (aa (pv 0) ag)) (bq (aa ah ag))))
   (af (au (i:=4) sc_number_of.nd rfl (Or.inl rfl) (pv 1))
   (af (eC PassesOwn.never (aK nk (aF ay (by rfl) aW bF (aa (pv 3) ag)) ah (aQ _)) (af (au (i:=3) sc_number_of.nd rfl (Or.inl rfl) (aJ jy hr (aa (pv 3) (aa (pv 4) ag))))
   (ak (au (i:=4) sc_number_of.nd rfl (Or.inl rfl) (ar jT (pv 4) (pv 4))))))
   (ak (aG (aB aH (pv 3) ah (fun _ _ => rfl)))))))))),?_⟩
  refine ⟨_,rfl,wd,2,_,rfl,w0,?_⟩
  refine ⟨_,rfl,b,_,_,rfl,(.inl hb),fun H1 s1 => ?_⟩
  have hb1:=s1 _ _ hb
  refine ⟨_,rfl,b,rfl,⟨_,qL_ hb1⟩,cT (K:=K) (xs:=ds.map V.int) (fun i σ' H' => ∃ v,σ' = [some (.ref b),some (.int wd),v,none,none] /\ H' = H1) ⟨none,rfl,rfl⟩ (fun i σ' H' _ ⟨_,_,e⟩ => by rw [e]; exact qL_ hb1) ?_ ?_⟩
  ·rintro i y σ' H' hi ⟨v,rfl,rfl⟩
   obtain ⟨z,rfl,hz⟩:=bb hi
   have hz' := hin z (mq_ hz)
   refine ⟨_,rfl,_,rfl,_,_,rfl,rfl,z,0,_,rfl,⟨hz'.1,by omega⟩,_,rfl,jb ?_⟩
   exact ⟨_,rfl,rfl⟩
  ·rintro σ' H' ⟨v,rfl,rfl⟩
   refine ⟨_,rfl,b,_,rfl,.inl (qL_ hb1),fun l1 hl1 => ?_⟩
   refine ⟨(by show 1 <= sizeLine; decide),fun l2 hl2 => ?_⟩
   have n12 : l1 ≠ l2:=aq ae hl2
   refine ⟨l1,l2,_,_,rfl,rfl,(by rw [ao n12,ae]),ae,(by rw [lp]; simp only [List.length_singleton]; omega),fun D hD => ?_⟩
   have s2:=(aj hl1 (HO.lst (ds.map V.int))).trans ((aj hl2 (HO.lst [V.int 0])).trans (aj hD (HO.lst (ds.map V.int ++ [V.int 0]))))
   have s3:=s1.trans s2
   have fD : H D = none:=(s1.trans ((aj hl1 (HO.lst (ds.map V.int))).trans (aj hl2 (HO.lst [V.int 0])))).free hD
   refine ⟨_,rfl,?_⟩
   try dsimp only [aL]
   refine d6 (t:=h9 _ _) (fun σ' H' => ∃ (D : Addr) (x : Int) (v v' : OV),σ' = [some (.ref b),some (.int wd),v,some (.ref D),v'] /\ Same H H' /\ H' D = some (.lst [V.int x]) /\ x = av wd ds) ?_ (fun D' nxt => ?_)
   rotate_left
   ·refine gI (fun m σ' H' => ∃ (D : Addr) (t : Nat) (ps : LI) (v : OV),m = ps.length /\ σ' = [some (.ref b),some (.int wd),v,some (.ref D),some (.int (pw wd t))] /\ Same H H' /\ H' D = some (.lst (ps.map V.int)) /\ InB (pw wd t) ps /\ av (pw wd t) ps = av wd ds /\ 1 <= ps.length /\ ps.length <= ds.length + 1 /\ (1 < ps.length -> 2 ^ t <= ds.length /\ 2 ^ t * (ps.length - 1) <= ds.length))
     ⟨_,D,0,ds ++ [0],_,rfl,rfl,s3,?_,hin.append (InB.cons (by decide) (by omega) InB.nil),?_,by simp,by simp,fun h => by simp at h ⊢; omega⟩ ?_
    ·rw [ae,List.map_append]; rfl
    ·show av wd (ds ++ [0]) = _
     rw [kQ,Int.zero_mul,Int.add_zero]
    rintro m σ' H2 ⟨D,t,ps,v,rfl,rfl,s4,h4,hi4,hv4,hl4,hl5,h6⟩
    have lq : (ps.map V.int).length = ps.length:=List.length_map _
    refine ⟨_,rfl,D,_,rfl,.inl (qL_ h4),_,_,rfl,rfl,_,rfl,gr (fun c => ?_) (fun c => ?_)⟩
    ·have c' : 1 < ps.length:=by
      have : (1 : Int) < (((ps.map V.int).length : Nat) : Int):=c
      omega
     obtain ⟨q1,q2⟩:=h6 c'
     have mB : pw wd t < BIG:=by
      have : wd ^ (2 ^ t) <= wd ^ (ds.length + 1):=fj (by omega) (by omega)
      rw [uv]
      omega
     have p2:=kF w0 t
     refine ⟨_,fun σ' H' h => h,?_⟩
     refine ⟨_,rfl,_,rfl,D,_,ps,rfl,h4,by omega,⟨by omega,mB⟩,fun p hp => ⟨(hi4 p hp).1,by have:=(hi4 p hp).2; omega⟩,fun l H3 s5 fl hl3 => ?_⟩
     refine ⟨_,rfl,_,rfl,_,_,rfl,rfl,⟨⟨by omega,mB⟩,⟨by omega,mB⟩⟩,(bu (pw wd t) ps).length,?_,l,t + 1,bu (pw wd t) ps,_,rfl,rfl,s4.trans s5,hl3,kq (by omega) hi4,?_,?_,?_,fun h => ?_⟩
     ·rw [bG]; omega
     ·show av (pw wd t * pw wd t) _ = _
      rw [jh]; exact hv4
     ·rw [bG]; omega
     ·rw [bG]; omega
     ·rw [bG] at h ⊢
      have e2 : 2 ^ (t + 1) = 2 * 2 ^ t:=by rw [Nat.pow_succ,Nat.mul_comm]
      have k1 : 2 ^ t * 2 <= 2 ^ t * (ps.length - 1):=Nat.mul_le_mul_left _ (by omega)
      have k2 : 2 ^ t * (2 * ((ps.length + 1) / 2 - 1)) <= 2 ^ t * (ps.length - 1):=Nat.mul_le_mul_left _ (by omega)
      rw [<- Nat.mul_assoc] at k2
      rw [e2]
      constructor
      ·omega
      ·rw [Nat.mul_comm 2 (2 ^ t)]; omega
    ·have c' : ps.length = 1:=by
      have : ¬ ((1 : Int) < (((ps.map V.int).length : Nat) : Int)):=c
      omega
     obtain ⟨x,rfl⟩:=List.length_eq_one_iff.mp c'
     exact nxt _ _ ⟨D,x,_,_,rfl,s4,h4,by rw [<- hv4]; simp [av]⟩
   rintro σ' H2 ⟨D,x,v,v',rfl,s4,h4,rfl⟩
   exact ⟨_,rfl,D,_,_,_,rfl,rfl,qL_ h4,rfl,k H2 s4⟩
 ·refine ⟨_,(af (aY (aJ bB hr (aa (pv 1) (aa ah (aa kA ag)))))
   (af (aY (aJ fE hr (aa (pv 0) (aa kA ag))))
   (af (bw PassesOwn.never rfl (kB (pv 0)) (aE (i:=2) sc_number_of.nd rfl (Or.inl rfl)) (ak (bT (kE (h7 (aJ bU hr (aa (pv 2) (aa ah (aa (ar jq (pv 1) ah) ag)))))) (ak jX) aZ)))
   (af (au (i:=3) sc_number_of.nd rfl (Or.inl rfl) (ar qY (bO f7 (by rfl) dc jz (aa (pv 0) ag)) (bq (aa ah ag))))
   (af (au (i:=4) sc_number_of.nd rfl (Or.inl rfl) (pv 1))
   (af (eC PassesOwn.never (aK nk (aF ay (by rfl) aW bF (aa (pv 3) ag)) ah (aQ _)) (af (au (i:=3) sc_number_of.nd rfl (Or.inl rfl) (aJ jy hr (aa (pv 3) (aa (pv 4) ag))))
   (ak (au (i:=4) sc_number_of.nd rfl (Or.inl rfl) (ar jT (pv 4) (pv 4))))))
   (ak (aG (aB aH (pv 3) ah (fun _ _ => rfl)))))))))),?_⟩
  refine ⟨_,rfl,wd,2,_,rfl,w0,?_⟩
  refine ⟨_,rfl,b,_,_,rfl,(.inr hb),fun H1 s1 => ?_⟩
  have hb1:=s1 _ _ hb
  refine ⟨_,rfl,b,rfl,⟨_,qT_ hb1⟩,jF (K:=K) (xs:=ds.map V.int) (fun i σ' H' => ∃ v,σ' = [some (.ref b),some (.int wd),v,none,none] /\ H' = H1) ⟨none,rfl,rfl⟩ (fun i σ' H' _ ⟨_,_,e⟩ => by rw [e]; exact qT_ hb1) ?_ ?_⟩
  ·rintro i y σ' H' hi ⟨v,rfl,rfl⟩
   obtain ⟨z,rfl,hz⟩:=bb hi
   have hz' := hin z (mq_ hz)
   refine ⟨_,rfl,_,rfl,_,_,rfl,rfl,z,0,_,rfl,⟨hz'.1,by omega⟩,_,rfl,jb ?_⟩
   exact ⟨_,rfl,rfl⟩
  ·rintro σ' H' ⟨v,rfl,rfl⟩
   refine ⟨_,rfl,b,_,rfl,.inr (qT_ hb1),fun l1 hl1 => ?_⟩
   refine ⟨(by show 1 <= sizeLine; decide),fun l2 hl2 => ?_⟩
   have n12 : l1 ≠ l2:=aq ae hl2
   refine ⟨l1,l2,_,_,rfl,rfl,(by rw [ao n12,ae]),ae,(by rw [lp]; simp only [List.length_singleton]; omega),fun D hD => ?_⟩
   have s2:=(aj hl1 (HO.lst (ds.map V.int))).trans ((aj hl2 (HO.lst [V.int 0])).trans (aj hD (HO.lst (ds.map V.int ++ [V.int 0]))))
   have s3:=s1.trans s2
   have fD : H D = none:=(s1.trans ((aj hl1 (HO.lst (ds.map V.int))).trans (aj hl2 (HO.lst [V.int 0])))).free hD
   refine ⟨_,rfl,?_⟩
   try dsimp only [aL]
   refine d6 (t:=h9 _ _) (fun σ' H' => ∃ (D : Addr) (x : Int) (v v' : OV),σ' = [some (.ref b),some (.int wd),v,some (.ref D),v'] /\ Same H H' /\ H' D = some (.lst [V.int x]) /\ x = av wd ds) ?_ (fun D' nxt => ?_)
   rotate_left
   ·refine gI (fun m σ' H' => ∃ (D : Addr) (t : Nat) (ps : LI) (v : OV),m = ps.length /\ σ' = [some (.ref b),some (.int wd),v,some (.ref D),some (.int (pw wd t))] /\ Same H H' /\ H' D = some (.lst (ps.map V.int)) /\ InB (pw wd t) ps /\ av (pw wd t) ps = av wd ds /\ 1 <= ps.length /\ ps.length <= ds.length + 1 /\ (1 < ps.length -> 2 ^ t <= ds.length /\ 2 ^ t * (ps.length - 1) <= ds.length))
     ⟨_,D,0,ds ++ [0],_,rfl,rfl,s3,?_,hin.append (InB.cons (by decide) (by omega) InB.nil),?_,by simp,by simp,fun h => by simp at h ⊢; omega⟩ ?_
    ·rw [ae,List.map_append]; rfl
    ·show av wd (ds ++ [0]) = _
     rw [kQ,Int.zero_mul,Int.add_zero]
    rintro m σ' H2 ⟨D,t,ps,v,rfl,rfl,s4,h4,hi4,hv4,hl4,hl5,h6⟩
    have lq : (ps.map V.int).length = ps.length:=List.length_map _
    refine ⟨_,rfl,D,_,rfl,.inl (qL_ h4),_,_,rfl,rfl,_,rfl,gr (fun c => ?_) (fun c => ?_)⟩
    ·have c' : 1 < ps.length:=by
      have : (1 : Int) < (((ps.map V.int).length : Nat) : Int):=c
      omega
     obtain ⟨q1,q2⟩:=h6 c'
     have mB : pw wd t < BIG:=by
      have : wd ^ (2 ^ t) <= wd ^ (ds.length + 1):=fj (by omega) (by omega)
      rw [uv]
      omega
     have p2:=kF w0 t
     refine ⟨_,fun σ' H' h => h,?_⟩
     refine ⟨_,rfl,_,rfl,D,_,ps,rfl,h4,by omega,⟨by omega,mB⟩,fun p hp => ⟨(hi4 p hp).1,by have:=(hi4 p hp).2; omega⟩,fun l H3 s5 fl hl3 => ?_⟩
     refine ⟨_,rfl,_,rfl,_,_,rfl,rfl,⟨⟨by omega,mB⟩,⟨by omega,mB⟩⟩,(bu (pw wd t) ps).length,?_,l,t + 1,bu (pw wd t) ps,_,rfl,rfl,s4.trans s5,hl3,kq (by omega) hi4,?_,?_,?_,fun h => ?_⟩
     ·rw [bG]; omega
     ·show av (pw wd t * pw wd t) _ = _
      rw [jh]; exact hv4
     ·rw [bG]; omega
     ·rw [bG]; omega
     ·rw [bG] at h ⊢
      have e2 : 2 ^ (t + 1) = 2 * 2 ^ t:=by rw [Nat.pow_succ,Nat.mul_comm]
      have k1 : 2 ^ t * 2 <= 2 ^ t * (ps.length - 1):=Nat.mul_le_mul_left _ (by omega)
      have k2 : 2 ^ t * (2 * ((ps.length + 1) / 2 - 1)) <= 2 ^ t * (ps.length - 1):=Nat.mul_le_mul_left _ (by omega)
      rw [<- Nat.mul_assoc] at k2
      rw [e2]
      constructor
      ·omega
      ·rw [Nat.mul_comm 2 (2 ^ t)]; omega
    ·have c' : ps.length = 1:=by
      have : ¬ ((1 : Int) < (((ps.map V.int).length : Nat) : Int)):=c
      omega
     obtain ⟨x,rfl⟩:=List.length_eq_one_iff.mp c'
     exact nxt _ _ ⟨D,x,_,_,rfl,s4,h4,by rw [<- hv4]; simp [av]⟩
   rintro σ' H2 ⟨D,x,v,v',rfl,s4,h4,rfl⟩
   exact ⟨_,rfl,D,_,_,_,rfl,rfl,qL_ h4,rfl,k H2 s4⟩
end
theorem yf {f : Nat -> Int} {many t : Nat} (h : t < many) : ((List.range many).map f).getD t 0 = f t:=by simp [h]
def it0 (rows : LL) (q : Int) : Nat -> Int
 | 0 => q
 | k + 1 => stepI rows (it0 rows q k) 0
theorem mM {many wide : Nat} {rows : LL} (R : RowsOk many wide rows) (w1 : 1 <= wide) {q : Int} (q0 : 0 <= q) (q1 : q < (many : Int)) : ∀ k,0 <= it0 rows q k /\ it0 rows q k < (many : Int)
 | 0 => ⟨q0,q1⟩
 | k + 1 => by
  have h:=mM R w1 q0 q1 k
  exact aR R h.1 h.2 (by decide) (by omega)
theorem jI (rows : LL) (q : Int) : ∀ k,it0 rows (stepI rows q 0) k = it0 rows q (k + 1)
 | 0 => rfl
 | k + 1 => by
  show stepI rows (it0 rows (stepI rows q 0) k) 0 = stepI rows (it0 rows q (k + 1)) 0
  rw [jI rows q k]
theorem pX {rows : LL} {q : Int} {i j : Nat} (h : it0 rows q i = it0 rows q j) : ∀ t,it0 rows q (i + t) = it0 rows q (j + t)
 | 0 => h
 | t + 1 => by
  show stepI rows (it0 rows q (i + t)) 0 = stepI rows (it0 rows q (j + t)) 0
  rw [pX h t]
theorem ua {many wide : Nat} {rows : LL} (R : RowsOk many wide rows) (w1 : 1 <= wide) {q : Int} (q0 : 0 <= q) (q1 : q < (many : Int)) : ∃ c,1 <= c /\ c <= many /\ ∀ t,it0 rows q (many + c + t) = it0 rows q (many + t):=by
 have ex : ∃ i j,i < j /\ j <= many /\ it0 rows q i = it0 rows q j:=by
  refine Classical.byContradiction fun no => ?_
  have nd : ((List.range (many + 1)).map (it0 rows q)).Nodup:=by
   refine List.pairwise_iff_getElem.mpr fun i j hi hj hij => ?_
   intro e
   rw [lm_,List.length_range] at hi hj
   simp at e
   exact no ⟨i,j,hij,by omega,e⟩
  have:=bK many nd (fun x hx => by
   obtain ⟨i,_,rfl⟩:=List.mem_map.mp hx
   exact mM R w1 q0 q1 i)
  rw [lm_,List.length_range] at this
  omega
 obtain ⟨i,j,hij,hj,e⟩:=ex
 refine ⟨j - i,by omega,by omega,fun t => ?_⟩
 have:=pX e (many - i + t)
 rw [show i + (many - i + t) = many + t from by omega,show j + (many - i + t) = many + (j - i) + t from by omega] at this
 exact this.symm
def sI (rows : LL) (q : Int) (n : Nat) : Nat -> Int
 | 0 => it0 rows q n
 | k + 1 => if it0 rows q (n + k + 1) < sI rows q n k then it0 rows q (n + k + 1) else sI rows q n k
theorem jO {rows : LL} {q : Int} {n : Nat} : ∀ {k i : Nat},i <= k -> sI rows q n k <= it0 rows q (n + i)
 | 0,i,h => by
  have : i = 0:=by omega
  subst this
  exact Int.le_refl _
 | k + 1,i,h => by
  simp only [sI]
  rcases Nat.lt_or_eq_of_le h with z | z
  ·have:=jO (rows:=rows) (q:=q) (n:=n) (show i <= k by omega)
   split
   ·omega
   ·exact this
  ·subst z
   have e : n + (k + 1) = n + k + 1:=by omega
   rw [e]
   split <;> omega
theorem l6 {rows : LL} {q : Int} {n : Nat} : ∀ k : Nat,∃ i,i <= k /\ sI rows q n k = it0 rows q (n + i)
 | 0 => ⟨0,Nat.le_refl _,rfl⟩
 | k + 1 => by
  simp only [sI]
  split
  ·exact ⟨k + 1,Nat.le_refl _,rfl⟩
  ·obtain ⟨i,hi,e⟩:=l6 (rows:=rows) (q:=q) (n:=n) k
   exact ⟨i,by omega,e⟩
def fq (rows : LL) (n : Nat) (q : Int) : Int:=sI rows q n n
theorem xN {many wide : Nat} {rows : LL} (R : RowsOk many wide rows) (w1 : 1 <= wide) {q : Int} (q0 : 0 <= q) (q1 : q < (many : Int)) : 0 <= fq rows many q /\ fq rows many q < (many : Int):=by
 obtain ⟨i,_,e⟩:=l6 (rows:=rows) (q:=q) (n:=many) many
 unfold fq
 rw [e]
 exact mM R w1 q0 q1 _
theorem uw {many wide : Nat} {rows : LL} (R : RowsOk many wide rows) (w1 : 1 <= wide) {q : Int} (q0 : 0 <= q) (q1 : q < (many : Int)) : fq rows many (stepI rows q 0) = fq rows many q:=by
 obtain ⟨c,c1,c2,hc⟩:=ua R w1 q0 q1
 unfold fq
 refine Int.le_antisymm ?_ ?_
 ·obtain ⟨j,hj,e⟩:=l6 (rows:=rows) (q:=q) (n:=many) many
  rw [e]
  by_cases z : j = 0
  ·subst z
   have:=jO (rows:=rows) (q:=stepI rows q 0) (n:=many) (k:=many) (i:=c - 1) (by omega)
   rw [jI,show many + (c - 1) + 1 = many + c + 0 from by omega,hc 0] at this
   exact this
  ·have:=jO (rows:=rows) (q:=stepI rows q 0) (n:=many) (k:=many) (i:=j - 1) (by omega)
   rw [jI,show many + (j - 1) + 1 = many + j from by omega] at this
   exact this
 ·obtain ⟨i,hi,e⟩:=l6 (rows:=rows) (q:=stepI rows q 0) (n:=many) many
  rw [e,jI]
  by_cases z : i = many
  ·have:=jO (rows:=rows) (q:=q) (n:=many) (k:=many) (i:=many + 1 - c) (by omega)
   rw [<- hc (many + 1 - c)] at this
   rw [show many + i + 1 = many + c + (many + 1 - c) from by omega]
   exact this
  ·have:=jO (rows:=rows) (q:=q) (n:=many) (k:=many) (i:=i + 1) (by omega)
   rw [show many + (i + 1) = many + i + 1 from by omega] at this
   exact this
def l3 (many : Nat) (rows : LL) (signs : LI) : Prop := ∀ q : Int,0 <= q -> q < (many : Int) -> signs.getD (stepI rows q 0).toNat 0 = signs.getD q.toNat 0
theorem wm {many wide : Nat} {rows : LL} {signs drawn : LI} (R : RowsOk many wide rows) (w1 : 1 <= wide) (e : signs = (List.range many).map fun q : Nat => drawn.getD (fq rows many q).toNat 0) : l3 many rows signs:=fun q q0 q1 => by
 have h:=aR R q0 q1 (show (0 : Int) <= 0 by decide) (show (0 : Int) < wide by omega)
 have m1 : ∀ x : Int,0 <= x -> x < (many : Int) -> signs.getD x.toNat 0 = drawn.getD (fq rows many x).toNat 0:=fun x x0 x1 => by
  have hx : x.toNat < many:=by omega
  rw [e,yf hx,show ((x.toNat : Nat) : Int) = x from by omega]
 rw [m1 _ h.1 h.2,m1 _ q0 q1,uw R w1 q0 q1]
def AJ (signs : LI) (q : Int) : Int:=signs.getD q.toNat 0
theorem wC {n : Nat} (h : n <= 100000) : n < sizeLine:=Nat.lt_of_le_of_lt h (by decide)
theorem x4 {α : Type} {f : α -> V} {xs : List α} {k : Int} {x : α} (h0 : 0 <= k) (h : xs[k.toNat]? = some x) : atI (xs.map f) k = some (f x):=by
 have ek : k = ((k.toNat : Nat) : Int):=by omega
 have q : atI (xs.map f) ((k.toNat : Nat) : Int) = some (f x):=l4 (by rw [List.getElem?_map,h] <;> rfl)
 rw [<- ek] at q
 exact q
def gN (rows : LL) (signs : LI) (s : Int) (row : LI) (q : Int) : Bool:=decide (V.int (AJ signs (aI rows row q)) = V.int s)
def iT (rows : LL) (signs : LI) (s : Int) (many : Nat) (row : LI) : List Bool:=(List.range many).map fun q : Nat => gN rows signs s row q
theorem sr {rows : LL} {signs row : LI} {s : Int} {many : Nat} {q : Int} (q0 : 0 <= q) (q1 : q < (many : Int)) : atI ((iT rows signs s many row).map V.bl) q = some (V.bl (gN rows signs s row q)):=by
 refine x4 q0 ?_
 have h : q.toNat < many:=by omega
 unfold iT
 rw [List.getElem?_map,List.getElem?_range h]
 show some (gN rows signs s row ((q.toNat : Nat) : Int)) = _
 rw [show ((q.toNat : Nat) : Int) = q from by omega]
def GoalsAt (H : Hp) (rows : LL) (signs : LI) (s : Int) (many : Nat) : List Addr -> LL -> Prop:=Paired fun a row => H a = some (.lst ((iT rows signs s many row).map V.bl))
theorem GoalsAt.same {H H' : Hp} {rows : LL} {signs : LI} {s : Int} {many : Nat} {gas : List Addr} {rs : LL} (h : GoalsAt H rows signs s many gas rs) (sm : Same H H') : GoalsAt H' rows signs s many gas rs:=Paired.mapP h fun _ _ q => sm _ _ q
theorem GoalsAt.get : ∀ {H : Hp} {rows : LL} {signs : LI} {s : Int} {many : Nat} {gas : List Addr} {rs : LL} {i : Nat},GoalsAt H rows signs s many gas rs -> (h : i < rs.length) -> ∃ a,gas[i]? = some a /\ H a = some (.lst ((iT rows signs s many rs[i]).map V.bl))
 | _,_,_,_,_,_,_,_,.nil,h => by simp at h
 | _,_,_,_,_,_,_,0,.cons (a:=a) r _,_ => ⟨a,rfl,r⟩
 | _,_,_,_,_,_,_,i + 1,.cons _ t,h => by
  obtain ⟨a,h1,h2⟩:=GoalsAt.get (i:=i) t (by simpa using h)
  exact ⟨a,by simpa using h1,by simpa using h2⟩
theorem um {α β : Type} {F : α -> β -> Prop} {xs : List α} {ys : List β} (h : Paired F xs ys) : Paired F xs.reverse ys.reverse:=by
 induction h with
 | nil => exact .nil
 | cons r t ih => rw [List.reverse_cons,List.reverse_cons]; exact Paired.snoc ih r
def rq (K : PySem.W.Frag) : Sp:=fun vs H Q _ => ∃ (m r g b : Addr) (many wide : Nat) (rows : LL) (signs ds : LI) (s : Int),vs = [.ref m,.ref b,.int s] /\ MachAt H m r g wide rows signs /\ RowsOk many wide rows /\ signs.length = many /\ (1 <= many /\ many <= 1000) /\
 H b = some (.tup (ds.map V.int)) /\ InB (wide : Int) ds /\ ds.length <= 2000 /\
 ∀ (l : Addr) (H' : Hp) (gas : List Addr),Same H H' -> H' l = some (.lst (gas.map V.ref)) -> GoalsAt H' rows signs s many gas ((List.range (ds.length + 1)).map fun i => ds.drop i) -> Q (.ref l) H'
section
variable {P : Program} {w : World} {K : PySem.W.Frag} {mg : Str -> Option Value} {base : Heap} {f : Addr} {fd : FuncData} {dV : Value}
theorem sc_goals_along : FnScope ["machine","row","sign","goal","goals","figure"] ["machine","row","sign"] (ai bt):=⟨rfl,rfl,rfl,by decide +kernel,rfl,by decide +kernel,by decide +kernel⟩
theorem bk_goals_along_0 : BlkScope ["machine","row","sign","goal","goals","figure"] (ai bt) ["other","sign"] [none,some 2] { kind:=ScopeKind.function,names:=[(".0",NameKind.local),("other",NameKind.local),("sign",NameKind.free)],isGenerator:=false,isCoroutine:=false,more:=[] }:=⟨rfl,by decide +kernel,by decide +kernel,by decide +kernel,by decide +kernel,rfl,by decide +kernel⟩
theorem bk_goals_along_1 : BlkScope ["machine","row","sign","goal","goals","figure"] (ai bt) ["leading","figure","goal"] [none,some 5,some 3] { kind:=ScopeKind.function,names:=[(".0",NameKind.local),("leading",NameKind.local),("figure",NameKind.free),("goal",NameKind.free)],isGenerator:=false,isCoroutine:=false,more:=[] }:=⟨rfl,by decide +kernel,by decide +kernel,by decide +kernel,by decide +kernel,rfl,by decide +kernel⟩
theorem xj (F : FunD K "goals_along" "goals_along" bt dV f fd) (de : mg "reversed" = none) : FnOk P w K mg base CX0 1 f fd ["machine","row","sign"] (rq K):=by
 refine F.ok sc_goals_along (fun vs H Q E h => ?_) (fun cdv A outer s H vs Q E hr h => ?_)
 ·obtain ⟨m,r,g,b,many,wide,rows,signs,ds,s,rfl,_⟩:=h
  rfl
 obtain ⟨m,r,g,b,many,wide,rows,signs,ds,s,rfl,M,R,lsg,⟨n0,n1⟩,hb,hi,hds,k⟩:=h
 obtain ⟨ras,hr',hA⟩:=M.rows
 have lr : ras.length = many:=by rw [hA.length,R.len]
 refine ⟨_,(af (au (i:=3) sc_goals_along.nd rfl (Or.inr rfl) (gF rfl bk_goals_along_0 (kB (aB a8 (pv 0) ah (fun _ _ => rfl))) (fun _ _ _ _ => (aE (i:=0) bk_goals_along_0.nd rfl (Or.inl rfl))) (fun _ _ _ _ => (l7 hX (pv 0) (pv 1) (aQ _)))))
   (af (au (i:=4) sc_goals_along.nd rfl (Or.inl rfl) (bq (aa (pv 3) ag)))
   (af (bw PassesOwn.never rfl (yw rfl de (aa (pv 1) ag)) (aE (i:=5) sc_goals_along.nd rfl (Or.inr rfl)) (af (au (i:=3) sc_goals_along.nd rfl (Or.inr rfl) (gF rfl bk_goals_along_1 (kB (aB a8 (pv 0) ah (fun _ _ => rfl))) (fun _ _ _ _ => (aE (i:=0) bk_goals_along_1.nd rfl (Or.inl rfl))) (fun _ _ _ _ => (aB (mO K) (pv 2) (aB (yc K) (pv 0) (pv 1) (fun _ _ => rfl)) (fun _ _ => rfl)))))
   (ak (aY (eB PySem.F.plainAttrs_list PySem.F.slot_list_append PySem.F.type_list_append aV (pv 4) (aa (pv 3) ag))))))
   (ak (aG (p9 tJ (pv 4) gG gG (jW (qc kP ah)))))))),?_⟩
 refine ⟨_,rfl,m,_,_,_,rfl,rfl,qT_ M.tup,rfl,g,rfl,⟨_,qT_ M.sgn⟩,?_⟩
 refine rY (K:=K) (xs:=signs.map V.int) (fun D i ys H' => Same H H' /\ ys = ((List.range i).map fun q : Nat => gN rows signs s [] q).map V.bl) (fun D hD => ⟨aj hD _,rfl⟩) (fun D i ys H' _ ⟨e,_⟩ => qT_ (e _ _ M.sgn)) ?_ ?_
 ·rintro D i y ys H' Q' hD hi' hy ⟨hs,rfl⟩ k'
  obtain ⟨z,rfl,hz⟩:=bb hi'
  have il:=(gi_ hz).1
  refine ⟨_,rfl,_,rfl,rfl,k' _ _ hy (aA (by rw [lm_,lm_,List.length_range]; omega)) ⟨aw hs hD,?_⟩⟩
  rw [List.range_succ,List.map_append,List.map_append]
  congr 1
  show [V.bl (decide (V.int z = V.int s))] = [V.bl (decide (V.int (signs.getD ((i : Int)).toNat 0) = V.int s))]
  rw [Int.toNat_natCast,List.getD_eq_getElem?_getD,hz]
  rfl
 rintro G0 ys H1 fG0 hG0 ⟨s1,rfl⟩
 rw [lm_,lsg] at hG0
 have hG0' : H1 G0 = some (.lst ((iT rows signs s many []).map V.bl)):=hG0
 try dsimp only [aL]
 refine ⟨_,rfl,(by show 1 <= sizeLine; decide),fun L hL => ?_⟩
 have sL:=aj hL (HO.lst [V.ref G0])
 have fL : H L = none:=s1.free hL
 have nG : G0 ≠ L:=aq hG0 hL
 have ed0 : ds.drop (ds.length - 0) = []:=by rw [Nat.sub_zero,List.drop_length]
 have lds : (ds.map V.int).length = ds.length:=List.length_map _
 refine ⟨_,rfl,b,_,rfl,qT_ ((s1.trans sL) _ _ hb),?_⟩
 refine wU (K:=K) (xs:=ds.map V.int) (fun i σ' H' => ∃ (G : Addr) (gas : List Addr) (v1 : OV),σ' = [some (.ref m),some (.ref b),some (.int s),some (.ref G),some (.ref L),v1] /\ Same H H' /\ H' G = some (.lst ((iT rows signs s many (ds.drop (ds.length - i))).map V.bl)) /\ H' L = some (.lst (gas.map V.ref)) /\ (∀ a ∈ gas,a ≠ L) /\ gas.length = i + 1 /\
   GoalsAt H' rows signs s many gas ((List.range (i + 1)).map fun j => ds.drop (ds.length - j)))
  ⟨G0,[G0],none,rfl,s1.trans sL,by rw [ed0]; exact sL _ _ hG0',ae,(fun a h => by rw [List.mem_singleton.mp h]; exact nG),rfl,.cons (by show _ = some (HO.lst ((iT rows signs s many (ds.drop (ds.length - 0))).map V.bl)); rw [ed0]; exact sL _ _ hG0') .nil⟩
  (fun i σ' H' _ ⟨_,_,_,_,e,_⟩ => qT_ (e _ _ hb)) ?_ ?_
 ·rintro i y σ' H2 hil hi' ⟨G,gas,v1,rfl,s2,hG2,hL2,nL,lg,Gs⟩
  rw [lds] at hil hi'
  obtain ⟨z,rfl,hz⟩:=bb hi'
  have zr:=hi z (mq_ hz)
  have edr : ds.drop (ds.length - (i + 1)) = z :: ds.drop (ds.length - i):=by
   have e1 : ds.length - (i + 1) = ds.length - 1 - i:=by omega
   have e2 : ds.length - 1 - i < ds.length:=by omega
   rw [e1,List.drop_eq_getElem_cons e2]
   congr 1
   ·rw [List.getElem?_eq_getElem e2] at hz
    exact Option.some.inj hz
   ·congr 1
    omega
  refine ⟨_,rfl,m,_,_,_,rfl,rfl,qT_ (s2 _ _ M.tup),rfl,r,rfl,⟨_,qT_ (s2 _ _ hr')⟩,?_⟩
  refine rY (K:=K) (xs:=ras.map V.ref) (fun D j ys H' => Same H2 H' /\ ys = ((List.range j).map fun q : Nat => gN rows signs s (ds.drop (ds.length - (i + 1))) q).map V.bl) (fun D hD => ⟨aj hD _,rfl⟩) (fun D j ys H' _ ⟨e,_⟩ => qT_ (e _ _ (s2 _ _ hr'))) ?_ ?_
  ·rintro D j y ys H' Q' hD hj hy ⟨hs,rfl⟩ k'
   have jl : j < rows.length:=by
    have:=(gi_ hj).1
    rw [lm_,hA.length] at this
    exact this
   obtain ⟨ra,e1,e2⟩:=hA.get jl
   have ey : y = .ref ra:=by rw [List.getElem?_map,e1] at hj; exact (Option.some.inj hj).symm
   subst ey
   have jm : j < many:=by rw [<- R.len]; exact jl
   have st:=aR R (show (0 : Int) <= (j : Int) by omega) (by omega) zr.1 zr.2
   have lrow : rows[j].length = wide:=R.row _ (List.getElem_mem jl)
   have es : (rows[j]).getD z.toNat 0 = stepI rows (j : Int) z:=by
    unfold stepI
    rw [Int.toNat_natCast,getD_at jl]
   have at1 : atI (rows[j].map V.int) z = some (.int (stepI rows (j : Int) z)):=by
    rw [bp zr.1 (by rw [lrow]; exact zr.2),es]
   refine ⟨_,rfl,_,rfl,_,rfl,ra,_,_,_,rfl,rfl,qT_ (hs _ _ (s2 _ _ e2)),at1,G,_,_,_,rfl,rfl,qL_ (hs _ _ hG2),sr st.1 st.2,k' _ _ hy (aA (by rw [lm_,lm_,List.length_range]; omega)) ⟨aw hs hD,?_⟩⟩
   rw [List.range_succ,List.map_append,List.map_append]
   congr 1
   show [V.bl (gN rows signs s (ds.drop (ds.length - i)) (stepI rows (j : Int) z))] = [V.bl (gN rows signs s (ds.drop (ds.length - (i + 1))) (j : Int))]
   unfold gN
   rw [edr]
   rfl
  rintro G2 ys H3 fG2 hG3 ⟨s3,rfl⟩
  rw [lm_,lr] at hG3
  have hL3:=s3 _ _ hL2
  have nG2 : G2 ≠ L:=Ne.symm (aq hL2 fG2)
  try dsimp only [aL]
  refine ⟨_,rfl,.inl ⟨rfl,_,qL_ hL3⟩,_,rfl,L,_,_,rfl,rfl,hL3,by rw [lm_,lg]; exact wC (by omega),?_⟩
  have up : ∀ {a : Addr} {xs : List V},a ≠ L -> H3 a = some (.lst xs) -> (upd H3 L (.lst (gas.map V.ref ++ [V.ref G2]))) a = some (.lst xs):=fun ne e => by rw [ao ne]; exact e
  have hG3' : H3 G2 = some (.lst ((iT rows signs s many (ds.drop (ds.length - (i + 1)))).map V.bl)):=hG3
  refine ⟨G2,gas ++ [G2],_,rfl,aw (s2.trans s3) fL,up nG2 hG3',by rw [ae,List.map_append]; rfl,?_,by simp [lg],?_⟩
  ·intro a h
   rcases ma_.mp h with z | z
   ·exact nL a z
   ·rw [List.mem_singleton.mp z]; exact nG2
  ·rw [List.range_succ,List.map_append]
   refine Paired.snoc ?_ (up nG2 hG3')
   have Gs3:=Gs.same s3
   have go : ∀ {gs : List Addr} {rs : LL},GoalsAt H3 rows signs s many gs rs -> (∀ a ∈ gs,a ≠ L) -> GoalsAt (upd H3 L (.lst (gas.map V.ref ++ [V.ref G2]))) rows signs s many gs rs:=by
    intro gs rs h
    induction h with
    | nil => intro _; exact .nil
    | cons q t ih => intro nL; exact .cons (up (nL _ List.mem_cons_self) q) (ih fun la h => nL la (List.mem_cons_of_mem _ h))
   exact go Gs3 nL
 ·rintro σ' H2 ⟨G,gas,v1,rfl,s2,hG2,hL2,nL,lg,Gs⟩
  rw [lds] at Gs lg
  refine ⟨_,rfl,_,rfl,_,rfl,L,_,rfl,rfl,rfl,rfl,qL_ hL2,fun p hp => ?_⟩
  have sp:=aj hp (HO.lst (gas.map V.ref).reverse)
  refine k p _ gas.reverse (s2.trans sp) (by rw [ae,List.map_reverse]) ?_
  have e:=um (Gs.same sp)
  have er : ((List.range (ds.length + 1)).map fun j => ds.drop (ds.length - j)).reverse = (List.range (ds.length + 1)).map fun i => ds.drop i:=by
   refine List.ext_getElem? fun i => ?_
   rcases Nat.lt_or_ge i (ds.length + 1) with h | h
   ·rw [List.getElem?_reverse (by simpa using h)]
    simp [h]
    have e2 : ds.length - i < ds.length + 1:=by omega
    simp [e2]
    congr 1
    omega
   ·rw [List.getElem?_eq_none (by simpa using h),List.getElem?_eq_none (by simpa using h)]
  rw [er] at e
  exact e
end
theorem w5 (ks : LI) (q : Int) : putK (kvT ks) (Sum.inl q) (V.bl true) = kvT (jZ ks q):=by
 unfold jZ
 by_cases h : q ∈ ks
 ·rw [if_pos h]
  unfold putK
  rw [if_pos (by rw [nU,jN,decide_eq_true h])]
  unfold kvT
  rw [List.map_map]
  refine List.map_congr_left fun p _ => ?_
  show (if Sum.inl p = Sum.inl q then (Sum.inl p,V.bl true) else (Sum.inl p,V.bl true)) = _
  rw [ite_self]
 ·rw [if_neg h,qG h]
theorem xH {s : LI} {x y : Int} : y ∈ jZ s x ↔ y ∈ s \/ y = x:=by
 unfold jZ
 by_cases h : x ∈ s
 ·rw [if_pos h]
  exact ⟨.inl,fun z => z.elim id fun e => e ▸ h⟩
 ·rw [if_neg h,List.mem_append,List.mem_singleton]
theorem yx {s : LI} {x : Int} (h : s.Nodup) : (jZ s x).Nodup:=by
 unfold jZ
 by_cases c : x ∈ s
 ·rw [if_pos c]; exact h
 ·rw [if_neg c]; exact jR h c
def rE (K : PySem.W.Frag) : Sp:=fun vs H Q _ => ∃ (r lv tk : Addr) (many wide : Nat) (ras : List Addr) (rows : LL) (ls fs : LI),vs = [.ref r,.ref lv,.ref tk] /\ H r = some (.tup (ras.map V.ref)) /\ RowsAt H ras rows /\ RowsOk many wide rows /\ (1 <= many /\ many <= 400) /\
 H lv = some (.lst (ls.map V.int)) /\ (∀ q ∈ ls,0 <= q /\ q < (many : Int)) /\ H tk = some (.tup (fs.map V.int)) /\ (∀ f ∈ fs,0 <= f /\ f < (wide : Int)) /\
 ∀ (l : Addr) (H' : Hp) (qs : LI),Same H H' -> H' l = some (.lst (qs.map V.int)) -> qs.Nodup -> (∀ q,q ∈ qs ↔ ∃ h ∈ ls,∃ f ∈ fs,stepI rows h f = q) -> Q (.ref l) H'
theorem wB {gb : Nat -> Bool} {many : Nat} {k : Int} (h0 : 0 <= k) (h1 : k < (many : Int)) : atI (((List.range many).map gb).map V.bl) k = some (.bl (gb k.toNat)):=by
 have ek : k = ((k.toNat : Nat) : Int):=by omega
 have q : atI (((List.range many).map gb).map V.bl) ((k.toNat : Nat) : Int) = some (.bl (gb k.toNat)):=l4 (by
  rw [List.getElem?_map,List.getElem?_map,List.getElem?_range (show k.toNat < many by omega)]
  rfl)
 rw [<- ek] at q
 exact q
section
variable {P : Program} {w : World} {K : PySem.W.Frag} {mg : Str -> Option Value} {base : Heap} {f : Addr} {fd : FuncData} {dV : Value}
theorem sc_next_rooms : FnScope ["rows","level","taken","reached","here","row","figure"] ["rows","level","taken"] (ai cm):=⟨rfl,rfl,rfl,by decide +kernel,rfl,by decide +kernel,by decide +kernel⟩
theorem sc_first_leading : FnScope ["rows","level","order","goal","figure","here"] ["rows","level","order","goal"] (ai bz):=⟨rfl,rfl,rfl,by decide +kernel,rfl,by decide +kernel,by decide +kernel⟩
theorem xn (F : FunD K "next_rooms" "next_rooms" cm dV f fd) (dc : mg "list" = none) : FnOk P w K mg base CX0 1 f fd ["rows","level","taken"] (rE K):=by
 refine F.ok sc_next_rooms (fun vs H Q E h => ?_) (fun cdv A outer s H vs Q E hr h => ?_)
 ·obtain ⟨r,lv,tk,many,wide,ras,rows,ls,fs,rfl,_⟩:=h
  rfl
 obtain ⟨r,lv,tk,many,wide,ras,rows,ls,fs,rfl,hr',hA,R,⟨n0,n1⟩,hlv,lin,htk,fin,k⟩:=h
 have hu:=wX hr
 refine ⟨_,(af (au (i:=3) sc_next_rooms.nd rfl (Or.inl rfl) tw)
   (af (bw PassesOwn.never rfl (cZ (pv 1)) (aE (i:=4) sc_next_rooms.nd rfl (Or.inl rfl)) (af (au (i:=5) sc_next_rooms.nd rfl (Or.inl rfl) (aB a8 (pv 0) (pv 4) (fun _ _ => rfl)))
   (ak (bw PassesOwn.never rfl (kB (pv 2)) (aE (i:=6) sc_next_rooms.nd rfl (Or.inl rfl)) (ak (u6 hu (pv 3) (aB a8 (pv 5) (pv 6) (fun _ _ => rfl)) jU rfl))))))
   (ak (aG (bO (tU rfl) (by rfl) dc jz (aa (pv 3) ag)))))),?_⟩
 refine fun D hD => ?_
 have sD:=aj hD (HO.dK [])
 try dsimp only [aL]
 refine ic (t:=nN _ _ _) (fun σ' H' => ∃ (qs : LI) (v4 v5 v6 : OV),σ' = [some (.ref r),some (.ref lv),some (.ref tk),some (.ref D),v4,v5,v6] /\ Same H H' /\ H' D = some (.dK (kvT qs)) /\ qs.Nodup /\ (∀ q,q ∈ qs ↔ ∃ h ∈ ls,∃ f ∈ fs,stepI rows h f = q)) ?_ (fun nxt => ?_)
 rotate_left
 ·refine ⟨_,rfl,lv,rfl,⟨_,qL_ (sD _ _ hlv)⟩,cT (K:=K) (xs:=ls.map V.int) (fun i σ' H' => ∃ (qs : LI) (v4 v5 v6 : OV),σ' = [some (.ref r),some (.ref lv),some (.ref tk),some (.ref D),v4,v5,v6] /\ Same H H' /\ H' D = some (.dK (kvT qs)) /\ qs.Nodup /\ (∀ q,q ∈ qs ↔ ∃ h ∈ ls.take i,∃ f ∈ fs,stepI rows h f = q))
   ⟨[],none,none,none,rfl,sD,ae,List.Pairwise.nil,fun q => ⟨(fun z => by cases z),fun ⟨h,z,_⟩ => by simp at z⟩⟩ (fun i σ' H' _ ⟨_,_,_,_,_,e,_⟩ => qL_ (e _ _ hlv)) ?_ ?_⟩
  ·rintro i y σ' H1 hi ⟨qs,v4,v5,v6,rfl,s1,hD1,nd1,m1⟩
   obtain ⟨here,rfl,hz⟩:=bb hi
   have hin:=lin here (mq_ hz)
   have l1 : here.toNat < rows.length:=by rw [R.len]; omega
   obtain ⟨ra,e1,e2⟩:=hA.get l1
   have lr : rows[here.toNat].length = wide:=R.row _ (List.getElem_mem l1)
   refine ⟨_,rfl,_,rfl,r,_,_,_,rfl,rfl,qT_ (s1 _ _ hr'),dU hin.1 e1,?_⟩
   try dsimp only [aL]
   refine ⟨_,rfl,tk,rfl,⟨_,qT_ (s1 _ _ htk)⟩,jF (K:=K) (xs:=fs.map V.int) (fun j σ' H' => ∃ (qs : LI) (v6 : OV),σ' = [some (.ref r),some (.ref lv),some (.ref tk),some (.ref D),some (.int here),some (.ref ra),v6] /\ Same H H' /\ H' D = some (.dK (kvT qs)) /\ qs.Nodup /\ (∀ q,q ∈ qs ↔ (∃ h ∈ ls.take i,∃ f ∈ fs,stepI rows h f = q) \/ ∃ f ∈ fs.take j,stepI rows here f = q))
    ⟨qs,v6,rfl,s1,hD1,nd1,fun q => by rw [m1 q]; simp⟩ (fun j σ' H' _ ⟨_,_,_,e,_⟩ => qT_ (e _ _ htk)) ?_ ?_⟩
   ·rintro j y σ' H2 hj ⟨qs,v6,rfl,s2,hD2,nd2,m2⟩
    obtain ⟨fi,rfl,hfi⟩:=bb hj
    have ff:=fin fi (mq_ hfi)
    have at1 : atI (rows[here.toNat].map V.int) fi = some (.int (stepI rows here fi)):=by
     rw [bp ff.1 (by omega)]
     unfold stepI
     rw [getD_at l1]
    have few:=bK many nd2 fun q hq => by
     rcases (m2 q).mp hq with ⟨h,hh,f,hf,e⟩ | ⟨f,hf,e⟩
     ·have hi2:=lin h (List.mem_of_mem_take hh)
      rw [<- e]; exact aR R hi2.1 hi2.2 (fin f hf).1 (fin f hf).2
     ·have:=fin f (List.mem_of_mem_take hf)
      rw [<- e]; exact aR R hin.1 hin.2 this.1 this.2
    refine ⟨_,rfl,_,rfl,_,rfl,ra,_,_,_,rfl,rfl,qT_ (s2 _ _ e2),at1,D,_,rfl,DPut.k (k:=Sum.inl (stepI rows here fi)) hD2 (aA (by unfold kvT; rw [lm_]; omega)),?_⟩
    rw [w5]
    refine ⟨jZ qs (stepI rows here fi),_,rfl,aw s2 hD,ae,yx nd2,fun q => ?_⟩
    rw [xH,m2 q]
    constructor
    ·rintro ((z | ⟨f,z,e⟩) | z)
     ·exact .inl z
     ·exact .inr ⟨f,(bC hfi).mpr (.inl z),e⟩
     ·exact .inr ⟨fi,(bC hfi).mpr (.inr rfl),z.symm⟩
    ·rintro (z | ⟨f,z,e⟩)
     ·exact .inl (.inl z)
     ·rcases (bC hfi).mp z with y | y
      ·exact .inl (.inr ⟨f,y,e⟩)
      ·rw [y] at e; exact .inr e.symm
   ·rintro σ' H2 ⟨qs,v6,rfl,s2,hD2,nd2,m2⟩
    rw [lm_,List.take_length] at m2
    refine ⟨qs,_,_,_,rfl,s2,hD2,nd2,fun q => ?_⟩
    rw [m2 q]
    constructor
    ·rintro (⟨h,z,e⟩ | z)
     ·exact ⟨h,(bC hz).mpr (.inl z),e⟩
     ·exact ⟨here,(bC hz).mpr (.inr rfl),z⟩
    ·rintro ⟨h,z,e⟩
     rcases (bC hz).mp z with y | y
     ·exact .inl ⟨h,y,e⟩
     ·rw [y] at e; exact .inr e
  ·rintro σ' H1 ⟨qs,v4,v5,v6,rfl,s1,hD1,nd1,m1⟩
   rw [lm_,List.take_length] at m1
   exact nxt _ _ ⟨qs,_,_,_,rfl,s1,hD1,nd1,m1⟩
 rintro σ' H1 ⟨qs,v4,v5,v6,rfl,s1,hD1,nd1,m1⟩
 refine ⟨_,rfl,D,_,rfl,hD1,fun l hl => ?_⟩
 have e : (kvT qs).map (fun q => kV q.1) = qs.map V.int:=by
  unfold kvT
  rw [List.map_map]
  rfl
 rw [e]
 exact k l _ qs (s1.trans (aj hl _)) ae nd1 m1
end
theorem tP {w : Int} (hw : 2 <= w) : ∀ {r s : LI},InB w r -> InB w s -> r.length = s.length -> av w r = av w s -> r = s
 | [],[],_,_,_,_ => rfl
 | [],_ :: _,_,_,h,_ => by cases h
 | _ :: _,[],_,_,h,_ => by cases h
 | d :: ds,e :: es,h,h',l,v => by
  have hd:=h d List.mem_cons_self
  have he:=h' e List.mem_cons_self
  have v1 : d + w * av w ds = e + w * av w es:=v
  have e1 : (d + w * av w ds) % w = d:=by rw [Int.add_mul_emod_self_left]; exact Int.emod_eq_of_lt hd.1 hd.2
  have e2 : (e + w * av w es) % w = e:=by rw [Int.add_mul_emod_self_left]; exact Int.emod_eq_of_lt he.1 he.2
  have ede : d = e:=by rw [<- e1,<- e2,v1]
  subst ede
  have ev : w * av w ds = w * av w es:=by omega
  have ev' := Int.eq_of_mul_eq_mul_left (by omega : w ≠ 0) ev
  rw [tP hw h.tail h'.tail (by simpa using l) ev']
def PathO (rows : LL) (G : Int -> Prop) : LL -> LL -> Int -> LI -> Prop
 | [],[],q,r => r = [] /\ G q
 | l :: ls,o :: os,q,r => q ∈ l /\ ∃ (f : Int) (r' : LI),r = f :: r' /\ f ∈ o /\ PathO rows G ls os (stepI rows q f) r'
 | _,_,_,_ => False
def rN (wide : Nat) (o : LI) : Prop:=(∀ f ∈ o,0 <= f /\ f < (wide : Int)) /\ o.Pairwise (· < ·)
theorem PathO.inb {rows : LL} {wide : Nat} {G : Int -> Prop} : ∀ {ls os : LL} {q : Int} {r : LI},(∀ o ∈ os,rN wide o) -> PathO rows G ls os q r -> InB (wide : Int) r
 | [],[],_,_,_,⟨e,_⟩ => by rw [e]; exact InB.nil
 | _ :: _,_ :: _,_,_,h,⟨_,f,r',e,hf,p⟩ => by
  have ff:=(h _ List.mem_cons_self).1 f hf
  rw [e]
  exact InB.cons ff.1 ff.2 (p.inb fun o ho => h o (List.mem_cons_of_mem _ ho))
 | [],_ :: _,_,_,_,p => p.elim
 | _ :: _,[],_,_,_,p => p.elim
theorem PathO.len {rows : LL} {G : Int -> Prop} : ∀ {ls os : LL} {q : Int} {r : LI},PathO rows G ls os q r -> r.length = ls.length
 | [],[],_,_,⟨e,_⟩ => by rw [e]; rfl
 | _ :: _,_ :: _,_,_,⟨_,f,r',e,hf,p⟩ => by rw [e,List.length_cons,List.length_cons,p.len]
 | [],_ :: _,_,_,p => p.elim
 | _ :: _,[],_,_,p => p.elim
theorem PathO.walk {rows : LL} {G : Int -> Prop} : ∀ {ls os : LL} {q : Int} {r : LI},PathO rows G ls os q r -> G (aI rows r q)
 | [],[],_,_,⟨e,g⟩ => by rw [e]; exact g
 | _ :: _,_ :: _,_,_,⟨_,f,r',e,hf,p⟩ => by rw [e]; exact p.walk
 | [],_ :: _,_,_,p => p.elim
 | _ :: _,[],_,_,p => p.elim
structure Tdl (rows : LL) (wide many : Nat) (G : Int -> Prop) (ls os : LL) (R : LI) (gb : Int -> Bool) : Prop where
 iff : ∀ q : Int,0 <= q -> q < (many : Int) -> (gb q = true ↔ PathO rows G ls os q R)
 inb : InB (wide : Int) R
 len : R.length = ls.length
 min : ∀ (q : Int) (r : LI),0 <= q -> q < (many : Int) -> PathO rows G ls os q r -> av wide R <= av wide r
theorem Tdl.step {rows : LL} {wide many : Nat} {G : Int -> Prop} {ls os : LL} {R l o : LI} {gb gb' : Int -> Bool} {f : Int} (w2 : 2 <= wide) (RO : RowsOk many wide rows) (hos : ∀ o ∈ os,rN wide o) (ho : rN wide o) (t : Tdl rows wide many G ls os R gb) (fo : f ∈ o)
  (hmin : ∀ g ∈ o,g < f -> ∀ h ∈ l,gb (stepI rows h g) = false) (hg : ∀ q : Int,0 <= q -> q < (many : Int) -> (gb' q = true ↔ q ∈ l /\ gb (stepI rows q f) = true)) : Tdl rows wide many G (l :: ls) (o :: os) (f :: R) gb' := by
 have ff:=ho.1 f fo
 refine ⟨fun q q0 q1 => ?_,InB.cons ff.1 ff.2 t.inb,by rw [List.length_cons,List.length_cons,t.len],fun q r q0 q1 p => ?_⟩
 ·rw [hg q q0 q1]
  have st:=aR RO q0 q1 ff.1 ff.2
  constructor
  ·rintro ⟨h1,h2⟩
   exact ⟨h1,f,R,rfl,fo,(t.iff _ st.1 st.2).mp h2⟩
  ·rintro ⟨h1,f',r',e,hf,p⟩
   cases e
   exact ⟨h1,(t.iff _ st.1 st.2).mpr p⟩
 ·obtain ⟨h1,g,r',rfl,hgo,p⟩:=p
  have hgi:=ho.1 g hgo
  have st:=aR RO q0 q1 hgi.1 hgi.2
  have m:=t.min _ _ st.1 st.2 p
  show f + (wide : Int) * av wide R <= g + (wide : Int) * av wide r'
  by_cases c : av (wide : Int) r' = av wide R
  ·have e:=tP (by omega) (p.inb hos) t.inb (by rw [p.len,t.len]) c
   subst e
   have : f <= g:=by
    refine Classical.byContradiction fun n => ?_
    have:=hmin g hgo (by omega) q h1
    rw [(t.iff _ st.1 st.2).mpr p] at this
    cases this
   omega
  ·have : (wide : Int) * (av wide R + 1) <= (wide : Int) * av wide r' := Int.mul_le_mul_of_nonneg_left (by omega) (by omega)
   rw [Int.mul_add,Int.mul_one] at this
   omega
theorem yB {o : LI} (h : o.Pairwise (· < ·)) {i j : Nat} {x y : Int} (hx : o[i]? = some x) (hy : o[j]? = some y) (lt : x < y) : i < j:=by
 refine Classical.byContradiction fun n => ?_
 rcases Nat.lt_or_ge j i with z | z
 ·obtain ⟨l1,e1⟩:=gi_ hx
  obtain ⟨l2,e2⟩:=gi_ hy
  have:=List.pairwise_iff_getElem.mp h j i l2 l1 z
  omega
 ·have : i = j:=by omega
  subst this
  rw [hx] at hy
  cases hy
  omega
theorem x9 {K : PySem.W.Frag} {a : Addr} {xs : List V} {g : TG} {tb : TS} {D : Ends} {σ : St} {H : Hp} (hb : SqL K H a xs \/ SqT K H a xs) (Pv : Nat -> St -> Hp -> Prop) (h0 : Pv 0 σ H) (hl : ∀ i σ H',i <= xs.length -> Pv i σ H' -> Same H H')
  (hs : ∀ i x σ H,xs[i]? = some x -> Pv i σ H -> g x σ H fun σ2 H2 => tb { D with nx:=Pv (i + 1),ct:=Pv (i + 1),bk:=D.nx } σ2 H2) (hd : ∀ σ H,Pv xs.length σ H -> D.nx σ H) :
  ((∃ xs,SqL K H a xs) /\ ∃ W : Nat -> Nat -> St -> Hp -> Prop,(∃ m,W 0 m σ H) /\ ∀ i m σ H,W i m σ H ->
   ((Itl K a).stop i H /\ D.nx σ H) \/ ((Itl K a).go i H /\ ∃ N : St -> Hp -> Prop,(∀ σ' H',N σ' H' -> ∃ m',m' < m /\ W (i + 1) m' σ' H') /\ ∀ x H',(Itl K a).yld i H x H' -> g x σ H' fun σ2 H2 => tb { D with nx:=N,ct:=N,bk:=D.nx } σ2 H2)) \/
  ((∃ xs,SqT K H a xs) /\ ∃ W : Nat -> Nat -> St -> Hp -> Prop,(∃ m,W 0 m σ H) /\ ∀ i m σ H,W i m σ H ->
   ((Itt K a).stop i H /\ D.nx σ H) \/ ((Itt K a).go i H /\ ∃ N : St -> Hp -> Prop,(∀ σ' H',N σ' H' -> ∃ m',m' < m /\ W (i + 1) m' σ' H') /\ ∀ x H',(Itt K a).yld i H x H' -> g x σ H' fun σ2 H2 => tb { D with nx:=N,ct:=N,bk:=D.nx } σ2 H2)):=by
 rcases hb with hb | hb
 ·exact .inl ⟨⟨xs,hb⟩,cT Pv h0 (fun i σ H' h p => (hl i σ H' h p).seq hb) hs hd⟩
 ·exact .inr ⟨⟨xs,hb⟩,jF Pv h0 (fun i σ H' h p => (hl i σ H' h p).tup hb) hs hd⟩
def SqO (H : Hp) (o : Addr) (fs : LI) : Prop:=H o = some (.lst (fs.map V.int)) \/ H o = some (.tup (fs.map V.int))
theorem SqO.same {H H' : Hp} {o : Addr} {fs : LI} (h : SqO H o fs) (s : Same H H') : SqO H' o fs:=h.elim (fun e => .inl (s _ _ e)) fun e => .inr (s _ _ e)
theorem SqO.sq {K : PySem.W.Frag} {H : Hp} {o : Addr} {fs : LI} (h : SqO H o fs) : SqL K H o (fs.map V.int) \/ SqT K H o (fs.map V.int):=h.elim (fun e => .inl (qL_ e)) fun e => .inr (qT_ e)
def j6 (K : PySem.W.Frag) : Sp:=fun vs H Q _ => ∃ (r lv o g : Addr) (many wide : Nat) (ras : List Addr) (rows : LL) (ls fs : LI) (gb : Int -> Bool),vs = [.ref r,.ref lv,.ref o,.ref g] /\ H r = some (.tup (ras.map V.ref)) /\ RowsAt H ras rows /\ RowsOk many wide rows /\
 H lv = some (.lst (ls.map V.int)) /\ (∀ q ∈ ls,0 <= q /\ q < (many : Int)) /\ SqO H o fs /\ (∀ f ∈ fs,0 <= f /\ f < (wide : Int)) /\ H g = some (.lst (((List.range many).map fun q : Nat => gb q).map V.bl)) /\
 (∀ (j : Nat) (f : Int),fs[j]? = some f -> (∃ h ∈ ls,gb (stepI rows h f) = true) -> (∀ (i : Nat) (e : Int),i < j -> fs[i]? = some e -> ∀ h ∈ ls,gb (stepI rows h e) = false) -> Q (.int f) H) /\ ((∀ f ∈ fs,∀ h ∈ ls,gb (stepI rows h f) = false) -> Q .non H)
section
variable {P : Program} {w : World} {K : PySem.W.Frag} {mg : Str -> Option Value} {base : Heap} {f : Addr} {fd : FuncData} {dV : Value}
theorem vN (F : FunD K "first_leading" "first_leading" bz dV f fd) : FnOk P w K mg base CX0 1 f fd ["rows","level","order","goal"] (j6 K):=by
 refine F.ok sc_first_leading (fun vs H Q E h => ?_) (fun cdv A outer s H vs Q E hr h => ?_)
 ·obtain ⟨r,lv,o,g,many,wide,ras,rows,ls,fs,gb,rfl,_⟩:=h
  rfl
 obtain ⟨r,lv,o,g,many,wide,ras,rows,ls,fs,gb,rfl,hr',hA,R,hlv,lin,ho,fin,hg,k,kn⟩:=h
 refine ⟨_,(af (bw PassesOwn.never rfl (xD (pv 2)) (aE (i:=4) sc_first_leading.nd rfl (Or.inl rfl)) (ak (bw PassesOwn.never rfl (cZ (pv 1)) (aE (i:=5) sc_first_leading.nd rfl (Or.inl rfl)) (ak (bT (h7 (aB aH (pv 3) (aB a8 (aB a8 (pv 0) (pv 5) (fun _ _ => rfl)) (pv 4) (fun _ _ => rfl)) (fun _ _ => rfl))) (ak (aG (pv 4))) aZ)))))
   (ak (aG hZ))),?_⟩
 try dsimp only [aL]
 refine ⟨_,rfl,o,rfl,x9 (K:=K) (xs:=fs.map V.int) ho.sq (fun i σ' H' => ∃ (v4 v5 : OV),σ' = [some (.ref r),some (.ref lv),some (.ref o),some (.ref g),v4,v5] /\ H' = H /\ ∀ (j : Nat) (e : Int),j < i -> fs[j]? = some e -> ∀ h ∈ ls,gb (stepI rows h e) = false)
  ⟨none,none,rfl,rfl,fun j e z => by omega⟩ (fun i σ' H' _ ⟨_,_,_,e,_⟩ => by rw [e]; exact Same.refl _) ?_ ?_⟩
 ·rintro i y σ' H' hi ⟨v4,v5,rfl,rfl,non⟩
  obtain ⟨fi,rfl,hfi⟩:=bb hi
  have ff:=fin fi (mq_ hfi)
  try dsimp only [aL]
  refine ⟨_,rfl,lv,rfl,⟨_,qL_ hlv⟩,cT (K:=K) (xs:=ls.map V.int) (fun j σ' H'' => ∃ v5 : OV,σ' = [some (.ref r),some (.ref lv),some (.ref o),some (.ref g),some (.int fi),v5] /\ H'' = H' /\ ∀ h ∈ ls.take j,gb (stepI rows h fi) = false)
   ⟨v5,rfl,rfl,fun h z => by simp at z⟩ (fun j σ' H'' _ ⟨_,_,e,_⟩ => by rw [e]; exact qL_ hlv) ?_ ?_⟩
  ·rintro j y σ' H'' hj ⟨v5,rfl,rfl,no⟩
   obtain ⟨here,rfl,hz⟩:=bb hj
   have hin:=lin here (mq_ hz)
   obtain ⟨ra,rr,e1,e2,e3⟩:=j4 hA R hin.1 hin.2 ff.1 ff.2
   have st:=aR R hin.1 hin.2 ff.1 ff.2
   have at3 : atI (((List.range many).map fun q : Nat => gb q).map V.bl) (stepI rows here fi) = some (.bl (gb (stepI rows here fi))):=by
    rw [wB (gb:=fun q : Nat => gb q) st.1 st.2,Int.toNat_of_nonneg st.1]
   refine ⟨_,rfl,_,rfl,_,rfl,r,_,_,_,rfl,rfl,qT_ hr',e1,_,rfl,ra,_,_,_,rfl,rfl,qT_ e2,e3,g,_,_,_,rfl,rfl,qL_ hg,at3,_,rfl,yb (fun c => ?_) (fun c => ?_)⟩
   ·exact ⟨_,rfl,k i fi hfi ⟨here,mq_ hz,c⟩ non⟩
   ·refine ⟨_,rfl,rfl,fun h hh => ?_⟩
    rcases (bC hz).mp hh with y | y
    ·exact no h y
    ·rw [y]; exact eq_false_of_ne_true c
  ·rintro σ' H'' ⟨v5,rfl,rfl,no⟩
   rw [lm_,List.take_length] at no
   refine ⟨_,_,rfl,rfl,fun j e hj he => ?_⟩
   rcases Nat.lt_or_ge j i with z | z
   ·exact non j e z he
   ·have : j = i:=by omega
    subst this
    rw [hfi] at he
    cases he
    exact no
 ·rintro σ' H' ⟨v4,v5,rfl,rfl,non⟩
  refine kn fun fi hf h hh => ?_
  obtain ⟨j,hj⟩:=List.mem_iff_getElem?.mp hf
  have jl:=(gi_ hj).1
  exact non j fi (by rw [lm_]; exact jl) hj h hh
end
def LsAt (H : Hp) : List Addr -> LL -> Prop:=Paired fun a l => H a = some (.lst (l.map V.int))
theorem LsAt.get : ∀ {H : Hp} {as : List Addr} {ls : LL} {i : Nat} {l : LI},LsAt H as ls -> ls[i]? = some l -> ∃ a,as[i]? = some a /\ H a = some (.lst (l.map V.int))
 | _,_,_,_,_,.nil,h => by simp at h
 | _,_,_,0,_,.cons (a:=a) r _,h => by
  have e:=Option.some.inj h
  subst e
  exact ⟨a,rfl,r⟩
 | _,_,_,i + 1,_,.cons _ t,h => by
  obtain ⟨a,h1,h2⟩:=LsAt.get (i:=i) t (by simpa using h)
  exact ⟨a,by simpa using h1,h2⟩
theorem LsAt.same {H H' : Hp} {as : List Addr} {ls : LL} (h : LsAt H as ls) (s : ∀ b xs,H b = some (.lst xs) -> H' b = some (.lst xs)) : LsAt H' as ls:=Paired.mapP h fun _ _ q => s _ _ q
theorem vZ (n : Nat) : (List.replicate n [V.bl false]).flatten = ((List.range n).map fun _ : Nat => false).map V.bl:=by
 induction n with
 | zero => rfl
 | succ n ih =>
  rw [List.replicate_succ',List.flatten_append,ih,List.range_succ,List.map_append,List.map_append]
  rfl
theorem set_range {many k : Nat} {F F' : Nat -> Bool} {v : Bool} (hk : F' k = v) (ho : ∀ q,q ≠ k -> F' q = F q) : (((List.range many).map F).map V.bl).set k (V.bl v) = ((List.range many).map F').map V.bl:=by
 apply List.ext_getElem?
 intro q
 rw [List.getElem?_set,lm_,lm_,List.length_range]
 by_cases e : k = q
 ·subst e
  rw [if_pos rfl,List.getElem?_map,List.getElem?_map]
  by_cases c : k < many
  ·rw [if_pos c,List.getElem?_range c]
   simp [hk]
  ·rw [if_neg c,List.getElem?_eq_none (by simpa using c)]
   rfl
 ·rw [if_neg e,List.getElem?_map,List.getElem?_map,List.getElem?_map,List.getElem?_map]
  by_cases c : q < many
  ·rw [List.getElem?_range c]
   simp [ho q (Ne.symm e)]
  ·rw [List.getElem?_eq_none (by simpa using c)]
   rfl
def OsAt (H : Hp) : List Addr -> LL -> Prop:=Paired fun a o => SqO H a o
theorem OsAt.get : ∀ {H : Hp} {as : List Addr} {ls : LL} {i : Nat} {l : LI},OsAt H as ls -> ls[i]? = some l -> ∃ a,as[i]? = some a /\ SqO H a l
 | _,_,_,_,_,.nil,h => by simp at h
 | _,_,_,0,_,.cons (a:=a) r _,h => by
  have e:=Option.some.inj h
  subst e
  exact ⟨a,rfl,r⟩
 | _,_,_,i + 1,_,.cons _ t,h => by
  obtain ⟨a,h1,h2⟩:=OsAt.get (i:=i) t (by simpa using h)
  exact ⟨a,by simpa using h1,h2⟩
def uD (K : PySem.W.Frag) : Sp:=fun vs H Q _ => ∃ (r lv o g : Addr) (many wide : Nat) (ras las oas : List Addr) (rows ls os : LL) (gb : Int -> Bool) (G : Int -> Prop),vs = [.ref r,.ref lv,.ref o,.ref g] /\ H r = some (.tup (ras.map V.ref)) /\ RowsAt H ras rows /\ RowsOk many wide rows /\ (1 <= many /\ many <= 400) /\ (2 <= wide /\ wide <= 400) /\
 H lv = some (.lst (las.map V.ref)) /\ LsAt H las ls /\ ls.length <= 900 /\ (∀ l ∈ ls,∀ q ∈ l,0 <= q /\ q < (many : Int)) /\ H o = some (.lst (oas.map V.ref)) /\ OsAt H oas os /\ os.length = ls.length /\ (∀ o ∈ os,rN wide o) /\ H g = some (.lst (((List.range many).map fun q : Nat => gb q).map V.bl)) /\ (∀ q : Int,0 <= q -> q < (many : Int) -> (gb q = true ↔ G q)) /\
 (∀ (j : Nat) (l l' o : LI),ls[j]? = some l -> ls[j + 1]? = some l' -> os[j]? = some o -> ∀ q ∈ l',∃ h ∈ l,∃ f ∈ o,stepI rows h f = q) /\ (∃ l o,ls[ls.length - 1]? = some l /\ os[ls.length - 1]? = some o /\ ∃ h ∈ l,∃ f ∈ o,G (stepI rows h f)) /\
 ∀ (t : Addr) (H' : Hp) (R : LI),Same H H' -> H' t = some (.tup (R.map V.int)) -> InB wide R -> R.length = ls.length -> (∀ (q : Int) (r : LI),0 <= q -> q < (many : Int) -> PathO rows G ls os q r -> av wide R <= av wide r) -> (∃ q,PathO rows G ls os q R) -> Q (.ref t) H'
section
variable {P : Program} {w : World} {K : PySem.W.Frag} {mg : Str -> Option Value} {base : Heap} {f : Addr} {fd : FuncData} {dV : Value}
theorem sc_taken_down : FnScope ["rows","levels","orders","goal","taken","at","figure","nearer","here"] ["rows","levels","orders","goal"] (ai cn):=⟨rfl,rfl,rfl,by decide +kernel,rfl,by decide +kernel,by decide +kernel⟩
theorem yn (F : FunD K "taken_down" "taken_down" cn dV f fd) (bx : DefOk P w K mg base "first_leading" 1 ["rows","level","order","goal"] [] (j6 K)) (aW : mg "len" = none) (aM : mg "range" = none) (a9 : mg "tuple" = none) : FnOk P w K mg base CX0 2 f fd ["rows","levels","orders","goal"] (uD K):=by
 refine F.ok sc_taken_down (fun vs H Q E h => ?_) (fun cdv A outer s H vs Q E hr h => ?_)
 ·obtain ⟨r,lv,o,g,many,wide,ras,las,oas,rows,ls,os,gb,G,rfl,_⟩:=h
  rfl
 obtain ⟨r,lv,o,g,many,wide,ras,las,oas,rows,ls,os,gb,G,rfl,hr',hA,R,⟨n0,n1⟩,⟨w0,w1⟩,hlv,hL,ll,lin,ho,hO,lo,ord,hg,hG,chain,top,k⟩:=h
 have lla : las.length = ls.length:=Paired.length hL
 have loa : oas.length = os.length:=Paired.length hO
 have lr : ras.length = many:=by rw [hA.length,R.len]
 refine ⟨_,(af (au (i:=4) sc_taken_down.nd rfl (Or.inl rfl) (bq ag))
   (af (bw PassesOwn.never rfl (vV rfl aM (aa (ar jq (aF ay (by rfl) aW bF (aa (pv 1) ag)) ah) (aa (qc kP ah) (aa (qc kP ah) ag)))) (aE (i:=5) sc_taken_down.nd rfl (Or.inl rfl)) (af (au (i:=6) sc_taken_down.nd rfl (Or.inl rfl) (aJ bx hr (aa (pv 0) (aa (aB aH (pv 1) (pv 5) (fun _ _ => rfl)) (aa (aB aH (pv 2) (pv 5) (fun _ _ => rfl)) (aa (pv 3) ag))))))
   (af (au (i:=7) sc_taken_down.nd rfl (Or.inl rfl) (ar zh (bq (aa jU ag)) (aF ay (by rfl) aW bF (aa (pv 0) ag))))
   (af (bw PassesOwn.never rfl (cZ (aB aH (pv 1) (pv 5) (fun _ _ => rfl))) (aE (i:=8) sc_taken_down.nd rfl (Or.inl rfl)) (ak (zp (aB aH (pv 3) (aB a8 (aB a8 (pv 0) (pv 8) (fun _ _ => rfl)) (pv 6) (fun _ _ => rfl)) (fun _ _ => rfl)) (zm (pv 7) (pv 8) set_list))))
   (af (au (i:=3) sc_taken_down.nd rfl (Or.inl rfl) (pv 7))
   (ak (aY (eB PySem.F.plainAttrs_list PySem.F.slot_list_append PySem.F.type_list_append aV (pv 4) (aa (pv 6) ag)))))))))
   (ak (aG (bO cu (by rfl) a9 dX (aa (p9 tJ (pv 4) gG gG (jW (qc kP ah))) ag)))))),?_⟩
 refine ⟨(by show 0 <= sizeLine; decide),fun T hT => ?_⟩
 have sT:=aj hT (HO.lst [])
 try dsimp only [aL]
 refine d6 (t:=nN _ _ _) (fun σ' H' => ∃ (ga : Addr) (gb' : Int -> Bool) (Rw : LI) (v5 v6 v7 v8 : OV),σ' = [some (.ref r),some (.ref lv),some (.ref o),some (.ref ga),some (.ref T),v5,v6,v7,v8] /\ Same H H' /\ H' T = some (.lst (Rw.reverse.map V.int)) /\ Tdl rows wide many G ls os Rw gb' /\ ∃ q,PathO rows G ls os q Rw) ?_ (fun D' nxt => ?_)
 rotate_left
 ·have lln : ((las.map V.ref).length : Int) = (ls.length : Int):=by rw [lm_,lla]
  have lpos : 0 < ls.length:=by
   obtain ⟨l,_,hl,_⟩:=top
   have:=(gi_ hl).1
   omega
  refine ⟨_,rfl,lv,_,rfl,.inl (qL_ (sT _ _ hlv)),_,_,rfl,rfl,_,rfl,_,rfl,_,rfl,⟨by omega,by omega⟩,?_⟩
  have nTg : g ≠ T:=aq hg hT
  refine mK (fun i σ' H' => ∃ (ga : Addr) (gb' : Int -> Bool) (Rw : LI) (v5 v6 v7 v8 : OV),σ' = [some (.ref r),some (.ref lv),some (.ref o),some (.ref ga),some (.ref T),v5,v6,v7,v8] /\ Same H H' /\ H' ga = some (.lst (((List.range many).map fun q : Nat => gb' q).map V.bl)) /\ ga ≠ T /\ H' T = some (.lst (Rw.reverse.map V.int)) /\ Tdl rows wide many G (ls.drop (ls.length - i)) (os.drop (ls.length - i)) Rw gb' /\ (0 < i -> ∃ q,PathO rows G (ls.drop (ls.length - i)) (os.drop (ls.length - i)) q Rw))
   ⟨g,gb,[],none,none,none,none,rfl,sT,sT _ _ hg,nTg,ae,?_,fun z => by omega⟩ ?_ ?_
  ·rw [Nat.sub_zero,List.drop_length,<- lo,List.drop_length]
   refine ⟨fun q q0 q1 => ?_,InB.nil,rfl,fun q r _ _ p => ?_⟩
   ·rw [hG q q0 q1]
    exact ⟨fun z => ⟨rfl,z⟩,fun z => z.2⟩
   ·rw [p.1]; exact Int.le_refl _
  ·rintro i σ' H1 hi ⟨ga,gb',Rw,v5,v6,v7,v8,rfl,s1,hga,nga,hT1,td,ex⟩
   have hi' : i < ls.length:=by omega
   obtain ⟨p,ep⟩ : ∃ p : Nat,ls.length - (i + 1) = p:=⟨_,rfl⟩
   have hp : p < ls.length:=by omega
   have eat : ((las.map V.ref).length : Int) - 1 + (i : Int) * (-1) = (p : Int):=by omega
   rw [eat]
   obtain ⟨l,hl⟩ : ∃ l,ls[p]? = some l:=⟨_,List.getElem?_eq_getElem hp⟩
   obtain ⟨la,hla1,hla⟩:=hL.get hl
   have lmem:=mq_ hl
   obtain ⟨oo,hoo⟩ : ∃ oo,os[p]? = some oo:=⟨_,List.getElem?_eq_getElem (by omega)⟩
   obtain ⟨oa,hoa1,hoa⟩:=hO.get hoo
   have omem:=mq_ hoo
   have oord:=ord oo omem
   have drop1 : ls.drop (ls.length - (i + 1)) = l :: ls.drop (ls.length - i):=by
    rw [ep,List.drop_eq_getElem_cons hp,show p + 1 = ls.length - i by omega]
    rw [List.getElem?_eq_getElem hp] at hl
    rw [Option.some.inj hl]
   have drop2 : os.drop (ls.length - (i + 1)) = oo :: os.drop (ls.length - i):=by
    have hp' : p < os.length:=by omega
    rw [ep,List.drop_eq_getElem_cons hp',show p + 1 = ls.length - i by omega]
    rw [List.getElem?_eq_getElem hp'] at hoo
    rw [Option.some.inj hoo]
   have exf : ∃ f ∈ oo,∃ h ∈ l,gb' (stepI rows h f) = true:=by
    rcases Nat.eq_zero_or_pos i with z | z
    ·subst z
     obtain ⟨l2,o2,hl2,ho2,h,hh,f,hf,hgf⟩:=top
     have : p = ls.length - 1:=by omega
     rw [<- this,hl] at hl2
     cases hl2
     rw [<- this,hoo] at ho2
     cases ho2
     have hin:=lin l lmem h hh
     have fo:=oord.1 f hf
     have st:=aR R hin.1 hin.2 fo.1 fo.2
     refine ⟨f,hf,h,hh,(td.iff _ st.1 st.2).mpr ?_⟩
     have e0 : ls.drop (ls.length - 0) = []:=by rw [Nat.sub_zero,List.drop_length]
     have e1 : os.drop (ls.length - 0) = []:=by rw [Nat.sub_zero,<- lo,List.drop_length]
     have el:=td.len
     rw [e0] at el ⊢
     rw [e1]
     exact ⟨List.length_eq_zero_iff.mp el,hgf⟩
    ·obtain ⟨q,pq⟩:=ex z
     have hp1 : p + 1 < ls.length:=by omega
     have e0 : ls.drop (ls.length - i) = ls[p + 1] :: ls.drop (p + 2):=by
      rw [show ls.length - i = p + 1 by omega,List.drop_eq_getElem_cons hp1]
     have hp2 : p + 1 < os.length:=by omega
     have e1 : os.drop (ls.length - i) = os[p + 1] :: os.drop (p + 2):=by
      rw [show ls.length - i = p + 1 by omega,List.drop_eq_getElem_cons hp2]
     have pq' := pq
     rw [e0,e1] at pq'
     obtain ⟨h,hh,f,hf,e⟩:=chain p l ls[p + 1] oo hl (List.getElem?_eq_getElem hp1) hoo q pq'.1
     have hin:=lin l lmem h hh
     have fo:=oord.1 f hf
     have st:=aR R hin.1 hin.2 fo.1 fo.2
     exact ⟨f,hf,h,hh,(td.iff _ st.1 st.2).mpr (by rw [e]; exact pq)⟩
   have at1 : atI (las.map V.ref) (p : Int) = some (.ref la):=dU (by omega) (by rw [Int.toNat_natCast]; exact hla1)
   have at2 : atI (oas.map V.ref) (p : Int) = some (.ref oa):=dU (by omega) (by rw [Int.toNat_natCast]; exact hoa1)
   refine ⟨_,rfl,_,rfl,_,rfl,lv,_,_,_,rfl,rfl,qL_ (s1 _ _ hlv),at1,_,rfl,_,rfl,o,_,_,_,rfl,rfl,qL_ (s1 _ _ ho),at2,_,rfl,?_⟩
   refine ⟨r,la,oa,ga,many,wide,ras,rows,l,oo,gb',rfl,s1 _ _ hr',(hA.same fun b xs e => s1 _ _ e),R,s1 _ _ hla,lin l lmem,hoa.same s1,oord.1,hga,fun j f hf exh minf => ?_,fun none => ?_⟩
   rotate_left
   ·obtain ⟨f,hf,h,hh,e⟩:=exf
    rw [none f hf h hh] at e
    cases e
   have fmem:=mq_ hf
   have ff:=oord.1 f fmem
   have hmax : ∀ g ∈ oo,g < f -> ∀ h ∈ l,gb' (stepI rows h g) = false:=fun g hgo lt => by
    obtain ⟨i2,hi2⟩:=List.mem_iff_getElem?.mp hgo
    exact minf i2 g (yB oord.2 hi2 hf lt) hi2
   try dsimp only [aL]
   refine ⟨(by show 1 <= sizeLine; decide),fun z hz => ?_⟩
   have sz:=aj hz (HO.lst [V.bl false])
   refine ⟨_,rfl,r,_,rfl,.inr (qT_ (sz _ _ (s1 _ _ hr'))),?_⟩
   rw [lm_,lr]
   refine ⟨z,_,_,rfl,rfl,ae,by omega,by omega,(by show 1 * ((many : Int)).toNat <= sizeLine; exact small (by omega)),fun N hN => ?_⟩
   rw [Int.toNat_natCast,vZ]
   have sN:=aj hN (HO.lst (((List.range many).map fun _ : Nat => false).map V.bl))
   obtain ⟨H2,eH2⟩ : ∃ H2,upd (upd H1 z (HO.lst [V.bl false])) N (HO.lst (((List.range many).map fun _ : Nat => false).map V.bl)) = H2:=⟨_,rfl⟩
   have s12 : Same H1 H2:=by rw [<- eH2]; exact sz.trans sN
   have hN2 : H2 N = some (.lst (((List.range many).map fun _ : Nat => false).map V.bl)):=by rw [<- eH2,ae]
   have fN : H1 N = none:=sz.free hN
   rw [eH2]
   try dsimp only [aL]
   refine d6 (t:=nN _ _ _) (fun σ' H' => ∃ v8 : OV,σ' = [some (.ref r),some (.ref lv),some (.ref o),some (.ref ga),some (.ref T),some (.int p),some (.int f),some (.ref N),v8] /\ Same H1 H' /\ H' N = some (.lst (((List.range many).map fun q : Nat => decide ((q : Int) ∈ l) && gb' (stepI rows q f)).map V.bl))) ?_ (fun D' nxt2 => ?_)
   rotate_left
   ·refine ⟨_,rfl,_,rfl,lv,_,_,_,rfl,rfl,qL_ (s12 _ _ (s1 _ _ hlv)),at1,la,rfl,⟨_,qL_ (s12 _ _ (s1 _ _ hla))⟩,cT (K:=K) (xs:=l.map V.int) (fun j σ' H' => ∃ v8 : OV,σ' = [some (.ref r),some (.ref lv),some (.ref o),some (.ref ga),some (.ref T),some (.int p),some (.int f),some (.ref N),v8] /\ Same H1 H' /\ H' N = some (.lst (((List.range many).map fun q : Nat => decide ((q : Int) ∈ l.take j) && gb' (stepI rows q f)).map V.bl)))
     ⟨v8,rfl,s12,by rw [hN2]; simp⟩ (fun j σ' H' _ ⟨_,_,e,_⟩ => qL_ (e _ _ (s1 _ _ hla))) ?_ ?_⟩
    ·rintro j y σ' H3 hj ⟨v8,rfl,s3,hN3⟩
     obtain ⟨here,rfl,hz'⟩:=bb hj
     have hin:=lin l lmem here (mq_ hz')
     have sH:=s1.trans s3
     obtain ⟨ra,rr,e1,e2,e3⟩:=j4 (hA.same fun b xs e => sH _ _ e) R hin.1 hin.2 ff.1 ff.2
     have st:=aR R hin.1 hin.2 ff.1 ff.2
     have at3 : atI (((List.range many).map fun q : Nat => gb' q).map V.bl) (stepI rows here f) = some (.bl (gb' (stepI rows here f))):=by
      rw [wB (gb:=fun q : Nat => gb' q) st.1 st.2,Int.toNat_of_nonneg st.1]
     have ix : ixN (((List.range many).map fun q : Nat => decide ((q : Int) ∈ l.take j) && gb' (stepI rows q f)).map V.bl).length here = some here.toNat:=by
      rw [lm_,lm_,List.length_range]
      unfold ixN
      rw [if_pos hin.1,if_pos hin.2]
     refine ⟨_,rfl,_,rfl,_,rfl,r,_,_,_,rfl,rfl,qT_ (sH _ _ hr'),e1,_,rfl,ra,_,_,_,rfl,rfl,qT_ e2,e3,ga,_,_,_,rfl,rfl,qL_ (s3 _ _ hga),at3,_,rfl,_,rfl,N,_,_,_,rfl,rfl,hN3,ix,?_⟩
     refine ⟨_,rfl,aw s3 fN,?_⟩
     rw [ae]
     congr 2
     refine set_range ?_ fun q hq => ?_
     ·rw [Int.toNat_of_nonneg hin.1,decide_eq_true ((bC hz').mpr (.inr rfl)),Bool.true_and]
     ·have : ((q : Int) ∈ l.take (j + 1)) ↔ (q : Int) ∈ l.take j:=by
       rw [bC hz']
       exact ⟨fun z => z.resolve_right (fun e => hq (by omega)),.inl⟩
      simp only [this]
    ·rintro σ' H3 ⟨v8,rfl,s3,hN3⟩
     rw [lm_,List.take_length] at hN3
     exact nxt2 _ _ ⟨_,rfl,s3,hN3⟩
   rintro σ' H3 ⟨v8,rfl,s3,hN3⟩
   have hT3:=s3 _ _ hT1
   have nNT : N ≠ T:=fun e => by rw [e,hT1] at fN; cases fN
   refine ⟨_,rfl,_,rfl,.inl ⟨rfl,_,qL_ hT3⟩,_,rfl,T,_,_,rfl,rfl,hT3,aA (by
    rw [lm_,List.length_reverse,td.len,List.length_drop]
    omega),?_⟩
   have sH:=s1.trans s3
   have gq : ∀ q : Int,0 <= q -> q < (many : Int) -> ((decide (q ∈ l) && gb' (stepI rows q f)) = true ↔ q ∈ l /\ gb' (stepI rows q f) = true):=fun q _ _ => by simp
   have td2:=Tdl.step (gb' := fun q => decide (q ∈ l) && gb' (stepI rows q f)) w0 R (fun o h => ord o (List.mem_of_mem_drop h)) oord td fmem hmax gq
   refine ⟨N,(fun q => decide (q ∈ l) && gb' (stepI rows q f)),f :: Rw,_,_,_,_,rfl,aw sH hT,by rw [ao nNT]; exact hN3,nNT,?_,by rw [drop1,drop2]; exact td2,fun _ => ?_⟩
   ·rw [ae,List.reverse_cons,List.map_append]; rfl
   ·obtain ⟨h,hh,e⟩:=exh
    have hin:=lin l lmem h hh
    have st:=aR R hin.1 hin.2 ff.1 ff.2
    exact ⟨h,by rw [drop1,drop2]; exact ⟨hh,f,Rw,rfl,fmem,(td.iff _ st.1 st.2).mp e⟩⟩
  ·rintro σ' H1 ⟨ga,gb',Rw,v5,v6,v7,v8,rfl,s1,hga,nga,hT1,td,ex⟩
   have en : (((las.map V.ref).length : Int) - 1 + 1).toNat = ls.length:=by omega
   rw [en,Nat.sub_self,List.drop_zero,List.drop_zero] at td ex
   exact nxt _ _ ⟨ga,gb',Rw,_,_,_,_,rfl,s1,hT1,td,ex lpos⟩
 rintro σ' H1 ⟨ga,gb',Rw,v5,v6,v7,v8,rfl,s1,hT1,td,ex⟩
 refine ⟨_,rfl,_,rfl,_,rfl,T,_,rfl,rfl,rfl,rfl,qL_ hT1,fun p hp => ?_⟩
 have e : (Rw.reverse.map V.int).reverse = Rw.map V.int:=by rw [<- List.map_reverse,List.reverse_reverse]
 rw [e]
 have sp:=aj hp (HO.lst (Rw.map V.int))
 refine ⟨p,_,rfl,.inl ⟨qL_ ae,fun t ht => ?_⟩⟩
 have st:=aj ht (HO.tup (Rw.map V.int))
 exact k t _ Rw (s1.trans (sp.trans st)) ae td.inb td.len td.min ex
end
def aX (ds r : LI) (f : Int) : LI:=r ++ f :: ds.drop (r.length + 1)
theorem eg (ds r : LI) (g f : Int) : aX ds (g :: r) f = g :: aX ds.tail r f:=by
 cases ds with
 | nil => simp [aX]
 | cons d ds => simp [aX]
theorem ie (ds : LI) (n : Nat) : ds.tail.getD n 0 = ds.getD (n + 1) 0:=by
 cases ds with
 | nil => rfl
 | cons d ds => rfl
theorem InB.tl {w : Int} {ds : LI} (h : InB w ds) : InB w ds.tail:=fun x hx => h x (List.mem_of_mem_tail hx)
theorem kR {w : Int} (ds : LI) : av w ds = ds.getD 0 0 + w * av w ds.tail:=by
 cases ds with
 | nil => show (0 : Int) = 0 + w * 0; rw [Int.mul_zero]; rfl
 | cons d ds => rfl
theorem uY {w : Int} {ds : LI} (hw : 0 < w) (h : InB w ds) : 0 <= ds.getD 0 0 /\ ds.getD 0 0 < w:=by
 cases ds with
 | nil => exact ⟨Int.le_refl _,hw⟩
 | cons d ds => exact h d List.mem_cons_self
theorem qO {w a b : Int} (hw : 0 < w) (h : a < b) : w * a + w <= w * b:=by
 have:=Int.mul_le_mul_of_nonneg_left (show a + 1 <= b by omega) (Int.le_of_lt hw)
 rw [Int.mul_add,Int.mul_one] at this
 exact this
theorem jG {w : Int} {ds r : LI} {f : Int} (hd : InB w ds) (hr : InB w r) (hf : 0 <= f /\ f < w) : InB w (aX ds r f):=fun x hx => by
 rcases ma_.mp hx with z | z
 ·exact hr x z
 ·rcases List.mem_cons.mp z with e | z
  ·rw [e]; exact hf
  ·exact hd x (List.mem_of_mem_drop z)
theorem qA {w : Int} (hw : 0 < w) {f : Int} : ∀ {r ds : LI},InB w ds -> InB w r -> ds.getD r.length 0 < f -> av w ds < av w (aX ds r f)
 | [],ds,hd,_,h => by
  have e : aX ds [] f = f :: ds.tail:=by cases ds <;> rfl
  rw [e,kR ds]
  show _ < f + w * av w ds.tail
  have : ds.getD 0 0 < f:=h
  omega
 | g :: r,ds,hd,hr,h => by
  have ih:=qA hw (r:=r) hd.tl hr.tail (by rw [ie]; exact h)
  have gg:=hr g List.mem_cons_self
  have hh:=uY hw hd
  have up:=qO hw ih
  rw [eg,kR ds]
  show _ < g + w * av w (aX ds.tail r f)
  omega
theorem uX {w : Int} (hw : 0 < w) {f f2 : Int} (hf : 0 <= f /\ f < w) : ∀ {r r2 ds : LI},InB w ds -> InB w r -> InB w r2 -> ds.getD r2.length 0 < f2 -> r.length < r2.length -> av w (aX ds r f) < av w (aX ds r2 f2)
 | _,[],_,_,_,_,_,l => by simp at l
 | [],g :: r2,ds,hd,_,hr2,h,_ => by
  have e : aX ds [] f = f :: ds.tail:=by cases ds <;> rfl
  have gt:=qA hw (r:=r2) hd.tl hr2.tail (by rw [ie]; exact h)
  have gg:=hr2 g List.mem_cons_self
  have up:=qO hw gt
  rw [e,eg]
  show f + w * av w ds.tail < g + w * av w (aX ds.tail r2 f2)
  omega
 | g1 :: r,g :: r2,ds,hd,hr,hr2,h,l => by
  have ih:=uX hw hf (r:=r) (r2:=r2) hd.tl hr.tail hr2.tail (by rw [ie]; exact h) (by simpa using l)
  have g1g:=hr g1 List.mem_cons_self
  have gg:=hr2 g List.mem_cons_self
  have up:=qO hw ih
  rw [eg,eg]
  show g1 + w * av w (aX ds.tail r f) < g + w * av w (aX ds.tail r2 f2)
  omega
theorem uW {w : Int} (hw : 0 < w) : ∀ {e ds : LI},InB w ds -> InB w e -> av w ds < av w e -> ∃ (r : LI) (f : Int),InB w r /\ (0 <= f /\ f < w) /\ ds.getD r.length 0 < f /\ av w (aX ds r f) = av w e
 | [],ds,hd,_,h => by
  have:=bD (b:=w) (by omega) hd
  have z : av w [] = 0:=rfl
  omega
 | g :: e,ds,hd,he,h => by
  have gg:=he g List.mem_cons_self
  have hh:=uY hw hd
  have h' : ds.getD 0 0 + w * av w ds.tail < g + w * av w e:=by rw [<- kR]; exact h
  rcases Classical.em (av w ds.tail < av w e) with c | c
  ·obtain ⟨r,f,r1,r2,r3,r4⟩:=uW hw hd.tl he.tail c
   refine ⟨g :: r,f,InB.cons gg.1 gg.2 r1,r2,by rw [ie] at r3; exact r3,?_⟩
   rw [eg]
   show g + w * av w (aX ds.tail r f) = g + w * av w e
   rw [r4]
  ·have eq : av w ds.tail = av w e:=by
    rcases Int.lt_or_le (av w e) (av w ds.tail) with z | z
    ·have:=qO hw z
     omega
    ·omega
   refine ⟨[],g,InB.nil,gg,?_,?_⟩
   ·show ds.getD 0 0 < g
    rw [eq] at h'
    omega
   ·have e1 : aX ds [] g = g :: ds.tail:=by cases ds <;> rfl
    rw [e1]
    show g + w * av w ds.tail = g + w * av w e
    rw [eq]
theorem nz {many wide : Nat} {rows : LL} {signs : LI} (w1 : 1 <= wide) (R : RowsOk many wide rows) (S : l3 many rows signs) : ∀ {a b : LI} {q : Int},0 <= q -> q < (many : Int) -> InB (wide : Int) a -> InB (wide : Int) b -> av (wide : Int) a = av wide b ->
  signs.getD (aI rows a q).toNat 0 = signs.getD (aI rows b q).toNat 0
 | [],[],_,_,_,_,_,_ => rfl
 | [],g :: b,q,q0,q1,_,hb,v => by
  have gg:=hb g List.mem_cons_self
  have nn:=bD (b:=(wide : Int)) (by omega) hb.tail
  have v' : (0 : Int) = g + (wide : Int) * av wide b:=v
  have m:=Int.mul_nonneg (show (0 : Int) <= (wide : Int) by omega) nn
  have g0 : g = 0:=by omega
  have m0 : (wide : Int) * av wide b = 0:=by omega
  have vb : av (wide : Int) b = 0:=(Int.mul_eq_zero.mp m0).resolve_left (by omega)
  subst g0
  have st:=aR R q0 q1 (show (0 : Int) <= 0 by omega) (show (0 : Int) < (wide : Int) by omega)
  have ih:=nz w1 R S (a:=[]) (b:=b) st.1 st.2 InB.nil hb.tail vb.symm
  show signs.getD q.toNat 0 = signs.getD (aI rows b (stepI rows q 0)).toNat 0
  rw [<- ih]
  exact (S q q0 q1).symm
 | f :: a,[],q,q0,q1,ha,_,v => by
  have gg:=ha f List.mem_cons_self
  have nn:=bD (b:=(wide : Int)) (by omega) ha.tail
  have v' : f + (wide : Int) * av wide a = 0:=v
  have m:=Int.mul_nonneg (show (0 : Int) <= (wide : Int) by omega) nn
  have g0 : f = 0:=by omega
  have m0 : (wide : Int) * av wide a = 0:=by omega
  have vb : av (wide : Int) a = 0:=(Int.mul_eq_zero.mp m0).resolve_left (by omega)
  subst g0
  have st:=aR R q0 q1 (show (0 : Int) <= 0 by omega) (show (0 : Int) < (wide : Int) by omega)
  have ih:=nz w1 R S (a:=a) (b:=[]) st.1 st.2 ha.tail InB.nil vb
  show signs.getD (aI rows a (stepI rows q 0)).toNat 0 = signs.getD q.toNat 0
  rw [ih]
  exact S q q0 q1
 | f :: a,g :: b,q,q0,q1,ha,hb,v => by
  have ff:=ha f List.mem_cons_self
  have gg:=hb g List.mem_cons_self
  have v1 : f + (wide : Int) * av wide a = g + (wide : Int) * av wide b:=v
  have e1 : (f + (wide : Int) * av wide a) % (wide : Int) = f:=by rw [Int.add_mul_emod_self_left]; exact Int.emod_eq_of_lt ff.1 ff.2
  have e2 : (g + (wide : Int) * av wide b) % (wide : Int) = g:=by rw [Int.add_mul_emod_self_left]; exact Int.emod_eq_of_lt gg.1 gg.2
  have efg : f = g:=by rw [<- e1,<- e2,v1]
  subst efg
  have ev : (wide : Int) * av wide a = (wide : Int) * av wide b:=by omega
  have ev' := Int.eq_of_mul_eq_mul_left (by omega : (wide : Int) ≠ 0) ev
  have st:=aR R q0 q1 ff.1 ff.2
  have ih:=nz w1 R S (a:=a) (b:=b) (q:=stepI rows q f) st.1 st.2 ha.tail hb.tail ev'
  exact ih
termination_by a b => a.length + b.length
decreasing_by all_goals (simp only [List.length_cons,List.length_nil]; omega)
structure Sol (rows : LL) (signs : LI) (wide : Nat) (sg : Int) (ds r : LI) (f : Int) : Prop where
 inb : InB (wide : Int) r
 fig : 0 <= f /\ f < (wide : Int)
 abv : ds.getD r.length 0 < f
 sgn : signs.getD (aI rows (aX ds r f) 0).toNat 0 = sg
structure MinSol (rows : LL) (signs : LI) (wide : Nat) (sg : Int) (ds r : LI) (f : Int) : Prop where
 sol : Sol rows signs wide sg ds r f
 min : ∀ r' f',Sol rows signs wide sg ds r' f' -> r.length <= r'.length
theorem xf {rows : LL} {signs : LI} {wide : Nat} {sg : Int} {ds : LI} : ∀ (n : Nat) (r : LI) (f : Int),r.length <= n -> Sol rows signs wide sg ds r f -> ∃ r f,MinSol rows signs wide sg ds r f
 | 0,r,f,h,s => ⟨r,f,s,fun r' f' _ => by omega⟩
 | n + 1,r,f,h,s => by
  rcases Classical.em (∃ r' f',Sol rows signs wide sg ds r' f' /\ r'.length < r.length) with ⟨r',f',s',l⟩ | c
  ·exact xf n r' f' (by omega) s'
  ·exact ⟨r,f,s,fun r' f' s' => Nat.le_of_not_lt fun z => c ⟨r',f',s',z⟩⟩
structure LvI (rows : LL) (signs : LI) (many wide : Nat) (sg : Int) (ds : LI) (ls : LL) (ks : LI) : Prop where
 hd : ls[0]? = some [0]
 nx : ∀ (j : Nat) (l l' : LI),ls[j]? = some l -> ls[j + 1]? = some l' -> ∀ q ∈ l',∃ h ∈ l,∃ f : Int,(0 <= f /\ f < (wide : Int)) /\ stepI rows h f = q
 lin : ∀ l ∈ ls,∀ q ∈ l,0 <= q /\ q < (many : Int)
 non : ∀ r f,Sol rows signs wide sg ds r f -> ls.length <= r.length + 1
 inn : ∀ r f,MinSol rows signs wide sg ds r f -> ∀ (j : Nat) (l : LI),ls[j]? = some l -> aI rows (r.take j) 0 ∈ l
 liv : ∀ r f,MinSol rows signs wide sg ds r f -> ∀ j : Nat,ls.length <= j -> j <= r.length -> aI rows (r.take j) 0 ∈ ks
section
variable {rows : LL} {signs : LI} {many wide : Nat} {sg : Int} {ds : LI} {ls : LL} {ks : LI}
theorem LvI.reach (I : LvI rows signs many wide sg ds ls ks) : ∀ (j : Nat) (l : LI),ls[j]? = some l -> ∀ q ∈ l,∃ r : LI,r.length = j /\ InB (wide : Int) r /\ aI rows r 0 = q
 | 0,l,h,q,hq => by
  rw [I.hd] at h
  cases h
  exact ⟨[],rfl,InB.nil,(List.mem_singleton.mp hq).symm⟩
 | j + 1,l,h,q,hq => by
  have jl:=(gi_ h).1
  have h0 : ls[j]? = some ls[j]:=List.getElem?_eq_getElem (by omega)
  obtain ⟨p,hp,f,ff,e⟩:=I.nx j _ l h0 h q hq
  obtain ⟨r,r1,r2,r3⟩:=I.reach j _ h0 p hp
  refine ⟨r ++ [f],by rw [List.length_append,r1]; rfl,fun x hx => ?_,?_⟩
  ·rcases ma_.mp hx with z | z
   ·exact r2 x z
   ·rw [List.mem_singleton.mp z]; exact ff
  ·rw [bE,r3]
   exact e
theorem wt (ds r : LI) (f q : Int) (j : Nat) (hj : j <= r.length) : aI rows (aX ds r f) q = aI rows (aX (ds.drop j) (r.drop j) f) (aI rows (r.take j) q):=by
 have e : aX ds r f = r.take j ++ aX (ds.drop j) (r.drop j) f:=by
  unfold aX
  rw [<- List.append_assoc,List.take_append_drop,List.drop_drop,List.length_drop]
  congr 3
  omega
 rw [e,bE]
theorem LvI.step {l l' ks' : LI} (R : RowsOk many wide rows) (I : LvI rows signs many wide sg ds ls ks) (hl : ls[ls.length - 1]? = some l) (hno : ∀ r f,Sol rows signs wide sg ds r f -> r.length ≠ ls.length - 1)
  (k1 : ds.length < ls.length -> ∀ q,q ∈ ks' ↔ q ∈ ks /\ q ∉ l) (k2 : ¬ ds.length < ls.length -> ks' = ks) (h' : ∀ q,q ∈ l' ↔ (∃ h ∈ l,∃ f : Int,(0 <= f /\ f < (wide : Int)) /\ stepI rows h f = q) /\ q ∈ ks') : LvI rows signs many wide sg ds (ls ++ [l']) ks' := by
 have lpos : 0 < ls.length:=by
  have:=(gi_ I.hd).1
  exact this
 have fresh : ds.length < ls.length -> ∀ r f,MinSol rows signs wide sg ds r f -> ∀ j : Nat,ls.length <= j -> j <= r.length -> aI rows (r.take j) 0 ∉ l:=fun hL r f M j j1 j2 hq => by
  obtain ⟨r0,e1,e2,e3⟩:=I.reach _ l hl _ hq
  have s:=M.sol
  have len : (r0 ++ r.drop j).length = ls.length - 1 + (r.length - j):=by rw [List.length_append,e1,List.length_drop]
  have d0 : ∀ n : Nat,ds.length <= n -> ds.getD n 0 = 0:=fun n h => by rw [List.getD_eq_getElem?_getD,List.getElem?_eq_none h]; rfl
  have dr : ∀ n : Nat,ds.length <= n -> ds.drop n = []:=fun n h => List.drop_eq_nil_of_le h
  have abv:=s.abv
  rw [d0 _ (by omega)] at abv
  have sol : Sol rows signs wide sg ds (r0 ++ r.drop j) f:=by
   refine ⟨fun x hx => ?_,s.fig,by rw [d0 _ (by omega)]; exact abv,?_⟩
   ·rcases ma_.mp hx with z | z
    ·exact e2 x z
    ·exact s.inb x (List.mem_of_mem_drop z)
   ·have sg1:=s.sgn
    have f1 : aX ds r f = r ++ [f]:=by unfold aX; rw [dr _ (by omega)]
    have f2 : aX ds (r0 ++ r.drop j) f = r0 ++ (r.drop j ++ [f]):=by unfold aX; rw [dr _ (by omega),List.append_assoc]
    have f3 : r ++ [f] = r.take j ++ (r.drop j ++ [f]):=by rw [<- List.append_assoc,List.take_append_drop]
    rw [f1,f3,bE,<- e3] at sg1
    rw [f2,bE]
    exact sg1
  have:=M.min _ _ sol
  omega
 have keep : ∀ r f,MinSol rows signs wide sg ds r f -> ∀ j : Nat,ls.length <= j -> j <= r.length -> aI rows (r.take j) 0 ∈ ks' := fun r f M j j1 j2 => by
  have h0:=I.liv r f M j j1 j2
  by_cases c : ds.length < ls.length
  ·exact (k1 c _).mpr ⟨h0,fresh c r f M j j1 j2⟩
  ·rw [k2 c]; exact h0
 refine ⟨by rw [List.getElem?_append_left lpos]; exact I.hd,fun j a b h1 h2 q hq => ?_,fun a ha q hq => ?_,fun r f s => ?_,fun r f M j a ha => ?_,fun r f M j j1 j2 => ?_⟩
 ·rcases snoc_cases h2 with h2 | ⟨h2,rfl⟩
  ·have jl:=(gi_ h2).1
   rw [List.getElem?_append_left (by omega)] at h1
   exact I.nx j a b h1 h2 q hq
  ·rw [List.getElem?_append_left (by omega),show j = ls.length - 1 by omega,hl] at h1
   cases h1
   exact ((h' q).mp hq).1
 ·rcases ma_.mp ha with z | z
  ·exact I.lin a z q hq
  ·rw [List.mem_singleton.mp z] at hq
   obtain ⟨⟨h,hh,f,ff,e⟩,_⟩:=(h' q).mp hq
   have hin:=I.lin l (mq_ hl) h hh
   rw [<- e]
   exact aR R hin.1 hin.2 ff.1 ff.2
 ·have h1:=I.non r f s
  have h2:=hno r f s
  rw [List.length_append,List.length_singleton]
  omega
 ·rcases snoc_cases ha with ha | ⟨ej,rfl⟩
  ·exact I.inn r f M j a ha
  ·subst ej
   have h1:=I.non r f M.sol
   have h2:=hno r f M.sol
   have h3 : ls.length <= r.length:=by omega
   refine (h' _).mpr ⟨?_,keep r f M _ (Nat.le_refl _) h3⟩
   have in0:=I.inn r f M _ l hl
   have hg : r[ls.length - 1]? = some r[ls.length - 1]:=List.getElem?_eq_getElem (by omega)
   have gg:=M.sol.inb _ (List.getElem_mem (show ls.length - 1 < r.length by omega))
   refine ⟨_,in0,r[ls.length - 1],gg,?_⟩
   have t:=uH (rows:=rows) (h:=0) hg
   rw [show ls.length - 1 + 1 = ls.length by omega] at t
   exact t.symm
 ·rw [List.length_append,List.length_singleton] at j1
  exact keep r f M j (by omega) j2
end
def dB (signs : LI) (sg : Int) (n : Nat) : LI:=((List.range n).filter fun i => decide (signs.getD i 0 = sg)).map fun i : Nat => (i : Int)
theorem k5 (signs : LI) (sg : Int) (n : Nat) : dB signs sg (n + 1) = dB signs sg n ++ (if signs.getD n 0 = sg then [(n : Int)] else []):=by
 unfold dB
 rw [List.range_succ,List.filter_append,List.map_append]
 congr 1
 by_cases c : signs.getD n 0 = sg
 ·rw [if_pos c,List.filter_cons_of_pos (by exact decide_eq_true c)]; rfl
 ·rw [if_neg c,List.filter_cons_of_neg (by rw [decide_eq_false c]; decide)]; rfl
theorem ux (signs : LI) (sg : Int) (n : Nat) : (dB signs sg n).length <= n:=by
 unfold dB
 rw [lm_]
 exact Nat.le_trans (List.length_filter_le _ _) (by simp)
theorem roomsI_mem {signs : LI} {sg : Int} {n : Nat} {q : Int} : q ∈ dB signs sg n ↔ 0 <= q /\ q < (n : Int) /\ signs.getD q.toNat 0 = sg:=by
 unfold dB
 rw [List.mem_map]
 constructor
 ·rintro ⟨i,hi,rfl⟩
  have h:=List.mem_filter.mp hi
  have h1:=List.mem_range.mp h.1
  exact ⟨by omega,by omega,by rw [Int.toNat_natCast]; exact of_decide_eq_true h.2⟩
 ·rintro ⟨h0,h1,h2⟩
  exact ⟨q.toNat,List.mem_filter.mpr ⟨List.mem_range.mpr (by omega),decide_eq_true h2⟩,by omega⟩
def nJ : Sp:=fun vs H Q _ => ∃ (m r g : Addr) (wide : Nat) (rows : LL) (signs : LI) (sg : Int),vs = [.ref m,.int sg] /\ MachAt H m r g wide rows signs /\ signs.length <= 1000 /\
 ∀ (l : Addr) (H' : Hp),Same H H' -> H l = none -> H' l = some (.lst ((dB signs sg signs.length).map V.int)) -> Q (.ref l) H'
section
variable {P : Program} {w : World} {K : PySem.W.Frag} {mg : Str -> Option Value} {base : Heap} {f : Addr} {fd : FuncData} {dV : Value}
theorem pA : FnScope ["machine","sign"] ["machine","sign"] (ai bS):=⟨rfl,rfl,rfl,by decide +kernel,rfl,by decide +kernel,by decide +kernel⟩
theorem bk_rooms_with_0 : BlkScope ["machine","sign"] (ai bS) ["here","other","sign"] [none,none,some 1] { kind:=ScopeKind.function,names:=[(".0",NameKind.local),("here",NameKind.local),("other",NameKind.local),("sign",NameKind.free)],isGenerator:=false,isCoroutine:=false,more:=[] }:=⟨rfl,by decide +kernel,by decide +kernel,by decide +kernel,by decide +kernel,rfl,by decide +kernel⟩
theorem vR (F : FunD K "rooms_with" "rooms_with" bS dV f fd) (cI : mg "enumerate" = none) : FnOk P w K mg base CX0 1 f fd ["machine","sign"] nJ:=by
 refine F.ok pA (fun vs H Q E h => ?_) (fun cdv A outer s H vs Q E hr h => ?_)
 ·obtain ⟨m,r,g,wide,rows,signs,sg,rfl,_⟩:=h
  rfl
 obtain ⟨m,r,g,wide,rows,signs,sg,rfl,M,hl,k⟩:=h
 refine ⟨_,(ak (aG (tu rfl bk_rooms_with_0 (tD rfl cI (aa (aB a8 (pv 0) ah (fun _ _ => rfl)) ag)) (fun _ _ _ _ => (yu K (n:=2) rfl (jV (aE (i:=0) bk_rooms_with_0.nd rfl (Or.inl rfl)) (jV (aE (i:=1) bk_rooms_with_0.nd rfl (Or.inl rfl)) u5)))) (fun _ _ _ _ => (aK hX (pv 1) (pv 2) (aQ _))) (fun _ _ _ _ => (pv 0))))),?_⟩
 refine ⟨_,rfl,m,_,_,_,rfl,rfl,qT_ M.tup,rfl,g,rfl,⟨_,qT_ M.sgn⟩,?_⟩
 refine rX (K:=K) (xs:=signs.map V.int) (fun D i ys H' => Same H H' /\ ys = (dB signs sg i).map V.int) (fun T σ H Q x y h q => ⟨T,[x,y],rfl,qT_ h,rfl,x,[y],rfl,y,[],rfl,rfl,q⟩) (fun D hD => ⟨aj hD _,rfl⟩) (fun D i ys H' _ p => qT_ (p.1 _ _ M.sgn)) ?_ ?_
 ·rintro D i x ys H' T Qy Qn hD hx hy ⟨hs,rfl⟩ hT ky kn
  obtain ⟨z,rfl,hz⟩:=bb hx
  have li:=(gi_ hz).1
  have ez : signs.getD i 0 = z:=by rw [List.getD_eq_getElem?_getD,hz]; rfl
  have nD : D ≠ T:=aq hy hT
  have lr:=ux signs sg i
  refine ⟨_,rfl,_,rfl,rfl,_,rfl,mN (fun c => ?_) (fun c => ?_)⟩
  ·refine ⟨_,rfl,ky _ _ (by rw [ao nD]; exact hy) (aA (by rw [lm_]; omega)) ⟨aw (aw hs (hs.free hT)) hD,?_⟩⟩
   rw [k5,if_pos (by rw [ez]; exact c),List.map_append]
   rfl
  ·refine kn _ (by rw [ao nD]; exact hy) ⟨aw hs (hs.free hT),?_⟩
   rw [k5,if_neg (by rw [ez]; exact c),List.append_nil]
 ·rintro D ys H' hD hy ⟨hs,rfl⟩
  rw [lm_] at hy
  exact k D _ hs hD hy
end
def zX : Expr -> Arguments × Expr × Scope
 | .Lambda p b s _ => (p,b,s)
 | e => (⟨[],[],none,[],[],none,[]⟩,e,{ kind:=ScopeKind.function,names:=[],isGenerator:=false,isCoroutine:=false,more:=[] })
def w9 : Stmt -> Expr
 | .Assign _ (.Call _ args _ _) _ => args.getD 3 (.Name "" ⟨0,0,0,0⟩)
 | _ => .Name "" ⟨0,0,0,0⟩
def da : Arguments × Expr × Scope:=zX (w9 ((az bj).getD 2 (.Pass ⟨0,0,0,0⟩)))
theorem y9 : LamScope ["figure"] ["every"] da.2.2:=⟨rfl,rfl,rfl,by decide +kernel,by decide +kernel,by decide +kernel,by decide +kernel,by decide +kernel⟩
def zq : V -> List V -> Hp -> VK -> Prop:=fun v vs H Q => vs.length = 1 /\ ∃ (f c' : Addr) (qual : Str) (clos : List (Str × Addr)) (ev : V),v = .ref f /\ clos.map (·.1) = (["every"] : List Str) /\ LamHas H f c' qual da.1 da.2.1 da.2.2 clos [ev] /\ Q ev H
theorem LamHas.same {H H' : Hp} {f c' : Addr} {qual : Str} {params : Arguments} {body : Expr} {scope : Scope} {clos : List (Str × Addr)} {cvs : List V} (L : LamHas H f c' qual params body scope clos cvs) (s : Same H H') : LamHas H' f c' qual params body scope clos cvs:=
 ⟨s _ _ L.fn,s _ _ L.cd,Paired.mapP L.cl fun _ _ ⟨o,u,e,r⟩ => ⟨o,u,s _ _ e,r⟩,L.nd⟩
theorem LamHas.fnv {H : Hp} {f c' : Addr} {qual : Str} {params : Arguments} {body : Expr} {scope : Scope} {clos : List (Str × Addr)} {cvs : List V} (L : LamHas H f c' qual params body scope clos cvs) : FnV (.ref f) H:=⟨f,qual,params,body,scope,clos,c',rfl,L.fn⟩
theorem xa {X : Cx} {k : Nat} (hr : Room (k + 1) X.A) : LR X zq:=by
 intro pins s σ H f0 vs us Q I r ⟨hl,f,c',qual,clos,ev,e,hc,L,q⟩
 refine zb (k:=k) (ps:=["figure"]) (fr:=["every"]) (params:=da.1) (body:=da.2.1) (scope:=da.2.2) (te:=zH 1) hr y9 (fun us hl qual clos c' pm ctv => ?_) (fun qual f c' clos s H hfr _ => ?_) pins s σ H f0 vs us Q I r ⟨hl,f,c',qual,clos,[ev],e,hc,L,?_⟩
 ·match us,hl with
  | [u],_ => rfl
 ·show PE _ (.Name "every" _) _
  exact xB (i:=1) rfl (.inr (.inr rfl))
 ·match vs,hl with
  | [v],_ => exact ⟨ev,rfl,by show Q ev (back H _ (less H _)); rw [vh]; exact q⟩
theorem sk {p : Int -> Bool} {xs : LI} {i : Nat} {x : Int} (h : xs[i]? = some x) (hp : p x = true) : (xs.take (i + 1)).filter p = (xs.take i).filter p ++ [x]:=by
 rw [List.take_add_one,h,List.filter_append]
 show _ ++ [x].filter p = _
 rw [List.filter_cons_of_pos hp]
 rfl
theorem uV {p : Int -> Bool} {xs : LI} {i : Nat} {x : Int} (h : xs[i]? = some x) (hp : p x = false) : (xs.take (i + 1)).filter p = (xs.take i).filter p:=by
 rw [List.take_add_one,h,List.filter_append]
 show _ ++ [x].filter p = _
 rw [List.filter_cons_of_neg (by rw [hp]; decide)]
 exact List.append_nil _
theorem LsAt.snoc : ∀ {H : Hp} {as : List Addr} {ls : LL} {a : Addr} {l : LI},LsAt H as ls -> H a = some (.lst (l.map V.int)) -> LsAt H (as ++ [a]) (ls ++ [l])
 | _,_,_,_,_,.nil,h => .cons h .nil
 | _,_,_,_,_,.cons q t,h => .cons q (LsAt.snoc t h)
theorem LsAt.keep : ∀ {H H' : Hp} {as : List Addr} {ls : LL},LsAt H as ls -> (∀ b xs,b ∈ as -> H b = some (.lst xs) -> H' b = some (.lst xs)) -> LsAt H' as ls
 | _,_,_,_,.nil,_ => .nil
 | _,_,_,_,.cons q t,s => .cons (s _ _ List.mem_cons_self q) (LsAt.keep t fun b xs hb => s b xs (List.mem_cons_of_mem _ hb))
theorem wI {ns : LI} {c : Nat} : iy (ns.map V.int) (some (c : Int)) none = (ns.drop c).map V.int:=by
 unfold iy
 rw [HT.sIx_none,HT.sIx_nat,lm_,<- List.map_drop]
 rcases Nat.lt_or_ge ns.length c with z | z
 ·rw [Nat.min_eq_right (by omega),List.drop_length,List.drop_eq_nil_of_le (by omega)]
  simp
 ·rw [Nat.min_eq_left z,List.take_of_length_le (by rw [lm_,List.length_drop]; omega)]
theorem slT {K : PySem.W.Frag} {H : Hp} {a : Addr} {xs : List V} {lo hi : Option Int} {Q : VK} (ha : H a = some (.tup xs)) (hq : ∀ c H',Same H H' -> H' c = some (.tup (iy xs lo hi)) -> Q (.ref c) H') : rSl K (.ref a) lo hi H Q:=
 ⟨a,xs,rfl,.inr ⟨qT_ ha,fun e => hq a H (Same.refl _) (by rw [e]; exact ha),fun p hp => hq p _ (aj hp _) ae⟩⟩
theorem Au {K : PySem.W.Frag} {H : Hp} {a b : Addr} {xs ys : List V} {Q : VK} (ha : H a = some (.tup xs)) (hb : H b = some (.tup ys)) (hl : xs.length + ys.length <= sizeLine) (hq : ∀ c H',Same H H' -> H' c = some (.tup (xs ++ ys)) -> Q (.ref c) H') : yM K (.ref a) (.ref b) H Q:=
 ⟨a,b,xs,ys,rfl,rfl,qT_ ha,qT_ hb,hl,fun e => hq b H (Same.refl _) (by rw [e,List.nil_append]; exact hb),fun _ e => hq a H (Same.refl _) (by rw [e,List.append_nil]; exact ha),fun _ _ p hp => hq p _ (aj hp _) ae⟩
theorem xt {H : Hp} {a : Addr} {o : LI} (h : SqO H a o) : ∀ n : Nat,OsAt H (List.replicate n a) (List.replicate n o)
 | 0 => .nil
 | n + 1 => .cons h (xt h n)
theorem p7 {rows : LL} {G : Int -> Prop} {o rai : LI} : ∀ {n : Nat} {ls : LL} {q : Int} {R : LI},PathO rows G ls (List.replicate n o ++ [rai]) q R -> ∃ r0 f0,R = r0 ++ [f0] /\ r0.length = n /\ f0 ∈ rai
 | 0,[],_,_,p => p.elim
 | 0,[l],q,R,⟨_,f,r',e,hf,p⟩ => by
  obtain ⟨e2,_⟩:=p
  subst e2
  exact ⟨[],f,e,rfl,hf⟩
 | 0,l :: l2 :: ls,q,R,⟨_,f,r',e,hf,p⟩ => p.elim
 | n + 1,[],_,_,p => p.elim
 | n + 1,l :: ls,q,R,⟨_,f,r',e,hf,p⟩ => by
  obtain ⟨r0,f0,e1,e2,e3⟩:=p7 p
  exact ⟨f :: r0,f0,by rw [e,e1]; rfl,by rw [List.length_cons,e2],e3⟩
theorem u4 {rows : LL} {G : Int -> Prop} {o rai : LI} {f : Int} (hf : f ∈ rai) : ∀ {n : Nat} {ls : LL} {q : Int} {r : LI},r.length = n -> ls.length = n + 1 -> (∀ (j : Nat) (l : LI),ls[j]? = some l -> aI rows (r.take j) q ∈ l) -> (∀ x ∈ r,x ∈ o) -> G (stepI rows (aI rows r q) f) -> PathO rows G ls (List.replicate n o ++ [rai]) q (r ++ [f])
 | 0,[l],q,[],_,_,h,_,g => ⟨h 0 l rfl,f,[],rfl,hf,rfl,g⟩
 | 0,[],_,_,_,e,_,_,_ => by simp at e
 | 0,_ :: _ :: _,_,_,_,e,_,_,_ => by simp at e
 | 0,_,_,_ :: _,e,_,_,_,_ => by simp at e
 | n + 1,[],_,_,_,e,_,_,_ => by simp at e
 | n + 1,_,_,[],e,_,_,_,_ => by simp at e
 | n + 1,l :: ls,q,x :: r,e1,e2,h,hx,g => ⟨h 0 l rfl,x,r ++ [f],rfl,hx x List.mem_cons_self,u4 hf (by simpa using e1) (by simpa using e2) (fun j l' hl => h (j + 1) l' (by simpa using hl)) (fun y hy => hx y (List.mem_cons_of_mem _ hy)) g⟩
theorem vo {c A B : Prop} [Decidable c] (h1 : ¬ c -> A) (h2 : c -> B) : if (!decide c) = true then A else B:=sy h1 h2
theorem w4 (ks : LI) (g : Int) : mG (kvT ks) (Sum.inl g) = kvT (ks.filter fun k => decide (k ≠ g)):=by
 unfold mG kvT
 rw [List.filter_map]
 congr 1
 refine List.filter_congr fun k _ => ?_
 by_cases c : k = g
 ·subst c
  simp
 ·have : (Sum.inl k : Key) ≠ Sum.inl g:=fun z => c (Sum.inl.inj z)
  simp [c,this]
def cS (wide : Nat) : LI:=(List.range wide).map fun i : Nat => (i : Int)
theorem figs_mem {wide : Nat} {f : Int} : f ∈ cS wide ↔ 0 <= f /\ f < (wide : Int):=by
 unfold cS
 rw [List.mem_map]
 constructor
 ·rintro ⟨n,hn,rfl⟩
  have:=List.mem_range.mp hn
  omega
 ·rintro ⟨h0,h1⟩
  exact ⟨f.toNat,List.mem_range.mpr (by omega),by omega⟩
theorem sj (wide : Nat) : (cS wide).length = wide:=by unfold cS; rw [lm_,List.length_range]
theorem pT (wide : Nat) : (cS wide).Pairwise (· < ·):=by
 unfold cS
 rw [List.pairwise_map]
 exact List.Pairwise.imp (fun h => by omega) List.pairwise_lt_range
theorem wa (signs : LI) (sg : Int) (n : Nat) : (dB signs sg n).Nodup:=by
 unfold dB
 refine List.pairwise_map.mpr (List.Pairwise.imp (fun h z => h (by omega)) (List.Nodup.sublist List.filter_sublist List.nodup_range))
def yT (rows : LL) (signs : LI) (wide : Nat) (sg : Int) (ds : LI) : Prop:=signs.getD (aI rows ds 0).toNat 0 ≠ sg /\ ∀ r f,¬ Sol rows signs wide sg ds r f
def xZ (rows : LL) (signs : LI) (wide : Nat) (sg : Int) (ds R : LI) : Prop:=(R = ds /\ signs.getD (aI rows ds 0).toNat 0 = sg) \/
 (signs.getD (aI rows ds 0).toNat 0 ≠ sg /\ ∃ r f,R = aX ds r f /\ Sol rows signs wide sg ds r f /\ (∀ r' f',Sol rows signs wide sg ds r' f' -> r.length <= r'.length) /\ ∀ r' f',Sol rows signs wide sg ds r' f' -> r'.length = r.length -> av wide (r ++ [f]) <= av wide (r' ++ [f']))
def nH (K : PySem.W.Frag) : Sp:=fun vs H Q _ => ∃ (m r g gd fn c' ev : Addr) (qual : Str) (clos : List (Str × Addr)) (many wide : Nat) (rows : LL) (signs ds : LI) (sg : Int),vs = [.ref m,.int sg,.ref gd,.ref fn] /\ MachAt H m r g wide rows signs /\ RowsOk many wide rows /\ signs.length = many /\ (1 <= many /\ many <= 100) /\ (2 <= wide /\ wide <= 200) /\
 H gd = some (.tup (ds.map V.int)) /\ InB (wide : Int) ds /\ ds.length <= 300 /\ clos.map (·.1) = (["every"] : List Str) /\ LamHas H fn c' qual da.1 da.2.1 da.2.2 clos [.ref ev] /\ H ev = some (.tup ((cS wide).map V.int)) /\
 (yT rows signs wide sg ds -> ∀ H',Same H H' -> Q .non H') /\ (∀ (t : Addr) (H' : Hp) (R : LI),Same H H' -> H' t = some (.tup (R.map V.int)) -> R.length <= ds.length + many + 1 -> xZ rows signs wide sg ds R -> Q (.ref t) H')
section
variable {P : Program} {w : World} {K : PySem.W.Frag} {mg : Str -> Option Value} {base : Heap} {f : Addr} {fd : FuncData} {dV : Value}
theorem sc_least_row : FnScope ["machine","sign","ground","free_for","rows","goals","live","levels","orders","at","figure","order","raised","goal","here"] ["machine","sign","ground","free_for"] (ai bQ):=⟨rfl,rfl,rfl,by decide +kernel,rfl,by decide +kernel,by decide +kernel⟩
theorem bk_least_row_0 : BlkScope ["machine","sign","ground","free_for","rows","goals","live","levels","orders","at","figure","order","raised","goal","here"] (ai bQ) ["other","figure"] [none,some 10] { kind:=ScopeKind.function,names:=[(".0",NameKind.local),("other",NameKind.local),("figure",NameKind.free)],isGenerator:=false,isCoroutine:=false,more:=[] }:=⟨rfl,by decide +kernel,by decide +kernel,by decide +kernel,by decide +kernel,rfl,by decide +kernel⟩
theorem bk_least_row_1 : BlkScope ["machine","sign","ground","free_for","rows","goals","live","levels","orders","at","figure","order","raised","goal","here"] (ai bQ) ["there","live"] [none,some 6] { kind:=ScopeKind.function,names:=[(".0",NameKind.local),("there",NameKind.local),("live",NameKind.free)],isGenerator:=false,isCoroutine:=false,more:=[] }:=⟨rfl,by decide +kernel,by decide +kernel,by decide +kernel,by decide +kernel,rfl,by decide +kernel⟩
theorem vP (F : FunD K "least_row" "least_row" bQ dV f fd) (eS : DefOk P w K mg base "goals_along" 1 ["machine","row","sign"] [] (rq K)) (fH : DefOk P w K mg base "rooms_with" 1 ["machine","sign"] [] nJ) (cB : DefOk P w K mg base "rooms_leading_to" 1 ["machine","goals","taken"] [] (rB K))
  (bx : DefOk P w K mg base "first_leading" 1 ["rows","level","order","goal"] [] (j6 K)) (fF : DefOk P w K mg base "next_rooms" 1 ["rows","level","taken"] [] (rE K)) (fI : DefOk P w K mg base "taken_down" 2 ["rows","levels","orders","goal"] [] (uD K))
  (aW : mg "len" = none) (aM : mg "range" = none) (a9 : mg "tuple" = none) (qh : mg "min" = none) : FnOk P w K mg base CX0 3 f fd ["machine","sign","ground","free_for"] (nH K):=by
 refine F.ok sc_least_row (fun vs H Q E h => ?_) (fun cdv A outer s H vs Q E hr h => ?_)
 ·obtain ⟨m,r,g,gd,fn,c',ev,qual,clos,many,wide,rows,signs,ds,sg,rfl,_⟩:=h
  rfl
 obtain ⟨m,r,g,gd,fn,c',ev,qual,clos,many,wide,rows,signs,ds,sg,rfl,M,R,lsg,⟨n0,n1⟩,⟨w0,w1⟩,hgd,hds,lds,hcl,LH,hev,kN,kY⟩:=h
 obtain ⟨ras,hr',hA⟩:=M.rows
 have hu:=wX hr
 refine ⟨_,(af (au (i:=4) sc_least_row.nd rfl (Or.inl rfl) (aB a8 (pv 0) ah (fun _ _ => rfl)))
   (af (au (i:=5) sc_least_row.nd rfl (Or.inl rfl) (aJ eS hr (aa (pv 0) (aa (pv 2) (aa (pv 1) ag)))))
   (af (bT (h7 (aB aH (aB aH (pv 5) ah (fun _ _ => rfl)) ah (fun _ _ => rfl))) (ak (aG (pv 2))) aZ)
   (af (au (i:=6) sc_least_row.nd rfl (Or.inr rfl) (aJ cB hr (aa (pv 0) (aa (aJ fH hr (aa (pv 0) (aa (pv 1) ag))) (aa (qb rfl rfl a9 rfl aM (aa (aB a8 (pv 0) ah (fun _ _ => rfl)) ag)) ag)))))
   (af (bT (ur (p8 hu ah (pv 6)) (by with_unfolding_all rfl)) (ak (aG hZ)) aZ)
   (af (au (i:=7) sc_least_row.nd rfl (Or.inl rfl) (bq (aa (bq (aa ah ag)) ag)))
   (af (au (i:=8) sc_least_row.nd rfl (Or.inl rfl) (bq ag))
   (af (eC PassesOwn.never ((jY (aB aH (pv 7) (qc kP ah) (fun _ _ => rfl)) (fun _ => rfl))) (af (au (i:=9) sc_least_row.nd rfl (Or.inl rfl) (aF ay (by rfl) aW bF (aa (pv 8) ag)))
   (af (au (i:=10) sc_least_row.nd rfl (Or.inr rfl) (nq (aK p5 (pv 9) (aF ay (by rfl) aW bF (aa (pv 2) ag)) (aQ _)) (aB a8 (pv 2) (pv 9) (fun _ _ => rfl)) ah))
   (af (au (i:=11) sc_least_row.nd rfl (Or.inl rfl) (xv (pv 3) (aa (pv 10) ag) ((xa hr))))
   (af (tG (i:=12) rfl sc_least_row.nd rfl (Or.inl rfl) bk_least_row_0 (kB (pv 11)) (fun _ _ _ _ => (aE (i:=0) bk_least_row_0.nd rfl (Or.inl rfl))) (fun _ _ _ _ => (aK nk (pv 0) (pv 1) (aQ _))) (fun _ _ _ _ => (pv 0)))
   (af (au (i:=13) sc_least_row.nd rfl (Or.inl rfl) (aB aH (pv 5) (aF (pP rfl) (by rfl) qh wD (aa (ar bN (pv 9) ah) (aa (aF ay (by rfl) aW bF (aa (pv 2) ag)) ag))) (fun _ _ => rfl)))
   (af (bT (aK u3 (aJ bx hr (aa (pv 4) (aa (aB aH (pv 7) (pv 9) (fun _ _ => rfl)) (aa (pv 12) (aa (pv 13) ag))))) hZ (aQ _)) (ak (aG (ar yp (aJ fI hr (aa (pv 4) (aa (pv 7) (aa (ar qY (pv 8) (bq (aa (pv 12) ag))) (aa (pv 13) ag))))) (nu zx (pv 2) (jW (ar bN (pv 9) ah)) gG)))) aZ)
   (af (bT (aK yI (pv 9) (aF ay (by rfl) aW bF (aa (pv 2) ag)) (aQ _)) (ak (bw PassesOwn.never rfl (cZ (aB aH (pv 7) (pv 9) (fun _ _ => rfl))) (aE (i:=14) sc_least_row.nd rfl (Or.inl rfl)) (ak (aY (xy (pv 6) (pv 14) ⟨rfl,rfl,rfl,rfl⟩))))) aZ)
   (af (aY (eB PySem.F.plainAttrs_list PySem.F.slot_list_append PySem.F.type_list_append aV (pv 8) (aa (pv 11) ag)))
   (ak (aY (eB PySem.F.plainAttrs_list PySem.F.slot_list_append PySem.F.type_list_append aV (pv 7) (aa (tu rfl bk_least_row_1 (cZ (aJ fF hr (aa (pv 4) (aa (aB aH (pv 7) (pv 9) (fun _ _ => rfl)) (aa (pv 11) ag))))) (fun _ _ _ _ => (aE (i:=0) bk_least_row_1.nd rfl (Or.inl rfl))) (fun _ _ _ _ => (ur (zi hu (pv 0) (pv 1)) (by with_unfolding_all rfl))) (fun _ _ _ _ => (pv 0))) ag)))))))))))))
   (ak (aG hZ)))))))))),?_⟩
 refine ⟨_,rfl,m,_,_,_,rfl,rfl,qT_ M.tup,rfl,?_⟩
 refine ⟨_,rfl,_,rfl,_,rfl,m,r,g,gd,many,wide,rows,signs,ds,sg,rfl,M,R,lsg,⟨n0,by omega⟩,hgd,hds,by omega,fun gl H1 gas s1 hgl GA => ?_⟩
 have gget : ∀ i : Nat,i <= ds.length -> ∃ a,gas[i]? = some a /\ H1 a = some (.lst ((iT rows signs sg many (ds.drop i)).map V.bl)):=fun i hi => by
  have l : i < ((List.range (ds.length + 1)).map fun i => ds.drop i).length:=by rw [lm_,List.length_range]; omega
  obtain ⟨a,h1,h2⟩:=GA.get l
  refine ⟨a,h1,?_⟩
  rw [h2]
  simp
 obtain ⟨a0,ga0,hga0⟩:=gget 0 (by omega)
 have at0 : atI (gas.map V.ref) 0 = some (.ref a0):=dU (by omega) ga0
 refine ⟨_,rfl,gl,_,_,_,rfl,rfl,qL_ hgl,at0,a0,_,_,_,rfl,rfl,qL_ hga0,sr (by omega) (by omega),_,rfl,yb (fun c => ?_) (fun c => ?_)⟩
 ·refine ⟨_,rfl,kY gd H1 ds s1 (s1 _ _ hgd) (by omega) (.inl ⟨rfl,?_⟩)⟩
  exact V.int.inj (of_decide_eq_true c)
 have n0s : signs.getD (aI rows ds 0).toNat 0 ≠ sg:=fun z => c (decide_eq_true (congrArg V.int z))
 have M1:=M.same fun b xs e => s1 _ _ e
 try dsimp only [nO]
 refine ⟨_,rfl,_,rfl,_,rfl,m,r,g,wide,rows,signs,sg,rfl,M1,by omega,fun l0 H2 s2 fl0 hl0 => ?_⟩
 have M2:=M1.same fun b xs e => s2 _ _ e
 refine ⟨_,rfl,m,_,_,_,rfl,rfl,qT_ M2.tup,rfl,wide,rfl,Nat.le_of_lt (aA (by omega)),fun tk htk => ?_⟩
 have s3:=aj htk (HO.tup ((List.range wide).map fun i : Nat => V.int i))
 have htk2 : (upd H2 tk (HO.tup ((List.range wide).map fun i : Nat => V.int i))) tk = some (.tup ((cS wide).map V.int)):=by
  rw [ae]
  unfold cS
  rw [List.map_map]
  rfl
 refine ⟨m,r,g,l0,tk,many,wide,rows,signs,dB signs sg signs.length,cS wide,rfl,M2.same (fun b xs e => s3 _ _ e),R,⟨n0,by omega⟩,⟨by omega,by omega⟩,s3 _ _ hl0,wa _ _ _,fun q hq => ?_,htk2,by rw [sj]; omega,fun f hf => figs_mem.mp hf,fun D H4 ks s4 fD hD ndk ks1 ks2 => ?_⟩
 ·have:=roomsI_mem.mp hq
  rw [lsg] at this
  exact ⟨this.1,this.2.1⟩
 have S4 : Same H H4:=s1.trans (s2.trans (s3.trans s4))
 have S14 : Same H1 H4:=s2.trans (s3.trans s4)
 have fDH1 : H1 D = none:=s2.free (s3.free fD)
 have fDH : H D = none:=s1.free fDH1
 have onW : ∀ (q : Int) (row : LI),0 <= q -> q < (many : Int) -> InB (wide : Int) row -> signs.getD (aI rows row q).toNat 0 = sg -> q ∈ ks:=fun q row q0 q1 hrow e => by
  have win:=nV R hrow q0 q1
  exact ks2 q q0 q1 ⟨row,fun f hf => figs_mem.mpr (hrow f hf),roomsI_mem.mpr ⟨win.1,by rw [lsg]; exact win.2,e⟩⟩
 try dsimp only [aL]
 refine ⟨_,rfl,D,_,rfl,DGet.k (k:=Sum.inl (0 : Int)) hD,_,rfl,?_⟩
 rw [jN]
 refine vo (fun c0 => ?_) (fun c0 => ?_)
 ·refine kN ⟨n0s,fun r' f' s => c0 ?_⟩ H4 S4
  exact onW 0 (aX ds r' f') (by omega) (by omega) (jG hds s.inb s.fig) s.sgn
 try dsimp only [nO]
 refine ⟨(by show 1 <= sizeLine; decide),fun l1 hl1 => ?_⟩
 have sa:=aj hl1 (HO.lst [V.int 0])
 refine ⟨(by show 1 <= sizeLine; decide),fun lv hlv => ?_⟩
 have sb:=aj hlv (HO.lst [V.ref l1])
 try dsimp only [aL]
 refine ⟨(by show 0 <= sizeLine; decide),fun od hod => ?_⟩
 have sc' := aj hod (HO.lst [])
 obtain ⟨H5,eH5⟩ : ∃ H5,upd (upd (upd H4 l1 (HO.lst [V.int 0])) lv (HO.lst [V.ref l1])) od (HO.lst []) = H5:=⟨_,rfl⟩
 have s45 : Same H4 H5:=by rw [<- eH5]; exact sa.trans (sb.trans sc')
 have hod5 : H5 od = some (.lst []):=by rw [<- eH5]; exact ae
 have hlv5 : H5 lv = some (.lst (([l1] : List Addr).map V.ref)):=by rw [<- eH5,sc' _ _ ae]; rfl
 have hl15 : H5 l1 = some (.lst (([0] : LI).map V.int)):=by rw [<- eH5]; exact sc' _ _ (sb _ _ ae)
 have flv1 : H1 lv = none:=S14.free (sa.free hlv)
 have fod1 : H1 od = none:=S14.free (sa.free (sb.free hod))
 have nlo : lv ≠ od:=fun z => by rw [<- z,ae] at hod; cases hod
 have n1v : l1 ≠ lv:=fun z => by rw [<- z,ae] at hlv; cases hlv
 have n1o : l1 ≠ od:=fun z => by rw [<- z,sb _ _ ae] at hod; cases hod
 have hD5:=s45 _ _ hD
 rw [eH5]
 try dsimp only [aL]
 refine gI (fun mm σ' H' => ∃ (las : List Addr) (ls : LL) (ls1 : LI) (ks' : LI) (n : Nat) (v9 v10 v11 v12 v13 v14 : OV),mm = (ds.length - n) + ks'.length /\
   σ' = [some (.ref m),some (.int sg),some (.ref gd),some (.ref fn),some (.ref r),some (.ref gl),some (.ref D),some (.ref lv),some (.ref od),v9,v10,v11,v12,v13,v14] /\ Same H1 H' /\ H' D = some (.dK (kvT ks')) /\ H' lv = some (.lst (las.map V.ref)) /\ LsAt H' las ls /\ (∀ a ∈ las,a ≠ lv /\ a ≠ od) /\
   H' od = some (.lst ((List.replicate n ev).map V.ref)) /\ ls.length = n + 1 /\ LvI rows signs many wide sg ds ls ks' /\ ks'.Nodup /\ (∀ q ∈ ks',0 <= q /\ q < (many : Int)) /\ ls[n]? = some ls1 /\ ls1.Nodup /\ (∀ q ∈ ls1,q ∈ ks') /\ n + ks'.length <= ds.length + many)
  ⟨_,[l1],[[0]],[0],ks,0,none,none,none,none,none,none,rfl,rfl,S14.trans s45,hD5,hlv5,.cons hl15 .nil,fun a ha => ?_,hod5,rfl,?_,ndk,fun q hq => (ks1 q hq).1,rfl,by simp,fun q hq => ?_,?_⟩ ?_
 ·rw [List.mem_singleton.mp ha]; exact ⟨n1v,n1o⟩
 ·refine ⟨rfl,fun j l l' h1 h2 => by simp at h2,fun l hl q hq => ?_,fun r' f' _ => by simp,fun r' f' Ms j l hl => ?_,fun r' f' Ms j j1 j2 => ?_⟩
  ·rw [List.mem_singleton.mp hl] at hq; rw [List.mem_singleton.mp hq]; omega
  ·cases j with
   | zero =>
    have : l = [0]:=by simpa using hl.symm
    rw [this]
    exact List.mem_cons_self
   | succ j => simp at hl
  ·have hs:=Ms.sol
   have tin : InB (wide : Int) (r'.take j):=fun x hx => hs.inb x (List.mem_of_mem_take hx)
   have win:=nV R tin (show (0 : Int) <= 0 by omega) (show (0 : Int) < (many : Int) by omega)
   refine onW _ (aX (ds.drop j) (r'.drop j) f') win.1 win.2 (jG (fun x hx => hds x (List.mem_of_mem_drop hx)) (fun x hx => hs.inb x (List.mem_of_mem_drop hx)) hs.fig) ?_
   rw [<- wt ds r' f' 0 j j2]
   exact hs.sgn
 ·rw [List.mem_singleton.mp hq]; exact c0
 ·have:=bK many ndk fun q hq => (ks1 q hq).1
  omega
 rintro mm σ' H6 ⟨las,ls,ls1,ks',n,v9,v10,v11,v12,v13,v14,rfl,rfl,s6,hD6,hlv6,LA,nel,hod6,lls,I,ndk',kin',hls1,nd1,sub1,bound⟩
 have lla : las.length = ls.length:=Paired.length LA
 obtain ⟨la,hla1,hla⟩:=LA.get hls1
 have at1 : atI (las.map V.ref) (-1) = some (.ref la):=by
  have e : las.take (n + 1) = las.take n ++ [la]:=by rw [List.take_add_one,hla1]; rfl
  rw [List.take_of_length_le (by omega)] at e
  rw [e,List.map_append]
  exact rQ _ _
 by_cases en : ls1 = []
 ·refine ⟨_,rfl,_,rfl,lv,_,_,_,rfl,rfl,qL_ hlv6,at1,_,.inl ⟨_,qL_ hla,rfl⟩,?_⟩
  subst en
  refine jb ?_
  refine kN ⟨n0s,fun r' f' sl => ?_⟩ H6 (s1.trans s6)
  obtain ⟨r2,f2,Ms⟩:=xf r'.length r' f' (Nat.le_refl _) sl
  have:=I.inn r2 f2 Ms n [] hls1
  cases this
 refine ⟨_,rfl,_,rfl,lv,_,_,_,rfl,rfl,qL_ hlv6,at1,true,.inl ⟨_,qL_ hla,by cases ls1 with | nil => exact absurd rfl en | cons _ _ => rfl⟩,jJ ⟨_,fun σ' H' h => h,?_⟩⟩
 have S6:=s1.trans s6
 have M6:=M.same fun b xs e => S6 _ _ e
 have hgd6:=S6 _ _ hgd
 have hev6:=S6 _ _ hev
 have LH6:=LamHas.same LH S6
 have hr6:=S6 _ _ hr'
 have hA6:=hA.same fun b xs e => S6 _ _ e
 have hgl6:=s6 _ _ hgl
 have lin1:=I.lin ls1 (mq_ hls1)
 have ldm : (ds.map V.int).length = ds.length:=List.length_map _
 refine ⟨_,rfl,od,_,rfl,.inl (qL_ hod6),?_⟩
 rw [lm_,List.length_replicate]
 try dsimp only [aL]
 refine d6 (t:=wo _ _) (fun σ' H' => σ' = [some (.ref m),some (.int sg),some (.ref gd),some (.ref fn),some (.ref r),some (.ref gl),some (.ref D),some (.ref lv),some (.ref od),some (.int n),some (.int (ds.getD n 0)),v11,v12,v13,v14] /\ H6 = H') ?_ (fun D' nxt => ?_)
 rotate_left
 ·refine ⟨_,rfl,_,rfl,gd,_,rfl,.inr (qT_ hgd6),_,_,rfl,rfl,_,rfl,gr (fun c => ?_) (fun c => ?_)⟩
  ·rw [ldm] at c
   refine ⟨_,rfl,_,rfl,gd,_,_,_,rfl,rfl,qT_ hgd6,bp (by omega) (by omega),nxt _ _ ⟨?_,rfl⟩⟩
   rw [Int.toNat_natCast]
   rfl
  ·rw [ldm] at c
   refine nxt _ _ ⟨?_,rfl⟩
   rw [show ds.getD n 0 = 0 by rw [List.getD_eq_getElem?_getD,List.getElem?_eq_none (by omega)]; rfl]
   rfl
 rintro σ' H' ⟨rfl,rfl⟩
 obtain ⟨fig,efig⟩ : ∃ fig,ds.getD n 0 = fig:=⟨_,rfl⟩
 rw [efig]
 refine ⟨_,rfl,LamHas.fnv LH6,_,rfl,LamHas.fnv LH6,rfl,fn,c',qual,clos,.ref ev,rfl,hcl,LH6,?_⟩
 try dsimp only [aL]
 refine ⟨_,rfl,ev,rfl,⟨_,qT_ hev6⟩,?_⟩
 refine vk (K:=K) (xs:=(cS wide).map V.int) (fun Dd j ys H' => Same H' H' /\ Same H6 H' /\ ys = (((cS wide).take j).filter fun x => decide (fig < x)).map V.int) (fun Dd hDd => ⟨Same.refl _,aj hDd _,rfl⟩) (fun Dd j ys H' _ ⟨_,e,_⟩ => qT_ (e _ _ hev6)) ?_ ?_
 ·rintro Dd j y ys H' Qy Qn hDd hj hy ⟨_,hs',rfl⟩ ky kn
  obtain ⟨x,rfl,hx⟩:=bb hj
  have fit : ((((cS wide).take j).filter fun x => decide (fig < x)).map V.int).length < sizeLine:=aA (by
   rw [lm_]
   have:=List.length_filter_le (fun x => decide (fig < x)) ((cS wide).take j)
   rw [List.length_take,sj] at this
   omega)
  refine ⟨_,rfl,_,rfl,_,_,rfl,rfl,_,rfl,gr (fun c => ?_) (fun c => ?_)⟩
  ·refine ⟨_,rfl,ky _ _ hy fit ⟨Same.refl _,aw hs' hDd,?_⟩⟩
   rw [sk hx (decide_eq_true c),List.map_append]
   rfl
  ·refine kn _ hy ⟨Same.refl _,hs',?_⟩
   rw [uV hx (decide_eq_false c)]
 rintro C ys H7 fC hC ⟨_,s7,rfl⟩
 try dsimp only [aL]
 rw [lm_,List.take_length] at hC
 obtain ⟨rai,erai⟩ : ∃ rai,(cS wide).filter (fun x => decide (fig < x)) = rai:=⟨_,rfl⟩
 rw [erai] at hC
 have rmem : ∀ x,x ∈ rai ↔ (0 <= x /\ x < (wide : Int)) /\ fig < x:=fun x => by rw [<- erai,List.mem_filter,figs_mem,decide_eq_true_iff]
 have rord : rN wide rai:=⟨fun f hf => ((rmem f).mp hf).1,by rw [<- erai]; exact (pT wide).sublist List.filter_sublist⟩
 have S7:=S6.trans s7
 have hlv7:=s7 _ _ hlv6
 have hla7:=s7 _ _ hla
 have hD7:=s7 _ _ hD6
 have hod7:=s7 _ _ hod6
 obtain ⟨ga,hga1,hga⟩:=gget (min (n + 1) ds.length) (Nat.min_le_right _ _)
 have hga7 : H7 ga = some (.lst ((iT rows signs sg many (ds.drop (n + 1))).map V.bl)):=by
  rw [(s6.trans s7) _ _ hga]
  rcases Nat.lt_or_ge ds.length (n + 1) with z | z
  ·rw [Nat.min_eq_right (by omega),List.drop_length,List.drop_eq_nil_of_le (by omega)]
  ·rw [Nat.min_eq_left z]
 have atG : atI (gas.map V.ref) (if (((ds.map V.int).length : Nat) : Int) < (n : Int) + 1 then (((ds.map V.int).length : Nat) : Int) else (n : Int) + 1) = some (.ref ga):=by
  rw [ldm]
  have e : (if ((ds.length : Nat) : Int) < (n : Int) + 1 then ((ds.length : Nat) : Int) else (n : Int) + 1) = ((min (n + 1) ds.length : Nat) : Int):=by
   split <;> omega
  rw [e]
  exact dU (by omega) (by rw [Int.toNat_natCast]; exact hga1)
 have atL : atI (las.map V.ref) (n : Int) = some (.ref la):=dU (by omega) (by rw [Int.toNat_natCast]; exact hla1)
 try dsimp only [aL]
 refine ⟨_,rfl,_,rfl,_,_,rfl,rfl,_,rfl,gd,_,rfl,.inr (qT_ (s7 _ _ hgd6)),_,_,rfl,gl,_,_,_,rfl,rfl,qL_ (s7 _ _ hgl6),atG,?_⟩
 try dsimp only [aL]
 have gbd : ∀ q : Int,gN rows signs sg (ds.drop (n + 1)) q = true ↔ signs.getD (aI rows (ds.drop (n + 1)) q).toNat 0 = sg:=fun q => by
  unfold gN
  rw [decide_eq_true_iff]
  exact ⟨fun z => V.int.inj z,fun z => congrArg V.int z⟩
 refine ⟨_,rfl,_,rfl,_,rfl,lv,_,_,_,rfl,rfl,qL_ hlv7,atL,_,rfl,_,rfl,r,la,C,ga,many,wide,ras,rows,ls1,rai,gN rows signs sg (ds.drop (n + 1)),rfl,s7 _ _ hr6,(hA6.same fun b xs e => s7 _ _ e),R,hla7,lin1,.inl hC,rord.1,hga7,fun j f hf ex mn => ?_,fun no => ?_⟩
 ·refine ⟨rfl,_,rfl,sy (fun _ => ?_) (fun z => by cases z)⟩
  refine ⟨_,rfl,_,rfl,_,rfl,_,rfl,(by show 1 <= sizeLine; decide),fun z hz => ?_⟩
  have sz:=aj hz (HO.lst [V.ref C])
  refine ⟨od,z,_,_,rfl,rfl,sz _ _ hod7,ae,Nat.le_of_lt (aA (by rw [lm_,List.length_replicate]; show n + 1 <= 1000; omega)),fun oA hoA => ?_⟩
  have so:=aj hoA (HO.lst ((List.replicate n ev).map V.ref ++ [V.ref C]))
  have szo:=sz.trans so
  have S8:=S7.trans szo
  have fmem:=mq_ hf
  obtain ⟨h0,hh0,eh0⟩:=ex
  refine ⟨_,rfl,?_⟩
  refine ⟨r,lv,oA,ga,many,wide,ras,las,List.replicate n ev ++ [C],rows,ls,List.replicate n (cS wide) ++ [rai],gN rows signs sg (ds.drop (n + 1)),(fun q => signs.getD (aI rows (ds.drop (n + 1)) q).toNat 0 = sg),rfl,S8 _ _ hr',(hA.same fun b xs e => S8 _ _ e),R,⟨n0,by omega⟩,⟨w0,by omega⟩,szo _ _ hlv7,LA.same (fun b xs e => (s7.trans szo) _ _ e),by omega,I.lin,by rw [ae,List.map_append]; rfl,?_,by rw [List.length_append,List.length_replicate,lls]; rfl,fun o ho => ?_,szo _ _ hga7,fun q _ _ => gbd q,fun j l l' o h1 h2 h3 q hq => ?_,⟨ls1,rai,by rw [lls,Nat.add_sub_cancel]; exact hls1,?_,h0,hh0,f,fmem,(gbd _).mp eh0⟩,fun t H9 Rr s9 ht inb lR mn ex2 => ?_⟩
  ·exact Paired.snoc (xt (.inr (S8 _ _ hev)) n) (.inl (szo _ _ hC))
  ·rcases ma_.mp ho with y | y
   ·rw [List.eq_of_mem_replicate y]
    exact ⟨fun f hf => figs_mem.mp hf,pT wide⟩
   ·rw [List.mem_singleton.mp y]; exact rord
  ·have jl:=(gi_ h2).1
   rw [List.getElem?_append_left (by rw [List.length_replicate]; omega),List.getElem?_replicate,if_pos (by omega)] at h3
   cases h3
   obtain ⟨h,hh,f,ff,e⟩:=I.nx j l l' h1 h2 q hq
   exact ⟨h,hh,f,figs_mem.mpr ff,e⟩
  ·rw [lls,Nat.add_sub_cancel,List.getElem?_append_right (by rw [List.length_replicate]; exact Nat.le_refl _),List.length_replicate,Nat.sub_self]
   rfl
  obtain ⟨q0,pq⟩:=ex2
  have e0 : q0 = 0:=by
   cases ls with
   | nil => simp at lls
   | cons l ls =>
    have hl0 : l = [0]:=by simpa using I.hd
    cases n with
    | zero => have:=pq.1; rw [hl0] at this; exact List.mem_singleton.mp this
    | succ n => have:=pq.1; rw [hl0] at this; exact List.mem_singleton.mp this
  subst e0
  obtain ⟨r0,f0,eR,lr0,hf0⟩:=p7 pq
  have hf0' := (rmem f0).mp hf0
  have eF : aX ds r0 f0 = Rr ++ ds.drop (n + 1):=by unfold aX; rw [eR,lr0,List.append_assoc]; rfl
  have sol : Sol rows signs wide sg ds r0 f0:=⟨fun x hx => inb x (by rw [eR]; exact List.mem_append_left _ hx),hf0'.1,by rw [lr0,efig]; exact hf0'.2,by rw [eF,bE]; exact pq.walk⟩
  refine ⟨_,rfl,_,rfl,_,_,rfl,rfl,_,rfl,?_⟩
  dsimp only [va]
  have S9:=S8.trans s9
  have cst : ((n : Int) + 1) = ((n + 1 : Nat) : Int):=by omega
  refine slT (lo:=some ((n : Int) + 1)) (hi:=none) (S9 _ _ hgd) (fun c2 H10 s10 hc2 => ?_)
  rw [cst,wI] at hc2
  have lrr : Rr.length = n + 1:=by rw [lR,lls]
  refine Au (s10 _ _ ht) hc2 (Nat.le_of_lt (aA (by rw [lm_,lm_,List.length_drop]; omega))) (fun pp H11 s11 hp => ?_)
  rw [<- List.map_append] at hp
  refine kY pp H11 (Rr ++ ds.drop (n + 1)) (S9.trans (s10.trans s11)) hp (by rw [List.length_append,List.length_drop]; omega) (.inr ⟨n0s,r0,f0,eF.symm,sol,fun r' f' sl => by have:=I.non r' f' sl; omega,fun r' f' sl e => ?_⟩)
  rw [<- eR]
  have Ms : MinSol rows signs wide sg ds r' f' := ⟨sl,fun r2 f2 s2 => by have:=I.non r2 f2 s2; omega⟩
  have ab:=sl.abv
  rw [e,lr0,efig] at ab
  refine mn 0 (r' ++ [f']) (by omega) (by omega) (u4 ((rmem f').mpr ⟨sl.fig,ab⟩) (by omega) lls (fun j l hl => I.inn r' f' Ms j l hl) (fun x hx => figs_mem.mpr (sl.inb x hx)) ?_)
  have h4:=sl.sgn
  unfold aX at h4
  rw [show r'.length + 1 = n + 1 by omega,bE] at h4
  exact h4
 ·refine ⟨rfl,_,rfl,sy (fun z => absurd rfl z) (fun _ => ?_)⟩
  have hno : ∀ r' f',Sol rows signs wide sg ds r' f' -> r'.length ≠ ls.length - 1:=fun r' f' sl e => by
   have en' : r'.length = n:=by omega
   have Ms : MinSol rows signs wide sg ds r' f' := ⟨sl,fun r2 f2 s2 => by have:=I.non r2 f2 s2; omega⟩
   have h1:=I.inn r' f' Ms n ls1 hls1
   rw [List.take_of_length_le (by omega)] at h1
   have h2:=sl.abv
   rw [en',efig] at h2
   have h3:=no f' ((rmem f').mpr ⟨sl.fig,h2⟩) _ h1
   have h4:=sl.sgn
   unfold aX at h4
   rw [en',bE] at h4
   have h5:=(gbd (stepI rows (aI rows r' 0) f')).mpr h4
   rw [h5] at h3
   cases h3
  try dsimp only [nO]
  have keep7 : ∀ (k2 : LI) (H' : Hp),(∀ b u,b ≠ D -> H7 b = some u -> H' b = some u) -> Same H1 H' := fun k2 H' h b u e => h b u (aq e fDH1) ((s6.trans s7) _ _ e)
  refine d6 (t:=yF _ _ _) (fun σ' H' => ∃ (k2 : LI) (v14 : OV),σ' = [some (.ref m),some (.int sg),some (.ref gd),some (.ref fn),some (.ref r),some (.ref gl),some (.ref D),some (.ref lv),some (.ref od),some (.int n),some (.int fig),some (.ref ev),some (.ref C),some (.ref ga),v14] /\ (∀ b u,b ≠ D -> H7 b = some u -> H' b = some u) /\ H' D = some (.dK (kvT k2)) /\ k2.Nodup /\
    (ds.length < ls.length -> ∀ q,q ∈ k2 ↔ q ∈ ks' /\ q ∉ ls1) /\ (¬ ds.length < ls.length -> k2 = ks') /\ (ds.length - (n + 1)) + k2.length < (ds.length - n) + ks'.length /\ n + 1 + k2.length <= ds.length + many) ?_ (fun D' nxt => ?_)
  rotate_left
  ·refine ⟨_,rfl,_,rfl,gd,_,rfl,.inr (qT_ (s7 _ _ hgd6)),_,_,rfl,rfl,_,rfl,gr (fun c => ?_) (fun c => ?_)⟩
   ·rw [ldm] at c
    refine ⟨_,rfl,_,rfl,lv,_,_,_,rfl,rfl,qL_ hlv7,atL,la,rfl,⟨_,qL_ hla7⟩,?_⟩
    refine cT (K:=K) (xs:=ls1.map V.int) (fun i σ' H' => ∃ v14 : OV,σ' = [some (.ref m),some (.int sg),some (.ref gd),some (.ref fn),some (.ref r),some (.ref gl),some (.ref D),some (.ref lv),some (.ref od),some (.int n),some (.int fig),some (.ref ev),some (.ref C),some (.ref ga),v14] /\ (∀ b u,b ≠ D -> H7 b = some u -> H' b = some u) /\ H' D = some (.dK (kvT (ks'.filter fun q => decide (q ∉ ls1.take i)))))
     ⟨v14,rfl,fun b u _ e => e,by rw [hD7,List.take_zero,List.filter_eq_self.mpr (by simp)]⟩ (fun i σ' H' _ ⟨_,_,e,_⟩ => qL_ (e _ _ (cY hla7 hD7 (by intro z; cases z)) hla7)) ?_ ?_
    ·rintro i y σ' H8 hi ⟨w14,rfl,k8,hD8⟩
     obtain ⟨x,rfl,hx⟩:=bb hi
     have hnt : x ∉ ls1.take i:=fun z => by
      obtain ⟨j,hj⟩:=List.mem_iff_getElem?.mp z
      have jl:=(gi_ hj).1
      rw [List.length_take] at jl
      rw [List.getElem?_take_of_lt (by omega)] at hj
      have:=(List.getElem?_inj (show j < ls1.length by omega) nd1).mp (hj.trans hx.symm)
      omega
     have hxf : x ∈ ks'.filter (fun q => decide (q ∉ ls1.take i)):=List.mem_filter.mpr ⟨sub1 x (mq_ hx),decide_eq_true hnt⟩
     obtain ⟨v,hv⟩ : ∃ v,di (kvT (ks'.filter fun q => decide (q ∉ ls1.take i))) (Sum.inl x) = some v:=by
      have h:=jN (ks'.filter fun q => decide (q ∉ ls1.take i)) x
      rw [decide_eq_true hxf] at h
      exact Option.isSome_iff_exists.mp h
     refine ⟨_,rfl,D,rfl,.inl ⟨_,.inl hD8⟩,_,rfl,_,Sum.inl x,v,hD8,rfl,hv,?_⟩
     refine ⟨_,rfl,fun b u nb e => by rw [ao nb]; exact k8 b u nb e,?_⟩
     rw [ae,w4,List.filter_filter]
     congr 3
     refine List.filter_congr fun q _ => ?_
     rw [<- Bool.decide_and]
     refine decide_eq_decide.mpr ?_
     rw [bC hx]
     exact ⟨fun z y => y.elim z.2 z.1,fun z => ⟨fun y => z (.inr y),fun y => z (.inl y)⟩⟩
    ·rintro σ' H8 ⟨w14,rfl,k8,hD8⟩
     rw [lm_,List.take_length] at hD8
     have lt : (ks'.filter fun q => decide (q ∉ ls1)).length < ks'.length:=by
      obtain ⟨x,hx⟩:=List.exists_mem_of_ne_nil ls1 en
      exact List.length_filter_lt_length_iff_exists.mpr ⟨x,sub1 x hx,by simp [hx]⟩
     refine nxt _ _ ⟨_,_,rfl,k8,hD8,ndk'.sublist List.filter_sublist,fun _ q => by rw [List.mem_filter,decide_eq_true_iff],fun z => absurd (show ds.length < ls.length by omega) z,by omega,by omega⟩
   ·rw [ldm] at c
    have few:=bK many ndk' kin'
    exact nxt _ _ ⟨ks',_,rfl,fun b u _ e => e,hD7,ndk',fun z => absurd z (by omega),fun _ => rfl,by omega,by omega⟩
  rintro σ' H8 ⟨k2,w14,rfl,k8,hD8,ndk2,k2a,k2b,meas,bnd⟩
  have hod8:=k8 _ _ (cY hod7 hD7 (by intro z; cases z)) hod7
  have hlv8:=k8 _ _ (cY hlv7 hD7 (by intro z; cases z)) hlv7
  have s18:=keep7 k2 H8 k8
  refine ⟨_,rfl,.inl ⟨rfl,_,qL_ hod8⟩,_,rfl,od,_,_,rfl,rfl,hod8,aA (by rw [lm_,List.length_replicate]; omega),?_⟩
  obtain ⟨H9,eH9⟩ : ∃ H9,upd H8 od (.lst ((List.replicate n ev).map V.ref ++ [V.ref ev])) = H9:=⟨_,rfl⟩
  have hod9 : H9 od = some (.lst ((List.replicate (n + 1) ev).map V.ref)):=by rw [<- eH9,ae,List.replicate_succ',List.map_append]; rfl
  have s19 : Same H1 H9:=by rw [<- eH9]; exact aw s18 fod1
  have up9 : ∀ b u,b ≠ od -> H8 b = some u -> H9 b = some u:=fun b u nb e => by rw [<- eH9,ao nb]; exact e
  have nlo' : lv ≠ od:=nlo
  have hlv9:=up9 _ _ nlo' hlv8
  have hD9:=up9 _ _ (cY hD8 hod8 (by intro z; cases z)) hD8
  have S9:=s1.trans s19
  have lamem:=mq_ hla1
  have hla9 : H9 la = some (.lst (ls1.map V.int)):=up9 _ _ (nel la lamem).2 (k8 _ _ (cY hla7 hD7 (by intro z; cases z)) hla7)
  rw [eH9]
  refine ⟨_,rfl,.inl ⟨rfl,_,qL_ hlv9⟩,?_⟩
  refine ⟨_,rfl,_,rfl,_,rfl,lv,_,_,_,rfl,rfl,qL_ hlv9,atL,_,rfl,r,la,ev,many,wide,ras,rows,ls1,cS wide,rfl,S9 _ _ hr',(hA.same fun b xs e => S9 _ _ e),R,⟨n0,by omega⟩,hla9,lin1,S9 _ _ hev,fun f hf => figs_mem.mp hf,fun qa H10 qs s10 hqa ndq mq => ?_⟩
  refine ⟨qa,rfl,⟨_,qL_ hqa⟩,?_⟩
  have hD10:=s10 _ _ hD9
  have qin : ∀ x ∈ qs,0 <= x /\ x < (many : Int):=fun x hx => by
   obtain ⟨h,hh,f,hf,e⟩:=(mq x).mp hx
   have hi2:=lin1 h hh
   have ff:=figs_mem.mp hf
   rw [<- e]; exact aR R hi2.1 hi2.2 ff.1 ff.2
  have fewq:=bK many ndq qin
  refine tX (K:=K) (xs:=qs.map V.int) (fun Dd j ys H' => Same H10 H' /\ ys = ((qs.take j).filter fun q => decide (q ∈ k2)).map V.int) (fun Dd hDd => ⟨aj hDd _,rfl⟩) (fun Dd j ys H' _ ⟨e,_⟩ => qL_ (e _ _ hqa)) ?_ ?_
  ·rintro Dd j y ys H' Qy Qn hDd hj hy ⟨hs',rfl⟩ ky kn
   obtain ⟨x,rfl,hx⟩:=bb hj
   have fit : (((qs.take j).filter fun q => decide (q ∈ k2)).map V.int).length < sizeLine:=aA (by
    rw [lm_]
    have:=List.length_filter_le (fun q => decide (q ∈ k2)) (qs.take j)
    rw [List.length_take] at this
    omega)
   refine ⟨_,rfl,_,rfl,D,_,rfl,DGet.k (k:=Sum.inl x) (hs' _ _ hD10),_,rfl,?_⟩
   rw [jN]
   refine gr (fun c => ?_) (fun c => ?_)
   ·refine ⟨_,rfl,ky _ _ hy fit ⟨aw hs' hDd,?_⟩⟩
    rw [sk hx (decide_eq_true c),List.map_append]
    rfl
   ·refine kn _ hy ⟨hs',?_⟩
    rw [uV hx (decide_eq_false c)]
  rintro C2 ys H11 fC2 hC2 ⟨s11,rfl⟩
  rw [lm_,List.take_length] at hC2
  obtain ⟨l',el'⟩ : ∃ l',qs.filter (fun q => decide (q ∈ k2)) = l' := ⟨_,rfl⟩
  rw [el'] at hC2
  have meml : ∀ x,x ∈ l' ↔ (∃ h ∈ ls1,∃ f : Int,(0 <= f /\ f < (wide : Int)) /\ stepI rows h f = x) /\ x ∈ k2:=fun x => by
   rw [<- el',List.mem_filter,mq x,decide_eq_true_iff]
   constructor
   ·rintro ⟨⟨h,hh,f,hf',e⟩,z⟩
    exact ⟨⟨h,hh,f,figs_mem.mp hf',e⟩,z⟩
   ·rintro ⟨⟨h,hh,f,hf',e⟩,z⟩
    exact ⟨⟨h,hh,f,figs_mem.mpr hf',e⟩,z⟩
  have s911:=s10.trans s11
  have hlv11:=s911 _ _ hlv9
  refine ⟨lv,_,_,rfl,rfl,hlv11,aA (by rw [lm_]; omega),?_⟩
  have nC2l : C2 ≠ lv:=fun z => by rw [z,s10 _ _ hlv9] at fC2; cases fC2
  have nC2o : C2 ≠ od:=fun z => by rw [z,s10 _ _ hod9] at fC2; cases fC2
  have I2 : LvI rows signs many wide sg ds (ls ++ [l']) k2:=I.step R (by rw [lls,Nat.add_sub_cancel]; exact hls1) hno k2a k2b meml
  refine ⟨_,meas,las ++ [C2],ls ++ [l'],l',k2,n + 1,_,_,_,_,_,_,rfl,rfl,aw (s19.trans s911) flv1,?_,by rw [ae,List.map_append]; rfl,?_,fun a ha => ?_,?_,by rw [List.length_append,lls]; rfl,I2,ndk2,fun q hq => ?_,?_,by rw [<- el']; exact ndq.sublist List.filter_sublist,fun q hq => ((meml q).mp hq).2,bnd⟩
  ·rw [ao (cY hD9 hlv9 (by intro z; cases z))]
   exact s911 _ _ hD9
  ·refine LsAt.snoc (LA.keep fun b xs hb e => ?_) (by rw [ao nC2l]; exact hC2)
   rw [ao (nel b hb).1]
   have e7:=s7 _ _ e
   exact s911 _ _ (up9 _ _ (nel b hb).2 (k8 _ _ (cY e7 hD7 (by intro z; cases z)) e7))
  ·rcases ma_.mp ha with z | z
   ·exact nel a z
   ·rw [List.mem_singleton.mp z]; exact ⟨nC2l,nC2o⟩
  ·rw [ao (Ne.symm nlo')]
   exact s911 _ _ hod9
  ·by_cases cc : ds.length < ls.length
   ·exact kin' q ((k2a cc q).mp hq).1
   ·rw [k2b cc] at hq; exact kin' q hq
  ·rw [List.getElem?_append_right (by omega),lls,Nat.sub_self]
   rfl
end
theorem Figs.tail {w x d : Int} {ds : LI} (hw : 2 <= w) (h : Figs w x (d :: ds)) : Figs w (x / w) ds /\ x % w = d:=by
 have hd:=h.inb d List.mem_cons_self
 have v : d + w * av w ds = x:=h.val
 have e1 : x % w = d:=by rw [<- v,Int.add_mul_emod_self_left]; exact Int.emod_eq_of_lt hd.1 hd.2
 refine ⟨⟨h.inb.tail,?_,fun e he => ?_⟩,e1⟩
 ·rw [<- v,Int.add_mul_ediv_left _ _ (by omega),Int.ediv_eq_zero_of_lt hd.1 hd.2,Int.zero_add]
 ·cases ds with
  | nil => simp at he
  | cons y ys => exact h.top e (by rw [List.getLast?_cons_cons]; exact he)
theorem uU {w : Nat} (hw : 2 <= w) (n : Nat) : ∃ ds,Figs w n ds:=by
 induction n using Nat.strongRecOn with
 | _ n ih =>
  rcases Nat.eq_zero_or_pos n with z | z
  ·subst z
   exact ⟨[],InB.nil,rfl,fun d hd => by simp at hd⟩
  ·obtain ⟨ds,h⟩:=ih (n / w) (Nat.div_lt_self z (by omega))
   have m:=Nat.mod_lt n (show 0 < w by omega)
   refine ⟨((n % w : Nat) : Int) :: ds,InB.cons (by omega) (by omega) h.inb,?_,fun d hd => ?_⟩
   ·show ((n % w : Nat) : Int) + (w : Int) * av w ds = n
    rw [h.val]
    have:=Nat.mod_add_div n w
    have e : ((n % w + w * (n / w) : Nat) : Int) = (n : Int):=by rw [this]
    push_cast at e ⊢
    exact e
   ·cases ds with
    | nil =>
     have e : ((n % w : Nat) : Int) = d:=by simpa using hd
     have v : av (w : Int) [] = ((n / w : Nat) : Int):=h.val
     have v0 : av (w : Int) [] = 0:=rfl
     have : n / w = 0:=by omega
     have:=Nat.mod_add_div n w
     have : n % w = n:=by
      rw [‹n / w = 0›,Nat.mul_zero,Nat.add_zero] at this
      exact this
     omega
    | cons y ys => rw [List.getLast?_cons_cons] at hd; exact h.top d hd
theorem pK {a b : Int} (h0 : 0 <= a) (h : a <= b) : ∀ n : Nat,a ^ n <= b ^ n
 | 0 => by rw [Int.pow_zero,Int.pow_zero]; exact Int.le_refl _
 | n + 1 => by
  rw [Int.pow_succ,Int.pow_succ]
  have p : 0 <= b ^ n:=Int.pow_nonneg (by omega)
  exact Int.mul_le_mul (pK h0 h n) h h0 p
theorem mJ {w : Int} (hw : 2 <= w) : ∀ {k : Nat} {n : Int} {ds : LI},Figs w n ds -> n < 2 ^ k -> ds.length <= k
 | k,n,[],_,_ => Nat.zero_le _
 | 0,n,d :: ds,h,l => by
  have n0 : 0 <= n:=by rw [<- h.val]; exact bD (by omega) h.inb
  have l' : n < 1:=l
  have e:=jE hw h (⟨InB.nil,(show av w [] = n by show (0 : Int) = n; omega),fun d hd => by simp at hd⟩ : Figs w n [])
  cases e
 | k + 1,n,d :: ds,h,l => by
  have n0 : 0 <= n:=by rw [<- h.val]; exact bD (by omega) h.inb
  have t:=(h.tail hw).1
  have l2 : n / w < 2 ^ k:=by
   refine Int.ediv_lt_of_lt_mul (by omega) ?_
   have p : (0 : Int) < 2 ^ k:=Int.pow_pos (by omega)
   have e : (2 : Int) ^ (k + 1) = 2 ^ k * 2:=Int.pow_succ _ _
   have m:=Int.mul_le_mul_of_nonneg_left hw (Int.le_of_lt p)
   omega
  have:=mJ hw t l2
  rw [List.length_cons]
  omega
theorem TabSt.same {H H' : Hp} {Pt : Addr} {qual : Str} {pos : Pos} (t : TabSt H Pt qual pos) (s : Same H H') : TabSt H' Pt qual pos:=t.elim (fun e => .inl (s _ _ e)) fun ⟨c',e1,e2⟩ => .inr ⟨c',s _ _ e1,s _ _ e2⟩
theorem TabSt.tbl {H : Hp} {Pt : Addr} {qual : Str} {pos : Pos} (t : TabSt H Pt qual pos) : ∃ ps,H Pt = some (.tbl ps):=t.elim (fun e => ⟨_,e⟩) fun ⟨c',e1,_⟩ => ⟨_,e1⟩
def y8 : Expr -> Pos
 | .Lambda _ _ _ p => p
 | _ => ⟨0,0,0,0⟩
def eN : Str := "first_number" ++ ".<locals>." ++ "<lambda>"
def kO : Pos:=y8 (w9 ((az bj).getD 2 (.Pass ⟨0,0,0,0⟩)))
def rj (rows : LL) (signs : LI) (wide : Nat) (sg x : Int) : Prop := ∃ es,Figs wide x es /\ signs.getD (aI rows es 0).toNat 0 = sg
def jw (K : PySem.W.Frag) (Pt : Addr) : Sp:=fun vs H Q _ => ∃ (m r g : Addr) (many wide : Nat) (rows : LL) (signs : LI) (sg st : Int),vs = [.ref m,.int sg,.int st] /\ MachAt H m r g wide rows signs /\ RowsOk many wide rows /\ signs.length = many /\ l3 many rows signs /\ (1 <= many /\ many <= 6) /\ (2 <= wide /\ wide <= 100) /\ (0 <= st /\ st < 10 ^ 18) /\ TabSt H Pt eN kO /\
 (∀ H',(∀ b u,b ≠ Pt -> H b = some u -> H' b = some u) -> TabSt H' Pt eN kO -> (∀ x,st <= x -> ¬ rj rows signs wide sg x) -> Q .non H') /\
 (∀ (H' : Hp) (n : Int),(∀ b u,b ≠ Pt -> H b = some u -> H' b = some u) -> TabSt H' Pt eN kO -> st <= n -> rj rows signs wide sg n -> (∀ x,st <= x -> x < n -> ¬ rj rows signs wide sg x) -> Q (.int n) H')
section
variable {P : Program} {w : World} {K : PySem.W.Frag} {mg : Str -> Option Value} {base : Heap} {f c Pt : Addr} {fd : FuncData} {dV : Value}
theorem sc_first_number : FnScope ["machine","sign","start","wide","every","row"] ["machine","sign","start"] (ai bj):=⟨rfl,rfl,rfl,by decide +kernel,rfl,by decide +kernel,by decide +kernel⟩
theorem qW (F : FunD K "first_number" "first_number" bj dV f fd) (hc : fd.code = .ref c) (kL : LamK K mg base c Pt) (dg : DefOk P w K mg base "least_row" 3 ["machine","sign","ground","free_for"] [] (nH K)) (e9 : DefOk P w K mg base "figures" 4 ["number","wide"] [] (kK K)) (dh : DefOk P w K mg base "number_of" 4 ["row","wide"] [] (rF K))
  (a9 : mg "tuple" = none) (aM : mg "range" = none) : FnOk P w K mg base CX0 5 f fd ["machine","sign","start"] (jw K Pt):=by
 refine F.okL hc sc_first_number (fun vs H Q E h => ?_) (fun A outer s H vs Q E hr h => ?_)
 ·obtain ⟨m,r,g,many,wide,rows,signs,sg,st,rfl,_⟩:=h
  rfl
 obtain ⟨m,r,g,many,wide,rows,signs,sg,st,rfl,M,R,lsg,SS,⟨n0,n1⟩,⟨w0,w1⟩,⟨st0,st1⟩,TS0,kN,kY⟩:=h
 refine ⟨_,(af (au (i:=3) sc_first_number.nd rfl (Or.inl rfl) (aB a8 (pv 0) ah (fun _ _ => rfl)))
   (af (au (i:=4) sc_first_number.nd rfl (Or.inr rfl) (qb rfl rfl a9 rfl aM (aa (pv 3) ag)))
   (af (au (i:=5) sc_first_number.nd rfl (Or.inl rfl) (zj (i:=4) (y := "every") dg hr (aa (pv 0) (aa (pv 1) (aa (aJ e9 hr (aa (pv 2) (aa (pv 3) ag))) (aa (zk kL rfl rfl) ag)))) rfl rfl rfl))
   (ak (aG (nq (aK xp (pv 5) hZ (aQ _)) hZ (aJ dh hr (aa (pv 5) (aa (pv 3) ag))))))))),?_⟩
 refine ⟨_,rfl,m,_,_,_,rfl,rfl,qT_ M.tup,rfl,?_⟩
 refine ⟨_,rfl,wide,rfl,Nat.le_of_lt (aA (by omega)),fun ev hev => ?_⟩
 have se:=aj hev (HO.tup ((List.range wide).map fun i : Nat => V.int i))
 have hev1 : (upd H ev (HO.tup ((List.range wide).map fun i : Nat => V.int i))) ev = some (.tup ((cS wide).map V.int)):=by
  rw [ae]
  unfold cS
  rw [List.map_map]
  rfl
 try dsimp only [aL]
 refine ⟨_,rfl,_,rfl,_,rfl,_,rfl,st,wide,rfl,⟨st0,Int.lt_of_lt_of_le st1 (by decide +kernel)⟩,⟨by omega,Int.lt_of_le_of_lt (show (wide : Int) <= 100 by omega) (by decide +kernel)⟩,fun gd H2 ds s2 hgd FG _ => ?_⟩
 have S2:=se.trans s2
 have lds : ds.length <= 60:=mJ (by omega) FG (Int.lt_of_lt_of_le st1 (by decide +kernel))
 refine ⟨TabSt.same TS0 S2,fun fn c' H3 fnone hfn hPt hc' keep => ?_⟩
 obtain ⟨psT,hT2⟩:=TabSt.tbl (TabSt.same TS0 S2)
 refine ⟨_,rfl,fun o u hcn hod hrel => ?_⟩
 have s34:=aj hcn (HO.ext (CellAt (s.heap.objs.size + 1) o))
 obtain ⟨H4,eH4⟩ : ∃ H4,upd H3 (s.heap.objs.size + 1) (HO.ext (CellAt (s.heap.objs.size + 1) o)) = H4:=⟨_,rfl⟩
 rw [eH4] at s34
 have hcc4 : H4 (s.heap.objs.size + 1) = some (HO.ext (CellAt (s.heap.objs.size + 1) o)):=by rw [<- eH4]; exact ae
 rw [eH4]
 have tup4 : ∀ b xs,H2 b = some (.tup xs) -> H4 b = some (.tup xs):=fun b xs e => s34 _ _ (keep b _ (cY e hT2 (by intro z; cases z)) e)
 have LH : LamHas H4 fn c' eN da.1 da.2.1 da.2.2 [("every",s.heap.objs.size + 1)] [.ref ev]:=⟨s34 _ _ hfn,s34 _ _ hc',.cons ⟨o,u,hcc4,hod,hrel⟩ .nil,by simp⟩
 have nb : ∀ b,b ≠ s.heap.objs.size + 1 -> b ∉ [s.heap.objs.size + 1]:=fun b n z => n (by simpa using z)
 have done : ∀ H' : Hp,Same H4 H' -> (∀ b u,b ≠ Pt -> H b = some u -> less H' [s.heap.objs.size + 1] b = some u) /\ TabSt (less H' [s.heap.objs.size + 1]) Pt eN kO:=fun H' s' => by
  refine ⟨fun b v nP e => ?_,.inr ⟨c',?_,?_⟩⟩
  ·have e3:=keep b v nP (S2 _ _ e)
   rw [aU (nb b (aq e3 hcn))]
   exact s' _ _ (s34 _ _ e3)
  ·rw [aU (nb _ (aq hPt hcn))]
   exact s' _ _ (s34 _ _ hPt)
  ·rw [aU (nb _ (aq hc' hcn))]
   exact s' _ _ (s34 _ _ hc')
 have w1' : 1 <= wide:=by omega
 have wp : (0 : Int) < (wide : Int):=by omega
 have up : ∀ x,st < x -> rj rows signs wide sg x -> ∃ r' f',Sol rows signs wide sg ds r' f' /\ av wide (aX ds r' f') = x:=fun x hx ⟨es,fe,e⟩ => by
  obtain ⟨r',f',h1,h2,h3,h4⟩:=uW wp (e:=es) FG.inb fe.inb (by rw [FG.val,fe.val]; exact hx)
  have sq:=nz w1' R SS (q:=0) (by omega) (by omega) (jG FG.inb h1 h2) fe.inb h4
  exact ⟨r',f',⟨h1,h2,h3,by rw [sq]; exact e⟩,by rw [h4]; exact fe.val⟩
 have own : rj rows signs wide sg st -> signs.getD (aI rows ds 0).toNat 0 = sg:=fun ⟨es,fe,e⟩ => by
  have:=jE (by omega) fe FG
  subst this
  exact e
 refine ⟨m,r,g,gd,fn,c',ev,eN,[("every",s.heap.objs.size + 1)],many,wide,rows,signs,ds,sg,rfl,(M.same fun b xs e => tup4 _ _ (S2 _ _ e)),R,lsg,⟨n0,by omega⟩,⟨w0,by omega⟩,tup4 _ _ hgd,FG.inb,by omega,rfl,LH,tup4 _ _ (s2 _ _ hev1),fun NU H5 s5 => ⟨s5 _ _ hcc4,?_⟩,fun t H5 Rw s5 ht lR LU => ⟨s5 _ _ hcc4,?_⟩⟩
 ·refine ⟨_,rfl,rfl,_,rfl,jJ (kN _ (done H5 s5).1 (done H5 s5).2 fun x hx sx => ?_)⟩
  rcases Int.lt_or_eq_of_le hx with z | z
  ·obtain ⟨r',f',sl,_⟩:=up x z sx
   exact NU.2 r' f' sl
  ·subst z
   exact NU.1 (own sx)
 ·have inb : InB (wide : Int) Rw:=by
   rcases LU with ⟨e,_⟩ | ⟨_,r0,f0,e,sl,_⟩
   ·rw [e]; exact FG.inb
   ·rw [e]; exact jG FG.inb sl.inb sl.fig
  have big : (wide : Int) ^ (Rw.length + 1) < BIG:=by
   have h1:=fj (w:=(wide : Int)) (by omega) (show Rw.length + 1 <= 68 by omega)
   have h2:=pK (a:=(wide : Int)) (b:=100) (by omega) (by omega) 68
   have h3 : (100 : Int) ^ 68 < BIG:=by decide +kernel
   omega
  have nt : t ≠ s.heap.objs.size + 1:=fun z => by
   have h1:=s5 _ _ hcc4
   rw [<- z,ht] at h1
   cases h1
  refine ⟨_,rfl,rfl,_,rfl,gr (fun z => by cases z) (fun _ => ?_)⟩
  refine ⟨_,rfl,_,rfl,t,wide,Rw,rfl,.inr (by rw [aU (nb t nt)]; exact ht),by omega,by omega,big,inb,fun H6 s6 => ?_⟩
  obtain ⟨d1,d2⟩:=done H5 s5
  refine kY H6 _ (fun b v nP e => s6 _ _ (d1 b v nP e)) (TabSt.same d2 s6) ?_ ?_ (fun x hx lx sx => ?_)
  ·rcases LU with ⟨e,_⟩ | ⟨_,r0,f0,e,sl,_⟩
   ·rw [e,FG.val]; exact Int.le_refl _
   ·rw [e]
    have:=qA wp FG.inb sl.inb sl.abv
    rw [FG.val] at this
    omega
  ·obtain ⟨p,ep⟩:=m9 (bD (b:=(wide : Int)) (by omega) inb)
   obtain ⟨es,fe⟩:=uU w0 p
   rw [ep]
   refine ⟨es,fe,?_⟩
   have sq:=nz w1' R SS (q:=0) (by omega) (by omega) fe.inb inb (by rw [fe.val,ep])
   rw [sq]
   rcases LU with ⟨e,e2⟩ | ⟨_,r0,f0,e,sl,_⟩
   ·rw [e]; exact e2
   ·rw [e]; exact sl.sgn
  ·rcases LU with ⟨e,e2⟩ | ⟨ne,r0,f0,e,sl,ml,mv⟩
   ·rw [e,FG.val] at lx
    omega
   ·rcases Int.lt_or_eq_of_le hx with z | z
    ·obtain ⟨r',f',sl',ev'⟩:=up x z sx
     have l1:=ml r' f' sl'
     rcases Nat.lt_or_eq_of_le l1 with y | y
     ·have:=uX wp sl.fig FG.inb sl.inb sl'.inb sl'.abv y
      rw [ev',<- e] at this
      omega
     ·have v:=mv r' f' sl' y.symm
      have f1 : aX ds r0 f0 = (r0 ++ [f0]) ++ ds.drop (r0.length + 1):=by unfold aX; rw [List.append_assoc]; rfl
      have f2 : aX ds r' f' = (r' ++ [f']) ++ ds.drop (r0.length + 1):=by unfold aX; rw [List.append_assoc,y]; rfl
      have l2 : (r' ++ [f']).length = (r0 ++ [f0]).length:=by rw [List.length_append,List.length_append,y]; rfl
      rw [e,f1,eO,<- ev',f2,eO,l2] at lx
      omega
    ·subst z
     exact ne (own sx)
end
def u9 (K : PySem.W.Frag) : Sp:=fun vs H Q _ => ∃ (a : Addr) (k : Int) (ns : LI),vs = [.ref a,.int k] /\ SqL K H a (ns.map V.int) /\ ns.length <= 63 /\ 0 <= k /\ k < 1000000 /\
 ∀ v : Int,0 <= v -> v < 2147483399 -> Q (.int v) H
section
variable {P : Program} {w : World} {K : PySem.W.Frag} {mg : Str -> Option Value} {base : Heap} {f : Addr} {fd : FuncData} {dV : Value}
theorem sc__law_number : FnScope ["_law_script","_law_k","_law_number_here"] ["_law_script","_law_k"] (ai bH):=⟨rfl,rfl,rfl,by decide +kernel,rfl,by decide +kernel,by decide +kernel⟩
theorem zg (F : FunD K "_law_number" "_law_number" bH dV f fd) (aW : mg "len" = none) : FnOk P w K mg base CX0 1 f fd ["_law_script","_law_k"] (u9 K):=by
 refine F.ok sc__law_number (fun vs H Q E h => ?_) (fun cdv A outer s H vs Q E hr h => ?_)
 ·obtain ⟨a,k,ns,rfl,_⟩:=h
  rfl
 obtain ⟨a,k,ns,rfl,hS,h63,h0,h1,q⟩:=h
 have hl : (ns.map V.int).length = ns.length:=List.length_map _
 refine ⟨_,(af (bT (aK p5 (pv 1) (aF ay (by rfl) aW bF (aa (pv 0) ag)) (aQ _)) (ak (aG (ar ba (aB aH (pv 0) (pv 1) (fun _ _ => rfl)) ah))) aZ)
   (af (au (i:=2) sc__law_number.nd rfl (Or.inl rfl) (ar bN (ar bN (ar dA (ar dA ah (pv 1)) (pv 1)) (ar dA ah (pv 1))) ah))
   (af (bT (aK nk (aF ay (by rfl) aW bF (aa (pv 0) ag)) ah (aQ _)) (ak (au (i:=2) sc__law_number.nd rfl (Or.inl rfl) (ar dA (pv 2) (ar bN (ar ba (aB aH (pv 0) (ar ba (pv 1) (aF ay (by rfl) aW bF (aa (pv 0) ag))) (fun _ _ => rfl)) ah) ah)))) aZ)
   (ak (aG (ar ba (ar dA (pv 2) ah) ah)))))),?_⟩
 have fin : ∀ c : Int,Q (.int (c * 40692 % 2147483399)) H:=fun c => by
  have r:=b8 (a:=c * 40692) (b:=2147483399) (by decide)
  exact q _ r.1 r.2
 refine ⟨_,rfl,_,rfl,a,_,rfl,.inl hS,_,_,rfl,rfl,_,rfl,gr (fun c => ?_) (fun c => ?_)⟩
 ·rw [hl] at c
  have r:=b8 (a:=ns.getD k.toNat 0) (b:=1000000007) (by decide)
  exact ⟨_,rfl,_,rfl,a,_,_,_,rfl,rfl,hS,bp h0 c,_,_,rfl,rfl,(by show (0 : Int) < 1000000007; decide),q _ r.1 (by omega)⟩
 refine ⟨_,rfl,_,_,rfl,rfl,.inl ⟨by decide,by decide⟩,_,rfl,_,_,rfl,rfl,.inr ⟨by omega,by omega⟩,_,rfl,_,_,rfl,rfl,.inl ⟨by decide,by decide⟩,_,_,rfl,rfl,_,_,rfl,rfl,?_⟩
 refine ⟨_,rfl,a,_,rfl,.inl hS,_,_,rfl,rfl,_,rfl,?_⟩
 refine gr (fun c => ?_) (fun c => ?_)
 ·have c' : (0 : Int) < (((ns.map V.int).length : Nat) : Int):=c
  have m0:=Int.emod_nonneg k (show (((ns.map V.int).length : Nat) : Int) ≠ 0 by omega)
  have m1:=Int.emod_lt_of_pos k c'
  have m2:=b8 (a:=ns.getD (k % (((ns.map V.int).length : Nat) : Int)).toNat 0) (b:=65521) (by decide)
  refine ⟨_,rfl,_,rfl,_,rfl,_,rfl,a,_,rfl,.inl hS,_,_,rfl,rfl,c',a,_,_,_,rfl,rfl,hS,bp m0 (by rw [<- hl]; exact m1),_,_,rfl,rfl,(by show (0 : Int) < 65521; decide),_,_,rfl,rfl,_,_,rfl,rfl,.inr ⟨by omega,by omega⟩,?_⟩
  exact ⟨_,rfl,_,_,rfl,rfl,.inr ⟨by decide,by decide⟩,_,_,rfl,rfl,(by show (0 : Int) < 2147483399; decide),fin _⟩
 ·exact ⟨_,rfl,_,_,rfl,rfl,.inr ⟨by decide,by decide⟩,_,_,rfl,rfl,(by show (0 : Int) < 2147483399; decide),fin _⟩
end
def uC (K : PySem.W.Frag) : Sp:=fun vs H Q _ => ∃ (r : Addr) (q : Int) (many wide : Nat) (ras : List Addr) (rows : LL),vs = [.ref r,.int q] /\ H r = some (.lst (ras.map V.ref)) /\ RowsAt H ras rows /\ RowsOk many wide rows /\ 1 <= wide /\ many <= 1000 /\ (0 <= q /\ q < (many : Int)) /\
 Q (.int (fq rows many q)) H
section
variable {P : Program} {w : World} {K : PySem.W.Frag} {mg : Str -> Option Value} {base : Heap} {f : Addr} {fd : FuncData} {dV : Value}
theorem sc__law_rest : FnScope ["_law_rows","_law_here","_law_k","_law_lowest"] ["_law_rows","_law_here"] (ai cG):=⟨rfl,rfl,rfl,by decide +kernel,rfl,by decide +kernel,by decide +kernel⟩
theorem ym (F : FunD K "_law_rest" "_law_rest" cG dV f fd) (aW : mg "len" = none) (aM : mg "range" = none) (qh : mg "min" = none) : FnOk P w K mg base CX0 1 f fd ["_law_rows","_law_here"] (uC K):=by
 refine F.ok sc__law_rest (fun vs H Q E h => ?_) (fun cdv A outer s H vs Q E hr h => ?_)
 ·obtain ⟨r,q,many,wide,ras,rows,rfl,_⟩:=h
  rfl
 obtain ⟨r,q,many,wide,ras,rows,rfl,hr',hA,R,w1,n1,⟨q0,q1⟩,k⟩:=h
 have lr : (ras.map V.ref).length = many:=by rw [lm_,hA.length,R.len]
 refine ⟨_,(af (bw PassesOwn.never rfl (c7 rfl aM (aa (aF ay (by rfl) aW bF (aa (pv 0) ag)) ag)) (aE (i:=2) sc__law_rest.nd rfl (Or.inl rfl)) (ak (au (i:=1) sc__law_rest.nd rfl (Or.inl rfl) (aB a8 (aB aH (pv 0) (pv 1) (fun _ _ => rfl)) ah (fun _ _ => rfl)))))
   (af (au (i:=3) sc__law_rest.nd rfl (Or.inl rfl) (pv 1))
   (af (bw PassesOwn.never rfl (c7 rfl aM (aa (aF ay (by rfl) aW bF (aa (pv 0) ag)) ag)) (aE (i:=2) sc__law_rest.nd rfl (Or.inl rfl)) (af (au (i:=1) sc__law_rest.nd rfl (Or.inl rfl) (aB a8 (aB aH (pv 0) (pv 1) (fun _ _ => rfl)) ah (fun _ _ => rfl)))
   (ak (au (i:=3) sc__law_rest.nd rfl (Or.inl rfl) (aF (pP rfl) (by rfl) qh wD (aa (pv 3) (aa (pv 1) ag)))))))
   (ak (aG (pv 3)))))),?_⟩
 have stp : ∀ (x : Int),0 <= x -> x < (many : Int) -> ∃ (ra : Addr) (rr : LI),atI (ras.map V.ref) x = some (.ref ra) /\ H ra = some (.tup (rr.map V.int)) /\ atI (rr.map V.int) 0 = some (.int (stepI rows x 0)):=fun x x0 x1 => j4 hA R x0 x1 (by decide) (by omega)
 try dsimp only [aL]
 refine ic (t:=nN _ _ _) (fun σ' H' => ∃ v,σ' = [some (.ref r),some (.int (it0 rows q many)),v,none] /\ H' = H) ?_ (fun nxt => ?_)
 rotate_left
 ·refine ⟨_,rfl,r,_,rfl,.inl (qL_ hr'),?_⟩
  rw [lr]
  refine ⟨(many : Int),rfl,by omega,by omega,fh (fun i σ' H' => ∃ v,σ' = [some (.ref r),some (.int (it0 rows q i)),v,none] /\ H' = H) ⟨none,rfl,rfl⟩ ?_ ?_⟩
  ·rintro i σ' H' hi ⟨v,rfl,rfl⟩
   have hx:=mM R w1 q0 q1 i
   obtain ⟨ra,rr,e1,e2,e3⟩:=stp _ hx.1 hx.2
   exact ⟨_,rfl,_,rfl,r,_,_,_,rfl,rfl,qL_ hr',e1,ra,_,_,_,rfl,rfl,qT_ e2,e3,_,rfl,rfl⟩
  ·rintro σ' H' ⟨v,rfl,rfl⟩
   rw [Int.toNat_natCast]
   exact nxt _ _ ⟨v,rfl,rfl⟩
 rintro σ' H' ⟨v,rfl,rfl⟩
 refine ⟨_,rfl,?_⟩
 try dsimp only [aL]
 refine ic (t:=nN _ _ _) (fun σ' H'' => ∃ v x,σ' = [some (.ref r),x,v,some (.int (fq rows many q))] /\ H'' = H') ?_ (fun nxt => ?_)
 rotate_left
 ·refine ⟨_,rfl,r,_,rfl,.inl (qL_ hr'),?_⟩
  rw [lr]
  refine ⟨(many : Int),rfl,by omega,by omega,fh (fun i σ' H'' => ∃ v,σ' = [some (.ref r),some (.int (it0 rows q (many + i))),v,some (.int (sI rows q many i))] /\ H'' = H') ⟨v,rfl,rfl⟩ ?_ ?_⟩
  ·rintro i σ' H'' hi ⟨v,rfl,rfl⟩
   have hx:=mM R w1 q0 q1 (many + i)
   obtain ⟨ra,rr,e1,e2,e3⟩:=stp _ hx.1 hx.2
   refine ⟨_,rfl,_,rfl,r,_,_,_,rfl,rfl,qL_ hr',e1,ra,_,_,_,rfl,rfl,qT_ e2,e3,?_⟩
   exact ⟨_,rfl,_,rfl,_,_,rfl,some (.int (0 + i)),rfl,rfl⟩
  ·rintro σ' H'' ⟨v,rfl,rfl⟩
   rw [Int.toNat_natCast]
   exact nxt _ _ ⟨_,_,rfl,rfl⟩
 rintro σ' H'' ⟨v,x,rfl,rfl⟩
 exact ⟨_,rfl,k⟩
end
def In4 (z : Int) : Prop:=z = 0 \/ z = 1 \/ z = 2 \/ z = 999999
theorem sv : ∀ {ys : List V},(∀ y ∈ ys,∃ z,y = V.int z /\ In4 z) -> ∃ drawn : LI,ys = drawn.map V.int /\ ∀ z ∈ drawn,In4 z
 | [],_ => ⟨[],rfl,(fun z h => by cases h)⟩
 | y :: r,h => by
  obtain ⟨z,e,hz⟩:=h y List.mem_cons_self
  obtain ⟨d,ed,hd⟩:=sv (ys:=r) fun y' h' => h y' (List.mem_cons_of_mem _ h')
  exact ⟨z :: d,by rw [e,ed]; rfl,fun x hx => by
   rcases List.mem_cons.mp hx with q | q
   ·rw [q]; exact hz
   ·exact hd x q⟩
def rC (K : PySem.W.Frag) : Sp:=fun vs H Q _ => ∃ (l : Addr) (st : Int) (lost : Bool) (many wide : Nat) (ns : LI),vs = [.ref l,.int st,.int wide,.int many,.bl lost] /\ SqL K H l (ns.map V.int) /\ ns.length <= 63 /\
 (0 <= st /\ st < 10) /\ (1 <= many /\ many <= 6) /\ (2 <= wide /\ wide <= 100) /\
 ∀ (m r g : Addr) (H' : Hp) (rows : LL) (signs : LI),Same H H' -> MachAt H' m r g wide rows signs -> RowsOk many wide rows -> signs.length = many -> l3 many rows signs -> Q (.ref m) H'
section
variable {P : Program} {w : World} {K : PySem.W.Frag} {mg : Str -> Option Value} {base : Heap} {f : Addr} {fd : FuncData} {dV : Value}
theorem sc__law_machine : FnScope ["_law_script","_law_start","_law_wide","_law_many","_law_lost","_law_rows","_law_q","_law_row","_law_f","_law_number_here","_law_at","_law_drawn"] ["_law_script","_law_start","_law_wide","_law_many","_law_lost"] (ai bh):=⟨rfl,rfl,rfl,by decide +kernel,rfl,by decide +kernel,by decide +kernel⟩
theorem bk__law_machine_0 : BlkScope ["_law_script","_law_start","_law_wide","_law_many","_law_lost","_law_rows","_law_q","_law_row","_law_f","_law_number_here","_law_at","_law_drawn"] (ai bh) ["_law_q","_law_at","_law_script"] [none,some 10,some 0] { kind:=ScopeKind.function,names:=[(".0",NameKind.local),("_law_q",NameKind.local),("_law_number",NameKind.globalImplicit),("_law_at",NameKind.free),("_law_script",NameKind.free)],isGenerator:=false,isCoroutine:=false,more:=[] }:=⟨rfl,by decide +kernel,by decide +kernel,by decide +kernel,by decide +kernel,rfl,by decide +kernel⟩
theorem bk__law_machine_1 : BlkScope ["_law_script","_law_start","_law_wide","_law_many","_law_lost","_law_rows","_law_q","_law_row","_law_f","_law_number_here","_law_at","_law_drawn"] (ai bh) ["_law_q","_law_drawn","_law_rows"] [none,some 11,some 5] { kind:=ScopeKind.function,names:=[(".0",NameKind.local),("_law_q",NameKind.local),("_law_rest",NameKind.globalImplicit),("_law_drawn",NameKind.free),("_law_rows",NameKind.free)],isGenerator:=false,isCoroutine:=false,more:=[] }:=⟨rfl,by decide +kernel,by decide +kernel,by decide +kernel,by decide +kernel,rfl,by decide +kernel⟩
theorem xm (F : FunD K "_law_machine" "_law_machine" bh dV f fd) (ax : DefOk P w K mg base "_law_number" 1 ["_law_script","_law_k"] [] (u9 K))
  (gQ : DefOk P w K mg base "_law_rest" 1 ["_law_rows","_law_here"] [] (uC K)) (aM : mg "range" = none) (a9 : mg "tuple" = none) :
  FnOk P w K mg base CX0 2 f fd ["_law_script","_law_start","_law_wide","_law_many","_law_lost"] (rC K):=by
 refine F.ok sc__law_machine (fun vs H Q E h => ?_) (fun cdv A outer s H vs Q E hr h => ?_)
 ·obtain ⟨l,st,lost,many,wide,ns,rfl,_⟩:=h
  rfl
 obtain ⟨l,st,lost,many,wide,ns,rfl,hS,h63,⟨st0,st1⟩,⟨m0,m1⟩,⟨w0,w1⟩,k⟩:=h
 refine ⟨_,(af (au (i:=5) sc__law_machine.nd rfl (Or.inr rfl) (bq ag))
   (af (bw PassesOwn.never rfl (c7 rfl aM (aa (pv 3) ag)) (aE (i:=6) sc__law_machine.nd rfl (Or.inl rfl)) (af (au (i:=7) sc__law_machine.nd rfl (Or.inl rfl) (bq ag))
   (af (bw PassesOwn.never rfl (c7 rfl aM (aa (pv 2) ag)) (aE (i:=8) sc__law_machine.nd rfl (Or.inl rfl)) (af (au (i:=9) sc__law_machine.nd rfl (Or.inl rfl) (aJ ax hr (aa (pv 0) (aa (ar bN (ar bN (pv 1) (ar dA (pv 6) (pv 2))) (pv 8)) ag))))
   (ak (bT (PW.pt (uu (aK hX (pv 8) ah (aQ _)) (rh (aK hX (ar ba (ar ij (pv 9) ah) ah) ah (aQ _))))) (ak (aY (eB PySem.F.plainAttrs_list PySem.F.slot_list_append PySem.F.type_list_append aV (pv 7) (aa (pv 6) ag)))) (ak (bT (PW.pt (uu (jY (pv 4) (fun _ => rfl)) (rh (PW.pt (yL (aK hX (pv 6) (ar jq (pv 3) ah) (aQ _)) (xJ (aK hX (ar ba (pv 9) ah) ah (aQ _)))))))) (ak (aY (eB PySem.F.plainAttrs_list PySem.F.slot_list_append PySem.F.type_list_append aV (pv 7) (aa (ar jq (pv 3) ah) ag)))) (ak (aY (eB PySem.F.plainAttrs_list PySem.F.slot_list_append PySem.F.type_list_append aV (pv 7) (aa (ar ba (ar ij (pv 9) ah) (pv 3)) ag))))))))))
   (ak (aY (eB PySem.F.plainAttrs_list PySem.F.slot_list_append PySem.F.type_list_append aV (pv 5) (aa (bO cu (by rfl) a9 dX (aa (pv 7) ag)) ag)))))))
   (af (au (i:=10) sc__law_machine.nd rfl (Or.inr rfl) (ar bN (pv 1) (ar dA (pv 3) (pv 2))))
   (af (au (i:=11) sc__law_machine.nd rfl (Or.inr rfl) (gF rfl bk__law_machine_0 (c7 rfl aM (aa (pv 3) ag)) (fun _ _ _ _ => (aE (i:=0) bk__law_machine_0.nd rfl (Or.inl rfl))) (fun _ _ _ _ => (aB (mO K) (bq (aa ah (aa ah (aa ah (aa ah (aa ah (aa ah ag))))))) (ar ba (aJ ax hr (aa (pv 2) (aa (ar bN (pv 1) (pv 0)) ag))) ah) (fun _ _ => rfl)))))
   (ak (aG (q8 (aa (pv 2) (aa (bO cu (by rfl) a9 dX (aa (pv 5) ag)) (aa (bO cu (by rfl) a9 dX (aa (gF rfl bk__law_machine_1 (c7 rfl aM (aa (pv 3) ag)) (fun _ _ _ _ => (aE (i:=0) bk__law_machine_1.nd rfl (Or.inl rfl))) (fun _ _ _ _ => (aB (mO K) (pv 1) (aJ gQ hr (aa (pv 2) (aa (pv 0) ag))) (fun _ _ => rfl)))) ag)) ag)))))))))),?_⟩
 have hmw : many * wide + many <= 700:=by
  have:=Nat.mul_le_mul m1 w1
  omega
 have prod : ∀ i : Nat,i <= many -> i * wide <= many * wide:=fun i hi => Nat.mul_le_mul_right _ hi
 have prod1 : ∀ i : Nat,i < many -> i * wide + wide <= many * wide:=fun i hi => by
  have:=Nat.mul_le_mul_right wide hi
  rw [Nat.succ_mul] at this
  exact this
 have cst : ∀ i : Nat,((i : Int) * (wide : Int)) = ((i * wide : Nat) : Int):=fun i => by push_cast; rfl
 refine ⟨(by show 0 <= sizeLine; decide),fun R hR => ?_⟩
 try dsimp only [aL]
 refine d6 (t:=nN _ _ _) (fun σ' H' => ∃ (ras : List Addr) (rws : LL) (v1 v2 v3 v4 : OV),σ' = [some (.ref l),some (.int st),some (.int wide),some (.int many),some (.bl lost),some (.ref R),v1,v2,v3,v4,none,none] /\ Same H H' /\ H' R = some (.lst (ras.map V.ref)) /\ RowsAt H' ras rws /\ RowsOk many wide rws) ?_ (fun D' nxt => ?_)
 rotate_left
 ·refine ⟨_,rfl,(many : Int),rfl,by omega,by omega,fh (fun i σ' H'' => ∃ (ras : List Addr) (rws : LL) (v1 v2 v3 v4 : OV),σ' = [some (.ref l),some (.int st),some (.int wide),some (.int many),some (.bl lost),some (.ref R),v1,v2,v3,v4,none,none] /\ Same H H'' /\ H'' R = some (.lst (ras.map V.ref)) /\ RowsAt H'' ras rws /\
    (∀ r ∈ rws,r.length = wide) /\ (∀ r ∈ rws,∀ v ∈ r,0 <= v /\ v < (many : Int)) /\ rws.length = i)
   ⟨[],[],none,none,none,none,rfl,aj hR _,ae,.nil,(fun r h => by cases h),(fun r h => by cases h),rfl⟩ ?_ ?_⟩
  ·rintro i σ' H3 hi ⟨ras,rws,v1,v2,v3,v4,rfl,hs3,hR3,hA3,hl3,hv3,hn3⟩
   have hi' : i < many:=by omega
   have lenR : ras.length = i:=by rw [hA3.length]; exact hn3
   have z0 : (0 : Int) + (i : Int) = (i : Int):=Int.zero_add _
   rw [z0]
   have pi:=prod1 i hi'
   refine ⟨(by show 0 <= sizeLine; decide),fun W hW => ?_⟩
   have nRW : R ≠ W:=aq hR3 hW
   try dsimp only [aL]
   refine d6 (t:=nN _ _ _) (fun σ' H'' => ∃ (row : LI) (v3 v4 : OV),σ' = [some (.ref l),some (.int st),some (.int wide),some (.int many),some (.bl lost),some (.ref R),some (.int i),some (.ref W),v3,v4,none,none] /\ Same H3 H'' /\ H'' W = some (.lst (row.map V.int)) /\ row.length = wide /\ ∀ v ∈ row,0 <= v /\ v < (many : Int)) ?_ (fun D' nxt2 => ?_)
   rotate_left
   ·refine ⟨_,rfl,(wide : Int),rfl,by omega,by omega,fh (fun j σ' H'' => ∃ (row : LI) (v3 v4 : OV),σ' = [some (.ref l),some (.int st),some (.int wide),some (.int many),some (.bl lost),some (.ref R),some (.int i),some (.ref W),v3,v4,none,none] /\ Same H3 H'' /\ H'' W = some (.lst (row.map V.int)) /\ row.length = j /\ ∀ v ∈ row,0 <= v /\ v < (many : Int))
     ⟨[],v3,v4,rfl,aj hW _,ae,rfl,(fun v h => by cases h)⟩ ?_ ?_⟩
    ·rintro j σ' H4 hj ⟨row,v3,v4,rfl,hs4,hW4,hl4,hv4⟩
     have hj' : j < wide:=by omega
     have z1 : (0 : Int) + (j : Int) = (j : Int):=Int.zero_add _
     rw [z1]
     have fit : (row.map V.int).length < sizeLine:=aA (by rw [lm_]; omega)
     refine ⟨_,rfl,_,rfl,_,rfl,_,rfl,_,_,rfl,rfl,.inl ⟨by omega,by omega⟩,_,_,rfl,rfl,_,rfl,_,_,rfl,rfl,l,_,ns,rfl,(hs3.trans hs4).seq hS,h63,by rw [cst]; omega,by rw [cst]; omega,fun v v0 v1 => ?_⟩
     have ap : ∀ t : Int,0 <= t -> t < (many : Int) -> ∃ (row' : LI) (v3 v4 : OV),[some (V.ref l),some (V.int st),some (V.int wide),some (V.int many),some (V.bl lost),some (V.ref R),some (V.int i),some (V.ref W),some (V.int j),some (V.int v),none,none] = [some (V.ref l),some (V.int st),some (V.int wide),some (V.int many),some (V.bl lost),some (V.ref R),some (V.int i),some (V.ref W),v3,v4,none,none] /\ Same H3 (upd H4 W (.lst (row.map V.int ++ [V.int t]))) /\ (upd H4 W (.lst (row.map V.int ++ [V.int t]))) W = some (.lst (row'.map V.int)) /\ row'.length = j + 1 /\ ∀ v ∈ row',0 <= v /\ v < (many : Int):=fun t t0 t1 => by
      refine ⟨row ++ [t],_,_,rfl,aw hs4 hW,by rw [ae,List.map_append]; rfl,by simp [hl4],fun y hy => ?_⟩
      rcases ma_.mp hy with q | q
      ·exact hv4 y q
      ·rw [List.mem_singleton.mp q]; exact ⟨t0,t1⟩
     have els:=b8 (a:=v / 2) (b:=(many : Int)) (by omega)
     refine ⟨_,rfl,rfl,_,rfl,mN (fun c0 => ?_) (fun c0 => ?_)⟩
     ·refine ⟨_,rfl,_,_,rfl,rfl,⟨by decide,by decide⟩,_,_,rfl,rfl,(by show (0 : Int) < 3; decide),rfl,_,rfl,mN (fun c1 => ?_) (fun c1 => ?_)⟩
      ·exact ⟨_,rfl,.inl ⟨rfl,_,qL_ hW4⟩,_,rfl,W,_,_,rfl,rfl,hW4,fit,ap i (by omega) (by omega)⟩
      ·cases lost with
       | false => exact ⟨_,rfl,_,rfl,jb ⟨_,rfl,.inl ⟨rfl,_,qL_ hW4⟩,_,rfl,_,_,rfl,rfl,⟨by decide,by decide⟩,_,rfl,_,_,rfl,rfl,(by omega),W,_,_,rfl,rfl,hW4,fit,ap (v / 2 % (many : Int)) els.1 els.2⟩⟩
       | true =>
        refine ⟨_,rfl,_,rfl,jJ ⟨_,rfl,_,rfl,_,_,rfl,rfl,rfl,_,rfl,mN (fun c2 => jJ ⟨_,rfl,.inl ⟨rfl,_,qL_ hW4⟩,_,rfl,_,_,rfl,rfl,W,_,_,rfl,rfl,hW4,fit,ap ((many : Int) - 1) (by omega) (by omega)⟩) (fun c2 => ?_)⟩⟩
        refine ⟨_,rfl,_,_,rfl,rfl,(by show (0 : Int) < 2; decide),rfl,_,rfl,mN (fun c3 => ⟨_,rfl,.inl ⟨rfl,_,qL_ hW4⟩,_,rfl,_,_,rfl,rfl,W,_,_,rfl,rfl,hW4,fit,ap ((many : Int) - 1) (by omega) (by omega)⟩) (fun c3 => ⟨_,rfl,.inl ⟨rfl,_,qL_ hW4⟩,_,rfl,_,_,rfl,rfl,⟨by decide,by decide⟩,_,rfl,_,_,rfl,rfl,(by omega),W,_,_,rfl,rfl,hW4,fit,ap (v / 2 % (many : Int)) els.1 els.2⟩)⟩
     ·cases lost with
      | false => exact ⟨_,rfl,_,rfl,jb ⟨_,rfl,.inl ⟨rfl,_,qL_ hW4⟩,_,rfl,_,_,rfl,rfl,⟨by decide,by decide⟩,_,rfl,_,_,rfl,rfl,(by omega),W,_,_,rfl,rfl,hW4,fit,ap (v / 2 % (many : Int)) els.1 els.2⟩⟩
      | true =>
       refine ⟨_,rfl,_,rfl,jJ ⟨_,rfl,_,rfl,_,_,rfl,rfl,rfl,_,rfl,mN (fun c2 => jJ ⟨_,rfl,.inl ⟨rfl,_,qL_ hW4⟩,_,rfl,_,_,rfl,rfl,W,_,_,rfl,rfl,hW4,fit,ap ((many : Int) - 1) (by omega) (by omega)⟩) (fun c2 => ?_)⟩⟩
       refine ⟨_,rfl,_,_,rfl,rfl,(by show (0 : Int) < 2; decide),rfl,_,rfl,mN (fun c3 => ⟨_,rfl,.inl ⟨rfl,_,qL_ hW4⟩,_,rfl,_,_,rfl,rfl,W,_,_,rfl,rfl,hW4,fit,ap ((many : Int) - 1) (by omega) (by omega)⟩) (fun c3 => ⟨_,rfl,.inl ⟨rfl,_,qL_ hW4⟩,_,rfl,_,_,rfl,rfl,⟨by decide,by decide⟩,_,rfl,_,_,rfl,rfl,(by omega),W,_,_,rfl,rfl,hW4,fit,ap (v / 2 % (many : Int)) els.1 els.2⟩)⟩
    ·rintro σ' H4 ⟨row,v3,v4,rfl,hs4,hW4,hl4,hv4⟩
     rw [Int.toNat_natCast] at hl4
     exact nxt2 _ _ ⟨row,v3,v4,rfl,hs4,hW4,hl4,hv4⟩
   rintro σ' H4 ⟨row,v3,v4,rfl,hs4,hW,hl4,hrow⟩
   have hR4:=hs4 _ _ hR3
   refine ⟨_,rfl,.inl ⟨rfl,_,qL_ hR4⟩,_,rfl,W,_,rfl,.inl ⟨qL_ hW,fun tp htp => ?_⟩⟩
   have nR : R ≠ tp:=aq hR4 htp
   refine ⟨R,_,_,rfl,rfl,by rw [ao nR]; exact hR4,aA (by rw [lm_]; omega),?_⟩
   have sT : ∀ b xs,H3 b = some (.tup xs) -> (upd (upd H4 tp (.tup (row.map V.int))) R (.lst (ras.map V.ref ++ [V.ref tp]))) b = some (.tup xs):=fun b xs e => by
    have e4:=hs4 _ _ e
    rw [ao (cY e4 hR4 (by intro z; cases z)),ao (aq e4 htp)]
    exact e4
   refine ⟨ras ++ [tp],rws ++ [row],_,_,_,_,rfl,aw (aw (hs3.trans hs4) ((hs3.trans hs4).free htp)) hR,?_,RowsAt.snoc (hA3.same sT) ?_,?_,?_,by simp [hn3]⟩
   ·rw [ae,List.map_append]; rfl
   ·rw [ao (Ne.symm nR),ae]
   ·intro r hr'
    rcases ma_.mp hr' with z | z
    ·exact hl3 r z
    ·rw [List.mem_singleton.mp z]; omega
   ·intro r hr'
    rcases ma_.mp hr' with z | z
    ·exact hv3 r z
    ·rw [List.mem_singleton.mp z]; exact hrow
  ·rintro σ' H3 ⟨ras,rws,v1,v2,v3,v4,rfl,hs3,hR3,hA3,hl3,hv3,hn3⟩
   exact nxt _ _ ⟨ras,rws,v1,v2,v3,v4,rfl,hs3,hR3,hA3,⟨by omega,hl3,hv3⟩⟩
 rintro σ' H3 ⟨ras,rws,v1,v2,v3,v4,rfl,hs3,hR3,hA3,RO⟩
 refine ⟨_,rfl,_,rfl,_,rfl,_,_,rfl,rfl,.inl ⟨by omega,by omega⟩,_,_,rfl,rfl,?_⟩
 rw [cst]
 refine ⟨_,rfl,(many : Int),rfl,by omega,by omega,?_⟩
 refine mz (fun D j ys H'' => Same H3 H'' /\ ys.length = j /\ ∀ y ∈ ys,∃ z,y = V.int z /\ In4 z) (fun D hD => ⟨aj hD _,rfl,(fun y h => by cases h)⟩) ?_ ?_
 ·rintro D j ys H4 Q' hD hj hy ⟨hs4,hl4,hall4⟩ k'
  refine ⟨(by show 6 <= sizeLine; decide),fun L6 hL6 => ?_⟩
  have s6:=aj hL6 (HO.lst [V.int 0,V.int 1,V.int 2,V.int 1,V.int 0,V.int 999999])
  have nD : D ≠ L6:=aq hy hL6
  refine ⟨_,rfl,_,rfl,_,rfl,_,_,rfl,rfl,l,_,ns,rfl,(hs3.trans (hs4.trans s6)).seq hS,h63,by omega,by omega,fun v v0 v1 => ?_⟩
  have r6:=b8 (a:=v) (b:=6) (by decide)
  have pick : ∃ z,atI [V.int 0,V.int 1,V.int 2,V.int 1,V.int 0,V.int 999999] (v % 6) = some (V.int z) /\ In4 z:=by
   have h6 : v % 6 = 0 \/ v % 6 = 1 \/ v % 6 = 2 \/ v % 6 = 3 \/ v % 6 = 4 \/ v % 6 = 5:=by omega
   rcases h6 with e | e | e | e | e | e <;> rw [e]
   ·exact ⟨0,rfl,.inl rfl⟩
   ·exact ⟨1,rfl,.inr (.inl rfl)⟩
   ·exact ⟨2,rfl,.inr (.inr (.inl rfl))⟩
   ·exact ⟨1,rfl,.inr (.inl rfl)⟩
   ·exact ⟨0,rfl,.inl rfl⟩
   ·exact ⟨999999,rfl,.inr (.inr (.inr rfl))⟩
  obtain ⟨z,ez,hz⟩:=pick
  refine ⟨_,_,rfl,rfl,(by show (0 : Int) < 6; decide),L6,_,_,_,rfl,rfl,qL_ ae,ez,k' _ _ (by rw [ao nD]; exact hy) (aA (by omega)) ⟨aw (aw hs4 (hs4.free hL6)) hD,by simp [hl4],?_⟩⟩
  intro y hy'
  rcases ma_.mp hy' with q | q
  ·exact hall4 y q
  ·rw [List.mem_singleton.mp q]; exact ⟨z,rfl,hz⟩
 rintro D ys H4 fD hD ⟨hs4,hl4,hall4⟩
 have hd:=sv hall4
 obtain ⟨drawn,rfl,hdr⟩:=hd
 rw [lm_] at hl4
 try dsimp only [aL]
 refine ⟨_,rfl,_,rfl,R,_,rfl,.inl ⟨qL_ (hs4 _ _ hR3),fun rt hrt => ?_⟩⟩
 have s5:=aj hrt (HO.tup (ras.map V.ref))
 have s35:=hs4.trans s5
 refine ⟨_,rfl,(many : Int),rfl,by omega,by omega,?_⟩
 refine mz (fun D2 j ys H'' => Same (upd H4 rt (HO.tup (ras.map V.ref))) H'' /\ ys = ((List.range j).map fun q : Nat => drawn.getD (fq rws many q).toNat 0).map V.int) (fun D2 hD2 => ⟨aj hD2 _,rfl⟩) ?_ ?_
 ·rintro D2 j ys H5 Q' hD2 hj hy ⟨hs5,rfl⟩ k'
  have hj' : (j : Int) < many:=by omega
  have z0 : (0 : Int) + (j : Int) = (j : Int):=Int.zero_add _
  rw [z0]
  have s3' := s35.trans hs5
  have rr:=xN RO (by omega) (show (0 : Int) <= (j : Int) by omega) hj'
  refine ⟨_,rfl,_,rfl,_,rfl,R,_,many,wide,ras,rws,rfl,s3' _ _ hR3,hA3.same fun b xs e => s3' _ _ e,RO,by omega,by omega,⟨by omega,hj'⟩,D,_,_,_,rfl,rfl,qL_ (hs5 _ _ (s5 _ _ hD)),bp rr.1 (by omega),k' _ _ hy (aA (by rw [lm_,lm_,List.length_range]; omega)) ⟨aw hs5 hD2,?_⟩⟩
  rw [List.range_succ,List.map_append,List.map_append]
  rfl
 rintro G ys H5 fG hG ⟨hs5,rfl⟩
 rw [Int.toNat_natCast] at hG
 refine ⟨G,_,rfl,.inl ⟨qL_ hG,fun gt hgt => ?_⟩⟩
 have s6:=aj hgt (HO.tup (((List.range many).map fun q : Nat => drawn.getD (fq rws many q).toNat 0).map V.int))
 refine ⟨(by show 3 <= sizeLine; decide),fun m hm => ?_⟩
 have s7:=aj hm (HO.tup [V.int wide,V.ref rt,V.ref gt])
 have s57:=hs5.trans (s6.trans s7)
 exact k m rt gt _ rws ((List.range many).map fun q : Nat => drawn.getD (fq rws many q).toNat 0) (hs3.trans (s35.trans s57)) ⟨ae,⟨ras,s57 _ _ ae,(hA3.same fun b xs e => s57 _ _ (s35 _ _ e))⟩,s7 _ _ ae⟩ RO (by simp) (wm RO (by omega) rfl)
end
def rA (K : PySem.W.Frag) : Sp:=fun vs H Q _ => ∃ (a : Addr) (k b : Int) (ns : LI),vs = [.ref a,.int k,.int b] /\ SqL K H a (ns.map V.int) /\ ns.length <= 63 /\ (0 <= k /\ k < 1000) /\ 0 < b /\
 ∀ v : Int,0 <= v -> v < b -> Q (.int v) H
def uz (K : PySem.W.Frag) : Sp:=fun vs H Q _ => ∃ (a : Addr) (st : Int) (fv : V) (ns : LI),vs = [.ref a,.int st,fv] /\ SqL K H a (ns.map V.int) /\ ns.length <= 63 /\ (fv = .non \/ ∃ n : Int,fv = .int n /\ st <= n) /\
 ∀ (L : Addr) (H' : Hp) (xs : LI),Same H H' -> H' L = some (.lst (xs.map V.int)) -> (∀ x ∈ xs,st <= x /\ ∀ n : Int,fv = .int n -> x < n) -> Q (.ref L) H'
section
variable {P : Program} {w : World} {K : PySem.W.Frag} {mg : Str -> Option Value} {base : Heap} {f : Addr} {fd : FuncData} {dV : Value}
theorem pj : FnScope ["_law_script","_law_k","_law_below"] ["_law_script","_law_k","_law_below"] (ai cg):=⟨rfl,rfl,rfl,by decide +kernel,rfl,by decide +kernel,by decide +kernel⟩
theorem sc__law_challenges : FnScope ["_law_script","_law_start","_law_found","_law_tried","_law_k"] ["_law_script","_law_start","_law_found"] (ai aO):=⟨rfl,rfl,rfl,by decide +kernel,rfl,by decide +kernel,by decide +kernel⟩
theorem bk__law_challenges_0 : BlkScope ["_law_script","_law_start","_law_found","_law_tried","_law_k"] (ai aO) ["_law_number_here","_law_start"] [none,some 1] { kind:=ScopeKind.function,names:=[(".0",NameKind.local),("_law_number_here",NameKind.local),("_law_start",NameKind.free)],isGenerator:=false,isCoroutine:=false,more:=[] }:=⟨rfl,by decide +kernel,by decide +kernel,by decide +kernel,by decide +kernel,rfl,by decide +kernel⟩
theorem bk__law_challenges_1 : BlkScope ["_law_script","_law_start","_law_found","_law_tried","_law_k"] (ai aO) ["_law_number_here","_law_found","_law_start"] [none,some 2,some 1] { kind:=ScopeKind.function,names:=[(".0",NameKind.local),("_law_number_here",NameKind.local),("_law_found",NameKind.free),("_law_start",NameKind.free)],isGenerator:=false,isCoroutine:=false,more:=[] }:=⟨rfl,by decide +kernel,by decide +kernel,by decide +kernel,by decide +kernel,rfl,by decide +kernel⟩
theorem xk (F : FunD K "_law_great" "_law_great" cg dV f fd) (ax : DefOk P w K mg base "_law_number" 1 ["_law_script","_law_k"] [] (u9 K)) (aW : mg "len" = none) : FnOk P w K mg base CX0 2 f fd ["_law_script","_law_k","_law_below"] (rA K):=by
 refine F.ok pj (fun vs H Q E h => ?_) (fun cdv A outer s H vs Q E hr h => ?_)
 ·obtain ⟨a,k,b,ns,rfl,_⟩:=h
  rfl
 obtain ⟨a,k,b,ns,rfl,hS,h63,⟨h0,h1⟩,b0,q⟩:=h
 have hl : (ns.map V.int).length = ns.length:=List.length_map _
 refine ⟨_,(af (bT (aK p5 (pv 1) (aF ay (by rfl) aW bF (aa (pv 0) ag)) (aQ _)) (ak (aG (ar ba (aB aH (pv 0) (pv 1) (fun _ _ => rfl)) (pv 2)))) aZ)
   (ak (aG (ar ba (ar jT (aJ ax hr (aa (pv 0) (aa (pv 1) ag))) (aJ ax hr (aa (pv 0) (aa (ar bN (pv 1) ah) ag)))) (pv 2))))),?_⟩
 refine ⟨_,rfl,_,rfl,a,_,rfl,.inl hS,_,_,rfl,rfl,_,rfl,gr (fun c => ?_) (fun c => ?_)⟩
 ·rw [hl] at c
  have r:=b8 (a:=ns.getD k.toNat 0) b0
  exact ⟨_,rfl,_,rfl,a,_,_,_,rfl,rfl,hS,bp h0 c,_,rfl,_,_,rfl,rfl,b0,q _ r.1 r.2⟩
 ·refine ⟨_,rfl,_,rfl,a,_,ns,rfl,hS,h63,h0,by omega,fun v v0 v1 => ?_⟩
  refine ⟨_,rfl,_,rfl,_,_,rfl,rfl,a,_,ns,rfl,hS,h63,by omega,by omega,fun v' v0' v1' => ?_⟩
  have bg : (2147483399 : Int) < BIG:=by decide +kernel
  have r:=b8 (a:=v * v') b0
  exact ⟨_,_,rfl,rfl,⟨⟨v0,by omega⟩,⟨v0',by omega⟩⟩,_,rfl,_,_,rfl,rfl,b0,q _ r.1 r.2⟩
theorem yi (F : FunD K "_law_challenges" "_law_challenges" aO dV f fd) (aW : mg "len" = none) (aM : mg "range" = none) : FnOk P w K mg base CX0 1 f fd ["_law_script","_law_start","_law_found"] (uz K):=by
 refine F.ok sc__law_challenges (fun vs H Q E h => ?_) (fun cdv A outer s H vs Q E hr h => ?_)
 ·obtain ⟨a,st,fv,ns,rfl,_⟩:=h
  rfl
 obtain ⟨a,st,fv,ns,rfl,hS,h63,hf,k⟩:=h
 have lns : (ns.map V.int).length = ns.length:=List.length_map _
 refine ⟨_,(af (au (i:=3) sc__law_challenges.nd rfl (Or.inl rfl) (bq (aa ah (aa ah (aa ah (aa ah ag))))))
   (af (bw PassesOwn.never rfl (c7 rfl aM (aa (aF ay (by rfl) aW bF (aa (pv 0) ag)) ag)) (aE (i:=4) sc__law_challenges.nd rfl (Or.inl rfl)) (ak (aY (eB PySem.F.plainAttrs_list PySem.F.slot_list_append PySem.F.type_list_append aV (pv 3) (aa (ar ba (aB aH (pv 0) (pv 4) (fun _ _ => rfl)) (aB aH (bq (aa ah (aa (ar xr ah ah) ag))) (ar ba (pv 4) ah) (fun _ _ => rfl))) ag)))))
   (af (bT (aK xp (pv 2) hZ (aQ _)) (ak (aG (gF rfl bk__law_challenges_0 (cZ (pv 3)) (fun _ _ _ _ => (aE (i:=0) bk__law_challenges_0.nd rfl (Or.inl rfl))) (fun _ _ _ _ => (ar bN (pv 1) (pv 0)))))) aZ)
   (af (bT (aK hX (pv 2) (pv 1) (aQ _)) (ak (aG (bq ag))) aZ)
   (ak (aG (ar qY (bq (aa (ar jq (pv 2) ah) ag)) (gF rfl bk__law_challenges_1 (cZ (pv 3)) (fun _ _ _ _ => (aE (i:=0) bk__law_challenges_1.nd rfl (Or.inl rfl))) (fun _ _ _ _ => (ar bN (pv 2) (ar ba (pv 0) (ar jq (pv 1) (pv 2))))))))))))),?_⟩
 refine ⟨(by show 4 <= sizeLine; decide),fun T hT => ?_⟩
 have s0:=aj hT (HO.lst [V.int 0,V.int 1,V.int 2,V.int 3])
 try dsimp only [aL]
 refine d6 (t:=nN _ _ _) (fun σ' H' => ∃ (v4 : OV) (xs : LI),σ' = [some (.ref a),some (.int st),some fv,some (.ref T),v4] /\ Same H H' /\ H' T = some (.lst (xs.map V.int)) /\ xs.length <= 67 /\ ∀ x ∈ xs,0 <= x) ?_ (fun D' nxt => ?_)
 rotate_left
 ·refine ⟨_,rfl,a,_,rfl,.inl (s0.seq hS),?_⟩
  rw [lns]
  refine ⟨(ns.length : Int),rfl,by omega,by omega,fh (fun i σ' H' => ∃ (v4 : OV) (xs : LI),σ' = [some (.ref a),some (.int st),some fv,some (.ref T),v4] /\ Same H H' /\ H' T = some (.lst (xs.map V.int)) /\ xs.length = 4 + i /\ ∀ x ∈ xs,0 <= x)
   ⟨none,[0,1,2,3],rfl,s0,ae,rfl,fun x hx => by simp at hx; omega⟩ ?_ ?_⟩
  ·rintro i σ' H4 hi ⟨v4,xs,rfl,s4,hT4,lx,px⟩
   have z0 : (0 : Int) + (i : Int) = (i : Int):=Int.zero_add _
   rw [z0]
   have hS4:=s4.seq hS
   have at1 : atI (ns.map V.int) (i : Int) = some (.int (ns.getD i 0)):=by
    have:=bp (ns:=ns) (k:=(i : Int)) (by omega) (by omega)
    rw [Int.toNat_natCast] at this
    exact this
   refine ⟨_,rfl,.inl ⟨rfl,_,qL_ hT4⟩,_,rfl,_,rfl,a,_,_,_,rfl,rfl,hS4,at1,?_⟩
   refine ⟨_,_,rfl,rfl,⟨by decide,by decide,by decide⟩,(by show 2 <= sizeLine; decide),fun L hL => ?_⟩
   have sL:=aj hL (HO.lst [V.int 64,V.int (10 ^ (18 : Int).toNat)])
   have pick : ∃ c : Int,atI [V.int 64,V.int (10 ^ (18 : Int).toNat)] ((i : Int) % 2) = some (V.int c) /\ 0 < c:=by
    have h2 : (i : Int) % 2 = 0 \/ (i : Int) % 2 = 1:=by omega
    rcases h2 with e | e <;> rw [e]
    ·exact ⟨64,rfl,by decide⟩
    ·exact ⟨_,rfl,by decide⟩
   obtain ⟨c,ec,c0⟩:=pick
   have rc:=b8 (a:=ns.getD i 0) (b:=c) c0
   refine ⟨_,rfl,_,_,rfl,rfl,(by show (0 : Int) < 2; decide),L,_,_,_,rfl,rfl,qL_ ae,ec,_,_,rfl,rfl,c0,?_⟩
   have nT : T ≠ L:=aq hT4 hL
   refine ⟨T,_,_,rfl,rfl,by rw [ao nT]; exact hT4,aA (by rw [lm_]; omega),_,xs ++ [ns.getD i 0 % c],rfl,aw (aw s4 (s4.free hL)) hT,by rw [ae,List.map_append]; rfl,by rw [List.length_append,lx]; rfl,fun x hx => ?_⟩
   rcases ma_.mp hx with q | q
   ·exact px x q
   ·rw [List.mem_singleton.mp q]; exact rc.1
  ·rintro σ' H4 ⟨v4,xs,rfl,s4,hT4,lx,px⟩
   rw [Int.toNat_natCast] at lx
   exact nxt _ _ ⟨_,xs,rfl,s4,hT4,by omega,px⟩
 rintro σ' H4 ⟨v4,xs,rfl,s4,hT4,lx,px⟩
 rcases hf with rfl | ⟨n,rfl,hn⟩
 ·refine ⟨_,rfl,rfl,_,rfl,jJ ?_⟩
  refine ⟨_,rfl,T,rfl,⟨_,qL_ hT4⟩,kc (K:=K) (xs:=xs.map V.int) (fun D i ys H' => Same H4 H' /\ ys = ((xs.take i).map fun x => st + x).map V.int) (fun D hD => ⟨aj hD _,rfl⟩) (fun D i ys H' _ p => qL_ (p.1 _ _ hT4)) ?_ ?_⟩
  ·rintro D i y ys H5 Q' hD hi hy ⟨s5,rfl⟩ k'
   obtain ⟨z,rfl,hz⟩:=bb hi
   refine ⟨_,rfl,_,rfl,_,_,rfl,rfl,k' _ _ hy (aA (by rw [lm_,lm_,List.length_take]; omega)) ⟨aw s5 hD,?_⟩⟩
   rw [List.take_add_one,hz,List.map_append,List.map_append]
   rfl
  ·rintro D ys H5 hD hy ⟨s5,rfl⟩
   refine k D H5 ((xs.take xs.length).map fun x => st + x) (s4.trans s5) (by rw [hy,lm_]) (fun x hx => ⟨?_,fun n e => by cases e⟩)
   obtain ⟨z,hz,rfl⟩:=List.mem_map.mp hx
   have:=px z (List.mem_of_mem_take hz)
   omega
 ·refine ⟨_,rfl,rfl,_,rfl,gr (fun z => by cases z) (fun _ => ?_)⟩
  dsimp only [nO]
  refine ⟨_,rfl,_,rfl,rfl,_,rfl,mN (fun c => ?_) (fun c => ?_)⟩
  ·refine ⟨(by show 0 <= sizeLine; decide),fun L hL => k L _ [] (s4.trans (aj hL _)) ae (fun x hx => by cases hx)⟩
  ·refine ⟨_,rfl,_,_,rfl,rfl,(by show 1 <= sizeLine; decide),fun L hL => ?_⟩
   have s5:=aj hL (HO.lst [V.int (n - 1)])
   have nn : st < n:=by omega
   have hT5:=s5 _ _ hT4
   refine ⟨_,rfl,T,rfl,⟨_,qL_ hT5⟩,kc (K:=K) (xs:=xs.map V.int) (fun D i ys H' => Same (upd H4 L (HO.lst [V.int (n - 1)])) H' /\ ys = ((xs.take i).map fun x => st + x % (n - st)).map V.int) (fun D hD => ⟨aj hD _,rfl⟩) (fun D i ys H' _ p => qL_ (p.1 _ _ hT5)) ?_ ?_⟩
   ·rintro D i y ys H5 Q' hD hi hy ⟨s6,rfl⟩ k'
    obtain ⟨z,rfl,hz⟩:=bb hi
    refine ⟨_,rfl,_,rfl,_,rfl,_,rfl,_,_,rfl,rfl,_,_,rfl,rfl,by omega,_,_,rfl,rfl,k' _ _ hy (aA (by rw [lm_,lm_,List.length_take]; omega)) ⟨aw s6 hD,?_⟩⟩
    rw [List.take_add_one,hz,List.map_append,List.map_append]
    rfl
   ·rintro D ys H5 hD hy ⟨s6,rfl⟩
    have hL5:=s6 _ _ (ae (H:=H4) (a:=L) (o:=HO.lst [V.int (n - 1)]))
    refine ⟨L,D,_,_,rfl,rfl,hL5,hy,Nat.le_of_lt (aA (by simp; omega)),fun p hp => ?_⟩
    refine k p _ ((n - 1) :: ((xs.take (xs.map V.int).length).map fun x => st + x % (n - st))) (s4.trans (s5.trans (s6.trans (aj hp _)))) (by rw [ae]; rfl) (fun x hx => ?_)
    rcases List.mem_cons.mp hx with q | q
    ·subst q
     exact ⟨by omega,fun m e => by cases e; omega⟩
    ·obtain ⟨z,hz,rfl⟩:=List.mem_map.mp q
     have r:=b8 (a:=z) (b:=n - st) (by omega)
     exact ⟨by omega,fun m e => by cases e; omega⟩
end
theorem wc {v : V} {i : Nat} {u : TS} {D : Ends} {σ : St} {H : Hp} (h : u D (σ.set i (some v)) H) : uE (wo (tC v) (aL i)) u D σ H:=h
def nK : Sp:=fun vs H Q _ => ∃ z : Int,vs = [.int z] /\ Q (.bl true) H
def rG : Sp:=fun vs H Q _ => ∃ (m r g : Addr) (many wide : Nat) (rows : LL) (signs : LI) (n : Int) (ds : LI),vs = [.ref m,.int n] /\ MachAt H m r g wide rows signs /\ RowsOk many wide rows /\ signs.length = many /\ (1 <= many /\ many <= 1000) /\ (2 <= wide /\ wide <= 1000) /\ Figs wide n ds /\ Q (.int (signs.getD (aI rows ds 0).toNat 0)) H
def b9 (ns : LI) (k : Int) : Int:=if k < (ns.length : Int) then ns.getD k.toNat 0 % 1000000007 else
 (if (0 : Int) < (ns.length : Int) then (31 * k * k + 17 * k + 3) * (ns.getD (k % (ns.length : Int)).toNat 0 % 65521 + 2) else 31 * k * k + 17 * k + 3) * 40692 % 2147483399
theorem yg (ns : LI) (k : Int) : 0 <= b9 ns k /\ b9 ns k < 2147483399:=by
 unfold b9
 split
 ·have r:=b8 (a:=ns.getD k.toNat 0) (b:=1000000007) (by decide)
  omega
 ·exact b8 (by decide)
def uB (K : PySem.W.Frag) : Sp:=fun vs H Q _ => ∃ (a : Addr) (k : Int) (ns : LI),vs = [.ref a,.int k] /\ SqL K H a (ns.map V.int) /\ ns.length <= 63 /\ 0 <= k /\ k < 1000000 /\ Q (.int (b9 ns k)) H
theorem wJ (ns : LI) (lo hi : Option Int) : ∃ ms : LI,iy (ns.map V.int) lo hi = ms.map V.int /\ ms.length <= ns.length:=by
 unfold iy
 rw [<- List.map_drop,<- List.map_take]
 exact ⟨_,rfl,by rw [List.length_take,List.length_drop]; omega⟩
def wu (rows : LL) (signs : LI) (wide : Nat) (sg st : Int) (fv : V) : Prop:=(fv = .non /\ ∀ x,st <= x -> ¬ rj rows signs wide sg x) \/ ∃ n : Int,fv = .int n /\ st <= n /\ rj rows signs wide sg n /\ ∀ x,st <= x -> x < n -> ¬ rj rows signs wide sg x
def xR (K : PySem.W.Frag) : Sp:=fun vs H Q _ => ∃ (a m r g : Addr) (many wide : Nat) (rows : LL) (signs ns : LI) (sg st : Int) (fv : V),vs = [.ref a,.ref m,.int sg,.int st,fv] /\ SqL K H a (ns.map V.int) /\ ns.length <= 63 /\ MachAt H m r g wide rows signs /\ RowsOk many wide rows /\ signs.length = many /\ (1 <= many /\ many <= 6) /\ (2 <= wide /\ wide <= 100) /\ 0 <= st /\ wu rows signs wide sg st fv /\ ∀ H',Same H H' -> Q (.bl true) H'
section
variable {P : Program} {w : World} {K : PySem.W.Frag} {mg : Str -> Option Value} {base : Heap} {f : Addr} {fd : FuncData} {dV : Value}
theorem pk : FnScope ["_law_found"] ["_law_found"] (ai cj):=⟨rfl,rfl,rfl,by decide +kernel,rfl,by decide +kernel,by decide +kernel⟩
theorem sc__law_sign_at : FnScope ["_law_machine_here","_law_number_here","_law_here"] ["_law_machine_here","_law_number_here"] (ai bP):=⟨rfl,rfl,rfl,by decide +kernel,rfl,by decide +kernel,by decide +kernel⟩
theorem sc__law_first : FnScope ["_law_script","_law_machine_here","_law_sign","_law_start","_law_found","_law_number_here"] ["_law_script","_law_machine_here","_law_sign","_law_start","_law_found"] (ai cf):=⟨rfl,rfl,rfl,by decide +kernel,rfl,by decide +kernel,by decide +kernel⟩
theorem vS (F : FunD K "_law_whole" "_law_whole" cj dV f fd) (a7 : mg "isinstance" = none) (j7 : mg "int" = none) (kS : mg "bool" = none) : FnOk P w K mg base CX0 1 f fd ["_law_found"] nK:=by
 refine F.ok pk (fun vs H Q E h => ?_) (fun cdv A outer s H vs Q E hr h => ?_)
 ·obtain ⟨z,rfl,_⟩:=h
  rfl
 obtain ⟨z,rfl,q⟩:=h
 refine ⟨_,(ak (aG (qZ (aF jA (by rfl) a7 cq (aa (pv 0) (aa (ik (v:=.ty "int") rfl j7 tT rfl) ag))) (q5 (xA (aF jA (by rfl) a7 cq (aa (pv 0) (aa (ik (v:=.ty "bool") rfl kS uP rfl) ag)))))))),?_⟩
 refine ⟨_,rfl,_,_,_,_,rfl,TyOf.int z,k0 K,_,rfl,jJ ?_⟩
 exact ⟨_,rfl,_,_,_,_,rfl,TyOf.int z,jM K,_,rfl,q⟩
theorem xo (F : FunD K "_law_sign_at" "_law_sign_at" bP dV f fd) : FnOk P w K mg base CX0 1 f fd ["_law_machine_here","_law_number_here"] rG:=by
 refine F.ok sc__law_sign_at (fun vs H Q E h => ?_) (fun cdv A outer s H vs Q E hr h => ?_)
 ·obtain ⟨m,r,g,many,wide,rows,signs,n,ds,rfl,_⟩:=h
  rfl
 obtain ⟨m,r,g,many,wide,rows,signs,n,ds,rfl,M,R,lsg,⟨n0,n1⟩,⟨w0,w1⟩,FG,k⟩:=h
 obtain ⟨ras,hr',hA⟩:=M.rows
 refine ⟨_,(af (au (i:=2) sc__law_sign_at.nd rfl (Or.inl rfl) ah)
   (af (eC PassesOwn.never (aK nk (pv 1) ah (aQ _)) (af (au (i:=2) sc__law_sign_at.nd rfl (Or.inl rfl) (aB a8 (aB a8 (aB a8 (pv 0) ah (fun _ _ => rfl)) (pv 2) (fun _ _ => rfl)) (ar ba (pv 1) (aB a8 (pv 0) ah (fun _ _ => rfl))) (fun _ _ => rfl)))
   (ak (au (i:=1) sc__law_sign_at.nd rfl (Or.inl rfl) (ar tq (pv 1) (aB a8 (pv 0) ah (fun _ _ => rfl)))))))
   (ak (aG (aB a8 (aB a8 (pv 0) ah (fun _ _ => rfl)) (pv 2) (fun _ _ => rfl)))))),?_⟩
 refine wc ?_
 try dsimp only [aL]
 refine d6 (t:=h9 _ _) (fun σ' H' => ∃ x : Int,σ' = [some (.ref m),some (.int x),some (.int (aI rows ds 0))] /\ H' = H /\ (0 <= aI rows ds 0 /\ aI rows ds 0 < (many : Int))) ?_ (fun D' nxt => ?_)
 rotate_left
 ·refine gI (fun mm σ' H' => ∃ (x q : Int) (es : LI),mm = x.toNat /\ σ' = [some (.ref m),some (.int x),some (.int q)] /\ H' = H /\ (0 <= q /\ q < (many : Int)) /\ Figs wide x es /\ aI rows es q = aI rows ds 0)
   ⟨_,n,0,ds,rfl,rfl,rfl,⟨by decide,by omega⟩,FG,rfl⟩ ?_
  rintro mm σ' H' ⟨x,q,es,rfl,rfl,rfl,⟨q0,q1⟩,fg,e⟩
  have x0 : 0 <= x:=by rw [<- fg.val]; exact bD (by omega) fg.inb
  refine ⟨_,rfl,_,_,rfl,rfl,_,rfl,gr (fun c => ?_) (fun c => ?_)⟩
  ·cases es with
   | nil =>
    have v : av (wide : Int) [] = x:=fg.val
    have v0 : av (wide : Int) [] = 0:=rfl
    omega
   | cons d es =>
    obtain ⟨ft,ed⟩:=fg.tail (by omega)
    have dd:=fg.inb d List.mem_cons_self
    refine ⟨fun σ' H'' => ∃ m',m' < x.toNat /\ ∃ (x q : Int) (es : LI),m' = x.toNat /\ σ' = [some (.ref m),some (.int x),some (.int q)] /\ H'' = H' /\ (0 <= q /\ q < (many : Int)) /\ Figs wide x es /\ aI rows es q = aI rows ds 0,fun σ' H'' h => h,?_⟩
    obtain ⟨ra,rr,e1,e2,e3⟩:=j4 hA R q0 q1 dd.1 dd.2
    have st:=aR R q0 q1 dd.1 dd.2
    refine ⟨_,rfl,m,_,_,_,rfl,rfl,qT_ M.tup,rfl,_,rfl,r,_,_,_,rfl,rfl,qT_ hr',e1,_,rfl,_,rfl,m,_,_,_,rfl,rfl,qT_ M.tup,rfl,_,_,rfl,rfl,(by omega),ra,_,_,_,rfl,rfl,qT_ e2,by rw [ed]; exact e3,?_⟩
    refine ⟨_,rfl,_,rfl,m,_,_,_,rfl,rfl,qT_ M.tup,rfl,_,_,rfl,rfl,⟨by omega,Int.lt_of_le_of_lt (show (wide : Int) <= 1000 by omega) (by decide +kernel)⟩,?_⟩
    have lt : x / (wide : Int) < x:=Int.ediv_lt_self_of_pos_of_ne_one (by omega) (by omega)
    have ge : 0 <= x / (wide : Int):=Int.ediv_nonneg x0 (by omega)
    exact ⟨(x / (wide : Int)).toNat,by omega,x / (wide : Int),stepI rows q d,es,rfl,rfl,rfl,st,ft,e⟩
  ·have ex : es = []:=by
    have x00 : x = 0:=by omega
    have f0 : Figs (wide : Int) x []:=⟨InB.nil,x00.symm,fun d hd => by simp at hd⟩
    exact jE (by omega) fg f0
   subst ex
   have e' : q = aI rows ds 0:=e
   subst e'
   exact nxt _ _ ⟨x,rfl,rfl,q0,q1⟩
 rintro σ' H' ⟨x,rfl,rfl,q0,q1⟩
 exact ⟨_,rfl,m,_,_,_,rfl,rfl,qT_ M.tup,rfl,_,rfl,g,_,_,_,rfl,rfl,qT_ M.sgn,bp q0 (by omega),k⟩
theorem yl (F : FunD K "_law_number" "_law_number" bH dV f fd) (aW : mg "len" = none) : FnOk P w K mg base CX0 1 f fd ["_law_script","_law_k"] (uB K):=by
 refine F.ok sc__law_number (fun vs H Q E h => ?_) (fun cdv A outer s H vs Q E hr h => ?_)
 ·obtain ⟨a,k,ns,rfl,_⟩:=h
  rfl
 obtain ⟨a,k,ns,rfl,hS,h63,h0,h1,q⟩:=h
 have hl : (ns.map V.int).length = ns.length:=List.length_map _
 unfold b9 at q
 refine ⟨_,(af (bT (aK p5 (pv 1) (aF ay (by rfl) aW bF (aa (pv 0) ag)) (aQ _)) (ak (aG (ar ba (aB aH (pv 0) (pv 1) (fun _ _ => rfl)) ah))) aZ)
   (af (au (i:=2) sc__law_number.nd rfl (Or.inl rfl) (ar bN (ar bN (ar dA (ar dA ah (pv 1)) (pv 1)) (ar dA ah (pv 1))) ah))
   (af (bT (aK nk (aF ay (by rfl) aW bF (aa (pv 0) ag)) ah (aQ _)) (ak (au (i:=2) sc__law_number.nd rfl (Or.inl rfl) (ar dA (pv 2) (ar bN (ar ba (aB aH (pv 0) (ar ba (pv 1) (aF ay (by rfl) aW bF (aa (pv 0) ag))) (fun _ _ => rfl)) ah) ah)))) aZ)
   (ak (aG (ar ba (ar dA (pv 2) ah) ah)))))),?_⟩
 refine ⟨_,rfl,_,rfl,a,_,rfl,.inl hS,_,_,rfl,rfl,_,rfl,gr (fun c => ?_) (fun c => ?_)⟩
 ·rw [hl] at c
  rw [if_pos c] at q
  exact ⟨_,rfl,_,rfl,a,_,_,_,rfl,rfl,hS,bp h0 c,_,_,rfl,rfl,(by show (0 : Int) < 1000000007; decide),q⟩
 rw [hl] at c
 rw [if_neg c] at q
 refine ⟨_,rfl,_,_,rfl,rfl,.inl ⟨by decide,by decide⟩,_,rfl,_,_,rfl,rfl,.inr ⟨by omega,by omega⟩,_,rfl,_,_,rfl,rfl,.inl ⟨by decide,by decide⟩,_,_,rfl,rfl,_,_,rfl,rfl,?_⟩
 refine ⟨_,rfl,a,_,rfl,.inl hS,_,_,rfl,rfl,_,rfl,?_⟩
 refine gr (fun c => ?_) (fun c => ?_)
 ·have c' : (0 : Int) < (((ns.map V.int).length : Nat) : Int):=c
  have c2 : (0 : Int) < (ns.length : Int):=by rw [<- hl]; exact c
  rw [if_pos c2] at q
  have m0:=Int.emod_nonneg k (show (((ns.map V.int).length : Nat) : Int) ≠ 0 by omega)
  have m1:=Int.emod_lt_of_pos k c'
  have m2:=b8 (a:=ns.getD (k % (((ns.map V.int).length : Nat) : Int)).toNat 0) (b:=65521) (by decide)
  refine ⟨_,rfl,_,rfl,_,rfl,_,rfl,a,_,rfl,.inl hS,_,_,rfl,rfl,c',a,_,_,_,rfl,rfl,hS,bp m0 (by rw [<- hl]; exact m1),_,_,rfl,rfl,(by show (0 : Int) < 65521; decide),_,_,rfl,rfl,_,_,rfl,rfl,.inr ⟨by omega,by omega⟩,?_⟩
  rw [hl]
  exact ⟨_,rfl,_,_,rfl,rfl,.inr ⟨by decide,by decide⟩,_,_,rfl,rfl,(by show (0 : Int) < 2147483399; decide),q⟩
 ·have c2 : ¬ (0 : Int) < (ns.length : Int):=by rw [<- hl]; exact c
  rw [if_neg c2] at q
  exact ⟨_,rfl,_,_,rfl,rfl,.inr ⟨by decide,by decide⟩,_,_,rfl,rfl,(by show (0 : Int) < 2147483399; decide),q⟩
theorem ze (F : FunD K "_law_first" "_law_first" cf dV f fd) (fB : DefOk P w K mg base "_law_whole" 1 ["_law_found"] [] nK) (cL : DefOk P w K mg base "_law_sign_at" 1 ["_law_machine_here","_law_number_here"] [] rG) (cJ : DefOk P w K mg base "_law_challenges" 1 ["_law_script","_law_start","_law_found"] [] (uz K)) : FnOk P w K mg base CX0 2 f fd ["_law_script","_law_machine_here","_law_sign","_law_start","_law_found"] (xR K):=by
 refine F.ok sc__law_first (fun vs H Q E h => ?_) (fun cdv A outer s H vs Q E hr h => ?_)
 ·obtain ⟨a,m,r,g,many,wide,rows,signs,ns,sg,st,fv,rfl,_⟩:=h
  rfl
 obtain ⟨a,m,r,g,many,wide,rows,signs,ns,sg,st,fv,rfl,hS,h63,M,R,lsg,⟨n0,n1⟩,⟨w0,w1⟩,st0,FA,k⟩:=h
 refine ⟨_,(af (bT (aK u3 (pv 4) hZ (aQ _)) (af (bT (PW.pt (yL (kE (h7 (aJ fB hr (aa (pv 4) ag)))) (xJ (aK p5 (pv 4) (pv 3) (aQ _))))) (ak (aG jU)) aZ)
   (ak (bT (aK z4 (aJ cL hr (aa (pv 1) (aa (pv 4) ag))) (pv 2) (aQ _)) (ak (aG jU)) aZ))) aZ)
   (af (bw PassesOwn.never rfl (cZ (aJ cJ hr (aa (pv 0) (aa (pv 3) (aa (pv 4) ag))))) (aE (i:=5) sc__law_first.nd rfl (Or.inl rfl)) (ak (bT (aK hX (aJ cL hr (aa (pv 1) (aa (pv 5) ag))) (pv 2) (aQ _)) (ak (aG jU)) aZ)))
   (ak (aG jU)))),?_⟩
 have ask : ∀ x : Int,st <= x -> ¬ rj rows signs wide sg x -> ∃ ds,Figs wide x ds /\ signs.getD (aI rows ds 0).toNat 0 ≠ sg:=fun x hx no => by
  obtain ⟨p,rfl⟩:=m9 (show 0 <= x by omega)
  obtain ⟨ds,h⟩:=uU w0 p
  exact ⟨ds,h,fun e => no ⟨ds,h,e⟩⟩
 have hf : fv = .non \/ ∃ n : Int,fv = .int n /\ st <= n:=FA.elim (fun h => .inl h.1) fun ⟨n,h1,h2,_⟩ => .inr ⟨n,h1,h2⟩
 have none_of : ∀ x : Int,st <= x -> (∀ n : Int,fv = .int n -> x < n) -> ∃ ds,Figs wide x ds /\ signs.getD (aI rows ds 0).toNat 0 ≠ sg:=fun x hx hn => by
  refine ask x hx ?_
  rcases FA with ⟨_,h⟩ | ⟨n,e,_,_,h⟩
  ·exact h x hx
  ·exact h x hx (hn n e)
 try dsimp only [aL]
 refine d6 (t:=yF _ _ _) (fun σ' H' => σ' = [some (.ref a),some (.ref m),some (.int sg),some (.int st),some fv,none] /\ H' = H) ?_ (fun D' nxt => ?_)
 rotate_left
 ·rcases FA with ⟨rfl,_⟩ | ⟨n,rfl,hn,⟨es,fe,e⟩,_⟩
  ·exact ⟨_,rfl,rfl,_,rfl,jb (nxt _ _ ⟨rfl,rfl⟩)⟩
  ·refine ⟨_,rfl,rfl,_,rfl,jJ ?_⟩
   refine ⟨_,rfl,n,rfl,_,rfl,jb ⟨_,rfl,_,rfl,_,_,rfl,rfl,_,rfl,gr (fun c => by omega) (fun _ => ?_)⟩⟩
   dsimp only [nO]
   refine ⟨_,rfl,_,rfl,m,r,g,many,wide,rows,signs,n,es,rfl,M,R,lsg,⟨n0,by omega⟩,⟨w0,by omega⟩,fe,?_⟩
   rw [e]
   exact ⟨_,rfl,rfl,_,rfl,sy (fun q => absurd rfl q) (fun _ => nxt _ _ ⟨rfl,rfl⟩)⟩
 rintro σ' H' ⟨rfl,rfl⟩
 refine ⟨_,rfl,_,rfl,_,rfl,a,st,fv,ns,rfl,hS,h63,hf,fun L H5 xs s5 hL hx => ?_⟩
 refine ⟨L,rfl,⟨_,qL_ hL⟩,cT (K:=K) (xs:=xs.map V.int) (fun i σ' H' => ∃ v : OV,σ' = [some (.ref a),some (.ref m),some (.int sg),some (.int st),some fv,v] /\ H' = H5) ⟨none,rfl,rfl⟩ (fun i σ' H' _ ⟨_,_,e⟩ => by rw [e]; exact qL_ hL) ?_ ?_⟩
 ·rintro i y σ' H6 hi ⟨v,rfl,rfl⟩
  obtain ⟨z,rfl,hz⟩:=bb hi
  have zz:=hx z (mq_ hz)
  obtain ⟨ds,hds,ne⟩:=none_of z zz.1 zz.2
  exact ⟨_,rfl,_,rfl,m,r,g,many,wide,rows,signs,z,ds,rfl,M.same (fun b xs e => s5 _ _ e),R,lsg,⟨n0,by omega⟩,⟨w0,by omega⟩,hds,_,rfl,rfl,_,rfl,mN (fun q => absurd q ne) (fun _ => ⟨_,rfl,rfl⟩)⟩
 ·rintro σ' H6 ⟨v,rfl,rfl⟩
  exact k _ s5
end
def u7 (K : PySem.W.Frag) (Pt : Addr) : Sp:=fun vs H Q _ => ∃ (a : Addr) (ns : LI),vs = [.ref a] /\ SqL K H a (ns.map V.int) /\ ns.length <= 63 /\ H Pt = some (.tbl #[]) /\ ∀ H',Q (.bl true) H'
theorem fx {K : PySem.W.Frag} {H H' : Hp} {Pt a : Addr} {ps : Array Value} {xs : List V} (hP : H Pt = some (.tbl ps)) (k : ∀ b u,b ≠ Pt -> H b = some u -> H' b = some u) (h : SqL K H a xs) : SqL K H' a xs:=by
 rcases h with (h | ⟨o,h⟩) | h
 ·exact .inl (.inl (k _ _ (cY h hP (by intro z; cases z)) h))
 ·exact .inl (.inr ⟨o,k _ _ (cY h hP (by intro z; cases z)) h⟩)
 ·exact .inr h
section
variable {P : Program} {w : World} {K : PySem.W.Frag} {mg : Str -> Option Value} {base : Heap} {f Pt : Addr} {fd : FuncData} {dV : Value}
theorem sc_law : FnScope ["_law_script","_law_wide","_law_many","_law_lost","_law_machine_here","_law_signs","_law_sign","_law_start"] ["_law_script"] (ai j5):=⟨rfl,rfl,rfl,by decide +kernel,rfl,by decide +kernel,by decide +kernel⟩
theorem zf (F : FunD K "law" "law" j5 dV f fd) (ax : DefOk P w K mg base "_law_number" 1 ["_law_script","_law_k"] [] (uB K)) (fA : DefOk P w K mg base "_law_great" 2 ["_law_script","_law_k","_law_below"] [] (rA K)) (dP : DefOk P w K mg base "_law_machine" 2 ["_law_script","_law_start","_law_wide","_law_many","_law_lost"] [] (rC K))
  (dQ : DefOk P w K mg base "first_number" 5 ["machine","sign","start"] [] (jw K Pt)) (c4 : DefOk P w K mg base "first_number" 5 ["machine","sign","start"] [.int 0] (jw K Pt)) (cA : DefOk P w K mg base "first_number" 5 ["machine","sign","start"] [.int 1,.int 0] (jw K Pt)) (cK : DefOk P w K mg base "_law_first" 2 ["_law_script","_law_machine_here","_law_sign","_law_start","_law_found"] [] (xR K))
  (aW : mg "len" = none) (j7 : mg "int" = none) : FnOk P w K mg base CX0 6 f fd ["_law_script"] (u7 K Pt):=by
 refine F.ok sc_law (fun vs H Q E h => ?_) (fun cdv A outer s H vs Q E hr h => ?_)
 ·obtain ⟨a,ns,rfl,_⟩:=h
  rfl
 obtain ⟨a,ns,rfl,hS,h63,hP,q⟩:=h
 refine yX (dM (yR (i:=1) sc_law.nd rfl (Or.inl rfl) (AU aH (yQ (cz (PEW.mk ah) (cz (PEW.mk ah) (cz (PEW.mk ah) (cz (PEW.mk ah) (cz (PEW.mk ah) (cz (PEW.mk ah) (cz (PEW.mk ah) (cz (PEW.mk (ar bN ah (ar ba (ar ij (aJ ax hr (aa (pv 0) (aa ah ag))) ah) ah))) xV))))))))) (PEW.mk (ar ba (aJ ax hr (aa (pv 0) (aa ah ag))) ah)) (fun _ _ => rfl)))
   (dM (PSW.mk (au (i:=2) sc_law.nd rfl (Or.inl rfl) (ar bN ah (ar ba (aJ ax hr (aa (pv 0) (aa ah ag))) (aB aH (bq (aa ah (aa ah ag))) (bO vi (by rfl) j7 tT (aa (l7 nk (pv 1) ah (aQ _)) ag)) (fun _ _ => rfl))))))
   (dM (PSW.mk (au (i:=3) sc_law.nd rfl (Or.inl rfl) (l7 hX (ar ba (aJ ax hr (aa (pv 0) (aa ah ag))) ah) ah (aQ _))))
   (dM (PSW.mk (au (i:=4) sc_law.nd rfl (Or.inl rfl) (aJ dP hr (aa (pv 0) (aa ah (aa (pv 1) (aa (pv 2) (aa (pv 3) ag))))))))
   (dM (yR (i:=5) sc_law.nd rfl (Or.inl rfl) (yQ (cz (PEW.mk ah) (cz (PEW.mk (aB a8 (aB a8 (pv 4) ah (fun _ _ => rfl)) (ar ba (ar ij (aJ ax hr (aa (pv 0) (aa ah ag))) ah) (aF ay (by rfl) aW bF (aa (aB a8 (pv 4) ah (fun _ _ => rfl)) ag))) (fun _ _ => rfl))) (cz (PEW.mk ah) (cz (PEW.mk ah) xV))))))
   (dM (PSW.mk (au (i:=6) sc_law.nd rfl (Or.inl rfl) (aB aH (pv 5) (ar ba (aJ ax hr (aa (pv 0) (aa ah ag))) ah) (fun _ _ => rfl))))
   (dM (PSW.mk (au (i:=7) sc_law.nd rfl (Or.inl rfl) (aJ fA hr (aa (pv 0) (aa ah (aa (aB aH (bq (aa ah (aa (ar xr ah ah) ag))) (ar ba (ar ij (aJ ax hr (aa (pv 0) (aa ah ag))) ah) ah) (fun _ _ => rfl)) ag))))))
   (dM (PSW.mk (bT (kE (h7 (aJ cK hr (aa (pv 0) (aa (pv 4) (aa (pv 6) (aa (pv 7) (aa (aJ dQ hr (aa (pv 4) (aa (pv 6) (aa (pv 7) ag)))) ag)))))))) (ak (aG jU)) aZ))
   (dM (PSW.mk (bT (aK hX (ar ba (ar ij (aJ ax hr (aa (pv 0) (aa ah ag))) ah) ah) ah (aQ _)) (ak (aG (aJ cK hr (aa (nu rm (pv 0) gG (jW ah)) (aa (pv 4) (aa (pv 6) (aa ah (aa (aJ c4 hr (aa (pv 4) (aa (pv 6) ag))) ag)))))))) aZ))
   (zJ (PSW.mk (aG (aJ cK hr (aa (nu rm (pv 0) gG (jW ah)) (aa (pv 4) (aa ah (aa ah (aa (aJ cA hr (aa (pv 4) ag)) ag)))))))))))))))))) ?_
 have N:=yg ns
 have r90:=b8 (a:=b9 ns 0 / 8) (b:=90) (by decide)
 refine ⟨_,rfl,a,_,ns,rfl,hS,h63,by decide,by decide,?_⟩
 refine ⟨_,_,rfl,rfl,⟨by decide,by decide⟩,_,_,rfl,rfl,(by show (0 : Int) < 90; decide),_,_,rfl,rfl,(by show 8 <= sizeLine; decide),fun L8 hL8 => ?_⟩
 have s2:=aj hL8 (HO.lst [V.int 2,V.int 3,V.int 2,V.int 4,V.int 10,V.int 5,V.int 7,V.int (11 + b9 ns 0 / 8 % 90)])
 refine ⟨_,rfl,a,_,ns,rfl,s2.seq hS,h63,by decide,by decide,?_⟩
 have pick : ∃ wide : Nat,atI [V.int 2,V.int 3,V.int 2,V.int 4,V.int 10,V.int 5,V.int 7,V.int (11 + b9 ns 0 / 8 % 90)] (b9 ns 0 % 8) = some (V.int wide) /\ 2 <= wide /\ wide <= 100:=by
  have r8:=b8 (a:=b9 ns 0) (b:=8) (by decide)
  obtain ⟨n,en⟩:=m9 (x:=11 + b9 ns 0 / 8 % 90) (by omega)
  have h8 : b9 ns 0 % 8 = 0 \/ b9 ns 0 % 8 = 1 \/ b9 ns 0 % 8 = 2 \/ b9 ns 0 % 8 = 3 \/ b9 ns 0 % 8 = 4 \/ b9 ns 0 % 8 = 5 \/ b9 ns 0 % 8 = 6 \/ b9 ns 0 % 8 = 7:=by omega
  rcases h8 with e | e | e | e | e | e | e | e <;> rw [e]
  ·exact ⟨2,rfl,by decide,by decide⟩
  ·exact ⟨3,rfl,by decide,by decide⟩
  ·exact ⟨2,rfl,by decide,by decide⟩
  ·exact ⟨4,rfl,by decide,by decide⟩
  ·exact ⟨10,rfl,by decide,by decide⟩
  ·exact ⟨5,rfl,by decide,by decide⟩
  ·exact ⟨7,rfl,by decide,by decide⟩
  ·exact ⟨n,by rw [<- en]; rfl,by omega,by omega⟩
 obtain ⟨wide,ew,w2,w3⟩:=pick
 refine ⟨_,_,rfl,rfl,(by show (0 : Int) < 8; decide),L8,_,_,_,rfl,rfl,qL_ ae,ew,?_⟩
 refine ⟨_,rfl,a,_,ns,rfl,s2.seq hS,h63,by decide,by decide,?_⟩
 refine ⟨(by show 2 <= sizeLine; decide),fun L2 hL2 => ?_⟩
 have s3:=aj hL2 (HO.lst [V.int 6,V.int 3])
 have pick2 : ∃ c : Int,atI [V.int 6,V.int 3] (if decide ((10 : Int) < (wide : Int)) = true then 1 else 0) = some (V.int c) /\ 1 <= c /\ c <= 6:=by
  by_cases z : (10 : Int) < (wide : Int)
  ·rw [if_pos (decide_eq_true z)]
   exact ⟨3,rfl,by decide,by decide⟩
  ·rw [if_neg (fun q => z (of_decide_eq_true q))]
   exact ⟨6,rfl,by decide,by decide⟩
 obtain ⟨c,ec,c1,c6⟩:=pick2
 have rc:=b8 (a:=b9 ns 2) (b:=c) (by omega)
 obtain ⟨many,em⟩:=m9 (x:=1 + b9 ns 2 % c) (by omega)
 refine ⟨_,rfl,_,_,rfl,rfl,.inr ⟨_,rfl,L2,_,_,_,rfl,rfl,qL_ ae,ec,_,_,rfl,rfl,(by omega),_,_,rfl,rfl,?_⟩⟩
 dsimp only [aL]
 rw [em]
 have S3:=s2.trans s3
 have hS3:=S3.seq hS
 refine ⟨_,rfl,a,_,ns,rfl,hS3,h63,by decide,by decide,_,_,rfl,rfl,(by show (0 : Int) < 2; decide),rfl,?_⟩
 refine ⟨_,rfl,_,rfl,_,rfl,_,rfl,a,5,_,many,wide,ns,rfl,hS3,h63,⟨by decide,by decide⟩,⟨by omega,by omega⟩,⟨w2,w3⟩,fun m r g H4 rows signs s4 M R lsg SS => ?_⟩
 have S4:=S3.trans s4
 have hS4:=S4.seq hS
 have lg' : (signs.map V.int).length = many:=by rw [lm_,lsg]
 refine ⟨_,rfl,m,_,_,_,rfl,rfl,qT_ M.tup,rfl,_,rfl,a,_,ns,rfl,hS4,h63,by decide,by decide,?_⟩
 have r5:=b8 (a:=b9 ns 3 / 4) (b:=(many : Int)) (by omega)
 refine ⟨_,_,rfl,rfl,⟨by decide,by decide⟩,_,rfl,m,_,_,_,rfl,rfl,qT_ M.tup,rfl,g,_,rfl,.inr (qT_ M.sgn),?_⟩
 rw [lg']
 refine ⟨_,_,rfl,rfl,(by omega),g,_,_,_,rfl,rfl,qT_ M.sgn,bp r5.1 (by omega),(by show 4 <= sizeLine; decide),fun L4 hL4 => ?_⟩
 have s5:=aj hL4 (HO.lst [V.int 1,V.int (signs.getD (b9 ns 3 / 4 % (many : Int)).toNat 0),V.int 1,V.int 77])
 have M5:=M.same fun b xs e => s5 _ _ e
 have hS5:=(S4.trans s5).seq hS
 refine ⟨_,rfl,_,rfl,a,_,ns,rfl,hS5,h63,by decide,by decide,?_⟩
 have pick4 : ∃ sg : Int,atI [V.int 1,V.int (signs.getD (b9 ns 3 / 4 % (many : Int)).toNat 0),V.int 1,V.int 77] (b9 ns 3 % 4) = some (V.int sg) /\ (b9 ns 3 % 4 = 2 -> sg = 1):=by
  have r8:=b8 (a:=b9 ns 3) (b:=4) (by decide)
  have h8 : b9 ns 3 % 4 = 0 \/ b9 ns 3 % 4 = 1 \/ b9 ns 3 % 4 = 2 \/ b9 ns 3 % 4 = 3:=by omega
  rcases h8 with e | e | e | e <;> rw [e]
  ·exact ⟨1,rfl,fun _ => rfl⟩
  ·exact ⟨_,rfl,fun z => absurd z (by decide)⟩
  ·exact ⟨1,rfl,fun _ => rfl⟩
  ·exact ⟨77,rfl,fun z => absurd z (by decide)⟩
 obtain ⟨sg,es,sg2⟩:=pick4
 refine ⟨_,_,rfl,rfl,(by show (0 : Int) < 4; decide),L4,_,_,_,rfl,rfl,qL_ ae,es,?_⟩
 obtain ⟨H5,eH5⟩ : ∃ H5,upd H4 L4 (HO.lst [V.int 1,V.int (signs.getD (b9 ns 3 / 4 % (many : Int)).toNat 0),V.int 1,V.int 77]) = H5:=⟨_,rfl⟩
 rw [eH5] at M5 hS5
 dsimp only [aL]
 rw [eH5]
 have b1 : 1 <= many /\ many <= 60:=⟨by omega,by omega⟩
 have mm : 1 <= many /\ many <= 6:=⟨by omega,by omega⟩
 refine ⟨_,rfl,_,_,rfl,rfl,⟨by decide,by decide,by decide⟩,(by show 2 <= sizeLine; decide),fun L hL => ?_⟩
 have s6:=aj hL (HO.lst [V.int 60,V.int (10 ^ (18 : Int).toNat)])
 have pick5 : ∃ c : Int,atI [V.int 60,V.int (10 ^ (18 : Int).toNat)] (b9 ns 1 / 2 % 2) = some (V.int c) /\ 0 < c /\ c <= 10 ^ 18:=by
  have h2 : b9 ns 1 / 2 % 2 = 0 \/ b9 ns 1 / 2 % 2 = 1:=by omega
  rcases h2 with e | e <;> rw [e]
  ·exact ⟨60,rfl,by decide,by decide⟩
  ·exact ⟨_,rfl,by decide,by decide⟩
 obtain ⟨c',ec',c0',c1'⟩:=pick5
 have hS6:=s6.seq hS5
 refine ⟨_,rfl,a,_,ns,rfl,hS6,h63,by decide,by decide,_,_,rfl,rfl,⟨by decide,by decide⟩,_,_,rfl,rfl,(by show (0 : Int) < 2; decide),L,_,_,_,rfl,rfl,qL_ ae,ec',a,4,c',ns,rfl,hS6,h63,⟨by decide,by decide⟩,c0',fun v v0 v1 => ?_⟩
 have M6:=M5.same fun b xs e => s6 _ _ e
 have hP6 : (upd H5 L (HO.lst [V.int 60,V.int (10 ^ (18 : Int).toNat)])) Pt = some (.tbl #[]):=s6 _ _ (by rw [<- eH5]; exact (S4.trans s5) _ _ hP)
 obtain ⟨H6,eH6⟩ : ∃ H6,upd H5 L (HO.lst [V.int 60,V.int (10 ^ (18 : Int).toNat)]) = H6:=⟨_,rfl⟩
 rw [eH6] at M6 hS6 hP6
 dsimp only [aL]
 rw [eH6]
 have TS6 : TabSt H6 Pt eN kO:=.inl hP6
 have tupK : ∀ {H H' : Hp} {ps : Array Value},H Pt = some (.tbl ps) -> (∀ b u,b ≠ Pt -> H b = some u -> H' b = some u) -> ∀ b xs,H b = some (.tup xs) -> H' b = some (.tup xs):=fun hp kp b xs e => kp b _ (cY e hp (by intro z; cases z)) e
 refine d6 (t:=yF _ _ _) (fun σ' H' => ∃ v3 : OV,σ' = [some (.ref a),some (.int wide),some (.int many),v3,some (.ref m),some (.ref L4),some (.int sg),some (.int v)] /\ MachAt H' m r g wide rows signs /\ SqL K H' a (ns.map V.int) /\ TabSt H' Pt eN kO) ?_ (fun D' nxt => ?_)
 rotate_left
 ·refine ⟨_,rfl,_,rfl,_,rfl,_,rfl,_,rfl,_,rfl,_,rfl,m,r,g,many,wide,rows,signs,sg,v,rfl,M6,R,lsg,SS,mm,⟨w2,w3⟩,⟨v0,by omega⟩,TS6,fun H7 kp TS7 no => ?_,fun H7 n kp TS7 h1 h2 h3 => ?_⟩
  ·have M7:=M6.same (tupK hP6 kp)
   have hS7:=fx hP6 kp hS6
   exact ⟨a,m,r,g,many,wide,rows,signs,ns,sg,v,_,rfl,hS7,h63,M7,R,lsg,mm,⟨w2,w3⟩,v0,.inl ⟨rfl,no⟩,fun H8 s8 => ⟨_,rfl,jb (nxt _ _ ⟨_,rfl,M7.same (fun b xs e => s8 _ _ e),s8.seq hS7,TabSt.same TS7 s8⟩)⟩⟩
  ·have M7:=M6.same (tupK hP6 kp)
   have hS7:=fx hP6 kp hS6
   exact ⟨a,m,r,g,many,wide,rows,signs,ns,sg,v,_,rfl,hS7,h63,M7,R,lsg,mm,⟨w2,w3⟩,v0,.inr ⟨n,rfl,h1,h2,h3⟩,fun H8 s8 => ⟨_,rfl,jb (nxt _ _ ⟨_,rfl,M7.same (fun b xs e => s8 _ _ e),s8.seq hS7,TabSt.same TS7 s8⟩)⟩⟩
 rintro σ' H7 ⟨v3,rfl,M7,hS7,TS7⟩
 obtain ⟨ms,ems,lms⟩:=wJ ns none (some 9)
 have S9 : ∀ p,H7 p = none -> ∃ H8,upd H7 p (HO.lst (ms.map V.int)) = H8 /\ Same H7 H8 /\ SqL K H8 p (ms.map V.int):=fun p hp => ⟨_,rfl,aj hp _,qL_ ae⟩
 refine ⟨_,rfl,a,_,ns,rfl,hS7,h63,by decide,by decide,_,_,rfl,rfl,⟨by decide,by decide⟩,_,_,rfl,rfl,(by show (0 : Int) < 2; decide),rfl,_,rfl,mN (fun c => ?_) (fun c => ?_)⟩
 ·refine ⟨_,rfl,_,rfl,a,_,rfl,hS7,fun p hp => ?_⟩
  rw [ems]
  obtain ⟨H8,e8,s8,hS8⟩:=S9 p hp
  rw [e8]
  have TS8:=TabSt.same TS7 s8
  obtain ⟨ps8,hP8⟩:=TabSt.tbl TS8
  have M8:=M7.same fun b xs e => s8 _ _ e
  refine ⟨_,rfl,_,rfl,_,rfl,_,rfl,m,r,g,many,wide,rows,signs,sg,0,rfl,M8,R,lsg,SS,mm,⟨w2,w3⟩,⟨by decide,by decide⟩,TS8,fun H9 kp _ no => ?_,fun H9 n kp _ h1 h2 h3 => ?_⟩
  ·exact ⟨p,m,r,g,many,wide,rows,signs,ms,sg,0,_,rfl,fx hP8 kp hS8,by omega,M8.same (tupK hP8 kp),R,lsg,mm,⟨w2,w3⟩,by decide,.inl ⟨rfl,no⟩,fun _ _ => q _⟩
  ·exact ⟨p,m,r,g,many,wide,rows,signs,ms,sg,0,_,rfl,fx hP8 kp hS8,by omega,M8.same (tupK hP8 kp),R,lsg,mm,⟨w2,w3⟩,by decide,.inr ⟨n,rfl,h1,h2,h3⟩,fun _ _ => q _⟩
 ·dsimp only [nO]
  refine ⟨_,rfl,_,rfl,a,_,rfl,hS7,fun p hp => ?_⟩
  rw [ems]
  obtain ⟨H8,e8,s8,hS8⟩:=S9 p hp
  rw [e8]
  have TS8:=TabSt.same TS7 s8
  obtain ⟨ps8,hP8⟩:=TabSt.tbl TS8
  have M8:=M7.same fun b xs e => s8 _ _ e
  refine ⟨_,rfl,_,rfl,m,r,g,many,wide,rows,signs,1,0,rfl,M8,R,lsg,SS,mm,⟨w2,w3⟩,⟨by decide,by decide⟩,TS8,fun H9 kp _ no => ?_,fun H9 n kp _ h1 h2 h3 => ?_⟩
  ·exact ⟨p,m,r,g,many,wide,rows,signs,ms,1,0,_,rfl,fx hP8 kp hS8,by omega,M8.same (tupK hP8 kp),R,lsg,mm,⟨w2,w3⟩,by decide,.inl ⟨rfl,no⟩,fun _ _ => q _⟩
  ·exact ⟨p,m,r,g,many,wide,rows,signs,ms,1,0,_,rfl,fx hP8 kp hS8,by omega,M8.same (tupK hP8 kp),R,lsg,mm,⟨w2,w3⟩,by decide,.inr ⟨n,rfl,h1,h2,h3⟩,fun _ _ => q _⟩
end
@[elab_as_elim] theorem vE {motive : List Value -> Prop} {us : List Value} (hl : us.length = 1) (h : ∀ a0,motive [a0]) : motive us:=match us,hl with | [a0],_ => h _
@[elab_as_elim] theorem mY {motive : List Value -> Prop} {us : List Value} (hl : us.length = 2) (h : ∀ a0 a1,motive [a0,a1]) : motive us:=match us,hl with | [a0,a1],_ => h _ _
@[elab_as_elim] theorem sG {motive : List Value -> Prop} {us : List Value} (hl : us.length = 3) (h : ∀ a0 a1 a2,motive [a0,a1,a2]) : motive us:=match us,hl with | [a0,a1,a2],_ => h _ _ _
@[elab_as_elim] theorem za {motive : List Value -> Prop} {us : List Value} (hl : us.length = 4) (h : ∀ a0 a1 a2 a3,motive [a0,a1,a2,a3]) : motive us:=match us,hl with | [a0,a1,a2,a3],_ => h _ _ _ _
@[elab_as_elim] theorem zY {motive : List Value -> Prop} {us : List Value} (hl : us.length = 5) (h : ∀ a0 a1 a2 a3 a4,motive [a0,a1,a2,a3,a4]) : motive us:=match us,hl with | [a0,a1,a2,a3,a4],_ => h _ _ _ _ _
@[elab_as_elim] theorem AW {motive : List Value -> Prop} {us : List Value} (hl : us.length = 6) (h : ∀ a0 a1 a2 a3 a4 a5,motive [a0,a1,a2,a3,a4,a5]) : motive us:=match us,hl with | [a0,a1,a2,a3,a4,a5],_ => h _ _ _ _ _ _
@[elab_as_elim] theorem AX {motive : List Value -> Prop} {us : List Value} (hl : us.length = 7) (h : ∀ a0 a1 a2 a3 a4 a5 a6,motive [a0,a1,a2,a3,a4,a5,a6]) : motive us:=match us,hl with | [a0,a1,a2,a3,a4,a5,a6],_ => h _ _ _ _ _ _ _
theorem all_mk {l : PySem.W.OpenLaw} {w : World} {K : PySem.W.Frag} {h : Heap} {mg : Str -> Option Value} {fa : Addr} {ts : List Addr} (X : K.In h) (G : h.Ns mainGlobals mg) (hfa : mg "law" = some (.ref fa))
  {i9 dw cR gk ja mH kh mI g8 cE eZ gm dv gp gn g7 d9 eY gj g6 d7 gi d8 cQ gh wR : Addr} {sY rO kz ka jo iZ o4 n4 sZ rP vK vf uj tS vL vg qV qk iG ir nj mj o5 n5 kx j9 o7 n8 o6 n6 qU qj lQ lb ni mi o3 nZ qT qi lO k7 o1 nY lP k9 jn iY oZ nX zd wA : Option Addr} {tK kJ jv pE tL wg uy wj rn iI nB pF kI pH pG rl lZ nA pD rk lX pC lY ju pB zw : Array (Option Value)} {sV sA sd tE kU rZ ku km kg kD fc ke jk jd i8 js d5 i6 oV oK oy pd iM oi sX sC sf tF kW r9 vI vz vq vW pQ vm ui uc t5 uq my tY vJ vA vt vX pR vn qS qD qy rg jD qu iE iA iz iH dC iw ng mQ mF ny g5 mD oW oM oz pe iO oj kr kj kf kC fb kd oY oO oC ph iQ oq oX oN oB pf iP om qR qC qx rf jC qt lN lH lC lV gM ly nc mP mE nv gZ mC oU oJ ox pb iL oh qQ qB qw rb jB qr lL lF lA lS gK lj oT oH ow o9 iK oe lM lG lB lU gL lu ji jc i7 jr d4 i5 oS oG ou o8 iJ n9 zc wY wL xG tW wH : Value}
  (iW : PySem.W.nsIn K mainGlobals "is_whole" = some (some (.ref i9))) (je : K.lookup i9 = some ⟨sV,sY,.func (PySem.W.fnOf "is_whole" "is_whole" (aD c8) (az c8) (ai c8) .none sA sd tE rO kU rZ),tK⟩) (i0 : PySem.W.codeIn K kU "is_whole" = true) (gu : PySem.W.keepIn K (.ref i9) = true)
  (dm : PySem.W.nsIn K mainGlobals "is_whole_from" = some (some (.ref dw))) (dz : K.lookup dw = some ⟨ku,kz,.func (PySem.W.fnOf "is_whole_from" "is_whole_from" (aD bA) (az bA) (ai bA) .none km kg kD ka fc ke),kJ⟩) (du : PySem.W.codeIn K fc "is_whole_from" = true) (cy : PySem.W.keepIn K (.ref dw) = true)
  (cN : PySem.W.nsIn K mainGlobals "is_whole_within" = some (some (.ref cR))) (cX : K.lookup cR = some ⟨jk,jo,.func (PySem.W.fnOf "is_whole_within" "is_whole_within" (aD bo) (az bo) (ai bo) .none jd i8 js iZ d5 i6),jv⟩) (cP : PySem.W.codeIn K d5 "is_whole_within" = true) (bW : PySem.W.keepIn K (.ref cR) = true)
  (fO : PySem.W.nsIn K mainGlobals "need_whole" = some (some (.ref gk))) (gz : K.lookup gk = some ⟨oV,o4,.func (PySem.W.fnOf "need_whole" "need_whole" (aD ck) (az ck) (ai ck) .none oK oy pd n4 iM oi),pE⟩) (fV : PySem.W.codeIn K iM "need_whole" = true) (dG : PySem.W.keepIn K (.ref gk) = true)
  (iX : PySem.W.nsIn K mainGlobals "need_row" = some (some (.ref ja))) (jf : K.lookup ja = some ⟨sX,sZ,.func (PySem.W.fnOf "need_row" "need_row" (aD c9) (az c9) (ai c9) .none sC sf tF rP kW r9),tL⟩) (i4 : PySem.W.codeIn K kW "need_row" = true) (gv : PySem.W.keepIn K (.ref ja) = true)
  (mf : PySem.W.nsIn K mainGlobals "halved" = some (some (.ref mH))) (mV : K.lookup mH = some ⟨vI,vK,.func (PySem.W.fnOf "halved" "halved" (aD fu) (az fu) (ai fu) .none vz vq vW vf pQ vm),wg⟩) (mr : PySem.W.codeIn K pQ "halved" = true) (jK : PySem.W.keepIn K (.ref mH) = true)
  {T_figures tn_figures : Nat} {tc_figures : Value} {td_figures : Option Addr} {tsl_figures : Array (Option Value)} {tk0_figures : Tok}
  (j8 : PySem.W.nsIn K mainGlobals "figures" = some (some (.ref kh))) (ko : K.lookup kh = some ⟨ui,uj,.func (PySem.W.fnOf "figures" "figures" (aD dN) (az dN) (ai dN) (.ref T_figures) uc t5 uq tS my tY),uy⟩) (kb : PySem.W.codeIn K my "figures" = true) (ig : PySem.W.keepIn K (.ref kh) = true)
  (ip : K.lookup T_figures = some ⟨tc_figures,td_figures,.seq #[Value.int 10 tk0_figures] tn_figures,tsl_figures⟩)
  (mh : PySem.W.nsIn K mainGlobals "merged" = some (some (.ref mI))) (mW : K.lookup mI = some ⟨vJ,vL,.func (PySem.W.fnOf "merged" "merged" (aD fw) (az fw) (ai fw) .none vA vt vX vg pR vn),wj⟩) (mw : PySem.W.codeIn K pR "merged" = true) (jL : PySem.W.keepIn K (.ref mI) = true)
  {T_number_of tn_number_of : Nat} {tc_number_of : Value} {td_number_of : Option Addr} {tsl_number_of : Array (Option Value)} {tk0_number_of : Tok}
  (gT : PySem.W.nsIn K mainGlobals "number_of" = some (some (.ref g8))) (hU : K.lookup g8 = some ⟨qS,qV,.func (PySem.W.fnOf "number_of" "number_of" (aD cH) (az cH) (ai cH) (.ref T_number_of) qD qy rg qk jD qu),rn⟩) (gX : PySem.W.codeIn K jD "number_of" = true) (eJ : PySem.W.keepIn K (.ref g8) = true)
  (eM : K.lookup T_number_of = some ⟨tc_number_of,td_number_of,.seq #[Value.int 10 tk0_number_of] tn_number_of,tsl_number_of⟩)
  (cC : PySem.W.nsIn K mainGlobals "rooms_leading_to" = some (some (.ref cE))) (cF : K.lookup cE = some ⟨iE,iG,.func (PySem.W.fnOf "rooms_leading_to" "rooms_leading_to" (aD aS) (az aS) (ai aS) .none iA iz iH ir dC iw),iI⟩) (cD : PySem.W.codeIn K dC "rooms_leading_to" = true) (bR : PySem.W.keepIn K (.ref cE) = true)
  (eU : PySem.W.nsIn K mainGlobals "goals_along" = some (some (.ref eZ))) (e6 : K.lookup eZ = some ⟨ng,nj,.func (PySem.W.fnOf "goals_along" "goals_along" (aD bt) (az bt) (ai bt) .none mQ mF ny mj g5 mD),nB⟩) (eW : PySem.W.codeIn K g5 "goals_along" = true) (df : PySem.W.keepIn K (.ref eZ) = true)
  (fP : PySem.W.nsIn K mainGlobals "next_rooms" = some (some (.ref gm))) (gA : K.lookup gm = some ⟨oW,o5,.func (PySem.W.fnOf "next_rooms" "next_rooms" (aD cm) (az cm) (ai cm) .none oM oz pe n5 iO oj),pF⟩) (fX : PySem.W.codeIn K iO "next_rooms" = true) (dH : PySem.W.keepIn K (.ref gm) = true)
  (dk : PySem.W.nsIn K mainGlobals "first_leading" = some (some (.ref dv))) (dy : K.lookup dv = some ⟨kr,kx,.func (PySem.W.fnOf "first_leading" "first_leading" (aD bz) (az bz) (ai bz) .none kj kf kC j9 fb kd),kI⟩) (dq : PySem.W.codeIn K fb "first_leading" = true) (cx : PySem.W.keepIn K (.ref dv) = true)
  (fR : PySem.W.nsIn K mainGlobals "taken_down" = some (some (.ref gp))) (gC : K.lookup gp = some ⟨oY,o7,.func (PySem.W.fnOf "taken_down" "taken_down" (aD cn) (az cn) (ai cn) .none oO oC ph n8 iQ oq),pH⟩) (fZ : PySem.W.codeIn K iQ "taken_down" = true) (dJ : PySem.W.keepIn K (.ref gp) = true)
  (fQ : PySem.W.nsIn K mainGlobals "rooms_with" = some (some (.ref gn))) (gB : K.lookup gn = some ⟨oX,o6,.func (PySem.W.fnOf "rooms_with" "rooms_with" (aD bS) (az bS) (ai bS) .none oN oB pf n6 iP om),pG⟩) (fY : PySem.W.codeIn K iP "rooms_with" = true) (dI : PySem.W.keepIn K (.ref gn) = true)
  (gS : PySem.W.nsIn K mainGlobals "least_row" = some (some (.ref g7))) (hJ : K.lookup g7 = some ⟨qR,qU,.func (PySem.W.fnOf "least_row" "least_row" (aD bQ) (az bQ) (ai bQ) .none qC qx rf qj jC qt),rl⟩) (gW : PySem.W.codeIn K jC "least_row" = true) (eI : PySem.W.keepIn K (.ref g7) = true)
  {T_first_number tn_first_number : Nat} {tc_first_number : Value} {td_first_number : Option Addr} {tsl_first_number : Array (Option Value)} {tk0_first_number tk1_first_number : Tok}
  (bI : PySem.W.nsIn K mainGlobals "first_number" = some (some (.ref d9))) (bM : K.lookup d9 = some ⟨lN,lQ,.func (PySem.W.fnOf "first_number" "first_number" (aD bj) (az bj) (ai bj) (.ref T_first_number) lH lC lV lb gM ly),lZ⟩) (d3 : PySem.W.codeIn K gM "first_number" = true) (bL : PySem.W.keepIn K (.ref d9) = true)
  (cb : K.lookup T_first_number = some ⟨tc_first_number,td_first_number,.seq #[Value.int 1 tk0_first_number,Value.int 0 tk1_first_number] tn_first_number,tsl_first_number⟩)
  (eT : PySem.W.nsIn K mainGlobals "_law_number" = some (some (.ref eY))) (e5 : K.lookup eY = some ⟨nc,ni,.func (PySem.W.fnOf "_law_number" "_law_number" (aD bH) (az bH) (ai bH) .none mP mE nv mi gZ mC),nA⟩) (eV : PySem.W.codeIn K gZ "_law_number" = true) (cw : PySem.W.keepIn K (.ref eY) = true)
  (fM : PySem.W.nsIn K mainGlobals "_law_whole" = some (some (.ref gj))) (gy : K.lookup gj = some ⟨oU,o3,.func (PySem.W.fnOf "_law_whole" "_law_whole" (aD cj) (az cj) (ai cj) .none oJ ox pb nZ iL oh),pD⟩) (fU : PySem.W.codeIn K iL "_law_whole" = true) (dF : PySem.W.keepIn K (.ref gj) = true)
  (gR : PySem.W.nsIn K mainGlobals "_law_rest" = some (some (.ref g6))) (g9 : K.lookup g6 = some ⟨qQ,qT,.func (PySem.W.fnOf "_law_rest" "_law_rest" (aD cG) (az cG) (ai cG) .none qB qw rb qi jB qr),rk⟩) (gU : PySem.W.codeIn K jB "_law_rest" = true) (eG : PySem.W.keepIn K (.ref g6) = true)
  (dR : PySem.W.nsIn K mainGlobals "_law_machine" = some (some (.ref d7))) (eh : K.lookup d7 = some ⟨lL,lO,.func (PySem.W.fnOf "_law_machine" "_law_machine" (aD bh) (az bh) (ai bh) .none lF lA lS k7 gK lj),lX⟩) (dY : PySem.W.codeIn K gK "_law_machine" = true) (cU : PySem.W.keepIn K (.ref d7) = true)
  (fK : PySem.W.nsIn K mainGlobals "_law_great" = some (some (.ref gi))) (gx : K.lookup gi = some ⟨oT,o1,.func (PySem.W.fnOf "_law_great" "_law_great" (aD cg) (az cg) (ai cg) .none oH ow o9 nY iK oe),pC⟩) (fT : PySem.W.codeIn K iK "_law_great" = true) (dE : PySem.W.keepIn K (.ref gi) = true)
  (dS : PySem.W.nsIn K mainGlobals "_law_sign_at" = some (some (.ref d8))) (et : K.lookup d8 = some ⟨lM,lP,.func (PySem.W.fnOf "_law_sign_at" "_law_sign_at" (aD bP) (az bP) (ai bP) .none lG lB lU k9 gL lu),lY⟩) (dZ : PySem.W.codeIn K gL "_law_sign_at" = true) (cV : PySem.W.keepIn K (.ref d8) = true)
  (cM : PySem.W.nsIn K mainGlobals "_law_challenges" = some (some (.ref cQ))) (cW : K.lookup cQ = some ⟨ji,jn,.func (PySem.W.fnOf "_law_challenges" "_law_challenges" (aD aO) (az aO) (ai aO) .none jc i7 jr iY d4 i5),ju⟩) (cO : PySem.W.codeIn K d4 "_law_challenges" = true) (bV : PySem.W.keepIn K (.ref cQ) = true)
  (fJ : PySem.W.nsIn K mainGlobals "_law_first" = some (some (.ref gh))) (gw : K.lookup gh = some ⟨oS,oZ,.func (PySem.W.fnOf "_law_first" "_law_first" (aD cf) (az cf) (ai cf) .none oG ou o8 nX iJ n9),pB⟩) (fS : PySem.W.codeIn K iJ "_law_first" = true) (dD : PySem.W.keepIn K (.ref gh) = true)
  (uM : PySem.W.nsIn K mainGlobals "law" = some (some (.ref wR))) (w6 : K.lookup wR = some ⟨zc,zd,.func (PySem.W.fnOf "law" "law" (aD j5) (az j5) (ai j5) .none wY wL xG wA tW wH),zw⟩) (wF : PySem.W.codeIn K tW "law" = true) (wZ : PySem.W.keepIn K (.ref wR) = true)
  (xX : PySem.W.nsIn K mainGlobals "len" = some none)
  (rJ : PySem.W.nsIn K mainGlobals "range" = some none)
  (rK : PySem.W.nsIn K mainGlobals "tuple" = some none)
  (uJ : PySem.W.nsIn K mainGlobals "list" = some none)
  (gJ : PySem.W.nsIn K mainGlobals "isinstance" = some none)
  (xW : PySem.W.nsIn K mainGlobals "int" = some none)
  (y_bool : PySem.W.nsIn K mainGlobals "bool" = some none)
  (ib : PySem.W.nsIn K mainGlobals "enumerate" = some none)
  (uI : PySem.W.nsIn K mainGlobals "dict" = some none)
  (xY : PySem.W.nsIn K mainGlobals "min" = some none)
  (jx : PySem.W.nsIn K mainGlobals "reversed" = some none)
  (tabS : (PySem.W.tabIn K "first_number").isSome = true)
  (tabH : PySem.W.codeHdIn K ((PySem.W.tabIn K "first_number").getD (0,0)).1 ((PySem.W.tabIn K "first_number").getD (0,0)).2 = true)
  (tabN : K.lookup ((PySem.W.tabIn K "first_number").getD (0,0)).2 = none)
  (tabM : ts.elem ((PySem.W.tabIn K "first_number").getD (0,0)).2 = true) :
  ∃ (fd : FuncData) (c Pt : Addr),PySem.W.codeHdIn K c Pt = true /\ Pt ∈ ts /\ K.lookup Pt = none /\ (∀ (s : Shared) (v : Value),BindsTo s fd ⟨[v],[]⟩ [("_law_script",v)]) /\ ∀ base : Heap,K.In base -> base.Ns mainGlobals mg -> rL base mg -> FnOk l.prog w K mg base CX0 6 fa fd ["_law_script"] (u7 K Pt):=by
 have e:=hfa.symm.trans (PySem.W.mg_of X G uM)
 cases e
 have F_is_whole:=aN (st:=c8) je i0 gu
 have b_is_whole:=F_is_whole.binds (ps:=["thing"]) fun _ _ _ _ _ _ us hl => vE hl fun _ => rfl
 have uf:=PySem.W.mg_of X G iW
 have F_is_whole_from:=aN (st:=bA) dz du cy
 have b_is_whole_from:=F_is_whole_from.binds (ps:=["thing","least"]) fun _ _ _ _ _ _ us hl => mY hl fun _ _ => rfl
 have lJ:=PySem.W.mg_of X G dm
 have F_is_whole_within:=aN (st:=bo) cX cP bW
 have b_is_whole_within:=F_is_whole_within.binds (ps:=["thing","least","most"]) fun _ _ _ _ _ _ us hl => sG hl fun _ _ _ => rfl
 have jQ:=PySem.W.mg_of X G cN
 have F_need_whole:=aN (st:=ck) gz fV dG
 have b_need_whole:=F_need_whole.binds (ps:=["thing","least","called"]) fun _ _ _ _ _ _ us hl => sG hl fun _ _ _ => rfl
 have qK:=PySem.W.mg_of X G fO
 have F_need_row:=aN (st:=c9) jf i4 gv
 have b_need_row:=F_need_row.binds (ps:=["thing","called"]) fun _ _ _ _ _ _ us hl => mY hl fun _ _ => rfl
 have ug:=PySem.W.mg_of X G iX
 have F_halved:=aN (st:=fu) mV mr jK
 have b_halved:=F_halved.binds (ps:=["parts","middle"]) fun _ _ _ _ _ _ us hl => mY hl fun _ _ => rfl
 have xb:=PySem.W.mg_of X G mf
 have F_figures:=aN (st:=dN) ko kb ig
 have b_figures : Binds K _ ["number","wide"] []:=F_figures.bindsD ip rfl 2 rfl fun _ _ _ _ _ _ us hl => mY hl fun _ _ => ⟨_,rfl,rfl⟩
 have b_figures_d : Binds K _ ["number","wide"] [Value.int 10 tk0_figures]:=F_figures.bindsD ip rfl 1 rfl fun _ _ _ _ _ _ us hl => vE hl fun _ => ⟨_,rfl,rfl⟩
 have vG:=PySem.W.mg_of X G j8
 have F_merged:=aN (st:=fw) mW mw jL
 have b_merged:=F_merged.binds (ps:=["parts","middle"]) fun _ _ _ _ _ _ us hl => mY hl fun _ _ => rfl
 have xc:=PySem.W.mg_of X G mh
 have F_number_of:=aN (st:=cH) hU gX eJ
 have b_number_of : Binds K _ ["row","wide"] []:=F_number_of.bindsD eM rfl 2 rfl fun _ _ _ _ _ _ us hl => mY hl fun _ _ => ⟨_,rfl,rfl⟩
 have b_number_of_d : Binds K _ ["row","wide"] [Value.int 10 tk0_number_of]:=F_number_of.bindsD eM rfl 1 rfl fun _ _ _ _ _ _ us hl => vE hl fun _ => ⟨_,rfl,rfl⟩
 have sO:=PySem.W.mg_of X G gT
 have F_rooms_leading_to:=aN (st:=aS) cF cD bR
 have b_rooms_leading_to:=F_rooms_leading_to.binds (ps:=["machine","goals","taken"]) fun _ _ _ _ _ _ us hl => sG hl fun _ _ _ => rfl
 have jg:=PySem.W.mg_of X G cC
 have F_goals_along:=aN (st:=bt) e6 eW df
 have b_goals_along:=F_goals_along.binds (ps:=["machine","row","sign"]) fun _ _ _ _ _ _ us hl => sG hl fun _ _ _ => rfl
 have oP:=PySem.W.mg_of X G eU
 have F_next_rooms:=aN (st:=cm) gA fX dH
 have b_next_rooms:=F_next_rooms.binds (ps:=["rows","level","taken"]) fun _ _ _ _ _ _ us hl => sG hl fun _ _ _ => rfl
 have qL:=PySem.W.mg_of X G fP
 have F_first_leading:=aN (st:=bz) dy dq cx
 have b_first_leading:=F_first_leading.binds (ps:=["rows","level","order","goal"]) fun _ _ _ _ _ _ us hl => za hl fun _ _ _ _ => rfl
 have lI:=PySem.W.mg_of X G dk
 have F_taken_down:=aN (st:=cn) gC fZ dJ
 have b_taken_down:=F_taken_down.binds (ps:=["rows","levels","orders","goal"]) fun _ _ _ _ _ _ us hl => za hl fun _ _ _ _ => rfl
 have qN:=PySem.W.mg_of X G fR
 have F_rooms_with:=aN (st:=bS) gB fY dI
 have b_rooms_with:=F_rooms_with.binds (ps:=["machine","sign"]) fun _ _ _ _ _ _ us hl => mY hl fun _ _ => rfl
 have qM:=PySem.W.mg_of X G fQ
 have F_least_row:=aN (st:=bQ) hJ gW eI
 have b_least_row:=F_least_row.binds (ps:=["machine","sign","ground","free_for"]) fun _ _ _ _ _ _ us hl => za hl fun _ _ _ _ => rfl
 have sM:=PySem.W.mg_of X G gS
 have F_first_number:=aN (st:=bj) bM d3 bL
 have b_first_number : Binds K _ ["machine","sign","start"] []:=F_first_number.bindsD cb rfl 3 rfl fun _ _ _ _ _ _ us hl => sG hl fun _ _ _ => ⟨_,rfl,rfl⟩
 have b_first_number_d : Binds K _ ["machine","sign","start"] [Value.int 0 tk1_first_number]:=F_first_number.bindsD cb rfl 2 rfl fun _ _ _ _ _ _ us hl => mY hl fun _ _ => ⟨_,rfl,rfl⟩
 have b_first_number_d_d : Binds K _ ["machine","sign","start"] [Value.int 1 tk0_first_number,Value.int 0 tk1_first_number]:=F_first_number.bindsD cb rfl 1 rfl fun _ _ _ _ _ _ us hl => vE hl fun _ => ⟨_,rfl,rfl⟩
 have eA:=PySem.W.mg_of X G bI
 have F__law_number:=aN (st:=bH) e5 eV cw
 have b__law_number:=F__law_number.binds (ps:=["_law_script","_law_k"]) fun _ _ _ _ _ _ us hl => mY hl fun _ _ => rfl
 have iV:=PySem.W.mg_of X G eT
 have F__law_whole:=aN (st:=cj) gy fU dF
 have b__law_whole:=F__law_whole.binds (ps:=["_law_found"]) fun _ _ _ _ _ _ us hl => vE hl fun _ => rfl
 have qJ:=PySem.W.mg_of X G fM
 have F__law_rest:=aN (st:=cG) g9 gU eG
 have b__law_rest:=F__law_rest.binds (ps:=["_law_rows","_law_here"]) fun _ _ _ _ _ _ us hl => mY hl fun _ _ => rfl
 have sJ:=PySem.W.mg_of X G gR
 have F__law_machine:=aN (st:=bh) eh dY cU
 have b__law_machine:=F__law_machine.binds (ps:=["_law_script","_law_start","_law_wide","_law_many","_law_lost"]) fun _ _ _ _ _ _ us hl => zY hl fun _ _ _ _ _ => rfl
 have m6:=PySem.W.mg_of X G dR
 have F__law_great:=aN (st:=cg) gx fT dE
 have b__law_great:=F__law_great.binds (ps:=["_law_script","_law_k","_law_below"]) fun _ _ _ _ _ _ us hl => sG hl fun _ _ _ => rfl
 have qI:=PySem.W.mg_of X G fK
 have F__law_sign_at:=aN (st:=bP) et dZ cV
 have b__law_sign_at:=F__law_sign_at.binds (ps:=["_law_machine_here","_law_number_here"]) fun _ _ _ _ _ _ us hl => mY hl fun _ _ => rfl
 have m7:=PySem.W.mg_of X G dS
 have F__law_challenges:=aN (st:=aO) cW cO bV
 have b__law_challenges:=F__law_challenges.binds (ps:=["_law_script","_law_start","_law_found"]) fun _ _ _ _ _ _ us hl => sG hl fun _ _ _ => rfl
 have jP:=PySem.W.mg_of X G cM
 have F__law_first:=aN (st:=cf) gw fS dD
 have b__law_first:=F__law_first.binds (ps:=["_law_script","_law_machine_here","_law_sign","_law_start","_law_found"]) fun _ _ _ _ _ _ us hl => zY hl fun _ _ _ _ _ => rfl
 have qH:=PySem.W.mg_of X G fJ
 have F_law:=aN (st:=j5) w6 wF wZ
 have b_law:=F_law.binds (ps:=["_law_script"]) fun _ _ _ _ _ _ us hl => vE hl fun _ => rfl
 have AV:=PySem.W.mg_of X G uM
 have aW:=PySem.W.mg_none_of X G xX
 have aM:=PySem.W.mg_none_of X G rJ
 have a9:=PySem.W.mg_none_of X G rK
 have dc:=PySem.W.mg_none_of X G uJ
 have a7:=PySem.W.mg_none_of X G gJ
 have j7:=PySem.W.mg_none_of X G xW
 have kS:=PySem.W.mg_none_of X G y_bool
 have cI:=PySem.W.mg_none_of X G ib
 have uK:=PySem.W.mg_none_of X G uI
 have qh:=PySem.W.mg_none_of X G xY
 have de:=PySem.W.mg_none_of X G jx
 obtain ⟨⟨c,Pt⟩,tabF⟩:=Option.isSome_iff_exists.mp tabS
 rw [tabF] at tabH tabN tabM
 refine ⟨PySem.W.fnOf "law" "law" (aD j5) (az j5) (ai j5) .none wY wL xG wA tW wH,c,Pt,tabH,List.mem_of_elem_eq_true tabM,tabN,fun s v => .of_eq rfl,fun base _ _ hbm => ?_⟩
 have kL : LamK K mg base c Pt:=⟨tabH,hbm⟩
 have c5 : DefOk l.prog w K mg base "is_whole" 1 ["thing"] [] (l9):=⟨_,_,[],uf,gu,.nil,b_is_whole,tj F_is_whole a7 j7 kS⟩
 have dj : DefOk l.prog w K mg base "is_whole_from" 2 ["thing","least"] [] (uA):=⟨_,_,[],lJ,cy,.nil,b_is_whole_from,yj F_is_whole_from c5⟩
 have bU : DefOk l.prog w K mg base "is_whole_within" 2 ["thing","least","most"] [] (nM):=⟨_,_,[],jQ,bW,.nil,b_is_whole_within,vT F_is_whole_within c5⟩
 have bB : DefOk l.prog w K mg base "need_whole" 3 ["thing","least","called"] [] (rD):=⟨_,_,[],qK,dG,.nil,b_need_whole,yk F_need_whole dj⟩
 have fE : DefOk l.prog w K mg base "need_row" 1 ["thing","called"] [] (kM):=⟨_,_,[],ug,gv,.nil,b_need_row,tm F_need_row a7 a9 dc⟩
 have md : DefOk l.prog w K mg base "halved" 1 ["parts","middle"] [] (nF K):=⟨_,_,[],xb,jK,.nil,b_halved,vO F_halved ⟩
 have e9 : DefOk l.prog w K mg base "figures" 4 ["number","wide"] [] (kK K):=⟨_,_,[],vG,ig,.nil,b_figures,uk F_figures bB md de a9⟩
 have jy : DefOk l.prog w K mg base "merged" 1 ["parts","middle"] [] (nI K):=⟨_,_,[],xc,jL,.nil,b_merged,vQ F_merged aM aW⟩
 have dh : DefOk l.prog w K mg base "number_of" 4 ["row","wide"] [] (rF K):=⟨_,_,[],sO,eJ,.nil,b_number_of,qX F_number_of bB fE bU jy dc aW⟩
 have cB : DefOk l.prog w K mg base "rooms_leading_to" 1 ["machine","goals","taken"] [] (rB K):=⟨_,_,[],jg,bR,.nil,b_rooms_leading_to,xl F_rooms_leading_to cI dc uK⟩
 have eS : DefOk l.prog w K mg base "goals_along" 1 ["machine","row","sign"] [] (rq K):=⟨_,_,[],oP,df,.nil,b_goals_along,xj F_goals_along de⟩
 have fF : DefOk l.prog w K mg base "next_rooms" 1 ["rows","level","taken"] [] (rE K):=⟨_,_,[],qL,dH,.nil,b_next_rooms,xn F_next_rooms dc⟩
 have bx : DefOk l.prog w K mg base "first_leading" 1 ["rows","level","order","goal"] [] (j6 K):=⟨_,_,[],lI,cx,.nil,b_first_leading,vN F_first_leading ⟩
 have fI : DefOk l.prog w K mg base "taken_down" 2 ["rows","levels","orders","goal"] [] (uD K):=⟨_,_,[],qN,dJ,.nil,b_taken_down,yn F_taken_down bx aW aM a9⟩
 have fH : DefOk l.prog w K mg base "rooms_with" 1 ["machine","sign"] [] (nJ):=⟨_,_,[],qM,dI,.nil,b_rooms_with,vR F_rooms_with cI⟩
 have dg : DefOk l.prog w K mg base "least_row" 3 ["machine","sign","ground","free_for"] [] (nH K):=⟨_,_,[],sM,eI,.nil,b_least_row,vP F_least_row eS fH cB bx fF fI aW aM a9 qh⟩
 have dQ : DefOk l.prog w K mg base "first_number" 5 ["machine","sign","start"] [] (jw K Pt):=⟨_,_,[],eA,bL,.nil,b_first_number,qW F_first_number (qo bI bM tabF) kL dg e9 dh a9 aM⟩
 have c4 : DefOk l.prog w K mg base "first_number" 5 ["machine","sign","start"] [.int 0] (jw K Pt):=⟨_,_,_,eA,bL,.cons ⟨_,rfl⟩ (.nil),b_first_number_d,qW F_first_number (qo bI bM tabF) kL dg e9 dh a9 aM⟩
 have cA : DefOk l.prog w K mg base "first_number" 5 ["machine","sign","start"] [.int 1,.int 0] (jw K Pt):=⟨_,_,_,eA,bL,.cons ⟨_,rfl⟩ (.cons ⟨_,rfl⟩ (.nil)),b_first_number_d_d,qW F_first_number (qo bI bM tabF) kL dg e9 dh a9 aM⟩
 have ax : DefOk l.prog w K mg base "_law_number" 1 ["_law_script","_law_k"] [] (u9 K):=⟨_,_,[],iV,cw,.nil,b__law_number,zg F__law_number aW⟩
 have fB : DefOk l.prog w K mg base "_law_whole" 1 ["_law_found"] [] (nK):=⟨_,_,[],qJ,dF,.nil,b__law_whole,vS F__law_whole a7 j7 kS⟩
 have gQ : DefOk l.prog w K mg base "_law_rest" 1 ["_law_rows","_law_here"] [] (uC K):=⟨_,_,[],sJ,eG,.nil,b__law_rest,ym F__law_rest aW aM qh⟩
 have dP : DefOk l.prog w K mg base "_law_machine" 2 ["_law_script","_law_start","_law_wide","_law_many","_law_lost"] [] (rC K):=⟨_,_,[],m6,cU,.nil,b__law_machine,xm F__law_machine ax gQ aM a9⟩
 have fA : DefOk l.prog w K mg base "_law_great" 2 ["_law_script","_law_k","_law_below"] [] (rA K):=⟨_,_,[],qI,dE,.nil,b__law_great,xk F__law_great ax aW⟩
 have cL : DefOk l.prog w K mg base "_law_sign_at" 1 ["_law_machine_here","_law_number_here"] [] (rG):=⟨_,_,[],m7,cV,.nil,b__law_sign_at,xo F__law_sign_at ⟩
 have cJ : DefOk l.prog w K mg base "_law_challenges" 1 ["_law_script","_law_start","_law_found"] [] (uz K):=⟨_,_,[],jP,bV,.nil,b__law_challenges,yi F__law_challenges aW aM⟩
 have cK : DefOk l.prog w K mg base "_law_first" 2 ["_law_script","_law_machine_here","_law_sign","_law_start","_law_found"] [] (xR K):=⟨_,_,[],qH,dD,.nil,b__law_first,ze F__law_first fB cL cJ⟩
 have ax : DefOk l.prog w K mg base "_law_number" 1 ["_law_script","_law_k"] [] (uB K):=⟨_,_,[],iV,cw,.nil,b__law_number,yl F__law_number aW⟩
 exact zf F_law ax fA dP dQ c4 cA cK aW j7
theorem walk {l : PySem.W.OpenLaw} {q : Program} {loose : List Str} {XP : (Str -> Option Value) -> Heap -> Prop} {YP : World -> Heap -> Prop} {d : DefRec} {K : Params -> PySem.W.Frag} {ts : List Addr} (hn : l.most = some 63) (hdf : d.params.defaults = [])
  (hY : ∀ (w : World) (h : Heap),YP w h -> (K w.params).In h /\ ∀ P,P ∈ ts -> h.get? P = some (PySem.W.tabObj #[]))
  (F : ∀ (w : World) (mg : Str -> Option Value) (fa : Addr) (h : Heap),(K w.params).In h -> h.Ns mainGlobals mg -> mg d.name = some (.ref fa) ->
   ∃ (fd : FuncData) (c Pt : Addr),PySem.W.codeHdIn (K w.params) c Pt = true /\ Pt ∈ ts /\ (K w.params).lookup Pt = none /\ (∀ (s : Shared) (u : Value),BindsTo s fd ⟨[u],[]⟩ [("_law_script",u)]) /\ ∀ base : Heap,(K w.params).In base -> base.Ns mainGlobals mg -> rL base mg -> FnOk l.prog w (K w.params) mg base CX0 6 fa fd ["_law_script"] (u7 (K w.params) Pt)) :
  PySem.W.WalkO q loose XP YP l.row.toRowW d [] (fun f vs => PySem.call f vs):=
 L2.walk_ofT (n:=63) (k:=6) (x := "_law_script") (CX:=fun _ => CX0) (sp:=fun w _ Pt => u7 (K w.params) Pt) hn (by decide) hdf ⟨rfl,by decide,by decide⟩ (fun w h Y => (hY w h Y).1) (fun w h Y => (hY w h Y).2) F (fun _ _ Pt _ a ns hl hO hS => ⟨a,ns,rfl,hS,hl,hO.1,fun _ => rfl⟩) fun _ _ _ _ _ z => z
end My
open PySem PySem.W PyProof.Rows
set_option maxRecDepth 100000 in
set_option maxHeartbeats 0 in
theorem PySem.Challenge.cw_figuretell_k42_first_number_holds : PySem.Challenge.rw_figuretell_k42_first_number.Holds := by
 w_on; o_law; k_head; (case hw => w_witness2)
 k_fill
 refine My.walk (l:=PySem.Challenge.rw_figuretell_k42_first_number) rfl rfl (fun w h Y => Y) ?F
 case F =>
  intro w mg fa h KX G hmg
  refine' My.all_mk KX G hmg ?iW ?je ?i0 ?gu ?dm ?dz ?du ?cy ?cN ?cX ?cP ?bW ?fO ?gz ?fV ?dG ?iX ?jf ?i4 ?gv ?mf ?mV ?mr ?jK ?j8 ?ko ?kb ?ig ?ip ?mh ?mW ?mw ?jL ?gT ?hU ?gX ?eJ ?eM ?cC ?cF ?cD ?bR ?eU ?e6 ?eW ?df ?fP ?gA ?fX ?dH ?dk ?dy ?dq ?cx ?fR ?gC ?fZ ?dJ ?fQ ?gB ?fY ?dI ?gS ?hJ ?gW ?eI ?bI ?bM ?d3 ?bL ?cb ?eT ?e5 ?eV ?cw ?fM ?gy ?fU ?dF ?gR ?g9 ?gU ?eG ?dR ?eh ?dY ?cU ?fK ?gx ?fT ?dE ?dS ?et ?dZ ?cV ?cM ?cW ?cO ?bV ?fJ ?gw ?fS ?dD ?uM ?w6 ?wF ?wZ ?xX ?rJ ?rK ?uJ ?gJ ?xW ?y_bool ?ib ?uI ?xY ?jx ?tabS ?tabH ?tabN ?tabM
  (case iW => k_is); (case je => k_is); (case i0 => k_is); (case gu => k_is)
  (case dm => k_is); (case dz => k_is); (case du => k_is); (case cy => k_is)
  (case cN => k_is); (case cX => k_is); (case cP => k_is); (case bW => k_is)
  (case fO => k_is); (case gz => k_is); (case fV => k_is); (case dG => k_is)
  (case iX => k_is); (case jf => k_is); (case i4 => k_is); (case gv => k_is)
  (case mf => k_is); (case mV => k_is); (case mr => k_is); (case jK => k_is)
  (case j8 => k_is); (case ko => k_is); (case kb => k_is); (case ig => k_is); (case ip => k_is)
  (case mh => k_is); (case mW => k_is); (case mw => k_is); (case jL => k_is)
  (case gT => k_is); (case hU => k_is); (case gX => k_is); (case eJ => k_is); (case eM => k_is)
  (case cC => k_is); (case cF => k_is); (case cD => k_is); (case bR => k_is)
  (case eU => k_is); (case e6 => k_is); (case eW => k_is); (case df => k_is)
  (case fP => k_is); (case gA => k_is); (case fX => k_is); (case dH => k_is)
  (case dk => k_is); (case dy => k_is); (case dq => k_is); (case cx => k_is)
  (case fR => k_is); (case gC => k_is); (case fZ => k_is); (case dJ => k_is)
  (case fQ => k_is); (case gB => k_is); (case fY => k_is); (case dI => k_is)
  (case gS => k_is); (case hJ => k_is); (case gW => k_is); (case eI => k_is)
  (case bI => k_is); (case bM => k_is); (case d3 => k_is); (case bL => k_is); (case cb => k_is)
  (case eT => k_is); (case e5 => k_is); (case eV => k_is); (case cw => k_is)
  (case fM => k_is); (case gy => k_is); (case fU => k_is); (case dF => k_is)
  (case gR => k_is); (case g9 => k_is); (case gU => k_is); (case eG => k_is)
  (case dR => k_is); (case eh => k_is); (case dY => k_is); (case cU => k_is)
  (case fK => k_is); (case gx => k_is); (case fT => k_is); (case dE => k_is)
  (case dS => k_is); (case et => k_is); (case dZ => k_is); (case cV => k_is)
  (case cM => k_is); (case cW => k_is); (case cO => k_is); (case bV => k_is)
  (case fJ => k_is); (case gw => k_is); (case fS => k_is); (case dD => k_is)
  (case uM => k_is); (case w6 => k_is); (case wF => k_is); (case wZ => k_is)
  (case xX => k_is); (case rJ => k_is); (case rK => k_is); (case uJ => k_is); (case gJ => k_is); (case xW => k_is); (case y_bool => k_is); (case ib => k_is); (case uI => k_is); (case xY => k_is); (case jx => k_is)
  (case tabS => first | k_is | k_exc | decide | kernel_rfl)
  (case tabH => first | k_is | k_exc | decide | kernel_rfl)
  (case tabN => first | k_is | k_exc | decide | kernel_rfl)
  (case tabM => first | k_is | k_exc | decide | kernel_rfl)
